import PyProof.Rows.All
import Wide.All
import OpenK.AllK
import Wide.FinOn
import HandS.Base
import HandS.Call
import HandS.List
import HandS.More
import HandS.Words
import HandS.WordsList
import HandS.Wide
import HandS.Exc
import HandS.ExcOwn
import HandS.WordsExc
import HandS.Dict
import PyProof.AutoSeq1
import HandS.IsInst
import HandS.TupLe
import HandS.Codes
import HandS.SetFor
import HandS.Flow
import HandS.Iter
import HandS.Zip
import HandS.Comp
import KE.KDictZip
import KE.DataMinMax
import HandS.ExcIs
import HandS.Text
import HandS.TryOnly
import HandS.Defaults
import HandS.Strs
import HandS.WordsDict
import HandS.Small
import KE.KDictDisplayH
import HandS.GenList
import HandS.IntHex
import HandS.StrMore
import HandS.FStr
import PyProof.StrOps2
import PyProof.FString3
import PyProof.Rows.StrIntSpec
import PyProof.ReprRoads
import HandS.EndBits
import PySem.Challenge.RW_forkstamp_k12_rows_refused
set_option Elab.async false
set_option linter.all false
set_option maxRecDepth 100000
set_option maxHeartbeats 4000000
/-! The data layer: what an expression or a statement does, told over plain data instead of the heap. -/
namespace DL
open PySem PySem.Spec L2
theorem small5 {n : Nat} (h : n ≤ 4000000) : n < sizeLine := Nat.lt_of_le_of_lt h (by decide)
theorem big5 {n : Nat} (h : n ≤ 4000000) : n ≤ sizeLine := Nat.le_of_lt (small5 h)

/-- plain data -/
inductive D where
  | non | bl (b : Bool) | int (i : Int) | str (s : Str) | ty (n : String)
  | tup (xs : List D) | lst (xs : List D) | dct
  | ob (C : Addr) (ns : List Str) (xs : List D)
  | exc (C : Addr) | cls (C : Addr)
/-- an exception object of the own class at C, caught -/
def XcO (C a : Addr) : HO := .ext fun h => ∃ (oe : Obj) (vs : Array Value), h.get? a = some oe ∧ Zc (.ref C) none oe ∧ oe.data = .fields vs

/-- a list of xs at a that nobody here changes: it is none of L, or stands in the written part -/
def LsR (K : PySem.W.Frag) (H : Hp) (L : List Addr) (a : Addr) (xs : List V) : Prop := (a ∉ L ∧ Rd H a (.lst xs)) ∨
  ∃ (o : Obj) (its : Array Value) (n : Nat), K.lookup a = some o ∧ o.cls = .type "list" ∧ o.dict = none ∧ o.data = .seq its n ∧ its.size ≤ sizeLine ∧ Vals xs its.toList
theorem LsR.sq {K : PySem.W.Frag} {H : Hp} {L : List Addr} {a : Addr} {xs : List V} (h : LsR K H L a xs) : SqL K H a xs := by
  rcases h with ⟨_, h⟩ | h
  · exact .inl h
  · exact .inr h
section
variable (K : PySem.W.Frag) (H : Hp) (L : List Addr)
mutual
/-- the value v stands for d; no list of it is one of L -/
def Rp : D → V → Prop
  | .non, v => v = V.non
  | .bl b, v => v = V.bl b
  | .int i, v => v = V.int i
  | .str s, v => v = V.str s
  | .ty n, v => v = V.ty n
  | .tup ds, v => ∃ a xs, v = V.ref a ∧ SqT K H a xs ∧ RpAll ds xs
  | .lst ds, v => ∃ a xs, v = V.ref a ∧ LsR K H L a xs ∧ RpAll ds xs
  | .dct, v => ∃ a, v = V.ref a ∧ H a = some (.dK []) ∧ a ∉ L
  | .ob C ns ds, v => ∃ a dx fs, v = V.ref a ∧ H a = some (.ins C dx fs) ∧ fs.map (·.1) = ns ∧ RpAll ds (fs.map (·.2)) ∧ a ∉ L
  | .exc C, v => ∃ a, v = V.ref a ∧ H a = some (XcO C a)
  | .cls C, v => v = V.ref C
def RpAll : List D → List V → Prop
  | [], xs => xs = []
  | d :: ds, xs => ∃ x r, xs = x :: r ∧ Rp d x ∧ RpAll ds r
end
end

theorem Rd.same {H H' : Hp} {a : Addr} {o : HO} (h : Rd H a o) (e : Same H H') : Rd H' a o := by
  rcases h with h | ⟨o', h⟩
  · exact .inl (e _ _ h)
  · exact .inr ⟨o', e _ _ h⟩
theorem SqT.same {K : PySem.W.Frag} {H H' : Hp} {a : Addr} {xs : List V} (h : SqT K H a xs) (e : Same H H') : SqT K H' a xs := by
  rcases h with (h | ⟨o, h⟩) | h
  · exact .inl (.inl (e _ _ h))
  · exact .inl (.inr ⟨o, e _ _ h⟩)
  · exact .inr h
theorem Rd.ne {H : Hp} {a : Addr} {o : HO} (h : Rd H a o) : H a ≠ none := by
  rcases h with h | ⟨o', h⟩ <;> rw [h] <;> simp

theorem LsR.same {K : PySem.W.Frag} {H H' : Hp} {L L' : List Addr} {a : Addr} {xs : List V} (h : LsR K H L a xs) (e : Same H H') (hL : ∀ a, H a ≠ none → a ∈ L' → a ∈ L) : LsR K H' L' a xs := by
  rcases h with ⟨n, h⟩ | h
  · exact .inl ⟨fun z => n (hL a (Rd.ne h) z), Rd.same h e⟩
  · exact .inr h
mutual
theorem Rp.same {K : PySem.W.Frag} {H H' : Hp} {L L' : List Addr} (e : Same H H') (hL : ∀ a, H a ≠ none → a ∈ L' → a ∈ L) : ∀ (d : D) (v : V), Rp K H L d v → Rp K H' L' d v
  | .non, _, h => h
  | .bl _, _, h => h
  | .int _, _, h => h
  | .str _, _, h => h
  | .ty _, _, h => h
  | .tup ds, _, ⟨a, xs, h1, h2, h3⟩ => ⟨a, xs, h1, SqT.same h2 e, RpAll.same e hL ds xs h3⟩
  | .lst ds, _, ⟨a, xs, h1, h2, h4⟩ => ⟨a, xs, h1, LsR.same h2 e hL, RpAll.same e hL ds xs h4⟩
  | .dct, _, ⟨a, h1, h2, h3⟩ => ⟨a, h1, e _ _ h2, fun z => h3 (hL a (by rw [h2]; simp) z)⟩
  | .ob C ns ds, _, ⟨a, dx, fs, h1, h2, h3, h4, h5⟩ => ⟨a, dx, fs, h1, e _ _ h2, h3, RpAll.same e hL ds _ h4, fun z => h5 (hL a (by rw [h2]; simp) z)⟩
  | .exc C, _, ⟨a, h1, h2⟩ => ⟨a, h1, e _ _ h2⟩
  | .cls C, _, h => h
theorem RpAll.same {K : PySem.W.Frag} {H H' : Hp} {L L' : List Addr} (e : Same H H') (hL : ∀ a, H a ≠ none → a ∈ L' → a ∈ L) : ∀ (ds : List D) (vs : List V), RpAll K H L ds vs → RpAll K H' L' ds vs
  | [], _, h => h
  | d :: ds, _, ⟨x, r, h1, h2, h3⟩ => ⟨x, r, h1, Rp.same e hL d x h2, RpAll.same e hL ds r h3⟩
end
/-- what may be changed -/
def mutB : HO → Bool
  | .lst _ => true
  | .ins _ _ _ => true
  | .dK _ => true
  | .dT _ => true
  | _ => false
theorem ne_mut {H : Hp} {a l : Addr} {u o : HO} (h : H a = some u) (ho : H l = some o) (m : mutB o = true) (n : mutB u = false) : a ≠ l := by
  rintro rfl
  rw [h] at ho
  cases ho
  rw [m] at n
  cases n
mutual
theorem Rp.updM {K : PySem.W.Frag} {H : Hp} {L : List Addr} {l : Addr} {o u : HO} (hl : l ∈ L) (ho : H l = some o) (m : mutB o = true) : ∀ (d : D) (v : V), Rp K H L d v → Rp K (upd H l u) L d v
  | .non, _, h => h
  | .bl _, _, h => h
  | .int _, _, h => h
  | .str _, _, h => h
  | .ty _, _, h => h
  | .tup ds, _, ⟨a, xs, h1, h2, h3⟩ => by
    refine ⟨a, xs, h1, ?_, RpAll.updM hl ho m ds xs h3⟩
    rcases h2 with (h | ⟨o', h⟩) | h
    · exact .inl (.inl (by rw [upd_ne (ne_mut h ho m rfl)]; exact h))
    · exact .inl (.inr ⟨o', by rw [upd_ne (ne_mut h ho m rfl)]; exact h⟩)
    · exact .inr h
  | .lst ds, _, ⟨a, xs, h1, h2, h4⟩ => by
    refine ⟨a, xs, h1, ?_, RpAll.updM hl ho m ds xs h4⟩
    rcases h2 with ⟨h2, h3⟩ | h2
    · have ne : a ≠ l := fun z => h2 (z ▸ hl)
      rcases h3 with h | ⟨o', h⟩
      · exact .inl ⟨h2, .inl (by rw [upd_ne ne]; exact h)⟩
      · exact .inl ⟨h2, .inr ⟨o', by rw [upd_ne ne]; exact h⟩⟩
    · exact .inr h2
  | .dct, _, ⟨a, h1, h2, h3⟩ => ⟨a, h1, by rw [upd_ne (fun (z : a = l) => h3 (z ▸ hl))]; exact h2, h3⟩
  | .ob C ns ds, _, ⟨a, dx, fs, h1, h2, h3, h4, h5⟩ => ⟨a, dx, fs, h1, by rw [upd_ne (fun (z : a = l) => h5 (z ▸ hl))]; exact h2, h3, RpAll.updM hl ho m ds _ h4, h5⟩
  | .exc C, _, ⟨a, h1, h2⟩ => ⟨a, h1, by rw [upd_ne (ne_mut h2 ho m rfl)]; exact h2⟩
  | .cls C, _, h => h
theorem RpAll.updM {K : PySem.W.Frag} {H : Hp} {L : List Addr} {l : Addr} {o u : HO} (hl : l ∈ L) (ho : H l = some o) (m : mutB o = true) : ∀ (ds : List D) (vs : List V), RpAll K H L ds vs → RpAll K (upd H l u) L ds vs
  | [], _, h => h
  | d :: ds, _, ⟨x, r, h1, h2, h3⟩ => ⟨x, r, h1, Rp.updM hl ho m d x h2, RpAll.updM hl ho m ds r h3⟩
end
theorem Rp.upd {K : PySem.W.Frag} {H : Hp} {L : List Addr} {l : Addr} {o : List V} {u : HO} (hl : l ∈ L) (ho : H l = some (.lst o)) (d : D) (v : V) (h : Rp K H L d v) : Rp K (upd H l u) L d v := Rp.updM hl ho rfl d v h
theorem RpAll.upd {K : PySem.W.Frag} {H : Hp} {L : List Addr} {l : Addr} {o : List V} {u : HO} (hl : l ∈ L) (ho : H l = some (.lst o)) (ds : List D) (vs : List V) (h : RpAll K H L ds vs) : RpAll K (upd H l u) L ds vs := RpAll.updM hl ho rfl ds vs h
/-- all stands as it stood, but for what may be changed at G -/
def SameX (G : List Addr) (H H' : Hp) : Prop := ∀ a u, H a = some u → (a ∉ G → H' a = some u) ∧ H' a ≠ none
theorem SameX.of {H H' : Hp} (G : List Addr) (e : Same H H') : SameX G H H' := fun a u h => ⟨fun _ => e a u h, by rw [e a u h]; simp⟩
theorem SameX.nil {H H' : Hp} (e : SameX [] H H') : Same H H' := fun a u h => (e a u h).1 (by simp)
theorem SameX.trans {G : List Addr} {H H' H'' : Hp} (e : SameX G H H') (e' : SameX G H' H'') : SameX G H H'' := fun a u h => by
  obtain ⟨h1, h2⟩ := e a u h
  refine ⟨fun n => (e' a u (h1 n)).1 n, ?_⟩
  cases q : H' a with
  | none => exact absurd q h2
  | some x => exact (e' a x q).2
theorem SameX.mono {G G' : List Addr} {H H' : Hp} (e : SameX G H H') (h : ∀ a, H a ≠ none → a ∈ G → a ∈ G') : SameX G' H H' := fun a u q => ⟨fun n => (e a u q).1 fun z => n (h a (by rw [q]; simp) z), (e a u q).2⟩
/-- what of the places that may be changed stands there -/
def MutAt (G : List Addr) (H : Hp) : Prop := ∀ a ∈ G, ∃ o, H a = some o ∧ mutB o = true
theorem SameX.fix {G : List Addr} {H H' : Hp} (e : SameX G H H') (m : MutAt G H) {a : Addr} {u : HO} (h : H a = some u) (n : mutB u = false) : H' a = some u := (e a u h).1 fun z => by
  obtain ⟨o, ho, hm⟩ := m a z
  rw [h] at ho
  cases ho
  rw [n] at hm
  cases hm
mutual
theorem Rp.sameX {K : PySem.W.Frag} {H H' : Hp} {L L' G : List Addr} (e : SameX G H H') (m : MutAt G H) (hG : ∀ a ∈ G, a ∈ L) (hL : ∀ a, H a ≠ none → a ∈ L' → a ∈ L) : ∀ (d : D) (v : V), Rp K H L d v → Rp K H' L' d v
  | .non, _, h => h
  | .bl _, _, h => h
  | .int _, _, h => h
  | .str _, _, h => h
  | .ty _, _, h => h
  | .tup ds, _, ⟨a, xs, h1, h2, h3⟩ => by
    refine ⟨a, xs, h1, ?_, RpAll.sameX e m hG hL ds xs h3⟩
    rcases h2 with (h | ⟨o', h⟩) | h
    · exact .inl (.inl (e.fix m h rfl))
    · exact .inl (.inr ⟨o', e.fix m h rfl⟩)
    · exact .inr h
  | .lst ds, _, ⟨a, xs, h1, h2, h4⟩ => by
    refine ⟨a, xs, h1, ?_, RpAll.sameX e m hG hL ds xs h4⟩
    rcases h2 with ⟨h2, h3⟩ | h2
    · have nG : a ∉ G := fun z => h2 (hG a z)
      have nL : a ∉ L' := fun z => h2 (hL a (by rcases h3 with h | ⟨o', h⟩ <;> rw [h] <;> simp) z)
      rcases h3 with h | ⟨o', h⟩
      · exact .inl ⟨nL, .inl ((e _ _ h).1 nG)⟩
      · exact .inl ⟨nL, .inr ⟨o', (e _ _ h).1 nG⟩⟩
    · exact .inr h2
  | .dct, _, ⟨a, h1, h2, h3⟩ => ⟨a, h1, (e _ _ h2).1 fun z => h3 (hG a z), fun z => h3 (hL a (by rw [h2]; simp) z)⟩
  | .ob C ns ds, _, ⟨a, dx, fs, h1, h2, h3, h4, h5⟩ => ⟨a, dx, fs, h1, (e _ _ h2).1 fun z => h5 (hG a z), h3, RpAll.sameX e m hG hL ds _ h4, fun z => h5 (hL a (by rw [h2]; simp) z)⟩
  | .exc C, _, ⟨a, h1, h2⟩ => ⟨a, h1, e.fix m h2 rfl⟩
  | .cls C, _, h => h
theorem RpAll.sameX {K : PySem.W.Frag} {H H' : Hp} {L L' G : List Addr} (e : SameX G H H') (m : MutAt G H) (hG : ∀ a ∈ G, a ∈ L) (hL : ∀ a, H a ≠ none → a ∈ L' → a ∈ L) : ∀ (ds : List D) (vs : List V), RpAll K H L ds vs → RpAll K H' L' ds vs
  | [], _, h => h
  | d :: ds, _, ⟨x, r, h1, h2, h3⟩ => ⟨x, r, h1, Rp.sameX e m hG hL d x h2, RpAll.sameX e m hG hL ds r h3⟩
end
theorem same_new {H : Hp} {p : Addr} (h : H p = none) (o : HO) : Same H (upd H p o) := fun b u q => by rw [upd_ne (ne_of_none q h)]; exact q
theorem RpAll.length {K : PySem.W.Frag} {H : Hp} {L : List Addr} : ∀ {ds : List D} {vs : List V}, RpAll K H L ds vs → vs.length = ds.length
  | [], _, h => by cases h; rfl
  | d :: ds, _, ⟨x, r, h1, h2, h3⟩ => by subst h1; simp [RpAll.length h3]
theorem RpAll.append {K : PySem.W.Frag} {H : Hp} {L : List Addr} : ∀ {ds es : List D} {vs ws : List V}, RpAll K H L ds vs → RpAll K H L es ws → RpAll K H L (ds ++ es) (vs ++ ws)
  | [], _, _, _, h, h' => by cases h; exact h'
  | d :: ds, _, _, _, ⟨x, r, h1, h2, h3⟩, h' => by subst h1; exact ⟨x, _, rfl, h2, RpAll.append h3 h'⟩
theorem RpAll.of_append {K : PySem.W.Frag} {H : Hp} {L : List Addr} : ∀ {ds es : List D} {vs : List V}, RpAll K H L (ds ++ es) vs → ∃ as bs, vs = as ++ bs ∧ RpAll K H L ds as ∧ RpAll K H L es bs
  | [], _, vs, h => ⟨[], vs, rfl, rfl, h⟩
  | d :: ds, _, _, ⟨x, r, h1, h2, h3⟩ => by
    obtain ⟨as, bs, e, p, q⟩ := RpAll.of_append h3
    exact ⟨x :: as, bs, by rw [h1, e]; rfl, ⟨x, as, rfl, h2, p⟩, q⟩
theorem RpAll.get {K : PySem.W.Frag} {H : Hp} {L : List Addr} : ∀ {ds : List D} {vs : List V} {i : Nat} {d : D}, RpAll K H L ds vs → ds[i]? = some d → ∃ v, vs[i]? = some v ∧ Rp K H L d v
  | [], _, _, _, h, e => by simp at e
  | d :: ds, _, 0, _, ⟨x, r, h1, h2, h3⟩, e => by subst h1; simp at e; subst e; exact ⟨x, rfl, h2⟩
  | d :: ds, _, i + 1, _, ⟨x, r, h1, h2, h3⟩, e => by subst h1; simpa using RpAll.get (i := i) h3 (by simpa using e)
theorem RpAll.take {K : PySem.W.Frag} {H : Hp} {L : List Addr} : ∀ {ds : List D} {vs : List V} (n : Nat), RpAll K H L ds vs → RpAll K H L (ds.take n) (vs.take n)
  | [], _, _, h => by cases h; simp [RpAll]
  | d :: ds, _, 0, h => by simp [RpAll]
  | d :: ds, _, n + 1, ⟨x, r, h1, h2, h3⟩ => by subst h1; exact ⟨x, _, rfl, h2, RpAll.take n h3⟩
theorem RpAll.drop {K : PySem.W.Frag} {H : Hp} {L : List Addr} : ∀ {ds : List D} {vs : List V} (n : Nat), RpAll K H L ds vs → RpAll K H L (ds.drop n) (vs.drop n)
  | [], _, _, h => by cases h; simp [RpAll]
  | d :: ds, _, 0, h => h
  | d :: ds, _, n + 1, ⟨x, r, h1, h2, h3⟩ => by subst h1; exact RpAll.drop n h3

/-! ### the names of a frame -/
/-- what is known of a name: nothing, a datum, or a list that is this frame's own -/
inductive Sl where
  | un | dat (d : D) | own (ds : List D)
/-- what stands at a place that may be changed -/
inductive Mu where
  | ob (C : Addr) (fs : List (Str × D)) | dk (kvs : List (Key × D)) | dt (kvs : List (List Key × D))
def RpMu (K : PySem.W.Frag) (H : Hp) (L : List Addr) (a : Addr) : Mu → Prop
  | .ob C fs => ∃ dx vs, H a = some (.ins C dx vs) ∧ vs.map (·.1) = fs.map (·.1) ∧ RpAll K H L (fs.map (·.2)) (vs.map (·.2))
  | .dk kvs => ∃ vs, H a = some (.dK vs) ∧ vs.map (·.1) = kvs.map (·.1) ∧ RpAll K H L (kvs.map (·.2)) (vs.map (·.2))
  | .dt kvs => ∃ vs, H a = some (.dT vs) ∧ vs.map (·.1) = kvs.map (·.1) ∧ RpAll K H L (kvs.map (·.2)) (vs.map (·.2))
/-- a place that may be changed: where, whether it may be changed here, what stands there -/
structure En where
  a : Addr
  w : Bool
  m : Mu
abbrev Store := List En
/-- something else stands at the j-th place -/
def gset (g : Store) (j : Nat) (m : Mu) : Store := match g[j]? with
  | some e => g.set j ⟨e.a, e.w, m⟩
  | none => g
/-- the names, and what may be changed -/
structure Rho where
  sl : List Sl
  mu : Store
instance : Inhabited Sl := ⟨.un⟩
instance : GetElem? Rho Nat Sl (fun ρ i => i < ρ.sl.length) where
  getElem ρ i h := ρ.sl[i]
  getElem? ρ i := ρ.sl[i]?
  getElem! ρ i := ρ.sl[i]!
namespace Rho
def set (ρ : Rho) (i : Nat) (x : Sl) : Rho := ⟨ρ.sl.set i x, ρ.mu⟩
def length (ρ : Rho) : Nat := ρ.sl.length
def setMu (ρ : Rho) (j : Nat) (m : Mu) : Rho := ⟨ρ.sl, gset ρ.mu j m⟩
@[simp] theorem setMu_mk (l : List Sl) (g : Store) (j : Nat) (m : Mu) : (Rho.mk l g).setMu j m = ⟨l, gset g j m⟩ := rfl
@[simp] theorem get_mk (l : List Sl) (g : Store) (i : Nat) : (Rho.mk l g)[i]? = l[i]? := rfl
@[simp] theorem set_mk (l : List Sl) (g : Store) (i : Nat) (x : Sl) : (Rho.mk l g).set i x = ⟨l.set i x, g⟩ := rfl
@[simp] theorem length_mk (l : List Sl) (g : Store) : (Rho.mk l g).length = l.length := rfl
theorem get_sl (ρ : Rho) (i : Nat) : ρ[i]? = ρ.sl[i]? := rfl
@[simp] theorem length_set (ρ : Rho) (i : Nat) (x : Sl) : (ρ.set i x).length = ρ.length := List.length_set
end Rho
def SlR (K : PySem.W.Frag) (H : Hp) (L M : List Addr) (v : Option V) : Sl → Prop
  | .un => True
  | .dat d => ∃ x, v = some x ∧ Rp K H L d x
  | .own ds => ∃ a xs, v = some (V.ref a) ∧ a ∈ M ∧ H a = some (.lst xs) ∧ RpAll K H L ds xs

/-- H0: the heap at the frame's entry; L0: what of the caller's may be changed, by whomever; G: what of that may be changed here; P: data that stay besides -/
structure Fm where
  H0 : Hp
  L0 : List Addr
  P : List (D × V)
  G : List Addr := []
  A : List Addr := []
/-- M: what this frame has made that may be changed -/
structure StR (K : PySem.W.Frag) (F : Fm) (M : List Addr) (H : Hp) (σ : St) (ρ : Rho) : Prop where
  ext : SameX F.G F.H0 H
  al : ∀ a ∈ F.L0, F.H0 a ≠ none
  fr : ∀ a ∈ M, F.H0 a = none ∧ H a ≠ none
  sl : ∀ (i : Nat) (x : Sl), ρ.sl[i]? = some x → ∃ v, σ[i]? = some v ∧ SlR K H (M ++ F.L0) M v x
  uq : ∀ (i j : Nat) (ds es : List D) (a : Addr), ρ.sl[i]? = some (.own ds) → ρ.sl[j]? = some (.own es) → σ[i]? = some (some (V.ref a)) → σ[j]? = some (some (V.ref a)) → i = j
  pn : ∀ p ∈ F.P, Rp K H (M ++ F.L0) p.1 p.2
  gl : ∀ a ∈ F.G, a ∈ F.L0
  mu : ∀ e ∈ ρ.mu, e.a ∈ M ++ F.L0 ∧ (e.w = true → e.a ∈ M ∨ e.a ∈ F.G) ∧ RpMu K H (M ++ F.L0) e.a e.m
  nd : (ρ.mu.map (·.a)).Nodup
  ma : ∀ e ∈ ρ.mu, e.a ∈ M ∨ e.a ∈ F.A
variable {K : PySem.W.Frag} {F : Fm} {H H' : Hp} {M : List Addr} {σ : St} {ρ : Rho}
theorem StR.all (h : StR K F M H σ ρ) : ∀ a ∈ M ++ F.L0, H a ≠ none := fun a ha => by
  rcases List.mem_append.mp ha with z | z
  · exact (h.fr a z).2
  · have := h.al a z
    cases q : F.H0 a with
    | none => exact absurd q this
    | some o => exact (h.ext _ _ q).2
theorem same_ne {a : Addr} (e : Same H H') (h : H a ≠ none) : H' a ≠ none := by
  intro z
  cases q : H a with
  | none => exact h q
  | some o => rw [e _ _ q] at z; cases z
theorem SlR.same {L : List Addr} {v : Option V} {x : Sl} (e : Same H H') (h : SlR K H L M v x) : SlR K H' L M v x := by
  cases x with
  | un => trivial
  | dat d => obtain ⟨x, h1, h2⟩ := h; exact ⟨x, h1, Rp.same e (fun _ _ z => z) _ _ h2⟩
  | own ds => obtain ⟨a, xs, h1, h2, h3, h4⟩ := h; exact ⟨a, xs, h1, h2, e _ _ h3, RpAll.same e (fun _ _ z => z) _ _ h4⟩
theorem RpMu.same {L L' : List Addr} {a : Addr} {m : Mu} (e : Same H H') (hL : ∀ a, H a ≠ none → a ∈ L' → a ∈ L) (h : RpMu K H L a m) : RpMu K H' L' a m := by
  cases m with
  | ob C fs => obtain ⟨dx, vs, h1, h2, h3⟩ := h; exact ⟨dx, vs, e _ _ h1, h2, RpAll.same e hL _ _ h3⟩
  | dk kvs => obtain ⟨vs, h1, h2, h3⟩ := h; exact ⟨vs, e _ _ h1, h2, RpAll.same e hL _ _ h3⟩
  | dt kvs => obtain ⟨vs, h1, h2, h3⟩ := h; exact ⟨vs, e _ _ h1, h2, RpAll.same e hL _ _ h3⟩
theorem RpMu.mut {L : List Addr} {a : Addr} {m : Mu} (h : RpMu K H L a m) : ∃ o, H a = some o ∧ mutB o = true ∧ ∀ xs, o ≠ .lst xs := by
  cases m with
  | ob C fs => obtain ⟨dx, vs, h1, _⟩ := h; exact ⟨_, h1, rfl, fun _ z => nomatch z⟩
  | dk kvs => obtain ⟨vs, h1, _⟩ := h; exact ⟨_, h1, rfl, fun _ z => nomatch z⟩
  | dt kvs => obtain ⟨vs, h1, _⟩ := h; exact ⟨_, h1, rfl, fun _ z => nomatch z⟩
/-- another place is changed -/
theorem RpMu.updM {L : List Addr} {a l : Addr} {o u : HO} {m : Mu} (hl : l ∈ L) (ho : H l = some o) (hm : mutB o = true) (ne : a ≠ l) (h : RpMu K H L a m) : RpMu K (upd H l u) L a m := by
  cases m with
  | ob C fs => obtain ⟨dx, vs, h1, h2, h3⟩ := h; exact ⟨dx, vs, by rw [upd_ne ne]; exact h1, h2, RpAll.updM hl ho hm _ _ h3⟩
  | dk kvs => obtain ⟨vs, h1, h2, h3⟩ := h; exact ⟨vs, by rw [upd_ne ne]; exact h1, h2, RpAll.updM hl ho hm _ _ h3⟩
  | dt kvs => obtain ⟨vs, h1, h2, h3⟩ := h; exact ⟨vs, by rw [upd_ne ne]; exact h1, h2, RpAll.updM hl ho hm _ _ h3⟩
theorem RpMu.neL {L : List Addr} {a l : Addr} {xs : List V} {m : Mu} (h : RpMu K H L a m) (hl : H l = some (.lst xs)) : a ≠ l := by
  rintro rfl
  obtain ⟨o, ho, _, n⟩ := h.mut
  rw [hl] at ho
  cases ho
  exact n _ rfl
theorem StR.same (h : StR K F M H σ ρ) (e : Same H H') : StR K F M H' σ ρ :=
  ⟨h.ext.trans (.of _ e), h.al, fun a ha => ⟨(h.fr a ha).1, same_ne e (h.fr a ha).2⟩, fun i x q => let ⟨v, h1, h2⟩ := h.sl i x q; ⟨v, h1, h2.same e⟩, h.uq, fun p hp => Rp.same e (fun _ _ z => z) _ _ (h.pn p hp), h.gl,
    fun p hp => ⟨(h.mu p hp).1, (h.mu p hp).2.1, (h.mu p hp).2.2.same e fun _ _ z => z⟩, h.nd, h.ma⟩
theorem StR.set (h : StR K F M H σ ρ) (i : Nat) {d : D} {v : V} (hi : i < ρ.length) (r : Rp K H (M ++ F.L0) d v) : StR K F M H (σ.set i (some v)) (ρ.set i (.dat d)) := by
  have hi : i < ρ.sl.length := hi
  refine ⟨h.ext, h.al, h.fr, fun j x q => ?_, fun j k ds es a p1 p2 p3 p4 => ?_, h.pn, h.gl, h.mu, h.nd, h.ma⟩
  · replace q : (ρ.sl.set i (.dat d))[j]? = some x := q
    by_cases e : i = j
    · subst e
      rw [List.getElem?_set_self hi] at q
      cases q
      obtain ⟨v0, h1, _⟩ := h.sl i _ (List.getElem?_eq_getElem hi)
      have hs : i < σ.length := (List.getElem?_eq_some_iff.mp h1).1
      exact ⟨some v, by rw [List.getElem?_set_self hs], v, rfl, r⟩
    · rw [List.getElem?_set_ne e] at q
      rw [List.getElem?_set_ne e]
      exact h.sl j x q
  · replace p1 : (ρ.sl.set i (.dat d))[j]? = some (.own ds) := p1
    replace p2 : (ρ.sl.set i (.dat d))[k]? = some (.own es) := p2
    have nj : i ≠ j := by
      rintro rfl; rw [List.getElem?_set_self hi] at p1; cases p1
    have nk : i ≠ k := by
      rintro rfl; rw [List.getElem?_set_self hi] at p2; cases p2
    rw [List.getElem?_set_ne nj] at p1 p3
    rw [List.getElem?_set_ne nk] at p2 p4
    exact h.uq j k ds es a p1 p2 p3 p4

/-! ### expressions -/
abbrev TE1 := Rho → (D → Prop) → Prop
abbrev TA1 := Rho → (List D → Prop) → Prop
abbrev TT1 := Rho → (Bool → Prop) → Prop
/-- what is wanted of an exception of an own class, told over data -/
abbrev E1T := Addr → Rho → Prop
def Xok (K : PySem.W.Frag) (F : Fm) (W : WX) (E1 : E1T) : Prop := ∀ (C : Addr) (M : List Addr) (H : Hp) (σ : St) (ρ : Rho), StR K F M H σ ρ → E1 C ρ → W (.ref C) none σ H
def ImpE (K : PySem.W.Frag) (W : WX) (E1 : E1T) (te : TE) (t : TE1) : Prop := ∀ (F : Fm) (M : List Addr) (H : Hp) (σ : St) (ρ : Rho) (Q1 : D → Prop) (Q : VK), StR K F M H σ ρ → Xok K F W E1 → t ρ Q1 →
  (∀ v H' d, Same H H' → Rp K H' (M ++ F.L0) d v → Q1 d → Q v H') → te σ H Q
def ImpA (K : PySem.W.Frag) (W : WX) (E1 : E1T) (te : TA) (t : TA1) : Prop := ∀ (F : Fm) (M : List Addr) (H : Hp) (σ : St) (ρ : Rho) (Q1 : List D → Prop) (Q : List V → Hp → Prop), StR K F M H σ ρ → Xok K F W E1 → t ρ Q1 →
  (∀ v H' d, Same H H' → RpAll K H' (M ++ F.L0) d v → Q1 d → Q v H') → te σ H Q
def ImpT (K : PySem.W.Frag) (W : WX) (E1 : E1T) (te : TT) (t : TT1) : Prop := ∀ (F : Fm) (M : List Addr) (H : Hp) (σ : St) (ρ : Rho) (Q1 : Bool → Prop) (Q : Bool → Hp → Prop), StR K F M H σ ρ → Xok K F W E1 → t ρ Q1 →
  (∀ b H', Same H H' → Q1 b → Q b H') → te σ H Q
def QE (X : Cx) (W : WX) (E1 : E1T) (e : Expr) (t : TE1) : Prop := ∃ te, PE X e te ∧ ImpE X.K W E1 te t
def QA (X : Cx) (W : WX) (E1 : E1T) (es : List Expr) (t : TA1) : Prop := ∃ te, PA X es te ∧ ImpA X.K W E1 te t
def QT (X : Cx) (W : WX) (E1 : E1T) (e : Expr) (t : TT1) : Prop := ∃ te, PT X e te ∧ ImpT X.K W E1 te t
def QW (X : Cx) (W : WX) (E1 : E1T) (e : Expr) (t : TT1) : Prop := ∃ te, PW X e te ∧ ImpT X.K W E1 te t

/-- a two-place operation: what it makes of data -/
abbrev F2 := D → D → (D → Prop) → Prop
def OpI (K : PySem.W.Frag) (r : R2) (f : F2) : Prop := ∀ (H : Hp) (L : List Addr) (d1 d2 : D) (v1 v2 : V) (Q1 : D → Prop) (Q : VK), (∀ a ∈ L, H a ≠ none) → Rp K H L d1 v1 → Rp K H L d2 v2 → f d1 d2 Q1 →
  (∀ v H' d, Same H H' → Rp K H' L d v → Q1 d → Q v H') → r v1 v2 H Q
def CallI (K : PySem.W.Frag) (r : List V → Hp → VK → Prop) (f : List D → (D → Prop) → Prop) : Prop := ∀ (H : Hp) (L : List Addr) (ds : List D) (vs : List V) (Q1 : D → Prop) (Q : VK), (∀ a ∈ L, H a ≠ none) → RpAll K H L ds vs → f ds Q1 →
  (∀ v H' d, Same H H' → Rp K H' L d v → Q1 d → Q v H') → r vs H Q

section
variable {X : Cx} {W : WX} {E1 : E1T} {a b c : Expr} {es : List Expr} {pos : Pos}
/- the pure readings -/
@[simp] abbrev uVar (i : Nat) : TE1 := fun ρ Q => ∃ d, ρ[i]? = some (.dat d) ∧ Q d
@[simp] abbrev uC (d : D) : TE1 := fun _ Q => Q d
@[simp] abbrev uNil : TA1 := fun _ Q => Q []
@[simp] abbrev uCons (t : TE1) (u : TA1) : TA1 := fun ρ Q => t ρ fun d => u ρ fun ds => Q (d :: ds)
@[simp] abbrev uTup (t : TA1) : TE1 := fun ρ Q => t ρ fun ds => ds.length ≤ 1000 ∧ Q (.tup ds)
@[simp] abbrev uLst (t : TA1) : TE1 := fun ρ Q => t ρ fun ds => ds.length ≤ 1000 ∧ Q (.lst ds)
@[simp] abbrev uOp (f : F2) (t u : TE1) : TE1 := fun ρ Q => t ρ fun d => u ρ fun e => f d e Q
@[simp] abbrev uCall (f : List D → (D → Prop) → Prop) (t : TA1) : TE1 := fun ρ Q => t ρ fun ds => f ds Q

theorem q_var (i : Nat) {x : Str} {pos : Pos} (h : PE X (.Name x pos) (tVar i)) : QE X W E1 (.Name x pos) (uVar i) := by
  refine ⟨_, h, fun F M H σ ρ Q1 Q S hx t q => ?_⟩
  obtain ⟨d, e, z⟩ := t
  obtain ⟨v, h1, x, rfl, r⟩ := S.sl i _ e
  exact ⟨x, h1, q x H d (Same.refl H) r z⟩
theorem q_c {e : Expr} {v : V} {d : D} (h : PE X e (tC v)) (r : ∀ H L, Rp X.K H L d v) : QE X W E1 e (uC d) :=
  ⟨_, h, fun F M H σ ρ Q1 Q S hx t q => q v H d (Same.refl H) (r _ _) t⟩
theorem qa_nil : QA X W E1 [] uNil := ⟨_, pa_nil, fun F M H σ ρ Q1 Q S hx t q => q [] H [] (Same.refl H) rfl t⟩
theorem qa_cons {t : TE1} {u : TA1} (ha : QE X W E1 a t) (hr : QA X W E1 es u) (hs : starEach (a :: es) X.env = (false, eval a X.env) :: starEach es X.env := by rfl) : QA X W E1 (a :: es) (uCons t u) := by
  obtain ⟨te, h1, i1⟩ := ha
  obtain ⟨tr, h2, i2⟩ := hr
  refine ⟨_, pa_cons h1 h2 hs, fun F M H σ ρ Q1 Q S hx t q => ?_⟩
  refine i1 F M H σ ρ _ _ S hx t fun v H1 d e1 r1 t1 => ?_
  refine i2 F M H1 σ ρ _ _ (S.same e1) hx t1 fun vs H2 ds e2 r2 t2 => ?_
  exact q (v :: vs) H2 (d :: ds) (e1.trans e2) ⟨v, vs, rfl, Rp.same e2 (fun _ _ z => z) _ _ r1, r2⟩ t2
theorem q_tup {x1} {t : TA1} (h : QA X W E1 es t) : QE X W E1 (.Tuple es x1 pos) (uTup t) := by
  obtain ⟨te, h1, i1⟩ := h
  refine ⟨_, pe_tup h1, fun F M H σ ρ Q1 Q S hx t q => ?_⟩
  refine i1 F M H σ ρ _ _ S hx t fun vs H1 ds e1 r1 ⟨hl, t1⟩ => ⟨Nat.le_of_lt (small1000 (by rw [r1.length]; exact hl)), fun p hp => ?_⟩
  have e2 := same_new hp (.tup vs)
  exact q _ _ (.tup ds) (e1.trans e2) ⟨p, vs, rfl, SqT.of upd_same, RpAll.same e2 (fun _ _ z => z) _ _ r1⟩ t1
theorem q_lst {t : TA1} (h : QA X W E1 es t) : QE X W E1 (.List es pos) (uLst t) := by
  obtain ⟨te, h1, i1⟩ := h
  refine ⟨_, pe_lst h1, fun F M H σ ρ Q1 Q S hx t q => ?_⟩
  refine i1 F M H σ ρ _ _ S hx t fun vs H1 ds e1 r1 ⟨hl, t1⟩ => ⟨Nat.le_of_lt (small1000 (by rw [r1.length]; exact hl)), fun p hp => ?_⟩
  have e2 := same_new hp (.lst vs)
  exact q _ _ (.lst ds) (e1.trans e2) ⟨p, vs, rfl, .inl ⟨fun z => (S.same e1).all p z hp, .inl upd_same⟩, RpAll.same e2 (fun _ _ z => z) _ _ r1⟩ t1
theorem q_op {op : Operator} {r : R2} {f : F2} {t u : TE1} (ho : OpR X (binaryOp op) r) (hi : OpI X.K r f) (ha : QE X W E1 a t) (hb : QE X W E1 b u) : QE X W E1 (.BinOp a op b pos) (uOp f t u) := by
  obtain ⟨te, h1, i1⟩ := ha
  obtain ⟨tr, h2, i2⟩ := hb
  refine ⟨_, pe_op ho h1 h2, fun F M H σ ρ Q1 Q S hx t q => ?_⟩
  refine i1 F M H σ ρ _ _ S hx t fun v H1 d e1 r1 t1 => ?_
  refine i2 F M H1 σ ρ _ _ (S.same e1) hx t1 fun w H2 d2 e2 r2 t2 => ?_
  exact hi H2 (M ++ F.L0) d d2 v w _ _ ((S.same e1).same e2).all (Rp.same e2 (fun _ _ z => z) _ _ r1) r2 t2 fun x H3 d3 e3 r3 t3 => q x H3 d3 (e1.trans (e2.trans e3)) r3 t3
end
end DL

set_option maxRecDepth 100000
set_option maxHeartbeats 4000000
namespace PySem.AutoSeq1
theorem ext_tup (l : Addr) (us : Array Value) (n : Nat) (b : Addr) (ws : Array Value) (m : Nat) (dd : Option Addr) (sl : Array (Option Value)) (hs0 : ¬(!us.isEmpty && Builtin.List.listTooLong (us.size + ws.size)) = true) (hs1 : us.size ≤ sizeLine) (hs2 : us.size + ws.size ≤ sizeLine + 1) :
    Meets (Builtin.«list.extend» ⟨[.ref l, .ref b], []⟩) (fun _ R s => s.heap.get? l = some { cls := .type "list", dict := none, data := .seq us n, slots := #[] } ∧ s.heap.get? b = some { cls := .type "tuple", dict := dd, data := .seq ws m, slots := sl } ∧
      R (.ok (.ret Value.none)) { s with heap := s.heap.update l (Obj.mapSeq fun x => x ++ ws), toks := s.toks }) :=
  .of_wp fun prog w A R s h => by
    obtain ⟨hp, g, d, tk, os⟩ := s
    obtain ⟨hl, hb, h⟩ := h
    have f1 := idx_int
    have f2 := sub_tuple_tuple
    have f3 := sub_list_list
    have f4 := sub_tuple_list
    have f5 := sub_list_tuple
    have hz : (us ++ ws).size ≤ sizeLine + 1 := by rw [Array.size_append]; exact hs2
    wp_walk using (wpAny_updateSeq hl rfl (hz := hs1) (_hz' := hz)), wpAny_loadPart' hl, wpAny_loadPart' hb
    exact ⟨_, rfl, h⟩
end PySem.AutoSeq1

set_option maxRecDepth 100000
set_option maxHeartbeats 4000000
namespace DL
open PySem PySem.Spec L2

/-! ### operations on data -/
mutual
/-- the datum as the library's equality takes it -/
def D.py : D → PyData
  | .non => .none
  | .bl b => .bool b
  | .int i => .int i
  | .str s => .str s
  | .ty _ => .dict []
  | .tup ds => .tuple (pys ds)
  | .lst ds => .list (pys ds)
  | .dct => .dict []
  | .ob _ _ _ => .dict []
  | .exc _ => .dict []
  | .cls _ => .dict []
def pys : List D → List PyData
  | [] => []
  | d :: ds => d.py :: pys ds
end
mutual
theorem Rp.dp {K : PySem.W.Frag} {H : Hp} {L : List Addr} : ∀ (d : D) (v : V), d.py.canLay0 = true → Rp K H L d v → Dp K H v d.py
  | .non, _, _, h => by cases h; exact .non
  | .bl _, _, _, h => by cases h; exact .bl _
  | .int _, _, _, h => by cases h; exact .int _
  | .str _, _, _, h => by cases h; exact .str _
  | .ty _, _, c, _ => nomatch c
  | .tup ds, _, c, ⟨a, xs, h1, h2, h3⟩ => by
    subst h1
    exact .tup h2 (RpAll.dp ds xs (by simpa [D.py, PyData.canLay0] using c) h3)
  | .lst ds, _, c, ⟨a, xs, h1, h2, h3⟩ => by
    subst h1
    exact .lst h2.sq (RpAll.dp ds xs (by simpa [D.py, PyData.canLay0] using c) h3)
  | .dct, _, c, _ => nomatch c
  | .ob _ _ _, _, c, _ => nomatch c
  | .exc _, _, c, _ => nomatch c
  | .cls _, _, c, _ => nomatch c
theorem RpAll.dp {K : PySem.W.Frag} {H : Hp} {L : List Addr} : ∀ (ds : List D) (vs : List V), PyData.canLayAll0 (pys ds) = true → RpAll K H L ds vs → DpAll K H vs (pys ds)
  | [], _, _, h => by cases h; exact .nil
  | d :: ds, _, c, ⟨x, r, h1, h2, h3⟩ => by
    subst h1
    have c' : d.py.canLay0 = true ∧ PyData.canLayAll0 (pys ds) = true := by simpa [pys, PyData.canLayAll0] using c
    exact .cons (Rp.dp d x c'.1 h2) (RpAll.dp ds r c'.2 h3)
end
/-- comparable: no dict, no object, at most 64 deep -/
def D.Sh (d : D) : Prop := SeqAt.shaped d.py = true
def D.eqv (d e : D) : Bool := PyData.eqv d.py e.py
theorem Rp.dpS {K : PySem.W.Frag} {H : Hp} {L : List Addr} {d : D} {v : V} (s : d.Sh) (h : Rp K H L d v) : Dp K H v d.py := Rp.dp d v (SeqAt.canLay_of_shaped s) h

@[simp] abbrev fEq : F2 := fun d e Q => d.Sh ∧ e.Sh ∧ Q (.bl (d.eqv e))
@[simp] abbrev fNe : F2 := fun d e Q => d.Sh ∧ e.Sh ∧ Q (.bl (!d.eqv e))
theorem i_eq {K : PySem.W.Frag} : OpI K (rEqD K) fEq := fun H L d1 d2 v1 v2 Q1 Q _ r1 r2 ⟨s1, s2, t⟩ q => ⟨_, _, Rp.dpS s1 r1, Rp.dpS s2 r2, s1, s2, q _ H (.bl _) (Same.refl H) rfl t⟩
theorem i_ne {K : PySem.W.Frag} : OpI K (rNeD K) fNe := fun H L d1 d2 v1 v2 Q1 Q _ r1 r2 ⟨s1, s2, t⟩ q => ⟨_, _, Rp.dpS s1 r1, Rp.dpS s2 r2, s1, s2, q _ H (.bl _) (Same.refl H) rfl t⟩

/-- x in a tuple or a list of data -/
def rInX (K : PySem.W.Frag) (neg : Bool) : R2 := fun x y H Q => ∃ d ds, Dp K H x d ∧ (Dp K H y (.list ds) ∨ Dp K H y (.tuple ds)) ∧ SeqAt.shaped d = true ∧ SeqAt.shaped (.list ds) = true ∧ Q (.bl (if neg then !ds.any fun z => PyData.eqv z d else ds.any fun z => PyData.eqv z d)) H
theorem op_inX {X : Cx} (hu : X.A.units + 65 < cLine) : OpR X (compareOp .In) (rInX X.K false) := by
  intro pins s σ H x y v u Q I rx ry h
  obtain ⟨d, ds, hd, he, sd, se, q⟩ := h
  obtain ⟨as, r1⟩ := Dp.reads I d x v hd rx
  have c : PyData.canLayAll0 ds = true := by simpa [PyData.canLay0] using SeqAt.canLay_of_shaped se
  rcases he with he | he
  · obtain ⟨bs, r2⟩ := Dp.reads I (.list ds) y u he ry
    exact SeqAt.in_list_reads r2 r1 c (SeqAt.canLay_of_shaped sd) (PyProof.Rows.room_in_shaped sd hu) ⟨.bl _, H, I, rfl, q⟩
  · obtain ⟨bs, r2⟩ := Dp.reads I (.tuple ds) y u he ry
    exact SeqAt.in_tuple_reads r2 r1 c (SeqAt.canLay_of_shaped sd) (PyProof.Rows.room_in_shaped sd hu) ⟨.bl _, H, I, rfl, q⟩
theorem op_notInX {X : Cx} (hu : X.A.units + 65 < cLine) : OpR X (compareOp .NotIn) (rInX X.K true) := by
  intro pins s σ H x y v u Q I rx ry h
  obtain ⟨d, ds, hd, he, sd, se, q⟩ := h
  obtain ⟨as, r1⟩ := Dp.reads I d x v hd rx
  have c : PyData.canLayAll0 ds = true := by simpa [PyData.canLay0] using SeqAt.canLay_of_shaped se
  rcases he with he | he
  · obtain ⟨bs, r2⟩ := Dp.reads I (.list ds) y u he ry
    exact SeqAt.notIn_list_reads r2 r1 c (SeqAt.canLay_of_shaped sd) (PyProof.Rows.room_in_shaped sd hu) ⟨.bl _, H, I, rfl, q⟩
  · obtain ⟨bs, r2⟩ := Dp.reads I (.tuple ds) y u he ry
    exact SeqAt.notIn_tuple_reads r2 r1 c (SeqAt.canLay_of_shaped sd) (PyProof.Rows.room_in_shaped sd hu) ⟨.bl _, H, I, rfl, q⟩
/-- the items of a list or tuple -/
def D.its : D → Option (List D)
  | .tup ds => some ds
  | .lst ds => some ds
  | _ => none
@[simp] abbrev fIn : F2 := fun d e Q => ∃ ds, e.its = some ds ∧ d.Sh ∧ (D.lst ds).Sh ∧ Q (.bl (ds.any fun z => z.eqv d))
@[simp] abbrev fNotIn : F2 := fun d e Q => ∃ ds, e.its = some ds ∧ d.Sh ∧ (D.lst ds).Sh ∧ Q (.bl (!ds.any fun z => z.eqv d))
theorem any_pys (d : D) : ∀ ds : List D, ((pys ds).any fun z => PyData.eqv z d.py) = ds.any fun z => z.eqv d
  | [] => rfl
  | x :: ds => by simp only [pys, List.any_cons, any_pys d ds]; rfl
theorem its_dp {K : PySem.W.Frag} {H : Hp} {L : List Addr} {e : D} {ds : List D} {v : V} (h : e.its = some ds) (s : (D.lst ds).Sh) (r : Rp K H L e v) : Dp K H v (.list (pys ds)) ∨ Dp K H v (.tuple (pys ds)) := by
  cases e <;> simp only [D.its, Option.some.injEq, reduceCtorEq] at h
  · subst h; exact .inr (Rp.dp (.tup _) v (by simpa [D.py, PyData.canLay0] using SeqAt.canLay_of_shaped s) r)
  · subst h; exact .inl (Rp.dpS s r)
theorem i_in {K : PySem.W.Frag} : OpI K (rInX K false) fIn := fun H L d1 d2 v1 v2 Q1 Q _ r1 r2 ⟨ds, e, s1, s2, t⟩ q =>
  ⟨_, pys ds, Rp.dpS s1 r1, its_dp e s2 r2, s1, s2, q _ H (.bl _) (Same.refl H) rfl (by rw [any_pys] ; exact t)⟩
theorem i_notIn {K : PySem.W.Frag} : OpI K (rInX K true) fNotIn := fun H L d1 d2 v1 v2 Q1 Q _ r1 r2 ⟨ds, e, s1, s2, t⟩ q =>
  ⟨_, pys ds, Rp.dpS s1 r1, its_dp e s2 r2, s1, s2, q _ H (.bl _) (Same.refl H) rfl (by rw [any_pys] ; exact t)⟩

/-- two iL -/
@[simp] abbrev f2 (C : Int → Int → Prop) (g : Int → Int → D) : F2 := fun d e Q => ∃ i j, d = .int i ∧ e = .int j ∧ C i j ∧ Q (g i j)
theorem i_int0 {K : PySem.W.Frag} {g : Int → Int → V} {g' : Int → Int → D} (hg : ∀ H L i j, Rp K H L (g' i j) (g i j)) : OpI K (rI0 g) (f2 (fun _ _ => True) g') := by
  rintro H L d1 d2 v1 v2 Q1 Q _ r1 r2 ⟨i, j, rfl, rfl, _, t⟩ q
  cases r1
  cases r2
  exact ⟨i, j, rfl, rfl, q _ H _ (Same.refl H) (hg H L i j) t⟩
theorem i_int {K : PySem.W.Frag} {C : Int → Int → Prop} {g : Int → Int → V} {g' : Int → Int → D} (hg : ∀ H L i j, Rp K H L (g' i j) (g i j)) : OpI K (rI C g) (f2 C g') := by
  rintro H L d1 d2 v1 v2 Q1 Q _ r1 r2 ⟨i, j, rfl, rfl, c, t⟩ q
  cases r1
  cases r2
  exact ⟨i, j, rfl, rfl, c, q _ H _ (Same.refl H) (hg H L i j) t⟩
theorem OpI.or {K : PySem.W.Frag} {r r' : R2} {f f' : F2} (h : OpI K r f) (h' : OpI K r' f') : OpI K (fun x y H Q => r x y H Q ∨ r' x y H Q) (fun d e Q => f d e Q ∨ f' d e Q) := by
  intro H L d1 d2 v1 v2 Q1 Q hl r1 r2 t q
  rcases t with t | t
  · exact .inl (h H L d1 d2 v1 v2 Q1 Q hl r1 r2 t q)
  · exact .inr (h' H L d1 d2 v1 v2 Q1 Q hl r1 r2 t q)
/-- two lists -/
def rCatR (K : PySem.W.Frag) : R2 := fun x y H Q => ∃ l b xs zs, x = .ref l ∧ y = .ref b ∧ SqL K H l xs ∧ SqL K H b zs ∧ xs.length + zs.length ≤ sizeLine ∧ ∀ p, H p = none → Q (.ref p) (upd H p (.lst (xs ++ zs)))
theorem op_catR {X : Cx} : OpR X (binaryOp .Add) (rCatR X.K) := by
  intro pins s σ H x y v u Q I rx ry h
  obtain ⟨l, b, xs, zs, rfl, rfl, hH, hB, hz, q⟩ := h
  cases rx
  cases ry
  obtain ⟨its, r, ⟨⟨c1, d1, da1, s1⟩, n, e, k1, k2, k3⟩, z⟩ := I.list hH
  obtain ⟨its2, r2, ⟨⟨c2, d2, da2, s2⟩, n2, e2, j1, j2, j3⟩, z2⟩ := I.list hB
  simp only at k1 k2 k3 j1 j2 j3
  subst k1 k2 k3 j1 j2 j3
  have hl := r.length
  have hl2 := r2.length
  refine concat_meets ⟨_, e, rfl⟩ ⟨_, e2, rfl⟩ noFill_list_add seq_list_add PySem.F.slot_list_add PySem.F.entry_list_add (PySem.F.args_list_add_2 _ _)
    (PyProof.Rows.list_addW l b its.toArray its2.toArray n n2 _ _ _ _ (by rw [List.size_toArray, List.size_toArray]; omega)) ⟨e, e2, ?_⟩
  have ea : its.toArray ++ its2.toArray = (its ++ its2).toArray := by simp
  rw [ea]
  exact ⟨.ref _, _, I.lnew (t' := s.toks) (r.append r2) (by rw [List.length_append]; omega), rfl, q _ I.fresh⟩
@[simp] abbrev fCat : F2 := fun d e Q => ∃ xs ys, d = .lst xs ∧ e = .lst ys ∧ xs.length + ys.length ≤ 4000000 ∧ Q (.lst (xs ++ ys))
theorem i_cat {K : PySem.W.Frag} : OpI K (rCatR K) fCat := by
  rintro H L d1 d2 v1 v2 Q1 Q hL r1 r2 ⟨xs, ys, rfl, rfl, c, t⟩ q
  obtain ⟨a, as, rfl, h1, g1⟩ := r1
  obtain ⟨b, bs, rfl, h2, g2⟩ := r2
  refine ⟨a, b, as, bs, rfl, rfl, h1.sq, h2.sq, big5 (by rw [g1.length, g2.length]; exact c), fun p hp => ?_⟩
  have e := same_new hp (.lst (as ++ bs))
  exact q _ _ (.lst (xs ++ ys)) e ⟨p, as ++ bs, rfl, .inl ⟨fun z => hL p z hp, .inl upd_same⟩, RpAll.append (RpAll.same e (fun _ _ z => z) _ _ g1) (RpAll.same e (fun _ _ z => z) _ _ g2)⟩ t
theorem op_mulI {X : Cx} : OpR X (binaryOp .Mult) (rI IntMulOk fun i j => .int (i * j)) := opI fun _ _ _ _ _ _ _ hc q => PyProof.Rows.mul_int q hc

/-- d[i] of a list, a tuple -/
def rIxR (K : PySem.W.Frag) : R2 := fun x y H Q => rIxL K x y H Q ∨ rIxT K x y H Q
@[simp] abbrev fIx : F2 := fun d e Q => ∃ ds i z, d.its = some ds ∧ e = .int i ∧ atI ds i = some z ∧ Q z
theorem atI_rp {K : PySem.W.Frag} {H : Hp} {L : List Addr} {ds : List D} {vs : List V} {i : Int} {z : D} (r : RpAll K H L ds vs) (h : atI ds i = some z) : ∃ v, atI vs i = some v ∧ Rp K H L z v := by
  unfold atI at h ⊢
  rw [r.length]
  cases e : ixN ds.length i with
  | none => rw [e] at h; cases h
  | some j =>
    rw [e] at h
    exact r.get h
theorem i_ix {K : PySem.W.Frag} : OpI K (fun x y H Q => rIxL K x y H Q ∨ rIxT K x y H Q) fIx := by
  rintro H L d1 d2 v1 v2 Q1 Q hL r1 r2 ⟨ds, i, z, e, rfl, h, t⟩ q
  cases r2
  cases d1 <;> simp only [D.its, Option.some.injEq, reduceCtorEq] at e
  · subst e
    obtain ⟨a, as, rfl, h1, g1⟩ := r1
    obtain ⟨v, h2, g2⟩ := atI_rp g1 h
    exact .inr ⟨a, as, i, v, rfl, rfl, h1, h2, q _ H _ (Same.refl H) g2 t⟩
  · subst e
    obtain ⟨a, as, rfl, h1, g1⟩ := r1
    obtain ⟨v, h2, g2⟩ := atI_rp g1 h
    exact .inl ⟨a, as, i, v, rfl, rfl, h1.sq, h2, q _ H _ (Same.refl H) g2 t⟩

/-! ### calls of built-ins -/
def D.tyS : D → Option String
  | .non => some "NoneType" | .bl _ => some "bool" | .int _ => some "int" | .str _ => some "str" | .tup _ => some "tuple" | .lst _ => some "list" | .dct => some "dict" | _ => none
theorem tyS_ok {K : PySem.W.Frag} {H : Hp} {L : List Addr} {d : D} {v : V} {T : String} (h : d.tyS = some T) (r : Rp K H L d v) : TyB K H v T := by
  cases d <;> simp only [D.tyS, Option.some.injEq, reduceCtorEq] at h <;> subst h
  · cases r; exact .non
  · cases r; exact .bl _
  · cases r; exact .int _
  · cases r; exact .str _
  · obtain ⟨a, as, rfl, h1, g1⟩ := r; exact .tup h1
  · obtain ⟨a, as, rfl, h1, g1⟩ := r; exact .lst h1.sq
  · obtain ⟨a, rfl, h1, _⟩ := r; exact .dK h1
@[simp] abbrev fType : List D → (D → Prop) → Prop := fun ds Q => ∃ d T, ds = [d] ∧ d.tyS = some T ∧ Q (.ty T)
theorem i_type {K : PySem.W.Frag} : CallI K (rTyp K) fType := by
  rintro H L ds vs Q1 Q hL r ⟨d, T, rfl, h, t⟩ q
  obtain ⟨x, r', rfl, h1, h2⟩ := r
  cases h2
  exact ⟨x, T, rfl, tyS_ok h h1, q _ H (.ty T) (Same.refl H) rfl t⟩
@[simp] abbrev fIsTy : F2 := fun d e Q => ∃ a b, d = .ty a ∧ e = .ty b ∧ Q (.bl (decide (a = b)))
theorem i_isTy {K : PySem.W.Frag} : OpI K (fun x y H Q => ∃ a b, x = .ty a ∧ y = .ty b ∧ Q (.bl (decide (a = b))) H) fIsTy := by
  rintro H L d1 d2 v1 v2 Q1 Q hL r1 r2 ⟨a, b, rfl, rfl, t⟩ q
  cases r1; cases r2
  exact ⟨a, b, rfl, rfl, q _ H (.bl _) (Same.refl H) rfl t⟩
@[simp] abbrev fIsBl : F2 := fun d e Q => ∃ a b, d = .bl a ∧ e = .bl b ∧ Q (.bl (decide (a = b)))
theorem i_isBl {K : PySem.W.Frag} : OpI K (fun x y H Q => ∃ a b, x = .bl a ∧ y = .bl b ∧ Q (.bl (decide (a = b))) H) fIsBl := by
  rintro H L d1 d2 v1 v2 Q1 Q hL r1 r2 ⟨a, b, rfl, rfl, t⟩ q
  cases r1; cases r2
  exact ⟨a, b, rfl, rfl, q _ H (.bl _) (Same.refl H) rfl t⟩
@[simp] abbrev fIsntBl : F2 := fun d e Q => ∃ a b, d = .bl a ∧ e = .bl b ∧ Q (.bl (!decide (a = b)))
theorem i_isntBl {K : PySem.W.Frag} : OpI K (fun x y H Q => ∃ a b, x = .bl a ∧ y = .bl b ∧ Q (.bl (!decide (a = b))) H) fIsntBl := by
  rintro H L d1 d2 v1 v2 Q1 Q hL r1 r2 ⟨a, b, rfl, rfl, t⟩ q
  cases r1; cases r2
  exact ⟨a, b, rfl, rfl, q _ H (.bl _) (Same.refl H) rfl t⟩
@[simp] abbrev fLen : List D → (D → Prop) → Prop := fun ds Q => ∃ d xs, ds = [d] ∧ d.its = some xs ∧ Q (.int xs.length)
theorem i_len {K : PySem.W.Frag} : CallI K (fun xs H Q => ∃ p ys, xs = [.ref p] ∧ (SqL K H p ys ∨ SqT K H p ys) ∧ Q (.int ys.length) H) fLen := by
  rintro H L ds vs Q1 Q hL r ⟨d, xs, rfl, h, t⟩ q
  obtain ⟨x, r', rfl, h1, h2⟩ := r
  cases h2
  cases d <;> simp only [D.its, Option.some.injEq, reduceCtorEq] at h
  · subst h
    obtain ⟨a, as, rfl, h1, g1⟩ := h1
    exact ⟨a, as, rfl, .inr h1, by rw [g1.length]; exact q _ H (.int _) (Same.refl H) rfl t⟩
  · subst h
    obtain ⟨a, as, rfl, h1, g1⟩ := h1
    exact ⟨a, as, rfl, .inl h1.sq, by rw [g1.length]; exact q _ H (.int _) (Same.refl H) rfl t⟩
/-- isinstance(x, T) of a built-in T -/
theorem tyX_ok {K : PySem.W.Frag} {H : Hp} {L : List Addr} {d : D} {v : V} {T : String} (h : d.tyS = some T) (r : Rp K H L d v) : TyX K H v (.type T) := by
  cases d <;> simp only [D.tyS, Option.some.injEq, reduceCtorEq] at h <;> subst h
  · cases r; exact .base .non
  · cases r; exact .base (.bl _)
  · cases r; exact .base (.int _)
  · cases r; exact .base (.str _)
  · obtain ⟨a, as, rfl, h1, g1⟩ := r
    rcases h1 with (h1 | ⟨o, h1⟩) | ⟨o, its, n, h1, h2, _⟩
    · exact .base (.tup h1)
    · exact .fTuple h1
    · exact .kTuple h1 h2
  · obtain ⟨a, as, rfl, h1, g1⟩ := r
    rcases h1 with ⟨_, h1 | ⟨o, h1⟩⟩ | ⟨o, its, n, h1, h2, _⟩
    · exact .base (.lst h1)
    · exact .base (.frz h1)
    · exact .kList h1 h2
  · obtain ⟨a, rfl, h1, _⟩ := r; exact .base (.dK h1)
/-- which of the types that laws ask of are which -/
def isaB (a b : String) : Bool := a == b || (a == "bool" && b == "int")
def kindS (a : String) : Bool := ["NoneType", "bool", "int", "str", "tuple", "list", "dict"].contains a
def askS (b : String) : Bool := ["bool", "int", "str", "tuple", "list", "dict"].contains b
theorem isa_ok : ∀ a ∈ ["NoneType", "bool", "int", "str", "tuple", "list", "dict"], ∀ b ∈ ["bool", "int", "str", "tuple", "list", "dict"], kitB a b = some (isaB a b) := by decide +kernel
@[simp] abbrev fIsi : List D → (D → Prop) → Prop := fun ds Q => match ds with
  | [d, .ty b] => ∃ a, d.tyS = some a ∧ askS b = true ∧ Q (.bl (isaB a b))
  | _ => False
theorem i_isi {K : PySem.W.Frag} : CallI K (rIsi K) fIsi := by
  intro H L ds vs Q1 Q hL r t q
  match ds, t with
  | [d, .ty b], ⟨a, h, hb, t⟩ =>
  obtain ⟨x, r', rfl, h1, y, r2, rfl, h2, h3⟩ := r
  cases h3
  cases h2
  have ha : a ∈ ["NoneType", "bool", "int", "str", "tuple", "list", "dict"] := by cases d <;> simp only [D.tyS, Option.some.injEq, reduceCtorEq] at h <;> subst h <;> simp
  have hb' : b ∈ ["bool", "int", "str", "tuple", "list", "dict"] := List.contains_iff_mem.mp hb
  exact ⟨x, .ty b, .type a, .type b, isaB a b, rfl, .ty b, tyX_ok h h1, kit_ty (isa_ok a ha b hb'), q _ H (.bl _) (Same.refl H) rfl t⟩
@[simp] abbrev fMin2 : List D → (D → Prop) → Prop := fun ds Q => ∃ i j, ds = [.int i, .int j] ∧ Q (.int (min i j))
theorem i_min2 {K : PySem.W.Frag} : CallI K (fun xs H Q => ∃ i j, xs = [.int i, .int j] ∧ Q (.int (if j < i then j else i)) H) fMin2 := by
  rintro H L ds vs Q1 Q hL r ⟨i, j, rfl, t⟩ q
  obtain ⟨x, r', rfl, h1, y, r2, rfl, h2, h3⟩ := r
  cases h3; cases h1; cases h2
  refine ⟨i, j, rfl, q _ H (.int (min i j)) (Same.refl H) ?_ t⟩
  show V.int _ = V.int _
  congr 1
  split <;> omega
@[simp] abbrev fMax2 : List D → (D → Prop) → Prop := fun ds Q => ∃ i j, ds = [.int i, .int j] ∧ Q (.int (max i j))
theorem i_max2 {K : PySem.W.Frag} : CallI K (fun xs H Q => ∃ i j, xs = [.int i, .int j] ∧ Q (.int (if j > i then j else i)) H) fMax2 := by
  rintro H L ds vs Q1 Q hL r ⟨i, j, rfl, t⟩ q
  obtain ⟨x, r', rfl, h1, y, r2, rfl, h2, h3⟩ := r
  cases h3; cases h1; cases h2
  refine ⟨i, j, rfl, q _ H (.int (max i j)) (Same.refl H) ?_ t⟩
  show V.int _ = V.int _
  congr 1
  split <;> omega
/-- a list of iL -/
def iL (ns : List Int) : List D := ns.map D.int
theorem rp_ints {K : PySem.W.Frag} {H : Hp} {L : List Addr} : ∀ {ns : List Int} {vs : List V}, RpAll K H L (iL ns) vs → vs = ns.map V.int
  | [], _, h => h
  | n :: ns, _, ⟨x, r, h1, h2, h3⟩ => by
    cases h2
    rw [h1, rp_ints h3]; rfl
@[simp] abbrev fMinL : List D → (D → Prop) → Prop := fun ds Q => ∃ ns m, ds = [.lst (iL ns)] ∧ m ∈ ns ∧ (∀ n ∈ ns, m ≤ n) ∧ Q (.int m)
@[simp] abbrev fMaxL : List D → (D → Prop) → Prop := fun ds Q => ∃ ns m, ds = [.lst (iL ns)] ∧ m ∈ ns ∧ (∀ n ∈ ns, n ≤ m) ∧ Q (.int m)
/-- xs.count(k) of iL -/
@[simp] abbrev fCount : D → List D → (D → Prop) → Prop := fun d es Q => ∃ ns k, d = .lst (iL ns) ∧ es = [.int k] ∧ Q (.int (ns.count k))
end DL

set_option maxRecDepth 100000
set_option maxHeartbeats 4000000
namespace DL
open PySem PySem.Spec L2
section
variable {X : Cx} {W : WX} {E1 : E1T} {a b c : Expr} {es rest : List Expr} {pos : Pos} {K : PySem.W.Frag}

theorem same_rp {H H' : Hp} {L : List Addr} {d : D} {v : V} (e : Same H H') (r : Rp K H L d v) : Rp K H' L d v := Rp.same e (fun _ _ z => z) _ _ r
theorem same_all {H H' : Hp} {L : List Addr} {d : List D} {v : List V} (e : Same H H') (r : RpAll K H L d v) : RpAll K H' L d v := RpAll.same e (fun _ _ z => z) _ _ r
theorem impOp {r : R2} {f : F2} {te tr : TE} {t u : TE1} (hi : OpI K r f) (i1 : ImpE K W E1 te t) (i2 : ImpE K W E1 tr u) : ImpE K W E1 (tOp r te tr) (uOp f t u) := fun F M H σ ρ Q1 Q S hx t q => by
  refine i1 F M H σ ρ _ _ S hx t fun v H1 d e1 r1 t1 => ?_
  refine i2 F M H1 σ ρ _ _ (S.same e1) hx t1 fun w H2 d2 e2 r2 t2 => ?_
  exact hi H2 (M ++ F.L0) d d2 v w _ _ ((S.same e1).same e2).all (same_rp e2 r1) r2 t2 fun x H3 d3 e3 r3 t3 => q x H3 d3 (e1.trans (e2.trans e3)) r3 t3
theorem q_cmp {op : CmpOp} {r : R2} {f : F2} {t u : TE1} (ho : OpR X (compareOp op) r) (hi : OpI X.K r f) (hm : behindInMarks op b = false) (ha : QE X W E1 a t) (hb : QE X W E1 b u) : QE X W E1 (.Compare a [op] [b] pos) (uOp f t u) := by
  obtain ⟨te, h1, i1⟩ := ha
  obtain ⟨tr, h2, i2⟩ := hb
  exact ⟨_, pe_cmpR ho h1 h2 hm, impOp hi i1 i2⟩
theorem q_ix {r : R2} {f : F2} {t u : TE1} (ho : IxR X r) (hi : OpI X.K r f) (hs : PlainIx b) (ha : QE X W E1 a t) (hb : QE X W E1 b u) : QE X W E1 (.Subscript a b pos) (uOp f t u) := by
  obtain ⟨te, h1, i1⟩ := ha
  obtain ⟨tr, h2, i2⟩ := hb
  exact ⟨_, pe_ix ho h1 h2 hs, impOp hi i1 i2⟩
theorem q_neg {t : TE1} (ha : QE X W E1 a t) : QE X W E1 (.UnaryOp .USub a pos) (fun ρ Q => t ρ fun d => ∃ i, d = .int i ∧ Q (.int (-i))) := by
  obtain ⟨te, h1, i1⟩ := ha
  refine ⟨_, pe_un un_neg h1, fun F M H σ ρ Q1 Q S hx t q => ?_⟩
  refine i1 F M H σ ρ _ _ S hx t fun v H1 d e1 r1 t1 => ?_
  obtain ⟨i, rfl, t1⟩ := t1
  cases r1
  exact ⟨i, rfl, q _ H1 (.int (-i)) e1 rfl t1⟩
/-- f(e, ..) of a built-in function, of a built-in type -/
theorem q_callB {x : Str} {id : String} {r : List V → Hp → VK → Prop} {f : List D → (D → Prop) → Prop} {t : TA1} {p : Pos} (hc : CallR X (.builtin id) r) (hi : CallI X.K r f) (hg : Gl X x) (hm : X.mg x = none) (hv : bootBuiltins x = some (.builtin id)) (ha : QA X W E1 (a :: es) t)
    (hn : x ≠ "__name__" := by decide) (hdb : (x == ("__debug__" : Str)) = false := by decide)
    (he : starEach (a :: es) X.env = (false, eval a X.env) :: starEach es X.env := by rfl) (hpl : (backTo pos (starEach es X.env)).any (·.1) = false := by rfl) : QE X W E1 (.Call (.Name x p) (a :: es) [] pos) (uCall f t) := by
  obtain ⟨te, h1, i1⟩ := ha
  refine ⟨_, pe_callB hc hg hm hv h1 hn hdb he hpl, fun F M H σ ρ Q1 Q S hx t q => ?_⟩
  refine i1 F M H σ ρ _ _ S hx t fun v H1 d e1 r1 t1 => ?_
  exact hi H1 (M ++ F.L0) d v _ _ (S.same e1).all r1 t1 fun x H3 d3 e3 r3 t3 => q x H3 d3 (e1.trans e3) r3 t3
theorem q_callTy {x : Str} {T : String} {r : List V → Hp → VK → Prop} {f : List D → (D → Prop) → Prop} {t : TA1} {p : Pos} (hc : CallR X (.type T) r) (hi : CallI X.K r f) (hg : Gl X x) (hm : X.mg x = none) (hv : bootBuiltins x = some (.type T)) (ha : QA X W E1 (a :: es) t)
    (hn : x ≠ "__name__" := by decide) (hdb : (x == ("__debug__" : Str)) = false := by decide)
    (he : starEach (a :: es) X.env = (false, eval a X.env) :: starEach es X.env := by rfl) (hpl : (backTo pos (starEach es X.env)).any (·.1) = false := by rfl) : QE X W E1 (.Call (.Name x p) (a :: es) [] pos) (uCall f t) := by
  obtain ⟨te, h1, i1⟩ := ha
  refine ⟨_, pe_callTy hc hg hm hv h1 hn hdb he hpl, fun F M H σ ρ Q1 Q S hx t q => ?_⟩
  refine i1 F M H σ ρ _ _ S hx t fun v H1 d e1 r1 t1 => ?_
  exact hi H1 (M ++ F.L0) d v _ _ (S.same e1).all r1 t1 fun x H3 d3 e3 r3 t3 => q x H3 d3 (e1.trans e3) r3 t3
/-- o.m(e, ..) of a built-in type: it reads -/
def MetI (K : PySem.W.Frag) (T : String) (r : V → List V → Hp → VK → Prop) (f : D → List D → (D → Prop) → Prop) : Prop := ∀ (H : Hp) (L : List Addr) (d : D) (ds : List D) (v : V) (vs : List V) (Q1 : D → Prop) (Q : VK), (∀ a ∈ L, H a ≠ none) → Rp K H L d v → RpAll K H L ds vs → f d ds Q1 →
  (∀ v H' d, Same H H' → Rp K H' L d v → Q1 d → Q v H') → r v vs H Q
def TyI (K : PySem.W.Frag) (T : String) (g : D → Prop) : Prop := ∀ (H : Hp) (L : List Addr) (d : D) (v : V), Rp K H L d v → g d → tyV K T v H
theorem q_bm {T id : String} {name : Str} {o e : Expr} {r : V → List V → Hp → VK → Prop} {f : D → List D → (D → Prop) → Prop} {g : D → Prop} {t : TE1} {u : TA1} {apos cpos : Pos} (pa : PlainAttrs T) (slot : Slot T name id) (hty : typeOf (.builtin id) = pure (.type "method_descriptor")) (hm : MtR X id r) (hi : MetI X.K T r f) (hT : TyI X.K T g)
    (ho : QE X W E1 o t) (ha : QA X W E1 (e :: es) u) (hbase : attributeBase o name X.env (eval o X.env) = eval o X.env := by rfl)
    (hfew : ((backTo cpos (starEach (e :: es) X.env)).all (fun x => !x.1) && (backToKw cpos (keywordEach [] X.env)).all (fun x => x.1.isSome)
      && decide ((e :: es).length + ([] : List Keyword).length + (if ([] : List Keyword).isEmpty then 0 else 1) < 30)) = true := by rfl)
    (hline : (apos.endLine == cpos.line) = true := by rfl) (hs : starEach (e :: es) X.env = (false, eval e X.env) :: starEach es X.env := by rfl) (hplain : (backTo cpos (starEach es X.env)).any (·.1) = false := by rfl) :
    QE X W E1 (.Call (.Attribute o name apos) (e :: es) [] cpos) (fun ρ Q => t ρ fun d => g d ∧ u ρ fun ds => f d ds Q) := by
  obtain ⟨te, h1, i1⟩ := ho
  obtain ⟨tr, h2, i2⟩ := ha
  refine ⟨_, pe_bm pa slot hty hm h1 h2 hbase hfew hline hs hplain, fun F M H σ ρ Q1 Q S hx t q => ?_⟩
  refine i1 F M H σ ρ _ _ S hx t fun v H1 d e1 r1 ⟨hg, t1⟩ => ⟨hT _ _ _ _ r1 hg, ?_⟩
  refine i2 F M H1 σ ρ _ _ (S.same e1) hx t1 fun w H2 d2 e2 r2 t2 => ?_
  exact hi H2 (M ++ F.L0) d d2 v w _ _ ((S.same e1).same e2).all (same_rp e2 r1) r2 t2 fun x H3 d3 e3 r3 t3 => q x H3 d3 (e1.trans (e2.trans e3)) r3 t3
theorem tyI_list : TyI K "list" (fun d => ∃ ds, d = .lst ds) := fun H L d v r ⟨ds, e⟩ => by
  subst e
  obtain ⟨a, xs, rfl, h, _⟩ := r
  exact .inl ⟨rfl, xs, h.sq⟩
theorem i_count : MetI K "list" (rCntI K) fCount := by
  rintro H L d ds v vs Q1 Q hL r1 r2 ⟨ns, k, rfl, rfl, t⟩ q
  obtain ⟨a, xs, rfl, h, g⟩ := r1
  obtain ⟨x, r', rfl, h1, h2⟩ := r2
  cases h1; cases h2
  exact ⟨a, ns, k, rfl, rfl, by rw [← rp_ints g]; exact h.sq, q _ H (.int _) (Same.refl H) rfl t⟩
theorem i_minL : CallI K (rMin K) fMinL := by
  rintro H L ds vs Q1 Q hL r ⟨ns, m, rfl, hm, hle, t⟩ q
  obtain ⟨x, r', rfl, h1, h2⟩ := r
  cases h2
  obtain ⟨a, xs, rfl, h, g⟩ := h1
  refine ⟨a, ns, rfl, by rw [← rp_ints g]; exact h.sq, List.length_pos_of_mem hm, fun k hk hk2 => ?_⟩
  have e : k = m := Int.le_antisymm (hk2 m hm) (hle k hk)
  subst e
  exact q _ H (.int k) (Same.refl H) rfl t
theorem i_maxL : CallI K (rMax K) fMaxL := by
  rintro H L ds vs Q1 Q hL r ⟨ns, m, rfl, hm, hle, t⟩ q
  obtain ⟨x, r', rfl, h1, h2⟩ := r
  cases h2
  obtain ⟨a, xs, rfl, h, g⟩ := h1
  refine ⟨a, ns, rfl, by rw [← rp_ints g]; exact h.sq, List.length_pos_of_mem hm, fun k hk hk2 => ?_⟩
  have e : k = m := Int.le_antisymm (hle k hk) (hk2 m hm)
  subst e
  exact q _ H (.int k) (Same.refl H) rfl t

/-! ### slices -/
abbrev TO1 := Rho → (Option Int → Prop) → Prop
def ImpO (K : PySem.W.Frag) (W : WX) (E1 : E1T) (te : TO) (t : TO1) : Prop := ∀ (F : Fm) (M : List Addr) (H : Hp) (σ : St) (ρ : Rho) (Q1 : Option Int → Prop) (Q : Option Int → Hp → Prop), StR K F M H σ ρ → Xok K F W E1 → t ρ Q1 →
  (∀ i H', Same H H' → Q1 i → Q i H') → te σ H Q
def QO (X : Cx) (W : WX) (E1 : E1T) (e : Option Expr) (t : TO1) : Prop := ∃ te, PO X e te ∧ ImpO X.K W E1 te t
theorem qo_none : QO X W E1 none (fun _ Q => Q none) := ⟨_, po_none, fun F M H σ ρ Q1 Q S hx t q => q none H (Same.refl H) t⟩
theorem qo_some {t : TE1} (h : QE X W E1 a t) : QO X W E1 (some a) (fun ρ Q => t ρ fun d => ∃ i, d = .int i ∧ Q (some i)) := by
  obtain ⟨te, h1, i1⟩ := h
  refine ⟨_, po_some h1, fun F M H σ ρ Q1 Q S hx t q => ?_⟩
  refine i1 F M H σ ρ _ _ S hx t fun v H1 d e1 r1 ⟨i, ed, t1⟩ => ?_
  subst ed
  cases r1
  exact ⟨i, rfl, q _ H1 e1 t1⟩
/-- the part of a list from lo up to hi -/
def cutD (xs : List D) (lo hi : Option Int) : List D := (xs.drop (HT.sIx xs.length 0 lo)).take (HT.sIx xs.length xs.length hi - HT.sIx xs.length 0 lo)
theorem rp_cut {H : Hp} {L : List Addr} {ds : List D} {vs : List V} (r : RpAll K H L ds vs) (lo hi : Option Int) : RpAll K H L (cutD ds lo hi) (cutV vs lo hi) := by
  unfold cutD cutV
  rw [r.length]
  exact RpAll.take _ (RpAll.drop _ r)
def rSlX (K : PySem.W.Frag) : V → Option Int → Option Int → Hp → VK → Prop := fun x lo hi H Q => rSlL K x lo hi H Q ∨ rSlT K x lo hi H Q
@[simp] abbrev fSl : D → Option Int → Option Int → (D → Prop) → Prop := fun d lo hi Q => (∃ xs, d = .lst xs ∧ Q (.lst (cutD xs lo hi))) ∨ ∃ xs, d = .tup xs ∧ ¬ (HT.sIx xs.length 0 lo = 0 ∧ HT.sIx xs.length xs.length hi = xs.length) ∧ Q (.tup (cutD xs lo hi))
theorem q_slice {o : Expr} {lo hi : Option Expr} {t : TE1} {tl th : TO1} {p2 : Pos} (ho : QE X W E1 o t) (hl : QO X W E1 lo tl) (hh : QO X W E1 hi th) : QE X W E1 (.Subscript o (.Slice lo hi none p2) pos) (fun ρ Q => t ρ fun d => tl ρ fun i => th ρ fun j => fSl d i j Q) := by
  obtain ⟨te, h1, i1⟩ := ho
  obtain ⟨t2, h2, i2⟩ := hl
  obtain ⟨t3, h3, i3⟩ := hh
  refine ⟨_, pe_slice (r := fun x lo hi H Q => rSlL X.K x lo hi H Q ∨ rSlT X.K x lo hi H Q) (SlR.or sl_list sl_tup) h1 h2 h3, fun F M H σ ρ Q1 Q S hx t q => ?_⟩
  refine i1 F M H σ ρ _ _ S hx t fun v H1 d e1 r1 t1 => ?_
  refine i2 F M H1 σ ρ _ _ (S.same e1) hx t1 fun i H2 e2 t2 => ?_
  refine i3 F M H2 σ ρ _ _ ((S.same e1).same e2) hx t2 fun j H3 e3 t3 => ?_
  have al := (((S.same e1).same e2).same e3).all
  rcases t3 with ⟨xs, ed, t3⟩ | ⟨xs, ed, nw, t3⟩
  · subst ed
    obtain ⟨p, as, ep, hp, g⟩ := same_rp (e2.trans e3) r1
    subst ep
    refine .inl ⟨p, as, rfl, hp.sq, fun z hz => ?_⟩
    have en := same_new hz (.lst (cutV as i j))
    exact q _ _ (.lst (cutD xs i j)) (e1.trans (e2.trans (e3.trans en))) ⟨z, _, rfl, .inl ⟨fun y => al z y hz, .inl upd_same⟩, same_all en (rp_cut g i j)⟩ t3
  · subst ed
    obtain ⟨p, as, ep, hp, g⟩ := same_rp (e2.trans e3) r1
    subst ep
    refine .inr ⟨p, as, rfl, hp, by rw [g.length]; exact nw, fun z hz => ?_⟩
    have en := same_new hz (.tup (cutV as i j))
    exact q _ _ (.tup (cutD xs i j)) (e1.trans (e2.trans (e3.trans en))) ⟨z, _, rfl, SqT.of upd_same, same_all en (rp_cut g i j)⟩ t3

/-! ### bools: and, or, not, if else -/
@[simp] abbrev uB (t : TE1) : TT1 := fun ρ Q => t ρ fun d => ∃ c, d = .bl c ∧ Q c
@[simp] abbrev uAnd (t u : TT1) : TT1 := fun ρ Q => t ρ fun c => if c = true then u ρ Q else Q false
@[simp] abbrev uOr (t u : TT1) : TT1 := fun ρ Q => t ρ fun c => if c = true then Q true else u ρ Q
@[simp] abbrev uNot (t : TT1) : TT1 := fun ρ Q => t ρ fun c => Q (!c)
theorem impB {te : TE} {t : TE1} (i1 : ImpE K W E1 te t) : ImpT K W E1 (tB te) (uB t) := fun F M H σ ρ Q1 Q S hx t q => by
  refine i1 F M H σ ρ _ _ S hx t fun v H1 d e1 r1 ⟨c, ed, t1⟩ => ?_
  subst ed
  cases r1
  exact ⟨c, rfl, q c H1 e1 t1⟩
/-- a value that is True or False, as a test -/
theorem qt_val {t : TE1} (h : QE X W E1 a t) (he : ∀ whole, isTrue a X.env whole = (do let v ← whole; standAt a.pos; holding [v] (truthy v)) := by intro _; rfl) : QT X W E1 a (uB t) := by
  obtain ⟨te, h1, i1⟩ := h
  exact ⟨_, pt_val h1 he, impB i1⟩
theorem qt_cmp {op : CmpOp} {r : R2} {f : F2} {t u : TE1} (ho : OpR X (compareOp op) r) (hi : OpI X.K r f) (hm : behindInMarks op b = false) (ha : QE X W E1 a t) (hb : QE X W E1 b u) : QT X W E1 (.Compare a [op] [b] pos) (uB (uOp f t u)) := by
  obtain ⟨te, h1, i1⟩ := ha
  obtain ⟨tr, h2, i2⟩ := hb
  exact ⟨_, pt_cmpR ho h1 h2 hm, impB (impOp hi i1 i2)⟩
theorem qt_w {t : TT1} (h : QW X W E1 a t) : QT X W E1 a t := by
  obtain ⟨te, h1, i1⟩ := h
  exact ⟨_, h1.pt, i1⟩
theorem qw_and1 {t : TT1} (h : QT X W E1 a t) : QW X W E1 (.BoolOp .And [a] pos) t := by
  obtain ⟨te, h1, i1⟩ := h
  exact ⟨_, pw_and1 h1, i1⟩
theorem qw_or1 {t : TT1} (h : QT X W E1 a t) : QW X W E1 (.BoolOp .Or [a] pos) t := by
  obtain ⟨te, h1, i1⟩ := h
  exact ⟨_, pw_or1 h1, i1⟩
theorem qw_and {t u : TT1} (h : QT X W E1 a t) (h' : QW X W E1 (.BoolOp .And (b :: rest) pos) u) : QW X W E1 (.BoolOp .And (a :: b :: rest) pos) (uAnd t u) := by
  obtain ⟨te, h1, i1⟩ := h
  obtain ⟨tr, h2, i2⟩ := h'
  refine ⟨_, pw_and h1 h2, fun F M H σ ρ Q1 Q S hx t q => ?_⟩
  refine i1 F M H σ ρ _ _ S hx t fun c H1 e1 t1 => ?_
  cases c with
  | true => exact i2 F M H1 σ ρ _ _ (S.same e1) hx (by simpa using t1) fun c H2 e2 t2 => q c H2 (e1.trans e2) t2
  | false => exact q false H1 e1 (by simpa using t1)
theorem qw_or {t u : TT1} (h : QT X W E1 a t) (h' : QW X W E1 (.BoolOp .Or (b :: rest) pos) u) : QW X W E1 (.BoolOp .Or (a :: b :: rest) pos) (uOr t u) := by
  obtain ⟨te, h1, i1⟩ := h
  obtain ⟨tr, h2, i2⟩ := h'
  refine ⟨_, pw_or h1 h2, fun F M H σ ρ Q1 Q S hx t q => ?_⟩
  refine i1 F M H σ ρ _ _ S hx t fun c H1 e1 t1 => ?_
  cases c with
  | true => exact q true H1 e1 (by simpa using t1)
  | false => exact i2 F M H1 σ ρ _ _ (S.same e1) hx (by simpa using t1) fun c H2 e2 t2 => q c H2 (e1.trans e2) t2
theorem qt_not {t : TT1} (h : QT X W E1 a t) : QT X W E1 (.UnaryOp .Not a pos) (uNot t) := by
  obtain ⟨te, h1, i1⟩ := h
  refine ⟨_, pt_not h1, fun F M H σ ρ Q1 Q S hx t q => ?_⟩
  exact i1 F M H σ ρ _ _ S hx t fun c H1 e1 t1 => q _ H1 e1 t1
@[simp] abbrev uAndV (t u : TE1) : TE1 := fun ρ Q => t ρ fun d => ∃ c, d = .bl c ∧ if c = true then u ρ Q else Q (.bl false)
@[simp] abbrev uOrV (t u : TE1) : TE1 := fun ρ Q => t ρ fun d => ∃ c, d = .bl c ∧ if c = true then Q (.bl true) else u ρ Q
theorem q_one {op} {t : TE1} (h : QE X W E1 a t) : QE X W E1 (.BoolOp op [a] pos) t := by
  obtain ⟨te, h1, i1⟩ := h
  exact ⟨_, pe_one h1, i1⟩
theorem q_and {t u : TE1} (h : QE X W E1 a t) (h' : QE X W E1 (.BoolOp .And (b :: rest) pos) u) : QE X W E1 (.BoolOp .And (a :: b :: rest) pos) (uAndV t u) := by
  obtain ⟨te, h1, i1⟩ := h
  obtain ⟨tr, h2, i2⟩ := h'
  refine ⟨_, pe_and h1 h2, fun F M H σ ρ Q1 Q S hx t q => ?_⟩
  refine i1 F M H σ ρ _ _ S hx t fun v H1 d e1 r1 ⟨c, ed, t1⟩ => ?_
  subst ed
  cases r1
  refine ⟨c, rfl, ?_⟩
  cases c with
  | true => exact i2 F M H1 σ ρ _ _ (S.same e1) hx (by simpa using t1) fun x H2 d2 e2 r2 t2 => q x H2 d2 (e1.trans e2) r2 t2
  | false => exact q _ H1 (.bl false) e1 rfl (by simpa using t1)
theorem q_or {t u : TE1} (h : QE X W E1 a t) (h' : QE X W E1 (.BoolOp .Or (b :: rest) pos) u) : QE X W E1 (.BoolOp .Or (a :: b :: rest) pos) (uOrV t u) := by
  obtain ⟨te, h1, i1⟩ := h
  obtain ⟨tr, h2, i2⟩ := h'
  refine ⟨_, pe_or h1 h2, fun F M H σ ρ Q1 Q S hx t q => ?_⟩
  refine i1 F M H σ ρ _ _ S hx t fun v H1 d e1 r1 ⟨c, ed, t1⟩ => ?_
  subst ed
  cases r1
  refine ⟨c, rfl, ?_⟩
  cases c with
  | true => exact q _ H1 (.bl true) e1 rfl (by simpa using t1)
  | false => exact i2 F M H1 σ ρ _ _ (S.same e1) hx (by simpa using t1) fun x H2 d2 e2 r2 t2 => q x H2 d2 (e1.trans e2) r2 t2
theorem q_not {t : TE1} (h : QE X W E1 a t) : QE X W E1 (.UnaryOp .Not a pos) (fun ρ Q => t ρ fun d => ∃ c, d = .bl c ∧ Q (.bl (!c))) := by
  obtain ⟨te, h1, i1⟩ := h
  refine ⟨_, pe_not h1, fun F M H σ ρ Q1 Q S hx t q => ?_⟩
  refine i1 F M H σ ρ _ _ S hx t fun v H1 d e1 r1 ⟨c, ed, t1⟩ => ?_
  subst ed
  cases r1
  exact ⟨c, rfl, q _ H1 (.bl (!c)) e1 rfl t1⟩
theorem q_if {t : TT1} {u v : TE1} (hc : QT X W E1 c t) (ha : QE X W E1 a u) (hb : QE X W E1 b v) : QE X W E1 (.IfExp c a b pos) (fun ρ Q => t ρ fun k => if k = true then u ρ Q else v ρ Q) := by
  obtain ⟨te, h1, i1⟩ := hc
  obtain ⟨t2, h2, i2⟩ := ha
  obtain ⟨t3, h3, i3⟩ := hb
  refine ⟨_, pe_ifExp h1 h2 h3, fun F M H σ ρ Q1 Q S hx t q => ?_⟩
  refine i1 F M H σ ρ _ _ S hx t fun k H1 e1 t1 => ?_
  cases k with
  | true => exact i2 F M H1 σ ρ _ _ (S.same e1) hx (by simpa using t1) fun x H2 d2 e2 r2 t2 => q x H2 d2 (e1.trans e2) r2 t2
  | false => exact i3 F M H1 σ ρ _ _ (S.same e1) hx (by simpa using t1) fun x H2 d2 e2 r2 t2 => q x H2 d2 (e1.trans e2) r2 t2

/-! ### calls of defs -/
/-- a def's outcome -/
inductive Re where
  | ok (d : D) | er (C : Addr)
/-- a def told over data: of the arguments ds it does r -/
def spD (K : PySem.W.Frag) (R : List D → Re → Prop) : Sp := fun vs H Q E => ∃ (L : List Addr) (ds : List D) (r : Re), (∀ a ∈ L, H a ≠ none) ∧ RpAll K H L ds vs ∧ R ds r ∧
  (∀ d v H', r = .ok d → Same H H' → Rp K H' L d v → Q v H') ∧ ∀ C H', r = .er C → Same H H' → E (.ref C) none H'
@[simp] abbrev uDef (E1 : E1T) (R : List D → Re → Prop) (t : TA1) : TE1 := fun ρ Q => t ρ fun ds => ∃ r, R ds r ∧ match r with | .ok d => Q d | .er C => E1 C ρ
@[simp] abbrev uDef0 (R : List D → D → Prop) (t : TA1) : TE1 := fun ρ Q => t ρ fun ds => ∃ d, R ds d ∧ Q d
/-- f(e, ..), a def that raises nothing -/
theorem q_call {k : Nat} {f : Addr} {fd : FuncData} {ps : List Str} {R : List D → Re → Prop} {x : Str} {p : Pos} {t : TA1} (G : FnOk X.prog X.w X.K X.mg X.base CX0 k f fd ps (spD X.K R)) (hr : Room k X.A) (hg : Gl X x) (hm : X.mg x = some (.ref f)) (hk : PySem.W.keepIn X.K (.ref f) = true) (hb : Binds X.K fd ps [])
    (ha : QA X W E1 (a :: es) t) (hdb : (x == ("__debug__" : Str)) = false := by decide) (he : starEach (a :: es) X.env = (false, eval a X.env) :: starEach es X.env := by rfl) (hpl : (backTo pos (starEach es X.env)).any (·.1) = false := by rfl) :
    QE X W E1 (.Call (.Name x p) (a :: es) [] pos) (uDef0 (fun ds d => R ds (.ok d)) t) := by
  obtain ⟨te, h1, i1⟩ := ha
  refine ⟨_, pe_call G hr hg hm hk hb .nil pass0 h1 hdb he hpl, fun F M H σ ρ Q1 Q S hx t q => ?_⟩
  refine i1 F M H σ ρ _ _ S hx t fun v H1 d e1 r1 ⟨z, hz, t1⟩ => ?_
  refine ⟨M ++ F.L0, d, .ok z, (S.same e1).all, by simpa using r1, hz, fun d' v' H' e0 e2 r2 => ?_, fun C H' e0 => nomatch e0⟩
  cases e0
  exact q v' H' z (e1.trans e2) r2 t1
/-- f(e, ..), a def that may raise -/
theorem q_callX {k : Nat} {f : Addr} {fd : FuncData} {ps : List Str} {R : List D → Re → Prop} {x : Str} {p : Pos} {t : TA1} (G : FnOk X.prog X.w X.K X.mg X.base (L2.CX X.prog X.w) k f fd ps (spD X.K R)) (hr : Room k X.A) (hg : Gl X x) (hm : X.mg x = some (.ref f)) (hk : PySem.W.keepIn X.K (.ref f) = true) (hb : Binds X.K fd ps [])
    (tk : Takes X W) (ha : QA X W E1 (a :: es) t) (hdb : (x == ("__debug__" : Str)) = false := by decide) (he : starEach (a :: es) X.env = (false, eval a X.env) :: starEach es X.env := by rfl) (hpl : (backTo pos (starEach es X.env)).any (·.1) = false := by rfl) :
    QE X W E1 (.Call (.Name x p) (a :: es) [] pos) (uDef E1 R t) := by
  obtain ⟨te, h1, i1⟩ := ha
  refine ⟨_, pe_callS G hr hg hm hk hb (fun σ => passAt tk σ) h1 hdb he hpl, fun F M H σ ρ Q1 Q S hx t q => ?_⟩
  refine i1 F M H σ ρ _ _ S hx t fun v H1 d e1 r1 ⟨z, hz, t1⟩ => ?_
  refine ⟨M ++ F.L0, d, z, (S.same e1).all, r1, hz, fun d' v' H' e0 e2 r2 => ?_, fun C H' e0 e2 => ?_⟩
  · subst e0
    exact q v' H' d' (e1.trans e2) r2 t1
  · subst e0
    exact hx C M H' σ ρ (S.same (e1.trans e2)) t1
end
end DL

set_option maxRecDepth 100000
set_option maxHeartbeats 4000000
namespace DL
open PySem PySem.Spec L2

/-! ### states again -/
section
variable {K : PySem.W.Frag} {F : Fm} {H H' : Hp} {M : List Addr} {σ : St} {ρ : Rho}
theorem StR.get (h : StR K F M H σ ρ) {i : Nat} {d : D} (e : ρ[i]? = some (.dat d)) : ∃ v, σ[i]? = some (some v) ∧ Rp K H (M ++ F.L0) d v := by
  obtain ⟨v, h1, x, rfl, r⟩ := h.sl i _ e
  exact ⟨x, h1, r⟩
theorem StR.getOwn (h : StR K F M H σ ρ) {i : Nat} {ds : List D} (e : ρ[i]? = some (.own ds)) : ∃ a xs, σ[i]? = some (some (V.ref a)) ∧ a ∈ M ∧ H a = some (.lst xs) ∧ RpAll K H (M ++ F.L0) ds xs := by
  obtain ⟨v, h1, a, xs, rfl, h2, h3, r⟩ := h.sl i _ e
  exact ⟨a, xs, h1, h2, h3, r⟩
theorem mem_out {M L0 : List Addr} {p a : Addr} (hp : H p = none) (ha : H a ≠ none) (hm : a ∈ (p :: M) ++ L0) : a ∈ M ++ L0 := by
  rcases List.mem_cons.mp (by simpa using hm : a ∈ p :: (M ++ L0)) with z | z
  · subst z; exact absurd hp ha
  · exact z
theorem StR.extU (h : StR K F M H σ ρ) {a : Addr} {u : HO} (ha : a ∈ M ∨ a ∈ F.G) : SameX F.G F.H0 (upd H a u) := fun b v hb => by
  obtain ⟨h1, h2⟩ := h.ext b v hb
  by_cases z : b = a
  · subst z
    rcases ha with ha | ha
    · rw [(h.fr b ha).1] at hb; cases hb
    · exact ⟨fun n => absurd ha n, by rw [upd_same]; simp⟩
  · rw [upd_ne z]; exact ⟨h1, h2⟩
/-- a list of this frame's own is changed -/
theorem StR.chg (h : StR K F M H σ ρ) {i : Nat} {ds ds' : List D} {a : Addr} {xs xs' : List V} (e : ρ[i]? = some (.own ds)) (es : σ[i]? = some (some (V.ref a))) (ha : a ∈ M) (hH : H a = some (.lst xs)) (r : RpAll K H (M ++ F.L0) ds' xs') :
    StR K F M (upd H a (.lst xs')) σ (ρ.set i (.own ds')) := by
  replace e : ρ.sl[i]? = some (.own ds) := e
  have hi : i < ρ.sl.length := (List.getElem?_eq_some_iff.mp e).1
  have hm : a ∈ M ++ F.L0 := List.mem_append_left _ ha
  refine ⟨h.extU (.inl ha), h.al, fun b hb => ⟨(h.fr b hb).1, ?_⟩, fun j x q => ?_, fun j k us ws b p1 p2 p3 p4 => ?_, fun p hp => Rp.upd hm hH _ _ (h.pn p hp), h.gl,
    fun p hp => ⟨(h.mu p hp).1, (h.mu p hp).2.1, (h.mu p hp).2.2.updM hm hH rfl ((h.mu p hp).2.2.neL hH)⟩, h.nd, h.ma⟩
  · by_cases z : b = a
    · subst z; rw [upd_same]; simp
    · rw [upd_ne z]; exact (h.fr b hb).2
  · replace q : (ρ.sl.set i (.own ds'))[j]? = some x := q
    by_cases z : i = j
    · subst z
      rw [List.getElem?_set_self hi] at q
      cases q
      exact ⟨_, es, a, xs', rfl, ha, upd_same, RpAll.upd hm hH _ _ r⟩
    · rw [List.getElem?_set_ne z] at q
      obtain ⟨v, h1, h2⟩ := h.sl j x q
      refine ⟨v, h1, ?_⟩
      cases x with
      | un => trivial
      | dat d => obtain ⟨y, h3, h4⟩ := h2; exact ⟨y, h3, Rp.upd hm hH _ _ h4⟩
      | own us =>
        obtain ⟨b, ys, h3, h4, h5, h6⟩ := h2
        subst h3
        have ne : b ≠ a := fun w => by subst w; exact z (h.uq i j _ _ _ e q es h1)
        exact ⟨b, ys, rfl, h4, by rw [upd_ne ne]; exact h5, RpAll.upd hm hH _ _ h6⟩
  · have back : ∀ {n : Nat} {vs : List D}, (ρ.sl.set i (.own ds'))[n]? = some (.own vs) → ∃ vs', ρ.sl[n]? = some (.own vs') := fun {n vs} q => by
      by_cases z : i = n
      · subst z; exact ⟨ds, e⟩
      · rw [List.getElem?_set_ne z] at q; exact ⟨vs, q⟩
    obtain ⟨_, q1⟩ := back p1
    obtain ⟨_, q2⟩ := back p2
    exact h.uq j k _ _ _ q1 q2 p3 p4
/-- a new list, this frame's own, in the slot i -/
theorem StR.setOwn (h : StR K F M H σ ρ) {i : Nat} {ds : List D} {p : Addr} {xs : List V} (hi : i < ρ.length) (hp : H p = none) (r : RpAll K H (M ++ F.L0) ds xs) :
    StR K F (p :: M) (upd H p (.lst xs)) (σ.set i (some (V.ref p))) (ρ.set i (.own ds)) := by
  have hi : i < ρ.sl.length := hi
  have e := same_new hp (.lst xs)
  have hL : ∀ a, H a ≠ none → a ∈ (p :: M) ++ F.L0 → a ∈ M ++ F.L0 := fun a ha hm => mem_out hp ha hm
  have S' := h.sl i _ (List.getElem?_eq_getElem hi)
  obtain ⟨v0, hv0, _⟩ := S'
  have hs : i < σ.length := (List.getElem?_eq_some_iff.mp hv0).1
  have hp0 : F.H0 p = none := by
    cases q : F.H0 p with
    | none => rfl
    | some o => exact absurd hp (h.ext _ _ q).2
  refine ⟨h.ext.trans (.of _ e), h.al, fun a ha => ?_, fun j x q => ?_, fun j k us ws b p1 p2 p3 p4 => ?_, fun q hq => Rp.same e hL _ _ (h.pn q hq), h.gl,
    fun q hq => ⟨List.mem_cons_of_mem _ (h.mu q hq).1, fun w => ((h.mu q hq).2.1 w).imp (List.mem_cons_of_mem _) id, (h.mu q hq).2.2.same e hL⟩, h.nd, fun q hq => (h.ma q hq).imp (List.mem_cons_of_mem _) id⟩
  · rcases List.mem_cons.mp ha with z | z
    · subst z; exact ⟨hp0, by rw [upd_same]; simp⟩
    · exact ⟨(h.fr a z).1, same_ne e (h.fr a z).2⟩
  · replace q : (ρ.sl.set i (.own ds))[j]? = some x := q
    by_cases z : i = j
    · subst z
      rw [List.getElem?_set_self hi] at q
      cases q
      exact ⟨_, List.getElem?_set_self hs, p, xs, rfl, List.mem_cons_self, upd_same, RpAll.same e hL _ _ r⟩
    · rw [List.getElem?_set_ne z] at q
      rw [List.getElem?_set_ne z]
      obtain ⟨v, h1, h2⟩ := h.sl j x q
      refine ⟨v, h1, ?_⟩
      cases x with
      | un => trivial
      | dat d => obtain ⟨y, h3, h4⟩ := h2; exact ⟨y, h3, Rp.same e hL _ _ h4⟩
      | own us => obtain ⟨b, ys, h3, h4, h5, h6⟩ := h2; exact ⟨b, ys, h3, List.mem_cons_of_mem _ h4, e _ _ h5, RpAll.same e hL _ _ h6⟩
  · have two : ∀ {n : Nat} {vs : List D}, (ρ.sl.set i (.own ds))[n]? = some (.own vs) → (σ.set i (some (V.ref p)))[n]? = some (some (V.ref b)) → (n = i ∧ b = p) ∨ (n ≠ i ∧ b ≠ p ∧ ρ.sl[n]? = some (.own vs) ∧ σ[n]? = some (some (V.ref b))) := fun {n vs} q1 q2 => by
      by_cases z : i = n
      · subst z
        rw [List.getElem?_set_self hs] at q2
        cases q2
        exact .inl ⟨rfl, rfl⟩
      · rw [List.getElem?_set_ne z] at q1 q2
        refine .inr ⟨fun w => z w.symm, fun w => ?_, q1, q2⟩
        obtain ⟨a, ys, h1, h2, h3, _⟩ := h.getOwn q1
        rw [q2] at h1
        cases h1
        rw [w, hp] at h3
        cases h3
    rcases two p1 p3 with ⟨a1, a2⟩ | ⟨a1, a2, a3, a4⟩
    · rcases two p2 p4 with ⟨b1, b2⟩ | ⟨b1, b2, b3, b4⟩
      · rw [a1, b1]
      · exact absurd a2 b2
    · rcases two p2 p4 with ⟨b1, b2⟩ | ⟨b1, b2, b3, b4⟩
      · exact absurd b2 a2
      · exact h.uq j k _ _ _ a3 b3 a4 b4
/-- an own list is a datum from here on -/
theorem StR.freeze (h : StR K F M H σ ρ) {i : Nat} {ds : List D} (e : ρ[i]? = some (.own ds)) : ∃ M', StR K F M' H σ (ρ.set i (.dat (.lst ds))) := by
  obtain ⟨a, xs, h1, h2, h3, h4⟩ := h.getOwn e
  replace e : ρ.sl[i]? = some (.own ds) := e
  have hi : i < ρ.sl.length := (List.getElem?_eq_some_iff.mp e).1
  have hL : ∀ b, H b ≠ none → b ∈ M.filter (fun b => b ≠ a) ++ F.L0 → b ∈ M ++ F.L0 := fun b _ hb => by
    rcases List.mem_append.mp hb with z | z
    · exact List.mem_append_left _ (List.mem_filter.mp z).1
    · exact List.mem_append_right _ z
  have keep : ∀ q ∈ ρ.mu, ∀ b, b = q.a → b ∈ M → b ∈ M.filter (fun b => b ≠ a) := fun q hq b hb hM => by
    refine List.mem_filter.mpr ⟨hM, ?_⟩
    have := (h.mu q hq).2.2.neL h3
    simpa [hb] using this
  refine ⟨M.filter (fun b => b ≠ a), h.ext, h.al, fun b hb => h.fr b (List.mem_filter.mp hb).1, fun j x q => ?_, fun j k us ws b p1 p2 p3 p4 => ?_, fun p hp => ?_, h.gl, fun q hq => ⟨?_, fun w => ?_, (h.mu q hq).2.2.same (Same.refl H) hL⟩, h.nd, fun q hq => (h.ma q hq).imp (keep q hq _ rfl) id⟩
  · have na : a ∉ M.filter (fun b => b ≠ a) ++ F.L0 := fun z => by
      rcases List.mem_append.mp z with z | z
      · have := (List.mem_filter.mp z).2
        simp at this
      · exact h.al a z (h.fr a h2).1
    replace q : (ρ.sl.set i (.dat (.lst ds)))[j]? = some x := q
    by_cases z : i = j
    · subst z
      rw [List.getElem?_set_self hi] at q
      cases q
      exact ⟨_, h1, V.ref a, rfl, a, xs, rfl, .inl ⟨na, .inl h3⟩, RpAll.same (Same.refl H) hL _ _ h4⟩
    · rw [List.getElem?_set_ne z] at q
      obtain ⟨v, g1, g2⟩ := h.sl j x q
      refine ⟨v, g1, ?_⟩
      cases x with
      | un => trivial
      | dat d => obtain ⟨y, g3, g4⟩ := g2; exact ⟨y, g3, Rp.same (Same.refl H) hL _ _ g4⟩
      | own us =>
        obtain ⟨b, ys, g3, g4, g5, g6⟩ := g2
        subst g3
        have nb : b ≠ a := fun w => by subst w; exact z (h.uq i j _ _ _ e q h1 g1)
        exact ⟨b, ys, rfl, List.mem_filter.mpr ⟨g4, by simpa using nb⟩, g5, RpAll.same (Same.refl H) hL _ _ g6⟩
  · have back : ∀ {n : Nat} {vs : List D}, (ρ.sl.set i (.dat (.lst ds)))[n]? = some (.own vs) → ρ.sl[n]? = some (.own vs) := fun {n vs} q => by
      by_cases z : i = n
      · subst z; rw [List.getElem?_set_self hi] at q; cases q
      · rw [List.getElem?_set_ne z] at q; exact q
    exact h.uq j k _ _ _ (back p1) (back p2) p3 p4
  · exact Rp.same (Same.refl H) hL _ _ (h.pn p hp)
  · rcases List.mem_append.mp (h.mu q hq).1 with z | z
    · exact List.mem_append_left _ (keep q hq _ rfl z)
    · exact List.mem_append_right _ z
  · exact ((h.mu q hq).2.1 w).imp (keep q hq _ rfl) id
/-- fewer pins -/
theorem StR.unpin {P' : List (D × V)} (h : StR K { F with P := P' } M H σ ρ) (hs : ∀ p ∈ F.P, p ∈ P') : StR K F M H σ ρ := ⟨h.ext, h.al, h.fr, h.sl, h.uq, fun p hp => h.pn p (hs p hp), h.gl, h.mu, h.nd, h.ma⟩
theorem StR.pin {d : D} {v : V} (h : StR K F M H σ ρ) (r : Rp K H (M ++ F.L0) d v) : StR K { F with P := (d, v) :: F.P } M H σ ρ := ⟨h.ext, h.al, h.fr, h.sl, h.uq, fun p hp => by
  rcases List.mem_cons.mp hp with z | z
  · subst z; exact r
  · exact h.pn p z, h.gl, h.mu, h.nd, h.ma⟩
theorem mu_at {g : Store} {j : Nat} {e : En} (q : g[j]? = some e) : e ∈ g := List.mem_of_getElem? q
/-- what stands at a place is changed -/
theorem StR.chgMu (h : StR K F M H σ ρ) {j : Nat} {e : En} {u : HO} {m' : Mu} (q : ρ.mu[j]? = some e) (w : e.w = true) (r : RpMu K (upd H e.a u) (M ++ F.L0) e.a m') : StR K F M (upd H e.a u) σ (ρ.setMu j m') := by
  obtain ⟨hm, hw, hr⟩ := h.mu e (mu_at q)
  obtain ⟨o, ho, mo, no⟩ := hr.mut
  have nl : ∀ {a : Addr} {xs : List V}, H a = some (.lst xs) → a ≠ e.a := fun {a xs} z w => by
    rw [w, ho] at z
    cases z
    exact no _ rfl
  have em : (ρ.setMu j m').mu = ρ.mu.set j ⟨e.a, e.w, m'⟩ := by unfold Rho.setMu gset; simp only [q]
  refine ⟨h.extU (hw w), h.al, fun b hb => ⟨(h.fr b hb).1, ?_⟩, fun i x q => ?_, h.uq, fun p hp => Rp.updM hm ho mo _ _ (h.pn p hp), h.gl, fun p hp => ?_, ?_, ?_⟩
  · by_cases z : b = e.a
    · subst z; rw [upd_same]; simp
    · rw [upd_ne z]; exact (h.fr b hb).2
  · obtain ⟨v, h1, h2⟩ := h.sl i x q
    refine ⟨v, h1, ?_⟩
    cases x with
    | un => trivial
    | dat d => obtain ⟨y, h3, h4⟩ := h2; exact ⟨y, h3, Rp.updM hm ho mo _ _ h4⟩
    | own us =>
      obtain ⟨b, ys, h3, h4, h5, h6⟩ := h2
      exact ⟨b, ys, h3, h4, by rw [upd_ne (nl h5)]; exact h5, RpAll.updM hm ho mo _ _ h6⟩
  · rw [em] at hp
    obtain ⟨i, hi, ei⟩ := List.getElem_of_mem hp
    rw [List.length_set] at hi
    have hj : j < ρ.mu.length := (List.getElem?_eq_some_iff.mp q).1
    by_cases z : j = i
    · subst z
      rw [List.getElem_set_self] at ei
      subst ei
      exact ⟨hm, hw, r⟩
    · rw [List.getElem_set_ne z] at ei
      subst ei
      obtain ⟨k1, k2, k3⟩ := h.mu _ (List.getElem_mem hi)
      refine ⟨k1, k2, k3.updM hm ho mo fun w2 => ?_⟩
      have ej : ρ.mu[j] = e := (List.getElem?_eq_some_iff.mp q).2
      have nd := List.pairwise_iff_getElem.mp h.nd
      rcases Nat.lt_or_gt_of_ne z with l | l
      · exact nd j i (by simpa using hj) (by simpa using hi) l (by simp [ej, w2])
      · exact nd i j (by simpa using hi) (by simpa using hj) l (by simp [ej, w2])
  · rw [em]
    have e1 : (ρ.mu.set j ⟨e.a, e.w, m'⟩).map (·.a) = ρ.mu.map (·.a) := by
      apply List.ext_getElem?
      intro i
      rw [List.getElem?_map, List.getElem?_map, List.getElem?_set]
      split
      · rename_i z
        subst z
        rw [q]
        have hj : j < ρ.mu.length := (List.getElem?_eq_some_iff.mp q).1
        rw [if_pos hj]; rfl
      · rfl
    rw [e1]
    exact h.nd
  · rw [em]
    intro p hp
    rcases List.mem_or_eq_of_mem_set hp with z | z
    · exact h.ma p z
    · subst z; exact h.ma e (mu_at q)
end

/-! ### statements -/
structure Ends1 where
  nx : Rho → Prop
  rt : D → Store → Prop
  bk : Rho → Prop := fun _ => False
  ct : Rho → Prop := fun _ => False
abbrev TS1 := Ends1 → Rho → Prop
structure EndsOk (K : PySem.W.Frag) (F : Fm) (D1 : Ends1) (D : Ends) : Prop where
  nx : ∀ M H σ ρ, StR K F M H σ ρ → D1.nx ρ → D.nx σ H
  rt : ∀ M H σ ρ v d, StR K F M H σ ρ → Rp K H (M ++ F.L0) d v → D1.rt d ρ.mu → D.rt v H
  bk : ∀ M H σ ρ, StR K F M H σ ρ → D1.bk ρ → D.bk σ H
  ct : ∀ M H σ ρ, StR K F M H σ ρ → D1.ct ρ → D.ct σ H
def ImpS (K : PySem.W.Frag) (W : WX) (E1 : E1T) (ts : TS) (t : TS1) : Prop := ∀ (F : Fm) (M : List Addr) (H : Hp) (σ : St) (ρ : Rho) (D1 : Ends1) (D : Ends), StR K F M H σ ρ → Xok K F W E1 → t D1 ρ → EndsOk K F D1 D → ts D σ H
def QS (X : Cx) (W : WX) (E1 : E1T) (st : Stmt) (t : TS1) : Prop := ∃ ts, PS X st ts ∧ ImpS X.K W E1 ts t
def QSs (X : Cx) (W : WX) (E1 : E1T) (st : List Stmt) (t : TS1) : Prop := ∃ ts, PSs X st ts ∧ ImpS X.K W E1 ts t
abbrev TG1 := D → Rho → (Rho → Prop) → Prop
def ImpG (K : PySem.W.Frag) (g : TG) (t : TG1) : Prop := ∀ (F : Fm) (M : List Addr) (H : Hp) (σ : St) (ρ : Rho) (d : D) (v : V) (Q1 : Rho → Prop) (Q : St → Hp → Prop), StR K F M H σ ρ → Rp K H (M ++ F.L0) d v → t d ρ Q1 → (∀ σ' ρ', StR K F M H σ' ρ' → Q1 ρ' → Q σ' H) → g v σ H Q
def QG (X : Cx) (e : Expr) (t : TG1) : Prop := ∃ g, PG X e g ∧ ImpG X.K g t
abbrev TGs1 := List D → Rho → (Rho → Prop) → Prop
def ImpGs (K : PySem.W.Frag) (g : TGs) (t : TGs1) : Prop := ∀ (F : Fm) (M : List Addr) (H : Hp) (σ : St) (ρ : Rho) (d : List D) (v : List V) (Q1 : Rho → Prop) (Q : St → Hp → Prop), StR K F M H σ ρ → RpAll K H (M ++ F.L0) d v → t d ρ Q1 → (∀ σ' ρ', StR K F M H σ' ρ' → Q1 ρ' → Q σ' H) → g v σ H Q
def QGs (X : Cx) (es : List Expr) (t : TGs1) : Prop := ∃ g, PGs X es g ∧ ImpGs X.K g t

section
variable {X : Cx} {W : WX} {E1 : E1T} {e : Expr} {es : List Expr} {st : Stmt} {rest body orelse : List Stmt} {pos : Pos} {K : PySem.W.Frag}
theorem same_no {H : Hp} {L M : List Addr} {d : D} {v : V} (r : Rp K H (M ++ L) d v) : Rp K H L d v := Rp.same (Same.refl H) (fun _ _ z => List.mem_append_right _ z) _ _ r

@[simp] abbrev uNext : TS1 := fun D ρ => D.nx ρ
@[simp] abbrev uSeq (t u : TS1) : TS1 := fun D ρ => t { D with nx := u D } ρ
@[simp] abbrev uRet (t : TE1) : TS1 := fun D ρ => t ρ fun d => D.rt d ρ.mu
@[simp] abbrev uRetN : TS1 := fun D ρ => D.rt .non ρ.mu
@[simp] abbrev uSet (i : Nat) (t : TE1) : TS1 := fun D ρ => t ρ fun d => i < ρ.length ∧ D.nx (ρ.set i (.dat d))
@[simp] abbrev uIfS (c : TT1) (t u : TS1) : TS1 := fun D ρ => c ρ fun b => if b = true then t D ρ else u D ρ
@[simp] abbrev uDrop (t : TE1) : TS1 := fun D ρ => t ρ fun _ => D.nx ρ
@[simp] abbrev uOwn (i : Nat) (t : TA1) : TS1 := fun D ρ => t ρ fun ds => ds.length ≤ 1000 ∧ i < ρ.length ∧ D.nx (ρ.set i (.own ds))
@[simp] abbrev uPop (i j : Nat) : TS1 := fun D ρ => ∃ ds d, ρ[i]? = some (.own (ds ++ [d])) ∧ i ≠ j ∧ j < ρ.length ∧ D.nx ((ρ.set i (.own ds)).set j (.dat d))
@[simp] abbrev uApp (i : Nat) (t : TE1) : TS1 := fun D ρ => ∃ ds, ρ[i]? = some (.own ds) ∧ ds.length ≤ 4000000 ∧ t ρ fun d => D.nx (ρ.set i (.own (ds ++ [d])))
@[simp] abbrev uExt (i : Nat) (t : TE1) : TS1 := fun D ρ => ∃ ds, ρ[i]? = some (.own ds) ∧ t ρ fun d => ∃ es, d = .tup es ∧ ds.length + es.length ≤ 1000 ∧ D.nx (ρ.set i (.own (ds ++ es)))
@[simp] abbrev uFrz (i : Nat) (t : TS1) : TS1 := fun D ρ => ∃ ds, ρ[i]? = some (.own ds) ∧ t D (ρ.set i (.dat (.lst ds)))

theorem qss_nil : QSs X W E1 [] uNext := ⟨_, pss_nil, fun F M H σ ρ D1 D S hx t k => k.nx M H σ ρ S t⟩
theorem qss_cons {t u : TS1} (h1 : QS X W E1 st t) (h2 : QSs X W E1 rest u) : QSs X W E1 (st :: rest) (uSeq t u) := by
  obtain ⟨ts, p1, i1⟩ := h1
  obtain ⟨tr, p2, i2⟩ := h2
  refine ⟨_, pss_cons p1 p2, fun F M H σ ρ D1 D S hx t k => ?_⟩
  exact i1 F M H σ ρ _ _ S hx t ⟨fun M' H' σ' ρ' S' t' => i2 F M' H' σ' ρ' D1 D S' hx t' k, k.rt, k.bk, k.ct⟩
theorem qss_one {t : TS1} (h1 : QS X W E1 st t) : QSs X W E1 [st] t := by
  obtain ⟨ts, p1, i1⟩ := h1
  exact ⟨_, pss_one p1, i1⟩
/-- an own list is taken as a datum from here on -/
theorem qss_frz (i : Nat) {t : TS1} (h : QSs X W E1 rest t) : QSs X W E1 rest (uFrz i t) := by
  obtain ⟨ts, p1, i1⟩ := h
  refine ⟨_, p1, fun F M H σ ρ D1 D S hx ⟨ds, e, t⟩ k => ?_⟩
  obtain ⟨M', S'⟩ := S.freeze e
  exact i1 F M' H σ _ D1 D S' hx t k
theorem qs_ret {t : TE1} (h : QE X W E1 e t) : QS X W E1 (.Return (some e) pos) (uRet t) := by
  obtain ⟨te, p1, i1⟩ := h
  refine ⟨_, ps_ret p1, fun F M H σ ρ D1 D S hx t k => ?_⟩
  exact i1 F M H σ ρ _ _ S hx t fun v H' d e1 r1 t1 => k.rt M H' σ ρ v d (S.same e1) r1 t1
theorem qs_retN : QS X W E1 (.Return none pos) uRetN := ⟨_, ps_retN, fun F M H σ ρ D1 D S hx t k => k.rt M H σ ρ _ .non S rfl t⟩
theorem qs_pass : QS X W E1 (.Pass pos) uNext := ⟨_, ps_pass, fun F M H σ ρ D1 D S hx t k => k.nx M H σ ρ S t⟩
theorem qs_break : QS X W E1 (.Break pos) (fun D ρ => D.bk ρ) := ⟨_, ps_break, fun F M H σ ρ D1 D S hx t k => k.bk M H σ ρ S t⟩
theorem qs_continue : QS X W E1 (.Continue pos) (fun D ρ => D.ct ρ) := ⟨_, ps_continue, fun F M H σ ρ D1 D S hx t k => k.ct M H σ ρ S t⟩
theorem qs_never : QS X W E1 st (fun _ _ => False) := ⟨_, ps_never, fun F M H σ ρ D1 D S hx t k => t.elim⟩
theorem qs_expr {t : TE1} (h : QE X W E1 e t) (hs : swapsWith e none pos.line X.env = pure false := by rfl) : QS X W E1 (.Expr e pos) (uDrop t) := by
  obtain ⟨te, p1, i1⟩ := h
  refine ⟨_, ps_expr p1 hs, fun F M H σ ρ D1 D S hx t k => ?_⟩
  exact i1 F M H σ ρ _ _ S hx t fun v H' d e1 r1 t1 => k.nx M H' σ ρ (S.same e1) t1
theorem qs_set (i : Nat) {x : Str} {t : TE1} {pos' : Pos} (hN : X.N.Nodup) (hi : X.N[i]? = some x) (hx : Loc X.env.scope x) (h : QE X W E1 e t) (hs : swapsWith e (some (.Name x pos')) pos.line X.env = pure false := by rfl) (hf : X.fn x = true ∨ X.env.scope.names.lookup x = some .local := by first | exact .inl rfl | exact .inr rfl | assumption) :
    QS X W E1 (.Assign [.Name x pos'] e pos) (uSet i t) := by
  obtain ⟨te, p1, i1⟩ := h
  refine ⟨_, ps_set hN hi hx p1 hs hf, fun F M H σ ρ D1 D S hx t k => ?_⟩
  exact i1 F M H σ ρ _ _ S hx t fun v H' d e1 r1 ⟨hl, t1⟩ => k.nx M H' _ _ ((S.same e1).set i hl r1) t1
/-- x = [..], a list of this frame's own -/
theorem qs_own (i : Nat) {x : Str} {t : TA1} {pos' lpos : Pos} (hN : X.N.Nodup) (hi : X.N[i]? = some x) (hx : Loc X.env.scope x) (h : QA X W E1 es t) (hs : swapsWith (.List es lpos) (some (.Name x pos')) pos.line X.env = pure false := by rfl) (hf : X.fn x = true ∨ X.env.scope.names.lookup x = some .local := by first | exact .inl rfl | exact .inr rfl | assumption) :
    QS X W E1 (.Assign [.Name x pos'] (.List es lpos) pos) (uOwn i t) := by
  obtain ⟨te, p1, i1⟩ := h
  refine ⟨_, ps_set hN hi hx (pe_lst p1) hs hf, fun F M H σ ρ D1 D S hx t k => ?_⟩
  refine i1 F M H σ ρ _ _ S hx t fun vs H' ds e1 r1 ⟨hl, hi', t1⟩ => ⟨Nat.le_of_lt (small1000 (by rw [r1.length]; exact hl)), fun p hp => ?_⟩
  exact k.nx _ _ _ _ ((S.same e1).setOwn hi' hp r1) t1
theorem qs_if {c : Expr} {tc : TT1} {t u : TS1} (hc : QT X W E1 c tc) (ha : QSs X W E1 body t) (hb : QSs X W E1 orelse u) : QS X W E1 (.If c body orelse pos) (uIfS tc t u) := by
  obtain ⟨te, p1, i1⟩ := hc
  obtain ⟨t2, p2, i2⟩ := ha
  obtain ⟨t3, p3, i3⟩ := hb
  refine ⟨_, ps_if p1 p2 p3, fun F M H σ ρ D1 D S hx t k => ?_⟩
  refine i1 F M H σ ρ _ _ S hx t fun b H1 e1 t1 => ?_
  cases b with
  | true => exact i2 F M H1 σ ρ D1 D (S.same e1) hx (by simpa using t1) k
  | false => exact i3 F M H1 σ ρ D1 D (S.same e1) hx (by simpa using t1) k
/-- x = l.pop(), l this frame's own -/
theorem qs_pop (i j : Nat) {x : Str} {lx : Expr} {pos' apos cpos : Pos} (hl : PE X lx (tVar i)) (hN : X.N.Nodup) (hi : X.N[j]? = some x) (hx : Loc X.env.scope x)
    (hbase : attributeBase lx "pop" X.env (eval lx X.env) = eval lx X.env := by rfl) (hline : (apos.endLine == cpos.line) = true := by rfl)
    (hs : swapsWith (.Call (.Attribute lx "pop" apos) [] [] cpos) (some (.Name x pos')) pos.line X.env = pure false := by rfl) (hf : X.fn x = true ∨ X.env.scope.names.lookup x = some .local := by first | exact .inl rfl | exact .inr rfl | assumption) :
    QS X W E1 (.Assign [.Name x pos'] (.Call (.Attribute lx "pop" apos) [] [] cpos) pos) (uPop i j) := by
  refine ⟨_, ps_set hN hi hx (pe_bm0 PySem.F.plainAttrs_list PySem.F.slot_list_pop PySem.F.type_list_pop mt_pop hl hbase hline) hs hf, fun F M H σ ρ D1 D S hx ⟨ds, d, e, ne, hj, t⟩ k => ?_⟩
  obtain ⟨a, xs, h1, h2, h3, h4⟩ := S.getOwn e
  obtain ⟨as, bs, rfl, g1, b, _, rfl, g2, rfl⟩ := RpAll.of_append h4
  refine ⟨_, h1, .inl ⟨rfl, _, SqL.of h3⟩, a, as ++ [b], b, rfl, rfl, h3, by simp, ?_⟩
  rw [List.dropLast_concat]
  refine k.nx M _ _ _ ((S.chg e h1 h2 h3 (ds' := ds) g1).set j (by simpa using hj) (Rp.upd (List.mem_append_left _ h2) h3 _ _ g2)) t
theorem qs_append (i : Nat) {lx a : Expr} {t : TE1} {apos cpos : Pos} (hl : PE X lx (tVar i)) (ha : QE X W E1 a t)
    (hbase : attributeBase lx "append" X.env (eval lx X.env) = eval lx X.env := by rfl) (hline : (apos.endLine == cpos.line) = true := by rfl)
    (hs : swapsWith (.Call (.Attribute lx "append" apos) [a] [] cpos) none pos.line X.env = pure false := by rfl)
    (hfew : ((backTo cpos (starEach (a :: []) X.env)).all (fun x => !x.1) && (backToKw cpos (keywordEach [] X.env)).all (fun x => x.1.isSome)
      && decide ((a :: ([] : List Expr)).length + ([] : List Keyword).length + (if ([] : List Keyword).isEmpty then 0 else 1) < 30)) = true := by rfl)
    (hst : starEach (a :: []) X.env = (false, eval a X.env) :: starEach [] X.env := by rfl) (hplain : (backTo cpos (starEach [] X.env)).any (·.1) = false := by rfl) :
    QS X W E1 (.Expr (.Call (.Attribute lx "append" apos) [a] [] cpos) pos) (uApp i t) := by
  obtain ⟨te, p1, i1⟩ := ha
  refine ⟨_, ps_expr (pe_bm PySem.F.plainAttrs_list PySem.F.slot_list_append PySem.F.type_list_append mt_append hl (pa_cons p1 pa_nil hst) hbase hfew hline hst hplain) hs, fun F M H σ ρ D1 D S hx t k => ?_⟩
  obtain ⟨ds, e, hl, t⟩ := t
  obtain ⟨a, xs, h1, h2, h3, h4⟩ := S.getOwn e
  refine ⟨_, h1, .inl ⟨rfl, _, SqL.of h3⟩, ?_⟩
  refine i1 F M H σ ρ _ _ S hx t fun v H' d e1 r1 t1 => ?_
  have S1 := S.same e1
  have h3' := e1 _ _ h3
  refine ⟨a, xs, v, rfl, rfl, h3', small5 (by rw [h4.length]; exact hl), ?_⟩
  exact k.nx M _ _ _ (S1.chg e h1 h2 h3' (ds' := ds ++ [d]) (RpAll.append (same_all e1 h4) ⟨v, [], rfl, r1, rfl⟩)) t1
end
end DL

set_option maxRecDepth 100000
set_option maxHeartbeats 4000000
namespace DL
open PySem PySem.Spec L2
section
variable {X : Cx} {W : WX} {E1 : E1T} {e : Expr} {es : List Expr} {st : Stmt} {rest body orelse : List Stmt} {pos : Pos} {K : PySem.W.Frag}
/-- l.extend(t) of a tuple -/
def rExtT (K : PySem.W.Frag) : V → List V → Hp → VK → Prop := fun x vs H Q => ∃ l b xs zs, x = .ref l ∧ vs = [.ref b] ∧ H l = some (.lst xs) ∧ SqT K H b zs ∧ xs.length + zs.length ≤ sizeLine ∧ Q .non (upd H l (.lst (xs ++ zs)))
theorem mt_extT : MtM X "list.extend" (rExtT X.K) := by
  intro pins s σ H x vs v us Q I rx rv h
  obtain ⟨l, b, xs, zs, rfl, rfl, hH, hB, hz, q⟩ := h
  cases rx
  obtain ⟨u, rfl, ru⟩ := rv.one
  cases ru
  obtain ⟨z, its, n, r, hl, e⟩ := I.lstM hH
  obtain ⟨ws, r2, ⟨o2, e2, c2, n2, d2⟩, z2⟩ := I.tuple hB
  obtain ⟨cls, dd, data, sl⟩ := o2
  simp only at c2 d2
  subst c2 d2
  have hl2 := r2.length
  have hsz : its.toArray.size + ws.toArray.size ≤ sizeLine := by rw [List.size_toArray, List.size_toArray]; omega
  have hlong : ¬ (!its.toArray.isEmpty && Builtin.List.listTooLong (its.toArray.size + ws.toArray.size)) = true := by
    rw [notLongL hsz, Bool.and_false]
    exact Bool.false_ne_true
  refine call_meets PySem.F.slot_list_extend ⟨_, e, rfl⟩ PySem.F.entry_list_extend (PySem.F.args_list_extend_2 _ _)
    (AutoSeq1.ext_tup l its.toArray n b ws.toArray n2 dd sl hlong (by rw [List.size_toArray]; omega) (by omega)) ⟨e, e2, ?_⟩
  refine ⟨.non, _, I.lset (its' := its ++ ws) hH e (by simp) (r.append r2) ?_, rfl, q⟩
  rw [List.length_append]
  omega
theorem qs_extend (i : Nat) {lx a : Expr} {t : TE1} {apos cpos : Pos} (hl : PE X lx (tVar i)) (ha : QE X W E1 a t)
    (hbase : attributeBase lx "extend" X.env (eval lx X.env) = eval lx X.env := by rfl) (hline : (apos.endLine == cpos.line) = true := by rfl)
    (hs : swapsWith (.Call (.Attribute lx "extend" apos) [a] [] cpos) none pos.line X.env = pure false := by rfl)
    (hfew : ((backTo cpos (starEach (a :: []) X.env)).all (fun x => !x.1) && (backToKw cpos (keywordEach [] X.env)).all (fun x => x.1.isSome)
      && decide ((a :: ([] : List Expr)).length + ([] : List Keyword).length + (if ([] : List Keyword).isEmpty then 0 else 1) < 30)) = true := by rfl)
    (hst : starEach (a :: []) X.env = (false, eval a X.env) :: starEach [] X.env := by rfl) (hplain : (backTo cpos (starEach [] X.env)).any (·.1) = false := by rfl) :
    QS X W E1 (.Expr (.Call (.Attribute lx "extend" apos) [a] [] cpos) pos) (uExt i t) := by
  obtain ⟨te, p1, i1⟩ := ha
  refine ⟨_, ps_expr (pe_bm PySem.F.plainAttrs_list PySem.F.slot_list_extend PySem.F.type_list_extend mt_extT hl (pa_cons p1 pa_nil hst) hbase hfew hline hst hplain) hs, fun F M H σ ρ D1 D S hx t k => ?_⟩
  obtain ⟨ds, e, t⟩ := t
  obtain ⟨a, xs, h1, h2, h3, h4⟩ := S.getOwn e
  refine ⟨_, h1, .inl ⟨rfl, _, SqL.of h3⟩, ?_⟩
  refine i1 F M H σ ρ _ _ S hx t fun v H' d e1 r1 ⟨es, ed, hl, t1⟩ => ?_
  subst ed
  obtain ⟨b, ys, eb, g1, g2⟩ := r1
  subst eb
  have S1 := S.same e1
  have h3' := e1 _ _ h3
  have h4' := same_all e1 h4
  refine ⟨a, b, xs, ys, rfl, rfl, h3', g1, Nat.le_of_lt (small1000 (by rw [h4.length, g2.length]; exact hl)), ?_⟩
  exact k.nx M _ _ _ (S1.chg e h1 h2 h3' (ds' := ds ++ es) (RpAll.append h4' g2)) t1

/-! ### targets -/
@[simp] abbrev gNm (i : Nat) : TG1 := fun d ρ Q => i < ρ.length ∧ Q (ρ.set i (.dat d))
theorem qg_name (i : Nat) {x : Str} (hN : X.N.Nodup) (hi : X.N[i]? = some x) (hx : Loc X.env.scope x) (hf : X.fn x = true ∨ X.env.scope.names.lookup x = some .local := by first | exact .inl rfl | exact .inr rfl | assumption) : QG X (.Name x pos) (gNm i) :=
  ⟨_, pg_name hN hi hx hf, fun F M H σ ρ d v Q1 Q S r ⟨hl, t⟩ q => q _ _ (S.set i hl r) t⟩
@[simp] abbrev gsNil : TGs1 := fun ds ρ Q => ds = [] ∧ Q ρ
@[simp] abbrev gsCons (t : TG1) (u : TGs1) : TGs1 := fun ds ρ Q => match ds with
  | d :: r => t d ρ fun ρ' => u r ρ' Q
  | [] => False
theorem qgs_nil : QGs X [] gsNil := ⟨_, pgs_nil, fun F M H σ ρ d v Q1 Q S r ⟨e, t⟩ q => by
  subst e
  cases r
  exact ⟨rfl, q _ _ S t⟩⟩
theorem qgs_cons {t : TG1} {u : TGs1} (h1 : QG X e t) (h2 : QGs X es u) (hs : (assignEach (e :: es) X.env).map (·.2) = assign e X.env :: (assignEach es X.env).map (·.2) := by rfl) : QGs X (e :: es) (gsCons t u) := by
  obtain ⟨g, p1, i1⟩ := h1
  obtain ⟨g2, p2, i2⟩ := h2
  refine ⟨_, pgs_cons p1 p2 hs, fun F M H σ ρ d v Q1 Q S r t q => ?_⟩
  cases d with
  | nil => exact t.elim
  | cons d0 dr =>
  obtain ⟨x, vr, e, r1, r2⟩ := r
  subst e
  exact ⟨x, vr, rfl, i1 F M H σ ρ d0 x _ _ S r1 t fun σ' ρ' S' t' => i2 F M H σ' ρ' dr vr _ _ S' r2 t' q⟩
@[simp] abbrev gTp (n : Nat) (t : TGs1) : TG1 := fun d ρ Q => ∃ ds, d = .tup ds ∧ ds.length = n ∧ t ds ρ Q
theorem qg_tup {k : Nat} {t : TGs1} {n : Nat} (hc : X.calm = true) (h : QGs X es t) (hn : (assignEach es X.env).length = n := by rfl) (hst : (assignEach es X.env).findIdx? (·.1) = none := by rfl) : QG X (.Tuple es k pos) (gTp n t) := by
  obtain ⟨g, p1, i1⟩ := h
  refine ⟨_, pg_tup hc p1 hn hst, fun F M H σ ρ d v Q1 Q S r ⟨ds, ed, hl, t⟩ q => ?_⟩
  subst ed
  obtain ⟨a, xs, ev, h1, h2⟩ := r
  exact ⟨a, xs, ev, h1, by rw [h2.length]; exact hl, i1 F M H σ ρ ds xs _ _ S h2 t q⟩
@[simp] abbrev uAsg (t : TE1) (g : TG1) : TS1 := fun D ρ => t ρ fun d => g d ρ D.nx
theorem qs_asg {tg : Expr} {t : TE1} {g : TG1} (he : QE X W E1 e t) (hg : QG X tg g) (hs : swapsWithSole [tg] e pos.line X.env = pure false := by rfl) (hw : swappedStores [tg] e X.env = pure none := by rfl)
    (h1 : (assignEach [tg] X.env).map (·.2) = [assign tg X.env] := by rfl) : QS X W E1 (.Assign [tg] e pos) (uAsg t g) := by
  obtain ⟨te, p1, i1⟩ := he
  obtain ⟨g2, p2, i2⟩ := hg
  refine ⟨_, ps_asg p1 p2 hs hw h1, fun F M H σ ρ D1 D S hx t k => ?_⟩
  exact i1 F M H σ ρ _ _ S hx t fun v H1 d e1 r1 t1 => i2 F M H1 σ ρ d v _ _ (S.same e1) r1 t1 fun σ' ρ' S' t' => k.nx M H1 σ' ρ' S' t'
/-- a, b = e1, e2, two different names -/
@[simp] abbrev uPar (i j : Nat) (t : TA1) : TS1 := fun D ρ => t ρ fun ds => ∃ d e, ds = [d, e] ∧ i < ρ.length ∧ j < ρ.length ∧ D.nx ((ρ.set i (.dat d)).set j (.dat e))
theorem qs_par (i j : Nat) {x y : Str} {a b : Expr} {t : TA1} {px py pt : Pos} {kt k2 pt2} (hc : X.calm = true) (hN : X.N.Nodup) (hi : X.N[i]? = some x) (hj : X.N[j]? = some y) (hij : i ≠ j)
    (hx : X.env.scope.names.lookup x = some .local) (hy : X.env.scope.names.lookup y = some .local) (ha : QA X W E1 [a, b] t)
    (hw : swappedStores [.Tuple [.Name x px, .Name y py] kt pt] (.Tuple [a, b] k2 pt2) X.env = pure (some [x, y]))
    (hs : swapsWithSole [.Tuple [.Name x px, .Name y py] kt pt] (.Tuple [a, b] k2 pt2) pos.line X.env = pure false := by rfl) :
    QS X W E1 (.Assign [.Tuple [.Name x px, .Name y py] kt pt] (.Tuple [a, b] k2 pt2) pos) (uPar i j t) := by
  obtain ⟨te, p1, i1⟩ := ha
  refine ⟨_, ps_par hc hN hi hj hij hx hy p1 hw hs, fun F M H σ ρ D1 D S hx t k => ?_⟩
  refine i1 F M H σ ρ _ _ S hx t fun vs H1 ds e1 r1 ⟨d, d2, ed, l1, l2, t1⟩ => ?_
  subst ed
  obtain ⟨v, r, e2, g1, w, r2, e3, g2, e4⟩ := r1
  subst e4 e3 e2
  exact ⟨v, w, rfl, k.nx M H1 _ _ (((S.same e1).set i l1 g1).set j (by simpa using l2) g2) t1⟩

/-! ### while -/
/-- the truth of a list of this frame's own -/
theorem qt_own (i : Nat) {lx : Expr} (hl : PE X lx (tVar i)) (he : ∀ whole, isTrue lx X.env whole = (do let v ← whole; standAt lx.pos; holding [v] (truthy v)) := by intro _; rfl) :
    QT X W E1 lx (fun ρ Q => ∃ ds, ρ[i]? = some (.own ds) ∧ Q (!ds.isEmpty)) := by
  refine ⟨_, pt_truth hl he, fun F M H σ ρ Q1 Q S hx ⟨ds, e, t⟩ q => ?_⟩
  obtain ⟨a, xs, h1, h2, h3, h4⟩ := S.getOwn e
  refine ⟨_, h1, !xs.isEmpty, .inl ⟨xs, SqL.of h3, rfl⟩, ?_⟩
  have e2 : xs.isEmpty = ds.isEmpty := by
    have := h4.length
    cases xs <;> cases ds <;> simp_all
  rw [e2]
  exact q _ H (Same.refl H) t
@[simp] abbrev uWhile (c : TT1) (tb : TS1) : TS1 := fun D ρ => ∃ Iv : Nat → Rho → Prop, (∃ m, Iv m ρ) ∧ ∀ m ρ, Iv m ρ → c ρ fun b => if b = true then tb { nx := fun ρ' => ∃ m', m' < m ∧ Iv m' ρ', rt := D.rt, bk := D.nx, ct := fun ρ' => ∃ m', m' < m ∧ Iv m' ρ' } ρ else D.nx ρ
theorem qs_while {c : Expr} {tc : TT1} {tb : TS1} (hp : PassesOwn (model X.prog X.w) X.A X.env X.xe) (hc : QT X W E1 c tc) (hb : QSs X W E1 body tb) : QS X W E1 (.While c body [] pos) (uWhile tc tb) := by
  obtain ⟨t1, p1, i1⟩ := hc
  obtain ⟨t2, p2, i2⟩ := hb
  refine ⟨_, ps_while hp p1 p2, fun F M H σ ρ D1 D S hx ⟨Iv, ⟨m0, w0⟩, turn⟩ k => ?_⟩
  refine ⟨fun m σ H => ∃ M ρ, StR X.K F M H σ ρ ∧ Iv m ρ, ⟨m0, M, ρ, S, w0⟩, fun m σ H hm => ?_⟩
  obtain ⟨M, ρ, S, w⟩ := hm
  refine i1 F M H σ ρ _ _ S hx (turn m ρ w) fun b H1 e1 q => ?_
  cases b with
  | true =>
    refine ⟨fun σ' H' => ∃ m', m' < m ∧ ∃ M' ρ', StR X.K F M' H' σ' ρ' ∧ Iv m' ρ', fun σ' H' ⟨m', l, M', ρ', S', w'⟩ => ⟨m', l, M', ρ', S', w'⟩, ?_⟩
    refine i2 F M H1 σ ρ { nx := fun ρ' => ∃ m', m' < m ∧ Iv m' ρ', rt := D1.rt, bk := D1.nx, ct := fun ρ' => ∃ m', m' < m ∧ Iv m' ρ' } _ (S.same e1) hx (by simpa using q) ⟨fun M' H' σ' ρ' S' ⟨m', l, w'⟩ => ⟨m', l, M', ρ', S', w'⟩, k.rt, fun M' H' σ' ρ' S' t => k.nx M' H' σ' ρ' S' t, fun M' H' σ' ρ' S' ⟨m', l, w'⟩ => ⟨m', l, M', ρ', S', w'⟩⟩
  | false => exact k.nx M H1 σ ρ (S.same e1) (by simpa using q)

/-! ### for -/
/-- the items ds, one a turn, while the data of P' stand -/
def ItOk (K : PySem.W.Frag) (F : Fm) (J : It) (ds : List D) : Prop := ∀ (M : List Addr) (H : Hp) (σ : St) (ρ : Rho), StR K F M H σ ρ → ∀ i : Nat,
  (∀ d, ds[i]? = some d → J.go i H ∧ ∀ x H', J.yld i H x H' → Same H H' ∧ Rp K H' (M ++ F.L0) d x) ∧ (ds.length ≤ i → J.stop i H)
def QI (X : Cx) (W : WX) (E1 : E1T) (tg iter : Expr) (t : TA1) : Prop := ∃ wi, PI X tg iter wi ∧ ∀ (F : Fm) (M : List Addr) (H : Hp) (σ : St) (ρ : Rho) (Q1 : List D → Prop) (R : It → Hp → Prop), StR X.K F M H σ ρ → Xok X.K F W E1 → t ρ Q1 →
  (∀ J H' P' ds, Same H H' → (∀ p ∈ P', Rp X.K H' (M ++ F.L0) p.1 p.2) → ItOk X.K { F with P := P' ++ F.P } J ds → Q1 ds → R J H') → wi σ H R
@[simp] abbrev uFor (t : TA1) (g : TG1) (tb : TS1) : TS1 := fun D ρ => t ρ fun ds => ∃ Iv : Nat → Rho → Prop, Iv 0 ρ ∧ (∀ i d ρ, ds[i]? = some d → Iv i ρ → g d ρ fun ρ' => tb { nx := Iv (i + 1), rt := D.rt, bk := D.nx, ct := Iv (i + 1) } ρ') ∧ ∀ ρ, Iv ds.length ρ → D.nx ρ
theorem Xok.pin {F : Fm} {P' : List (D × V)} (h : Xok K F W E1) : Xok K { F with P := P' ++ F.P } W E1 := fun C M H σ ρ S t => h C M H σ ρ (S.unpin fun p hp => List.mem_append_right _ hp) t
theorem qs_for {tg iter : Expr} {t : TA1} {g : TG1} {tb : TS1} (hp : PassesOwn (model X.prog X.w) X.A X.env X.xe) (hc : X.calm = true) (hi : QI X W E1 tg iter t) (hg : QG X tg g) (hb : QSs X W E1 body tb)
    (hs : ∀ x, foldedSetIterable iter X.env x = pure x := by intro _; rfl) : QS X W E1 (.For tg iter body [] pos) (uFor t g tb) := by
  obtain ⟨wi, p0, i0⟩ := hi
  obtain ⟨t1, p1, i1⟩ := hg
  obtain ⟨t2, p2, i2⟩ := hb
  refine ⟨_, ps_for hp hc p0 p1 p2 hs, fun F M H σ ρ D1 D S hx t k => ?_⟩
  refine i0 F M H σ ρ _ _ S hx t fun J H1 P' ds e1 hP hJ ⟨Iv, v0, turn, fin⟩ => ?_
  have up : ∀ p ∈ F.P, p ∈ P' ++ F.P := fun p hp => List.mem_append_right _ hp
  have S1 : StR X.K { F with P := P' ++ F.P } M H1 σ ρ := by
    have S0 := S.same e1
    exact ⟨S0.ext, S0.al, S0.fr, S0.sl, S0.uq, fun p hp => (List.mem_append.mp hp).elim (hP p) (S0.pn p), S0.gl, S0.mu, S0.nd, S0.ma⟩
  refine ⟨fun i m σ H => m = ds.length - i ∧ i ≤ ds.length ∧ ∃ M ρ, StR X.K { F with P := P' ++ F.P } M H σ ρ ∧ Iv i ρ, ⟨_, rfl, Nat.zero_le _, M, ρ, S1, v0⟩, fun i m σ H hm => ?_⟩
  obtain ⟨hm, hi, M, ρ, S, w⟩ := hm
  have j := hJ M H σ ρ S i
  by_cases hlt : i < ds.length
  · obtain ⟨go, yl⟩ := j.1 _ (List.getElem?_eq_getElem hlt)
    refine .inr ⟨go, fun σ' H' => ∃ M ρ, StR X.K { F with P := P' ++ F.P } M H' σ' ρ ∧ Iv (i + 1) ρ, fun σ' H' h' => ⟨ds.length - (i + 1), by omega, rfl, hlt, h'⟩, fun x H' y => ?_⟩
    obtain ⟨e2, r2⟩ := yl x H' y
    refine i1 _ M H' σ ρ _ x _ _ (S.same e2) r2 (turn i _ ρ (List.getElem?_eq_getElem hlt) w) fun σ' ρ' S' t' => ?_
    refine i2 _ M H' σ' ρ' { nx := Iv (i + 1), rt := D1.rt, bk := D1.nx, ct := Iv (i + 1) } _ S' hx.pin t' ⟨fun M' H'' σ'' ρ'' S'' w'' => ⟨M', ρ'', S'', w''⟩, fun M' H'' σ'' ρ'' v d S'' r'' t'' => k.rt M' H'' σ'' ρ'' v d (S''.unpin up) r'' t'', fun M' H'' σ'' ρ'' S'' t'' => k.nx M' H'' σ'' ρ'' (S''.unpin up) t'', fun M' H'' σ'' ρ'' S'' w'' => ⟨M', ρ'', S'', w''⟩⟩
  · have e : i = ds.length := by omega
    subst e
    exact .inl ⟨j.2 (Nat.le_refl _), k.nx M H σ ρ (S.unpin up) (fin ρ w)⟩
/-- over a list, a tuple -/
@[simp] abbrev uItL (t : TE1) : TA1 := fun ρ Q => t ρ fun d => ∃ ds, d = .lst ds ∧ Q ds
@[simp] abbrev uItT (t : TE1) : TA1 := fun ρ Q => t ρ fun d => ∃ ds, d = .tup ds ∧ Q ds
theorem qi_list {tg : Expr} {t : TE1} (h : QE X W E1 e t) : QI X W E1 tg e (uItL t) := by
  obtain ⟨te, p1, i1⟩ := h
  refine ⟨_, pi_list p1, fun F M H σ ρ Q1 R S hx t q => ?_⟩
  refine i1 F M H σ ρ _ _ S hx t fun v H1 d e1 r1 ⟨ds, ed, t1⟩ => ?_
  subst ed
  have r0 := r1
  obtain ⟨a, xs, ev, h1, g1⟩ := r1
  subst ev
  refine ⟨a, rfl, ⟨xs, h1.sq⟩, q _ H1 [(.lst ds, .ref a)] ds e1 (fun p hp => ?_) (fun M' H' σ' ρ' S' i => ?_) t1⟩
  · rw [List.mem_singleton.mp hp]; exact r0
  · obtain ⟨a', xs', ev, h1', g1'⟩ := S'.pn (.lst ds, .ref a) (by simp)
    cases ev
    refine ⟨fun d hd => ?_, fun hl => ⟨xs', h1'.sq, by rw [g1'.length]; exact hl⟩⟩
    obtain ⟨x, hx, rx⟩ := g1'.get hd
    exact ⟨⟨xs', x, h1'.sq, hx⟩, fun y H'' ⟨eH, hy⟩ => by
      subst eH
      have z := hy xs' h1'.sq
      rw [hx] at z
      cases z
      exact ⟨Same.refl _, rx⟩⟩
theorem qi_tup {tg : Expr} {t : TE1} (h : QE X W E1 e t) : QI X W E1 tg e (uItT t) := by
  obtain ⟨te, p1, i1⟩ := h
  refine ⟨_, pi_tup p1, fun F M H σ ρ Q1 R S hx t q => ?_⟩
  refine i1 F M H σ ρ _ _ S hx t fun v H1 d e1 r1 ⟨ds, ed, t1⟩ => ?_
  subst ed
  have r0 := r1
  obtain ⟨a, xs, ev, h1, g1⟩ := r1
  subst ev
  refine ⟨a, rfl, ⟨xs, h1⟩, q _ H1 [(.tup ds, .ref a)] ds e1 (fun p hp => ?_) (fun M' H' σ' ρ' S' i => ?_) t1⟩
  · rw [List.mem_singleton.mp hp]; exact r0
  · obtain ⟨a', xs', ev, h1', g1'⟩ := S'.pn (.tup ds, .ref a) (by simp)
    cases ev
    refine ⟨fun d hd => ?_, fun hl => ⟨xs', h1', by rw [g1'.length]; exact hl⟩⟩
    obtain ⟨x, hx, rx⟩ := g1'.get hd
    exact ⟨⟨xs', x, h1', hx⟩, fun y H'' ⟨eH, hy⟩ => by
      subst eH
      have z := hy xs' h1'
      rw [hx] at z
      cases z
      exact ⟨Same.refl _, rx⟩⟩
/-- over enumerate(list) -/
@[simp] abbrev uItE (t : TE1) : TA1 := fun ρ Q => t ρ fun d => ∃ ds, d = .lst ds ∧ Q (ds.mapIdx fun i d => .tup [.int (i : Nat), d])
theorem qi_enum {elts : List Expr} {kk : Nat} {p tpos : Pos} {t : TE1} (hg : Gl X "enumerate") (hm : X.mg "enumerate" = none) (h : QE X W E1 e t) (hs : starEach [e] X.env = [(false, eval e X.env)] := by rfl) :
    QI X W E1 (.Tuple elts kk tpos) (.Call (.Name "enumerate" p) [e] [] pos) (uItE t) := by
  obtain ⟨te, p1, i1⟩ := h
  refine ⟨_, pi_enum hg hm (pa_cons p1 pa_nil (by rw [hs]; rfl)) hs, fun F M H σ ρ Q1 R S hx t q => ?_⟩
  refine i1 F M H σ ρ _ _ S hx t fun v H1 d e1 r1 ⟨ds, ed, t1⟩ => ?_
  subst ed
  have r0 := r1
  obtain ⟨a, xs, ev, h1, g1⟩ := r1
  subst ev
  refine ⟨a, xs, rfl, h1.sq, q _ H1 [(.lst ds, .ref a)] _ e1 (fun p hp => ?_) (fun M' H' σ' ρ' S' i => ?_) t1⟩
  · rw [List.mem_singleton.mp hp]; exact r0
  · obtain ⟨a', xs', ev, h1', g1'⟩ := S'.pn (.lst ds, .ref a) (by simp)
    cases ev
    refine ⟨fun d hd => ?_, fun hl => ⟨xs', h1'.sq, by rw [g1'.length]; simpa using hl⟩⟩
    rw [List.getElem?_mapIdx] at hd
    cases hq : ds[i]? with
    | none => rw [hq] at hd; cases hd
    | some d0 =>
      rw [hq] at hd
      cases hd
      obtain ⟨x, hx, rx⟩ := g1'.get hq
      refine ⟨⟨xs', x, h1'.sq, hx⟩, fun y H'' ⟨T, z, ey, nT, eH, hy⟩ => ?_⟩
      subst ey eH
      have w := hy xs' h1'.sq
      rw [hx] at w
      cases w
      have en := same_new nT (.tup [.int (i : Nat), x])
      exact ⟨en, T, _, rfl, SqT.of upd_same, _, _, rfl, rfl, _, _, rfl, same_rp en rx, rfl⟩
/-- over range(n) -/
abbrev rngD (lo : Int) (n : Nat) : List D := (List.range n).map fun (i : Nat) => .int (lo + (i : Nat))
theorem qi_range1 {tg a : Expr} {p : Pos} {t : TE1} (hg : Gl X "range") (hm : X.mg "range" = none) (h : QE X W E1 a t) (hs : starEach [a] X.env = [(false, eval a X.env)] := by rfl) :
    QI X W E1 tg (.Call (.Name "range" p) [a] [] pos) (fun ρ Q => t ρ fun d => ∃ n : Int, d = .int n ∧ -(2 ^ 62) ≤ n ∧ n < 2 ^ 62 ∧ Q (rngD 0 n.toNat)) := by
  obtain ⟨te, p1, i1⟩ := h
  refine ⟨_, pi_range1 hg hm (pa_cons p1 pa_nil (by rw [hs]; rfl)) hs, fun F M H σ ρ Q1 R S hx t q => ?_⟩
  refine i1 F M H σ ρ _ _ S hx t fun v H1 d e1 r1 ⟨n, ed, b1, b2, t1⟩ => ?_
  subst ed
  cases r1
  refine ⟨n, rfl, b1, b2, q _ H1 [] _ e1 (fun p hp => by simp at hp) (fun M' H' σ' ρ' S' i => ?_) t1⟩
  refine ⟨fun d hd => ?_, fun hl => by show n.toNat ≤ i; simpa using hl⟩
  obtain ⟨hi, hd⟩ := List.getElem?_eq_some_iff.mp hd
  simp at hi hd
  subst hd
  exact ⟨by show i < n.toNat; omega, fun y H'' ⟨eH, ey⟩ => by
    subst eH ey
    exact ⟨Same.refl _, by show V.int _ = V.int _; simp⟩⟩
end

/-! ### a def's promise by its body -/
section
variable {P : Program} {w : World} {K : PySem.W.Frag} {mg : Str → Option Value} {base : Heap}
/-- the names at the entry -/
def begun (n : Nat) (ds : List D) : Rho := ⟨ds.map Sl.dat ++ List.replicate (n - ds.length) .un, []⟩
def begunG (n : Nat) (ds : List D) (g : Store) : Rho := ⟨ds.map Sl.dat ++ List.replicate (n - ds.length) .un, g⟩
/-- what may be changed, as it is handed over -/
structure StoreR (K : PySem.W.Frag) (H : Hp) (L : List Addr) (g : Store) : Prop where
  at_ : ∀ e ∈ g, e.a ∈ L ∧ RpMu K H L e.a e.m
  nd : (g.map (·.a)).Nodup
/-- the places that may be changed here -/
def wrs (g : Store) : List Addr := (g.filter (·.w)).map (·.a)
theorem mem_wrs {g : Store} {a : Addr} : a ∈ wrs g ↔ ∃ e ∈ g, e.w = true ∧ e.a = a := by
  unfold wrs
  simp only [List.mem_map, List.mem_filter]
  exact ⟨fun ⟨e, ⟨h1, h2⟩, h3⟩ => ⟨e, h1, h2, h3⟩, fun ⟨e, h1, h2, h3⟩ => ⟨e, ⟨h1, h2⟩, h3⟩⟩
theorem StoreR.mutAt {H : Hp} {L : List Addr} {g : Store} (h : StoreR K H L g) : MutAt (wrs g) H := fun a ha => by
  obtain ⟨e, he, _, rfl⟩ := mem_wrs.mp ha
  obtain ⟨o, ho, hm, _⟩ := (h.at_ e he).2.mut
  exact ⟨o, ho, hm⟩
theorem StoreR.sub {H : Hp} {L : List Addr} {g : Store} (h : StoreR K H L g) : ∀ a ∈ wrs g, a ∈ L := fun a ha => by
  obtain ⟨e, he, _, rfl⟩ := mem_wrs.mp ha
  exact (h.at_ e he).1
theorem str_startG {H : Hp} {L : List Addr} {N : List Str} {ds : List D} {vs : List V} {g : Store} (hL : ∀ a ∈ L, H a ≠ none) (r : RpAll K H L ds vs) (hg : StoreR K H L g) : StR K ⟨H, L, [], wrs g, g.map (·.a)⟩ [] H (L2.start N vs) (begunG N.length ds g) := by
  have hl := r.length
  refine ⟨.of _ (Same.refl H), hL, fun a ha => by simp at ha, fun i x q => ?_, fun i j us ws a p1 => ?_, fun p hp => by simp at hp, hg.sub, fun e he => ⟨(hg.at_ e he).1, fun w => .inr (mem_wrs.mpr ⟨e, he, w, rfl⟩), (hg.at_ e he).2⟩, hg.nd, fun e he => .inr (List.mem_map.mpr ⟨e, he, rfl⟩)⟩
  · unfold begunG at q
    unfold L2.start
    dsimp only at q
    by_cases hi : i < ds.length
    · rw [List.getElem?_append_left (by simpa using hi), List.getElem?_map] at q
      rw [List.getElem?_append_left (by simpa [hl] using hi), List.getElem?_map]
      cases e : ds[i]? with
      | none => rw [e] at q; cases q
      | some d =>
        rw [e] at q
        cases q
        obtain ⟨v, hv, rv⟩ := r.get e
        exact ⟨some v, by rw [hv]; rfl, v, rfl, rv⟩
    · have hq : i - ds.length < N.length - ds.length ∧ x = .un := by
        rw [List.getElem?_append_right (by simpa using Nat.le_of_not_lt hi), List.getElem?_replicate] at q
        split at q
        · cases q
          rename_i hh
          exact ⟨by simpa using hh, rfl⟩
        · cases q
      obtain ⟨hq, rfl⟩ := hq
      refine ⟨none, ?_, trivial⟩
      rw [List.getElem?_append_right (by simp [hl]; omega), List.getElem?_replicate, if_pos (by simp [hl]; omega)]
  · exfalso
    unfold begunG at p1
    have := List.mem_of_getElem? p1
    simp at this
theorem str_start {H : Hp} {L : List Addr} {N : List Str} {ds : List D} {vs : List V} (hL : ∀ a ∈ L, H a ≠ none) (r : RpAll K H L ds vs) : StR K ⟨H, L, [], [], []⟩ [] H (L2.start N vs) (begun N.length ds) :=
  str_startG (g := []) hL r ⟨fun _ h => by simp at h, List.nodup_nil⟩
/-- THE RULE for a def that raises nothing -/
theorem okD {x qual : Str} {st : Stmt} {f : Addr} {fd : FuncData} {N ps : List Str} {k : Nat} {R : List D → Re → Prop} (Fn : Fun K x qual st f fd) (S : FnScope N ps (defScope st)) (len : ∀ ds r, R ds r → ds.length = ps.length)
    (body : ∀ (cdv : Value) (A : Around) (outer : List Env) (s : Shared) (H : Hp) (E : XK), Room k (A.deeper (PyProof.Rows.envOfC qual (defScope st) s.heap.objs.size f cdv)) →
      ∃ t, QSs (cxOf CX0 P w K mg base N qual (defScope st) f cdv A outer s H E).nox (fun _ _ _ _ => False) (fun _ _ => False) (defBody st) t ∧
        ∀ ds r, R ds r → ∃ d, r = .ok d ∧ t { nx := fun _ => D.non = d, rt := fun z _ => z = d } (begun N.length ds)) : FnOk P w K mg base CX0 (k + 1) f fd ps (spD K R) := by
  refine Fn.ok S (fun vs H Q E h => ?_) (fun cdv A outer s H vs Q E hr h => ?_)
  · obtain ⟨L, ds, r, hL, ra, hR, _⟩ := h
    rw [ra.length]
    exact len ds r hR
  · obtain ⟨L, ds, r, hL, ra, hR, qo, _⟩ := h
    obtain ⟨t, ⟨ts, p1, i1⟩, hw⟩ := body cdv A outer s H E hr
    obtain ⟨d, er, t1⟩ := hw ds r hR
    refine ⟨ts, p1, i1 ⟨H, L, [], [], []⟩ [] H _ _ _ _ (str_start hL ra) (fun C M H σ ρ _ z => z.elim) t1 ⟨fun M H' σ ρ S' z => ?_, fun M H' σ ρ v z S' r1 e2 => ?_, fun _ _ _ _ _ z => z.elim, fun _ _ _ _ _ z => z.elim⟩⟩
    · exact qo d .non H' er S'.ext.nil (by rw [← show D.non = d from z]; rfl)
    · have e2' : z = d := e2
      subst e2'
      exact qo z v H' er S'.ext.nil (same_no r1)
end
end DL

set_option maxRecDepth 100000
set_option maxHeartbeats 4000000
namespace DL
open PySem PySem.Spec L2
theorem room65 {k : Nat} {A : Around} (hr : Room k A) : A.units + 65 < cLine := by have := hr.un; omega
/-- a def of the text -/
structure Dfn (K : PySem.W.Frag) (mg : Str → Option Value) (x : Str) (st : Stmt) (ps : List Str) : Prop where
  ex : ∃ (y : Str) (f : Addr) (fd : FuncData), Fun K y y st f fd ∧ Binds K fd ps [] ∧ mg x = some (.ref f)
theorem dfn_mk {K : PySem.W.Frag} {h : Heap} {mg : Str → Option Value} {x : Str} (y : Str) {st : Stmt} {ps : List Str} {f : Addr} {od an : Option Addr} {sl : Array (Option Value)} {oc kV dc pm cd ct : Value} (KX : K.In h) (G : h.Ns mainGlobals mg)
    (a1 : PySem.W.nsIn K mainGlobals x = some (some (.ref f))) (l1 : K.lookup f = some ⟨oc, od, .func (PySem.W.fnOf y y (defArgs st) (defBody st) (defScope st) .none kV dc pm an cd ct), sl⟩) (c1 : PySem.W.codeIn K cd y = true) (k1 : PySem.W.keepIn K (.ref f) = true)
    (hb : ∀ (kV doc pm : Value) (an : Option Addr) (cdv ct : Value) (us : List Value), us.length = ps.length → bindArgs (PySem.W.fnOf y y (defArgs st) (defBody st) (defScope st) .none kV doc pm an cdv ct) ⟨us, []⟩ = pure (ps.zip us)) : Dfn K mg x st ps :=
  ⟨y, f, _, fun_mk (st := st) l1 c1 k1, (fun_mk (st := st) l1 c1 k1).binds hb, PySem.W.mg_of KX G a1⟩
/-- a def that may be called, with what it does -/
structure Cal (P : Program) (w : World) (K : PySem.W.Frag) (mg : Str → Option Value) (base : Heap) (CX : CXT) (k : Nat) (x : Str) (ps : List Str) (R : List D → Re → Prop) : Prop where
  ex : ∃ (f : Addr) (fd : FuncData), FnOk P w K mg base CX k f fd ps (spD K R) ∧ Binds K fd ps [] ∧ PySem.W.keepIn K (.ref f) = true ∧ mg x = some (.ref f)
section
variable {P : Program} {w : World} {K : PySem.W.Frag} {mg : Str → Option Value} {base : Heap} {X : Cx} {W : WX} {E1 : E1T} {a : Expr} {es : List Expr} {pos p : Pos}
theorem Cal.mono {CX : CXT} {j k : Nat} {x : Str} {ps : List Str} {R : List D → Re → Prop} (C : Cal P w K mg base CX j x ps R) (h : j ≤ k) : Cal P w K mg base CX k x ps R := by
  obtain ⟨f, fd, G, b, kp, m⟩ := C.ex
  exact ⟨f, fd, G.mono h, b, kp, m⟩
theorem Cal.imp {CX : CXT} {k : Nat} {x : Str} {ps : List Str} {R R' : List D → Re → Prop} (C : Cal P w K mg base CX k x ps R) (h : ∀ ds r, R' ds r → R ds r) : Cal P w K mg base CX k x ps R' := by
  obtain ⟨f, fd, G, b, kp, m⟩ := C.ex
  exact ⟨f, fd, G.imp fun vs H Q E ⟨L, ds, r, h1, h2, h3, h4⟩ => ⟨L, ds, r, h1, h2, h ds r h3, h4⟩, b, kp, m⟩
theorem q_cal {j k : Nat} {x : Str} {ps : List Str} {R : List D → Re → Prop} {t : TA1} (C : Cal X.prog X.w X.K X.mg X.base CX0 j x ps R) (hr : Room k X.A) (hj : j ≤ k) (hg : Gl X x) (ha : QA X W E1 (a :: es) t)
    (hdb : (x == ("__debug__" : Str)) = false := by decide) (he : starEach (a :: es) X.env = (false, eval a X.env) :: starEach es X.env := by rfl) (hpl : (backTo pos (starEach es X.env)).any (·.1) = false := by rfl) :
    QE X W E1 (.Call (.Name x p) (a :: es) [] pos) (uDef0 (fun ds d => R ds (.ok d)) t) := by
  obtain ⟨f, fd, G, b, kp, m⟩ := C.ex
  exact q_call G (hr.mono hj) hg m kp b ha hdb he hpl
/-- a def that raises nothing -/
theorem Dfn.ok {x : Str} {st : Stmt} {N ps : List Str} {k : Nat} {R : List D → Re → Prop} (Df : Dfn K mg x st ps) (S : FnScope N ps (defScope st)) (len : ∀ ds r, R ds r → ds.length = ps.length)
    (body : ∀ (y : Str) (f : Addr) (cdv : Value) (A : Around) (outer : List Env) (s : Shared) (H : Hp) (E : XK), Room k (A.deeper (PyProof.Rows.envOfC y (defScope st) s.heap.objs.size f cdv)) →
      ∃ t, QSs (cxOf CX0 P w K mg base N y (defScope st) f cdv A outer s H E).nox (fun _ _ _ _ => False) (fun _ _ => False) (defBody st) t ∧
        ∀ ds r, R ds r → ∃ d, r = .ok d ∧ t { nx := fun _ => D.non = d, rt := fun z _ => z = d } (begun N.length ds)) : Cal P w K mg base CX0 (k + 1) x ps R := by
  obtain ⟨y, f, fd, Fn, b, m⟩ := Df.ex
  exact ⟨f, fd, okD Fn S len (body y f), b, Fn.kp, m⟩
/-- nothing can be asked -/
theorem Dfn.none {x : Str} {st : Stmt} {ps : List Str} {R : List D → Re → Prop} (Df : Dfn K mg x st ps) (no : ∀ ds r, ¬ R ds r) : Cal P w K mg base CX0 0 x ps R := by
  obtain ⟨y, f, fd, Fn, b, m⟩ := Df.ex
  have no' : ∀ vs H Q E, ¬ spD K R vs H Q E := fun vs H Q E ⟨L, ds, r, _, _, h, _⟩ => no ds r h
  exact ⟨f, fd, ⟨fun vs H Q E h => absurd h (no' vs H Q E), fun A outer s H args us vs Q E _ _ _ _ h => absurd h (no' vs H Q E)⟩, b, Fn.kp, m⟩
/-- what the law promises -/
def spLaw (K : PySem.W.Frag) : Sp := fun vs H Q _ => ∃ (a : Addr) (ns : List Int), vs = [.ref a] ∧ SqL K H a (ns.map V.int) ∧ ns.length ≤ 63 ∧ ∀ H', Q (.bl true) H'
def rLaw : List D → Re → Prop := fun ds r => ∃ ns : List Int, ds = [.lst (iL ns)] ∧ ns.length ≤ 63 ∧ r = .ok (.bl true)
theorem rp_of_ints {H : Hp} {L : List Addr} : ∀ ns : List Int, RpAll K H L (iL ns) (ns.map V.int)
  | [] => rfl
  | n :: ns => ⟨_, _, rfl, rfl, rp_of_ints ns⟩
theorem law_imp {CX : CXT} {k : Nat} {f : Addr} {fd : FuncData} {ps : List Str} (G : FnOk P w K mg base CX k f fd ps (spD K rLaw)) : FnOk P w K mg base CX k f fd ps (spLaw K) :=
  G.imp fun vs H Q E ⟨a, ns, e, hS, hl, q⟩ => by
    subst e
    refine ⟨[], [.lst (iL ns)], .ok (.bl true), fun _ z => by simp at z, ⟨_, _, rfl, ⟨a, ns.map V.int, rfl, ?_, rp_of_ints ns⟩, rfl⟩, ⟨ns, rfl, hl, rfl⟩, fun d v H' e0 e1 r1 => ?_, fun C H' e0 => nomatch e0⟩
    · rcases hS with hS | hS
      · exact .inl ⟨by simp, hS⟩
      · exact .inr hS
    · cases e0
      cases r1
      exact q H'
end
end DL

set_option maxRecDepth 100000
set_option maxHeartbeats 4000000
namespace DL
open PySem PySem.Spec L2
theorem q_dct {X : Cx} {W : WX} {E1 : E1T} {pos : Pos} : QE X W E1 (.Dict [] [] pos) (uC .dct) :=
  ⟨_, pe_dnewK, fun F M H σ ρ Q1 Q S hx t q => fun p hp => q _ _ .dct (same_new hp _) ⟨p, rfl, upd_same, fun z => S.all p z hp⟩ t⟩
/-- a built-in type's name as a value -/
theorem q_ty {X : Cx} {W : WX} {E1 : E1T} {x : Str} {pos : Pos} (n : String) (hg : Gl X x) (hm : X.mg x = none) (hv : bootBuiltins x = some (.type n)) (hn : x ≠ "__name__" := by decide) (hd : (x == ("__debug__" : Str)) = false := by decide) : QE X W E1 (.Name x pos) (uC (.ty n)) :=
  q_c (v := .ty n) (pe_bltn hg hm hv rfl hn hd) (fun _ _ => rfl)
theorem mulR {i j : Int} (h1 : -(2 ^ 64) < j) (h2 : j < 2 ^ 64) : IntMulOk i j := .of_right (intBits_le_64 h1 h2)
theorem cut_to (xs : List D) (k : Nat) : cutD xs none (some (k : Int)) = xs.take k := by
  unfold cutD
  rw [HT.sIx_none, HT.sIx_nat, List.drop_zero]
  rw [Nat.sub_zero, Nat.min_def]
  split
  · rfl
  · rw [List.take_length, List.take_of_length_le (by omega)]
theorem cut_from (xs : List D) (k : Nat) : cutD xs (some (k : Int)) none = xs.drop k := by
  unfold cutD
  rw [HT.sIx_none, HT.sIx_nat, Nat.min_def]
  split
  · rw [List.take_of_length_le (by rw [List.length_drop]; omega)]
  · rw [List.drop_of_length_le (Nat.le_refl _), List.drop_of_length_le (by omega), List.take_nil]

/-! ### own parts -/
inductive Own where
  | lf (b : Bool) | nd (l r : Own)
  deriving DecidableEq
namespace Own
def n (b : Bool) : Int := if b then 1 else 0
def d : Own → D
  | lf b => .int (n b)
  | nd l r => .tup [l.d, r.d]
def size : Own → Nat
  | lf _ => 1
  | nd l r => l.size + r.size + 1
def depth : Own → Nat
  | lf _ => 0
  | nd l r => max l.depth r.depth + 1
def pair : Own → Own → Own
  | lf a, lf b => if a = b then lf a else nd (lf a) (lf b)
  | l, r => nd l r
def least : Own → Own
  | lf b => lf b
  | nd l r => pair l.least r.least
def isLeast : Own → Bool
  | lf _ => true
  | nd l r => !(decide (l = lf false) && decide (r = lf false)) && !(decide (l = lf true) && decide (r = lf true)) && l.isLeast && r.isLeast
theorem size_pos (o : Own) : 1 ≤ o.size := by cases o <;> simp [size]
theorem n_inj {a b : Bool} : (n a == n b) = decide (a = b) := by cases a <;> cases b <;> rfl
theorem eqv_d : ∀ a b : Own, a.d.eqv b.d = decide (a = b)
  | lf a, lf b => by simp only [d, D.eqv, D.py, PyData.eqv, n_inj, Own.lf.injEq]
  | lf a, nd l r => by simp [d, D.eqv, D.py, PyData.eqv]
  | nd l r, lf b => by simp [d, D.eqv, D.py, PyData.eqv]
  | nd l r, nd l' r' => by
    have h1 := eqv_d l l'
    have h2 := eqv_d r r'
    simp only [D.eqv] at h1 h2
    simp only [d, D.eqv, D.py, pys, PyData.eqv, PyData.eqvAll, h1, h2, Own.nd.injEq, Bool.and_true]
    by_cases e1 : l = l' <;> by_cases e2 : r = r' <;> simp [e1, e2]
theorem lay : ∀ o : Own, o.d.py.canLay0 = true
  | lf b => rfl
  | nd l r => by simp only [d, D.py, pys, PyData.canLay0, PyData.canLayAll0, lay l, lay r, Bool.and_true]
theorem pdepth : ∀ o : Own, o.d.py.depth = o.depth
  | lf b => rfl
  | nd l r => by simp only [d, D.py, pys, PyData.depth, PyData.depthAll, pdepth l, pdepth r, depth]; omega
theorem sh {o : Own} (h : o.depth ≤ 64) : o.d.Sh := by
  show (o.d.py.canLay0 && decide (o.d.py.depth ≤ 64)) = true
  rw [lay, pdepth, Bool.true_and]
  exact decide_eq_true h
theorem pair_depth (l r : Own) : (pair l r).depth ≤ max l.depth r.depth + 1 := by
  unfold pair
  split
  · split <;> simp [depth]
  · exact Nat.le_refl _
theorem least_depth : ∀ o : Own, o.least.depth ≤ o.depth
  | lf _ => Nat.le_refl _
  | nd l r => by
    have h1 := pair_depth l.least r.least
    have h2 := least_depth l
    have h3 := least_depth r
    simp only [least, depth]
    omega
theorem pair_size (l r : Own) : (pair l r).size ≤ l.size + r.size + 1 := by
  unfold pair
  split
  · split <;> simp [size]
  · exact Nat.le_refl _
theorem least_size : ∀ o : Own, o.least.size ≤ o.size
  | lf _ => Nat.le_refl _
  | nd l r => by
    have h1 := pair_size l.least r.least
    have h2 := least_size l
    have h3 := least_size r
    simp only [least, size]
    omega
theorem pair_nd {l r : Own} (h : ∀ b, ¬ (l = lf b ∧ r = lf b)) : pair l r = nd l r := by
  unfold pair
  split
  · rename_i a b
    split
    · rename_i e
      subst e
      exact absurd ⟨rfl, rfl⟩ (h a)
    · rfl
  · rfl
theorem pair_lf {l r : Own} {b : Bool} : pair l r = lf b ↔ l = lf b ∧ r = lf b := by
  constructor
  · intro h
    unfold pair at h
    split at h
    · split at h
      · rename_i e
        cases h
        exact ⟨rfl, by rw [e]⟩
      · cases h
    · cases h
  · rintro ⟨rfl, rfl⟩
    simp [pair]
theorem isLeast_pair {l r : Own} (h1 : l.isLeast = true) (h2 : r.isLeast = true) : (pair l r).isLeast = true := by
  by_cases h : ∃ b, l = lf b ∧ r = lf b
  · obtain ⟨b, e⟩ := h
    rw [pair_lf.mpr e]
    rfl
  · rw [pair_nd fun b z => h ⟨b, z⟩]
    simp only [isLeast, h1, h2, Bool.and_true, Bool.and_eq_true, Bool.not_eq_true', Bool.and_eq_false_iff, decide_eq_false_iff_not]
    constructor
    · by_cases z : l = lf false
      · exact .inr fun w => h ⟨false, z, w⟩
      · exact .inl z
    · by_cases z : l = lf true
      · exact .inr fun w => h ⟨true, z, w⟩
      · exact .inl z
theorem least_isLeast : ∀ o : Own, o.least.isLeast = true
  | lf _ => rfl
  | nd l r => isLeast_pair (least_isLeast l) (least_isLeast r)
theorem least_id : ∀ o : Own, o.isLeast = true → o.least = o
  | lf _, _ => rfl
  | nd l r, h => by
    simp only [isLeast, Bool.and_eq_true, Bool.not_eq_true', Bool.and_eq_false_iff, decide_eq_false_iff_not] at h
    obtain ⟨⟨⟨h1, h2⟩, h3⟩, h4⟩ := h
    simp only [least, least_id l h3, least_id r h4]
    apply pair_nd
    intro b z
    obtain ⟨rfl, rfl⟩ := z
    cases b <;> simp at h1 h2
theorem isLeast_iff (o : Own) : o.isLeast = decide (o = o.least) := by
  by_cases h : o.isLeast = true
  · rw [h, least_id o h]
    simp
  · rw [Bool.not_eq_true] at h
    rw [h]
    symm
    apply decide_eq_false
    intro e
    rw [e, least_isLeast] at h
    cases h
end Own

/-! ### what is an own part, of anything -/
mutual
/-- of known types throughout -/
def plainD : D → Bool
  | .ty _ => false
  | .ob _ _ _ => false
  | .exc _ => false
  | .cls _ => false
  | .tup ds => plainL ds
  | _ => true
def plainL : List D → Bool
  | [] => true
  | d :: ds => plainD d && plainL ds
end
mutual
def nodes : D → Nat
  | .tup ds => nodesL ds + 1
  | _ => 1
def nodesL : List D → Nat
  | [] => 0
  | d :: ds => nodes d + nodesL ds
end
def isOwnD : D → Bool
  | .int i => i == 0 || i == 1
  | .tup [a, b] => isOwnD a && isOwnD b
  | _ => false
theorem nodes_pos (d : D) : 1 ≤ nodes d := by cases d <;> simp [nodes]
theorem nodesL_len : ∀ ds : List D, ds.length ≤ nodesL ds
  | [] => Nat.le_refl _
  | d :: ds => by
    have h1 := nodes_pos d
    have h2 := nodesL_len ds
    simp only [List.length_cons, nodesL]
    omega
theorem nodesL_append : ∀ as bs : List D, nodesL (as ++ bs) = nodesL as + nodesL bs
  | [], bs => by simp [nodesL]
  | a :: as, bs => by simp only [List.cons_append, nodesL, nodesL_append as bs]; omega
theorem plainL_append : ∀ as bs : List D, plainL (as ++ bs) = (plainL as && plainL bs)
  | [], bs => by simp [plainL]
  | a :: as, bs => by simp only [List.cons_append, plainL, plainL_append as bs, Bool.and_assoc]
theorem plain_ty {d : D} (h : plainD d = true) : ∃ T, d.tyS = some T := by
  cases d <;> first | exact ⟨_, rfl⟩ | cases h
theorem Own.plain : ∀ o : Own, plainD o.d = true
  | lf b => rfl
  | nd l r => by simp only [Own.d, plainD, plainL, Own.plain l, Own.plain r, Bool.and_true]
theorem Own.nodes : ∀ o : Own, DL.nodes o.d = o.size
  | lf b => rfl
  | nd l r => by simp only [Own.d, DL.nodes, nodesL, Own.nodes l, Own.nodes r, Own.size]; omega
theorem Own.isOwn : ∀ o : Own, isOwnD o.d = true
  | lf b => by cases b <;> simp [Own.d, isOwnD, Own.n]
  | nd l r => by simp only [Own.d, isOwnD, Own.isOwn l, Own.isOwn r, Bool.and_true]
/-! ### what is still to be looked at: no more of it than the thing is deep -/
mutual
def dep : D → Nat
  | .tup ds => depL ds + 1
  | _ => 0
def depL : List D → Nat
  | [] => 0
  | d :: ds => max (dep d) (depL ds)
end
def Stk {α : Type} (h : α → Nat) (n : Nat) (ws : List α) : Prop := ∀ i d, ws[i]? = some d → i + h d ≤ n
theorem Stk.one {α : Type} {h : α → Nat} {n : Nat} {d : α} (e : h d ≤ n) : Stk h n [d] := fun i x q => by
  cases i with
  | zero => simp at q; subst q; omega
  | succ i => simp at q
theorem Stk.last {α : Type} {h : α → Nat} {n : Nat} {as : List α} {b : α} (s : Stk h n (as ++ [b])) : as.length + h b ≤ n := s as.length b (by simp)
theorem Stk.left {α : Type} {h : α → Nat} {n : Nat} {as bs : List α} (s : Stk h n (as ++ bs)) : Stk h n as := fun i x q => s i x (by rw [List.getElem?_append_left (List.getElem?_eq_some_iff.mp q).1]; exact q)
theorem Stk.two {α : Type} {h : α → Nat} {n : Nat} {as : List α} {b u v : α} (s : Stk h n (as ++ [b])) (hu : h u < h b) (hv : h v < h b) : Stk h n (as ++ [u, v]) := fun i x q => by
  have l := s.last
  by_cases z : i < as.length
  · rw [List.getElem?_append_left z] at q
    exact s.left i x q
  · rw [List.getElem?_append_right (Nat.le_of_not_lt z)] at q
    obtain ⟨j, rfl⟩ : ∃ j, i = as.length + j := ⟨i - as.length, by omega⟩
    rw [Nat.add_sub_cancel_left] at q
    match j, q with
    | 0, q => simp at q; subst q; omega
    | 1, q => simp at q; subst q; omega
theorem dep_two (u v : D) : dep (.tup [u, v]) = max (dep u) (dep v) + 1 := by simp [dep, depL]
theorem dep_three (x u v : D) : dep (.tup [x, u, v]) = max (dep x) (max (dep u) (dep v)) + 1 := by simp [dep, depL]
theorem Own.dep : ∀ o : Own, DL.dep o.d = o.depth
  | lf b => rfl
  | nd l r => by rw [Own.d, dep_two, Own.dep l, Own.dep r]; rfl
end DL

set_option maxRecDepth 100000
set_option maxHeartbeats 4000000
namespace DL
open PySem PySem.Spec L2
/-! ### list comprehensions -/
abbrev noW : WX := fun _ _ _ _ => False
abbrev noE : E1T := fun _ _ => False
theorem xok0 {K : PySem.W.Frag} {F : Fm} : Xok K F noW noE := fun _ _ _ _ _ _ z => z.elim
/-- the readings as weak as the data readings allow -/
def teS (K : PySem.W.Frag) (t : TE1) : TE := fun σ H Q => ∃ (F : Fm) (M : List Addr) (ρ : Rho) (Q1 : D → Prop), StR K F M H σ ρ ∧ t ρ Q1 ∧ ∀ v H' d, Same H H' → Rp K H' (M ++ F.L0) d v → Q1 d → Q v H'
def ttS (K : PySem.W.Frag) (t : TT1) : TT := fun σ H Q => ∃ (F : Fm) (M : List Addr) (ρ : Rho) (Q1 : Bool → Prop), StR K F M H σ ρ ∧ t ρ Q1 ∧ ∀ b H', Same H H' → Q1 b → Q b H'
theorem pe_S {X : Cx} {e : Expr} {t : TE1} (h : QE X noW noE e t) : PE X e (teS X.K t) := by
  obtain ⟨te, p, i⟩ := h
  refine ⟨fun pins s σ H Q I ⟨F, M, ρ, Q1, S, ht, q⟩ => p.run pins s σ H Q I (i F M H σ ρ Q1 Q S xok0 ht q)⟩
def QTs (X : Cx) (ifs : List Expr) (t : TT1) : Prop := ∃ te, PTs X ifs te ∧ ImpT X.K noW noE te t
theorem qts_nil {X : Cx} : QTs X [] (fun _ Q => Q true) := ⟨_, pts_nil, fun F M H σ ρ Q1 Q S hx t q => q true H (Same.refl H) t⟩
theorem qts_one {X : Cx} {c : Expr} {t : TT1} (h : QT X noW noE c t) : QTs X [c] t := by
  obtain ⟨te, p, i⟩ := h
  exact ⟨_, pts_one p, i⟩
theorem pts_S {X : Cx} {e : List Expr} {t : TT1} (h : QTs X e t) : PTs X e (ttS X.K t) := by
  obtain ⟨te, p, i⟩ := h
  refine ⟨fun pins s σ H Q I ⟨F, M, ρ, Q1, S, ht, q⟩ => p.run pins s σ H Q I (i F M H σ ρ Q1 Q S xok0 ht q)⟩

theorem wipe_get (σ : St) (j : Nat) : ∀ vs : List Nat, (wipe σ vs)[j]? = if j ∈ vs then (if j < σ.length then some none else none) else σ[j]?
  | [] => by simp [wipe]
  | v :: vs => by
    unfold wipe
    by_cases e : v = j
    · subst e
      by_cases h : v < σ.length
      · rw [List.getElem?_set_self (by rw [wipe_length]; exact h)]; simp [h]
      · rw [List.getElem?_eq_none (by rw [List.length_set, wipe_length]; omega)]; simp [h]
    · rw [List.getElem?_set_ne e, wipe_get σ j vs]
      have e' : ¬ j = v := fun z => e z.symm
      simp [e']
theorem wipe_set (σ : St) (vs : List Nat) {i : Nat} {x : Option V} (h : i ∈ vs) : wipe (σ.set i x) vs = wipe σ vs := by
  apply List.ext_getElem?
  intro j
  rw [wipe_get, wipe_get, List.length_set]
  by_cases hj : j ∈ vs
  · simp [hj]
  · have ne : i ≠ j := fun z => hj (z ▸ h)
    simp [hj, List.getElem?_set_ne ne]
theorem wipe_wipe (σ : St) (vs : List Nat) : wipe (wipe σ vs) vs = wipe σ vs := by
  apply List.ext_getElem?
  intro j
  rw [wipe_get, wipe_length, wipe_get]
  by_cases hj : j ∈ vs <;> simp [hj]
def wipeR (ρ : Rho) : List Nat → Rho
  | [] => ρ
  | v :: vs => (wipeR ρ vs).set v .un
@[simp] theorem wipeR_mu (ρ : Rho) : ∀ vs : List Nat, (wipeR ρ vs).mu = ρ.mu
  | [] => rfl
  | v :: vs => wipeR_mu ρ vs
section
variable {K : PySem.W.Frag} {F : Fm} {H H' : Hp} {M : List Addr} {σ : St} {ρ : Rho}
theorem StR.forget (h : StR K F M H σ ρ) (i : Nat) : StR K F M H (σ.set i none) (ρ.set i .un) := by
  refine ⟨h.ext, h.al, h.fr, fun j x q => ?_, fun j k ds es a p1 p2 p3 p4 => ?_, h.pn, h.gl, h.mu, h.nd, h.ma⟩
  · replace q : (ρ.sl.set i .un)[j]? = some x := q
    by_cases e : i = j
    · subst e
      have hi : i < ρ.sl.length := by
        have := (List.getElem?_eq_some_iff.mp q).1
        simpa using this
      rw [List.getElem?_set_self hi] at q
      cases q
      obtain ⟨v0, h1, _⟩ := h.sl i _ (List.getElem?_eq_getElem hi)
      have hs : i < σ.length := (List.getElem?_eq_some_iff.mp h1).1
      exact ⟨none, List.getElem?_set_self hs, trivial⟩
    · rw [List.getElem?_set_ne e] at q
      rw [List.getElem?_set_ne e]
      exact h.sl j x q
  · have ne : ∀ {n : Nat} {us : List D}, (ρ.sl.set i .un)[n]? = some (.own us) → i ≠ n := fun {n us} q z => by
      subst z
      have hi : i < ρ.sl.length := by simpa using (List.getElem?_eq_some_iff.mp q).1
      rw [List.getElem?_set_self hi] at q
      cases q
    replace p1 : (ρ.sl.set i .un)[j]? = some (.own ds) := p1
    replace p2 : (ρ.sl.set i .un)[k]? = some (.own es) := p2
    have nj := ne p1
    have nk := ne p2
    rw [List.getElem?_set_ne nj] at p1 p3
    rw [List.getElem?_set_ne nk] at p2 p4
    exact h.uq j k ds es a p1 p2 p3 p4
theorem StR.wipe (h : StR K F M H σ ρ) : ∀ vs : List Nat, StR K F M H (L2.wipe σ vs) (wipeR ρ vs)
  | [] => h
  | v :: vs => (StR.wipe h vs).forget v
/-- a list p of this frame's own that no slot holds -/
def Loose (ρ : Rho) (σ : St) (p : Addr) : Prop := ∀ (j : Nat) (ds : List D), ρ.sl[j]? = some (.own ds) → σ[j]? ≠ some (some (V.ref p))
theorem StR.newLoose (h : StR K F M H σ ρ) {p : Addr} (hp : H p = none) (xs : List V) : StR K F (p :: M) (upd H p (.lst xs)) σ ρ ∧ Loose ρ σ p := by
  have e := same_new hp (.lst xs)
  have hL : ∀ a, H a ≠ none → a ∈ (p :: M) ++ F.L0 → a ∈ M ++ F.L0 := fun a ha hm => by
    rcases List.mem_cons.mp (by simpa using hm : a ∈ p :: (M ++ F.L0)) with z | z
    · subst z; exact absurd hp ha
    · exact z
  have hp0 : F.H0 p = none := by
    cases q : F.H0 p with
    | none => rfl
    | some o => exact absurd hp (h.ext _ _ q).2
  refine ⟨⟨h.ext.trans (.of _ e), h.al, fun a ha => ?_, fun j x q => ?_, h.uq, fun q hq => Rp.same e hL _ _ (h.pn q hq), h.gl,
    fun q hq => ⟨List.mem_cons_of_mem _ (h.mu q hq).1, fun w => ((h.mu q hq).2.1 w).imp (List.mem_cons_of_mem _) id, (h.mu q hq).2.2.same e hL⟩, h.nd, fun q hq => (h.ma q hq).imp (List.mem_cons_of_mem _) id⟩, fun j ds q z => ?_⟩
  · rcases List.mem_cons.mp ha with z | z
    · subst z; exact ⟨hp0, by rw [upd_same]; simp⟩
    · exact ⟨(h.fr a z).1, same_ne e (h.fr a z).2⟩
  · obtain ⟨v, h1, h2⟩ := h.sl j x q
    refine ⟨v, h1, ?_⟩
    cases x with
    | un => trivial
    | dat d => obtain ⟨y, h3, h4⟩ := h2; exact ⟨y, h3, Rp.same e hL _ _ h4⟩
    | own us => obtain ⟨b, ys, h3, h4, h5, h6⟩ := h2; exact ⟨b, ys, h3, List.mem_cons_of_mem _ h4, e _ _ h5, RpAll.same e hL _ _ h6⟩
  · obtain ⟨a, ys, h1, h2, h3, _⟩ := h.getOwn q
    rw [z] at h1
    cases h1
    rw [hp] at h3
    cases h3
theorem StR.chgLoose (h : StR K F M H σ ρ) {p : Addr} {xs xs' : List V} (ha : p ∈ M) (hH : H p = some (.lst xs)) (lo : Loose ρ σ p) : StR K F M (upd H p (.lst xs')) σ ρ := by
  have hm : p ∈ M ++ F.L0 := List.mem_append_left _ ha
  refine ⟨h.extU (.inl ha), h.al, fun b hb => ⟨(h.fr b hb).1, ?_⟩, fun j x q => ?_, h.uq, fun q hq => Rp.upd hm hH _ _ (h.pn q hq), h.gl,
    fun q hq => ⟨(h.mu q hq).1, (h.mu q hq).2.1, (h.mu q hq).2.2.updM hm hH rfl ((h.mu q hq).2.2.neL hH)⟩, h.nd, h.ma⟩
  · by_cases z : b = p
    · subst z; rw [upd_same]; simp
    · rw [upd_ne z]; exact (h.fr b hb).2
  · obtain ⟨v, h1, h2⟩ := h.sl j x q
    refine ⟨v, h1, ?_⟩
    cases x with
    | un => trivial
    | dat d => obtain ⟨y, h3, h4⟩ := h2; exact ⟨y, h3, Rp.upd hm hH _ _ h4⟩
    | own us =>
      obtain ⟨b, ys, h3, h4, h5, h6⟩ := h2
      subst h3
      have ne : b ≠ p := fun w => by subst w; exact lo j us q h1
      exact ⟨b, ys, rfl, h4, by rw [upd_ne ne]; exact h5, RpAll.upd hm hH _ _ h6⟩
end
/-! targets that store into the block's own names alone -/
def ImpGw (K : PySem.W.Frag) (vs : List Nat) (g : TG) (t : TG1) : Prop := ∀ (F : Fm) (M : List Addr) (H : Hp) (σ : St) (ρ : Rho) (d : D) (v : V) (Q1 : Rho → Prop) (Q : St → Hp → Prop), StR K F M H σ ρ → Rp K H (M ++ F.L0) d v → t d ρ Q1 →
  (∀ σ' ρ', L2.wipe σ' vs = L2.wipe σ vs → StR K F M H σ' ρ' → Q1 ρ' → Q σ' H) → g v σ H Q
def ImpGsw (K : PySem.W.Frag) (vs : List Nat) (g : TGs) (t : TGs1) : Prop := ∀ (F : Fm) (M : List Addr) (H : Hp) (σ : St) (ρ : Rho) (d : List D) (v : List V) (Q1 : Rho → Prop) (Q : St → Hp → Prop), StR K F M H σ ρ → RpAll K H (M ++ F.L0) d v → t d ρ Q1 →
  (∀ σ' ρ', L2.wipe σ' vs = L2.wipe σ vs → StR K F M H σ' ρ' → Q1 ρ' → Q σ' H) → g v σ H Q
def QGw (X : Cx) (vs : List Nat) (e : Expr) (t : TG1) : Prop := ∃ g, PG X e g ∧ ImpGw X.K vs g t
def QGsw (X : Cx) (vs : List Nat) (es : List Expr) (t : TGs1) : Prop := ∃ g, PGs X es g ∧ ImpGsw X.K vs g t
section
variable {X : Cx} {vs : List Nat} {e : Expr} {es : List Expr} {pos : Pos}
theorem qgw_name (i : Nat) {x : Str} (hv : i ∈ vs) (hN : X.N.Nodup) (hi : X.N[i]? = some x) (hx : Loc X.env.scope x) (hf : X.fn x = true ∨ X.env.scope.names.lookup x = some .local := by first | exact .inl rfl | exact .inr rfl | assumption) : QGw X vs (.Name x pos) (gNm i) :=
  ⟨_, pg_name hN hi hx hf, fun F M H σ ρ d v Q1 Q S r ⟨hl, t⟩ q => q _ _ (wipe_set σ vs hv) (S.set i hl r) t⟩
theorem qgsw_nil : QGsw X vs [] gsNil := ⟨_, pgs_nil, fun F M H σ ρ d v Q1 Q S r ⟨e, t⟩ q => by
  subst e
  cases r
  exact ⟨rfl, q _ _ rfl S t⟩⟩
theorem qgsw_cons {t : TG1} {u : TGs1} (h1 : QGw X vs e t) (h2 : QGsw X vs es u) (hs : (assignEach (e :: es) X.env).map (·.2) = assign e X.env :: (assignEach es X.env).map (·.2) := by rfl) : QGsw X vs (e :: es) (gsCons t u) := by
  obtain ⟨g, p1, i1⟩ := h1
  obtain ⟨g2, p2, i2⟩ := h2
  refine ⟨_, pgs_cons p1 p2 hs, fun F M H σ ρ d v Q1 Q S r t q => ?_⟩
  cases d with
  | nil => exact t.elim
  | cons d0 dr =>
  obtain ⟨x, vr, e, r1, r2⟩ := r
  subst e
  exact ⟨x, vr, rfl, i1 F M H σ ρ d0 x _ _ S r1 t fun σ' ρ' w' S' t' => i2 F M H σ' ρ' dr vr _ _ S' r2 t' fun σ'' ρ'' w'' => q σ'' ρ'' (w''.trans w')⟩
theorem qgw_tup {k : Nat} {t : TGs1} {n : Nat} (hc : X.calm = true) (h : QGsw X vs es t) (hn : (assignEach es X.env).length = n := by rfl) (hst : (assignEach es X.env).findIdx? (·.1) = none := by rfl) : QGw X vs (.Tuple es k pos) (gTp n t) := by
  obtain ⟨g, p1, i1⟩ := h
  refine ⟨_, pg_tup hc p1 hn hst, fun F M H σ ρ d v Q1 Q S r ⟨ds, ed, hl, t⟩ q => ?_⟩
  subst ed
  obtain ⟨a, xs, ev, h1, h2⟩ := r
  exact ⟨a, xs, ev, h1, by rw [h2.length]; exact hl, i1 F M H σ ρ ds xs _ _ S h2 t q⟩
def gS (K : PySem.W.Frag) (vs : List Nat) (t : TG1) : TG := fun v σ H Q => ∃ (F : Fm) (M : List Addr) (ρ : Rho) (d : D) (Q1 : Rho → Prop), StR K F M H σ ρ ∧ Rp K H (M ++ F.L0) d v ∧ t d ρ Q1 ∧ ∀ σ' ρ', L2.wipe σ' vs = L2.wipe σ vs → StR K F M H σ' ρ' → Q1 ρ' → Q σ' H
theorem pg_S {t : TG1} (h : QGw X vs e t) : PG X e (gS X.K vs t) := by
  obtain ⟨g, p, i⟩ := h
  exact ⟨fun pins s σ H v u Q I r ⟨F, M, ρ, d, Q1, S, rd, ht, q⟩ => p.run pins s σ H v u Q I r (i F M H σ ρ d v Q1 Q S rd ht q)⟩
end
/-- what a comprehension's turns make of the items -/
def lcGo (g : TG1) (tt : TT1) (te : TE1) (ρ : Rho) : List D → (List D → Prop) → Prop
  | [], Q => Q []
  | d :: ds, Q => g d ρ fun ρ' => tt ρ' fun b => if b = true then te ρ' fun e => lcGo g tt te ρ ds fun es => Q (e :: es) else lcGo g tt te ρ ds Q
@[simp] abbrev uLc (vs : List Nat) (u : TA1) (g : TG1) (tt : TT1) (te : TE1) : TE1 := fun ρ Q => u ρ fun ds => ds.length ≤ 4000000 ∧ lcGo g tt te (wipeR ρ vs) ds fun es => Q (.lst es)
theorem lc_imp {K : PySem.W.Frag} {W : WX} {E1 : E1T} {vs : List Nat} {wi : TI} {u : TA1} {g : TG1} {tt : TT1} {te : TE1}
    (hi : ∀ (F : Fm) (M : List Addr) (H : Hp) (σ : St) (ρ : Rho) (Q1 : List D → Prop) (R : It → Hp → Prop), StR K F M H σ ρ → Xok K F W E1 → u ρ Q1 →
      (∀ J H' P' ds, Same H H' → (∀ p ∈ P', Rp K H' (M ++ F.L0) p.1 p.2) → ItOk K { F with P := P' ++ F.P } J ds → Q1 ds → R J H') → wi σ H R) :
    ImpE K W E1 (tLc wi (gS K vs g) (ttS K tt) (teS K te) vs) (uLc vs u g tt te) := by
  intro F M H σ ρ Q1 Q S hx t q
  refine hi F M H σ ρ _ _ S hx t fun J H1 P' ds e1 hP hJ ⟨hlen, go⟩ => fun D hD => ?_
  have S0 := S.same e1
  have S1 : StR K { F with P := P' ++ F.P } M H1 σ ρ := ⟨S0.ext, S0.al, S0.fr, S0.sl, S0.uq, fun p hp => (List.mem_append.mp hp).elim (hP p) (S0.pn p), S0.gl, S0.mu, S0.nd, S0.ma⟩
  obtain ⟨S2, lo2⟩ := (S1.wipe vs).newLoose hD []
  have hDL : D ∉ M ++ F.L0 := fun z => S0.all D z hD
  refine ⟨fun i m H => m = ds.length - i ∧ i ≤ ds.length ∧ Same H1 H ∧ ∃ acc xs, H D = some (.lst xs) ∧ RpAll K H ((D :: M) ++ F.L0) acc xs ∧ acc.length ≤ i ∧ StR K { F with P := P' ++ F.P } (D :: M) H (L2.wipe σ vs) (wipeR ρ vs) ∧ lcGo g tt te (wipeR ρ vs) (ds.drop i) fun es => Q1 (.lst (acc ++ es)),
    ⟨ds.length, by simp, Nat.zero_le _, same_new hD _, [], [], upd_same, rfl, Nat.le_refl _, S2, by simpa using go⟩, ?_⟩
  rintro i m H2 ⟨rfl, hi', eH, acc, xs, hDx, hacc, hal, S3, go3⟩
  have j := hJ (D :: M) H2 _ _ S3 i
  by_cases hlt : i < ds.length
  · obtain ⟨goJ, yl⟩ := j.1 _ (List.getElem?_eq_getElem hlt)
    rw [List.drop_eq_getElem_cons hlt] at go3
    refine .inr ⟨goJ, fun H' => i + 1 ≤ ds.length ∧ Same H1 H' ∧ ∃ acc xs, H' D = some (.lst xs) ∧ RpAll K H' ((D :: M) ++ F.L0) acc xs ∧ acc.length ≤ i + 1 ∧ StR K { F with P := P' ++ F.P } (D :: M) H' (L2.wipe σ vs) (wipeR ρ vs) ∧ lcGo g tt te (wipeR ρ vs) (ds.drop (i + 1)) fun es => Q1 (.lst (acc ++ es)),
      fun H' ⟨a1, a2, a3⟩ => ⟨ds.length - (i + 1), by omega, rfl, a1, a2, a3⟩, fun x H' y => ?_⟩
    obtain ⟨e2, r2⟩ := yl x H' y
    have S4 := S3.same e2
    refine ⟨{ F with P := P' ++ F.P }, D :: M, wipeR ρ vs, _, _, S4, r2, go3, fun σ' ρ' w' S5 go5 => ⟨by rw [w', wipe_wipe], ?_⟩⟩
    refine ⟨_, _, ρ', _, S5, go5, fun b H5 e5 go6 => ?_⟩
    have S6 : StR K { F with P := P' ++ F.P } (D :: M) H5 (L2.wipe σ vs) (wipeR ρ vs) := S4.same e5
    have lo : Loose (wipeR ρ vs) (L2.wipe σ vs) D := lo2
    have hD5 := e5 _ _ (e2 _ _ hDx)
    have acc5 := same_all e5 (same_all e2 hacc)
    cases b with
    | false => exact ⟨hlt, eH.trans (e2.trans e5), acc, xs, hD5, acc5, by omega, S6, by simpa using go6⟩
    | true =>
      refine ⟨{ F with P := P' ++ F.P }, D :: M, ρ', _, S5.same e5, by simpa using go6, fun v H7 d e7 r7 go7 => ?_⟩
      have hD7 := e7 _ _ hD5
      have acc7 := same_all e7 acc5
      have S7 := S6.same e7
      refine ⟨xs, hD7, small5 (by rw [acc7.length]; omega), hlt, fun b o hb => ?_, acc ++ [d], xs ++ [v], upd_same, ?_, by simp; omega, S7.chgLoose List.mem_cons_self hD7 lo, by simpa [List.append_assoc] using go7⟩
      · have ne : b ≠ D := fun z => by subst z; rw [hD] at hb; cases hb
        rw [upd_ne ne]
        exact e7 _ _ (e5 _ _ (e2 _ _ (eH _ _ hb)))
      · exact RpAll.append (RpAll.upd List.mem_cons_self hD7 _ _ acc7) ⟨v, [], rfl, Rp.upd List.mem_cons_self hD7 _ _ r7, rfl⟩
  · have e : i = ds.length := by omega
    subst e
    refine .inl ⟨j.2 (Nat.le_refl _), ?_⟩
    rw [List.drop_length] at go3
    refine q _ H2 (.lst acc) (e1.trans eH) ⟨D, xs, rfl, .inl ⟨hDL, .inl hDx⟩, RpAll.same (Same.refl _) (fun _ _ ha => List.mem_cons_of_mem _ ha) _ _ hacc⟩ (by simpa [lcGo] using go3)
section
variable {X : Cx} {W : WX} {E1 : E1T}
/-- [elt for tg in iter], [.. if test] -/
theorem q_lc {elt tg iter : Expr} {ifs : List Expr} {scope : Scope} (own : List (Str × Nat)) {pos : Pos} {u : TA1} {g : TG1} {tt : TT1} {te : TE1} (hc : X.calm = true) (hN : X.N.Nodup) (hi : QI X W E1 tg iter u) (ok : BlkOk X.N X.env.scope scope own)
    (hg : ∀ (s : Shared) (H : Hp) (C : Addr) (cl : List (Str × Addr)) (fp : List Addr), QGw (X.blk s H scope (compEnvC scope cl C X.env) fp) (own.map (·.2)) tg g) (ht : ∀ (s : Shared) (H : Hp) (C : Addr) (cl : List (Str × Addr)) (fp : List Addr), QTs (X.blk s H scope (compEnvC scope cl C X.env) fp) ifs tt)
    (he : ∀ (s : Shared) (H : Hp) (C : Addr) (cl : List (Str × Addr)) (fp : List Addr), QE (X.blk s H scope (compEnvC scope cl C X.env) fp) noW noE elt te) (hs : ∀ x, foldedSetIterable iter X.env x = pure x := by intro _; rfl) :
    QE X W E1 (.ListComp elt [⟨tg, iter, ifs, 0⟩] scope pos) (uLc (own.map (·.2)) u g tt te) := by
  obtain ⟨wi, p, i⟩ := hi
  exact ⟨_, pe_lc (g := gS X.K (own.map (·.2)) g) (tt := ttS X.K tt) (te := teS X.K te) hc hN p ok (fun s H C cl fp => pg_S (hg s H C cl fp)) (fun s H C cl fp => pts_S (ht s H C cl fp)) (fun s H C cl fp => pe_S (he s H C cl fp)) hs, lc_imp i⟩
/-- name = [elt for tg in iter] on one line -/
theorem qs_setLc (i : Nat) {y : Str} {py : Pos} {elt tg iter : Expr} {ifs : List Expr} {scope : Scope} (own : List (Str × Nat)) {pos spos : Pos} {u : TA1} {g : TG1} {tt : TT1} {te : TE1} (hc : X.calm = true) (hN : X.N.Nodup) (hy : X.N[i]? = some y) (hyl : X.env.scope.names.lookup y = some .local)
    (hsw : swapsWith (.ListComp elt [⟨tg, iter, ifs, 0⟩] scope pos) (some (.Name y py)) spos.line X.env = pure true) (hi : QI X W E1 tg iter u) (ok : BlkOk X.N X.env.scope scope own)
    (hg : ∀ (s : Shared) (H : Hp) (C : Addr) (cl : List (Str × Addr)) (fp : List Addr), QGw (X.blk s H scope (compEnvC scope cl C X.env) fp) (own.map (·.2)) tg g) (ht : ∀ (s : Shared) (H : Hp) (C : Addr) (cl : List (Str × Addr)) (fp : List Addr), QTs (X.blk s H scope (compEnvC scope cl C X.env) fp) ifs tt)
    (he : ∀ (s : Shared) (H : Hp) (C : Addr) (cl : List (Str × Addr)) (fp : List Addr), QE (X.blk s H scope (compEnvC scope cl C X.env) fp) noW noE elt te) (hs : ∀ x, foldedSetIterable iter X.env x = pure x := by intro _; rfl) :
    QS X W E1 (.Assign [.Name y py] (.ListComp elt [⟨tg, iter, ifs, 0⟩] scope pos) spos) (uSet i (uLc (own.map (·.2)) u g tt te)) := by
  obtain ⟨wi, p, k⟩ := hi
  refine ⟨_, ps_setLc (g := gS X.K (own.map (·.2)) g) (tt := ttS X.K tt) (te := teS X.K te) hc hN hy hyl hsw p ok (fun s H C cl fp => pg_S (hg s H C cl fp)) (fun s H C cl fp => pts_S (ht s H C cl fp)) (fun s H C cl fp => pe_S (he s H C cl fp)) hs, fun F M H σ ρ D1 D S hx t kk => ?_⟩
  exact lc_imp k F M H σ ρ _ _ S hx t fun v H' d e1 r1 ⟨hl, t1⟩ => kk.nx M H' _ _ ((S.same e1).set i hl r1) t1
end
/-! ### small facts -/
theorem sh_int (i : Int) : (D.int i).Sh := rfl
theorem eqv_int (i j : Int) : (D.int i).eqv (.int j) = (i == j) := rfl
theorem iL_inj {a b : List Int} : iL a = iL b ↔ a = b := by
  constructor
  · intro h
    have e := congrArg (List.map fun d => match d with | D.int i => i | _ => 0) h
    simpa [iL, List.map_map, Function.comp_def] using e
  · rintro rfl
    rfl
theorem iL_cons (a : Int) (b : List Int) : iL (a :: b) = .int a :: iL b := rfl
theorem iL_app (a b : List Int) : iL (a ++ b) = iL a ++ iL b := List.map_append
theorem iL_take (a : List Int) (k : Nat) : (iL a).take k = iL (a.take k) := List.map_take.symm
theorem iL_drop (a : List Int) (k : Nat) : (iL a).drop k = iL (a.drop k) := List.map_drop.symm
theorem iL_len (a : List Int) : (iL a).length = a.length := List.length_map _
theorem eqv_it (i : Int) (ds : List D) : (D.int i).eqv (.tup ds) = false := rfl
theorem at0 {a : D} {r : List D} : atI (a :: r) 0 = some a := by
  unfold atI ixN
  simp
theorem at1 {a b : D} {r : List D} : atI (a :: b :: r) 1 = some b := by
  unfold atI ixN
  rw [if_pos (by decide), if_pos (by simp only [List.length_cons]; omega)]
  rfl
theorem its_tup (ds : List D) : (D.tup ds).its = some ds := rfl
theorem its_lst (ds : List D) : (D.lst ds).its = some ds := rfl
theorem at2 {a b c : D} {r : List D} : atI (a :: b :: c :: r) 2 = some c := by
  unfold atI ixN
  rw [if_pos (by decide), if_pos (by simp only [List.length_cons]; omega)]
  rfl
theorem eqv_bl (a b : Bool) : (D.bl a).eqv (.bl b) = (a == b) := rfl
theorem eqv_ti (i : Int) (ds : List D) : (D.tup ds).eqv (.int i) = false := rfl
end DL

set_option maxRecDepth 100000
set_option maxHeartbeats 4000000
namespace PySem
/-! zip over two lists whose pair is given to a plain name: the pair handed out last is out of reach, or still there -/
abbrev ZRec (h : Heap) (z TI TO : Addr) (f0 f1 : Value) : Prop :=
  h.get? z = some { cls := .type "zip", dict := none, data := .fields #[f0, f1, .bool false, .ref TI, .ref TO], slots := #[] }
section
variable {prog : Program} {w : World} {A : Around} {E : Value → Shared → Prop} {s : Shared}
/-- the pair handed out last is gone -/
theorem free_gone {z TI TO T : Addr} {f : Bool} {Q : Bool → Shared → Prop} (hz : ZRec s.heap z TI TO (rawInt T) (.bool f)) (hT : s.heap.get? T = none) (h : Q true s) : wpAny (model prog w) A (Builtin.SmallTypes.ownedTupleIsFree (.ref z)) Q E s := by
  unfold Builtin.SmallTypes.ownedTupleIsFree
  refine wpAny_bind (wpAny_field hz rfl (x := rawInt T) rfl ?_)
  show wpAny _ _ (loadIfAlive ((T : Int).toNat) >>= _) _ _ _
  rw [Int.toNat_natCast]
  have gone : ∀ Q' : Option Obj → Shared → Prop, Q' none s → wpAny (model prog w) A (loadIfAlive T) Q' E s := fun Q' q => by
    have q' : Q' (s.heap.get? T) s := by rw [hT]; exact q
    exact fun _ _ _ => q'
  exact wpAny_bind (gone _ (wpAny_pure h))
theorem znext_item {z TI TO i1 i2 l1 l2 : Addr} {f0 f1 : Value} {k1 k2 : Nat} {xs ys : Array Value} {x y a b : Value} {Q : Value → Shared → Prop} (D : ZipApart z TI TO i1 i2 l1 l2) (hfree : ∀ Q' : Bool → Shared → Prop, Q' true s → wpAny (model prog w) A (Builtin.SmallTypes.ownedTupleIsFree (.ref z)) Q' E s)
    (hz : ZRec s.heap z TI TO f0 f1) (pI : IsPair s.heap TI (.ref i1) (.ref i2)) (pO : IsPair s.heap TO a b) (it1 : s.heap.IsListIter i1 l1 k1) (it2 : s.heap.IsListIter i2 l2 k2) (L1 : s.heap.IsList l1 xs) (L2 : s.heap.IsList l2 ys) (hx : xs[k1]? = some x) (hy : ys[k2]? = some y)
    (fin : ∀ g, ZRec g z TI TO (rawInt s.heap.objs.size) (.bool false) → IsPair g TO x y → g.IsListIter i1 l1 (k1 + 1) → g.IsListIter i2 l2 (k2 + 1) → IsPair g s.heap.objs.size x y → g.objs.size = s.heap.objs.size + 1 →
      (∀ c o, c ≠ z → c ≠ TO → c ≠ i1 → c ≠ i2 → s.heap.get? c = some o → g.get? c = some o) → Q (.ref s.heap.objs.size) { s with heap := g }) :
    wpAny (model prog w) A (Builtin.«zip.__next__» ⟨[.ref z], []⟩) (fun r s' => ∃ v, r = .done (.ret v) ∧ Q v s') E s := by
  show wpAny _ _ (field (.ref z) 2 >>= _) _ _ s
  refine wpAny_bind (wpAny_field hz rfl (x := Value.bool false) rfl ?_)
  show wpAny _ _ (field (.ref z) 3 >>= _) _ _ s
  refine wpAny_bind (wpAny_field hz rfl (x := Value.ref TI) rfl ?_)
  refine wpAny_bind (wpAny_seqItems pI rfl ?_)
  show wpAny _ _ (Builtin.SmallTypes.ownedTupleIsFree (.ref z) >>= _) _ _ s
  refine wpAny_bind (hfree _ ?_)
  simp only [if_true]
  refine wpAny_bind (wpAny_rule (wpAny_bind (wpAny_field hz rfl (x := Value.ref TO) rfl (wpAny_bind (wpAny_setField_rec hz (by simp) fun g1 z1 b1 => ?_)))))
  replace z1 : ZRec g1 z TI TO .ellipsis f1 := z1
  refine wpAny_bind ?_
  simp only [List.zipIdx_cons, List.zipIdx_nil, List.forIn_cons, List.forIn_nil]
  -- the first list's turn
  refine wpAny_bind (wpAny_bind (wpAny_onRaise ?_))
  show wpAny _ _ (Builtin.SmallTypes.nextOf (.ref i1) >>= _) _ _ _
  refine wpAny_bind (wpAny_nextOf_list_item (it1.extBut b1.extBut D.i1z) (L1.extBut b1.extBut D.l1z) hx fun g2 t2 b2 => wpAny_pure ?_)
  have pO2 : IsPair g2 TO a b := b2.extBut _ _ D.TOi1 (b1.extBut _ _ D.TOz pO)
  refine wpAny_bind (wpAny_seqItems pO2 rfl (wpAny_bind (wpAny_updateSeq_pair pO2 fun g3 pO3 b3 => ?_)))
  replace pO3 : IsPair g3 TO x b := pO3
  refine wpAny_bind (wpAny_letGo (wpAny_pure ?_))
  -- the second list's turn
  refine wpAny_bind (wpAny_bind (wpAny_onRaise ?_))
  show wpAny _ _ (Builtin.SmallTypes.nextOf (.ref i2) >>= _) _ _ _
  refine wpAny_bind (wpAny_nextOf_list_item (((it2.extBut b1.extBut D.i2z).extBut b2.extBut D.i12.symm).extBut b3.extBut D.TOi2.symm) (((L2.extBut b1.extBut D.l2z).extBut b2.extBut D.l2i1).extBut b3.extBut D.l2TO) hy fun g4 t4 b4 => wpAny_pure ?_)
  have pO4 : IsPair g4 TO x b := b4.extBut _ _ D.TOi2 pO3
  refine wpAny_bind (wpAny_seqItems pO4 rfl (wpAny_bind (wpAny_updateSeq_pair pO4 fun g5 pO5 b5 => ?_)))
  replace pO5 : IsPair g5 TO x y := pO5
  refine wpAny_bind (wpAny_letGo (wpAny_pure (wpAny_pure ?_)))
  -- the pair is laid and handed out
  refine wpAny_bind (wpAny_seqItems pO5 rfl (wpAny_bind (wpAny_newTuple ?_)))
  have size5 : g5.objs.size = s.heap.objs.size := by rw [b5.1, b4.1, b3.1, b2.1, b1.1]
  have z5 : ZRec g5 z TI TO .ellipsis f1 := b5.extBut _ _ D.TOz.symm (b4.extBut _ _ D.i2z.symm (b3.extBut _ _ D.TOz.symm (b2.extBut _ _ D.i1z.symm z1)))
  have keep5 : ∀ c o, c ≠ z → c ≠ TO → c ≠ i1 → c ≠ i2 → s.heap.get? c = some o → g5.get? c = some o := fun c o n1 n2 n3 n4 q => b5.extBut _ _ n2 (b4.extBut _ _ n4 (b3.extBut _ _ n2 (b2.extBut _ _ n3 (b1.extBut _ _ n1 q))))
  have t5 : g5.IsListIter i1 l1 (k1 + 1) := ((t2.extBut b3.extBut D.TOi1.symm).extBut b4.extBut D.i12).extBut b5.extBut D.TOi1.symm
  have u5 : g5.IsListIter i2 l2 (k2 + 1) := t4.extBut b5.extBut D.TOi2.symm
  have zl : z < g5.objs.size := Heap.lt_size z5
  show wpAny _ _ (Builtin.SmallTypes.ownedTupleHandOut (.ref z) (.ref g5.objs.size) >>= _) _ _ _
  refine wpAny_bind ?_
  unfold Builtin.SmallTypes.ownedTupleHandOut
  have z6 : ZRec (g5.push { cls := .type "tuple", data := .seq #[x, y] }) z TI TO .ellipsis f1 := Heap.get?_push_of_some _ z5
  refine wpAny_bind (wpAny_setField_rec z6 (by simp) fun g7 z7 b7 => ?_)
  replace z7 : ZRec g7 z TI TO (rawInt g5.objs.size) f1 := z7
  refine wpAny_setField_rec z7 (by simp) fun g8 z8 b8 => ?_
  replace z8 : ZRec g8 z TI TO (rawInt g5.objs.size) (.bool false) := z8
  have up : ∀ c o, c ≠ z → g5.get? c = some o → g8.get? c = some o := fun c o n q => b8.extBut _ _ n (b7.extBut _ _ n (Heap.get?_push_of_some _ q))
  have p8 : IsPair g8 g5.objs.size x y := b8.extBut _ _ (Nat.ne_of_gt zl) (b7.extBut _ _ (Nat.ne_of_gt zl) (Heap.get?_push_size _ rfl))
  have size8 : g8.objs.size = g5.objs.size + 1 := by rw [b8.1, b7.1, Heap.size_push]
  rw [size5] at z8 p8 size8
  refine wpAny_pure ⟨_, rfl, ?_⟩
  show Q (.ref g5.objs.size) _
  rw [size5]
  exact fin g8 z8 (up _ _ D.TOz pO5) (t5.at fun o q => up _ o D.i1z q) (u5.at fun o q => up _ o D.i2z q) p8 size8 fun c o n1 n2 n3 n4 q => up c o n1 (keep5 c o n1 n2 n3 n4 q)
theorem znext_end {z TI TO i1 i2 l1 l2 : Addr} {f0 f1 : Value} {k1 k2 : Nat} {xs ys : Array Value} {a b : Value} {Q : Fin → Shared → Prop} (hh : A.handled = none) (D : ZipApart z TI TO i1 i2 l1 l2) (hfree : ∀ Q' : Bool → Shared → Prop, Q' true s → wpAny (model prog w) A (Builtin.SmallTypes.ownedTupleIsFree (.ref z)) Q' E s)
    (hz : ZRec s.heap z TI TO f0 f1) (pI : IsPair s.heap TI (.ref i1) (.ref i2)) (pO : IsPair s.heap TO a b) (it1 : s.heap.IsListIter i1 l1 k1) (it2 : s.heap.IsListIter i2 l2 k2) (L1 : s.heap.IsList l1 xs) (L2 : s.heap.IsList l2 ys) (over : xs[k1]? = none ∨ ys[k2]? = none)
    (fin : ∀ g e, (∀ c o, c ≠ z → c ≠ TO → c ≠ i1 → c ≠ i2 → s.heap.get? c = some o → g.get? c = some o) → (∃ o, g.get? e = some o ∧ o.cls = .type "StopIteration") → E (.ref e) { s with heap := g }) :
    wpAny (model prog w) A (Builtin.«zip.__next__» ⟨[.ref z], []⟩) Q E s := by
  show wpAny _ _ (field (.ref z) 2 >>= _) _ _ s
  refine wpAny_bind (wpAny_field hz rfl (x := Value.bool false) rfl ?_)
  show wpAny _ _ (field (.ref z) 3 >>= _) _ _ s
  refine wpAny_bind (wpAny_field hz rfl (x := Value.ref TI) rfl ?_)
  refine wpAny_bind (wpAny_seqItems pI rfl ?_)
  show wpAny _ _ (Builtin.SmallTypes.ownedTupleIsFree (.ref z) >>= _) _ _ s
  refine wpAny_bind (hfree _ ?_)
  simp only [if_true]
  refine wpAny_bind (wpAny_rule (wpAny_bind (wpAny_field hz rfl (x := Value.ref TO) rfl (wpAny_bind (wpAny_setField_rec hz (by simp) fun g1 z1 b1 => ?_)))))
  replace z1 : ZRec g1 z TI TO .ellipsis f1 := z1
  refine wpAny_bind ?_
  simp only [List.zipIdx_cons, List.zipIdx_nil, List.forIn_cons, List.forIn_nil]
  refine wpAny_bind (wpAny_bind (wpAny_onRaise ?_))
  show wpAny _ _ (Builtin.SmallTypes.nextOf (.ref i1) >>= _) _ _ _
  cases hx : xs[k1]? with
  | none =>
    refine wpAny_bind (wpAny_nextOf_list_end hh (it1.extBut b1.extBut D.i1z) (L1.extBut b1.extBut D.l1z) hx fun g2 e b2 ⟨oe, ge, ce⟩ => ?_)
    have z2 : ZRec g2 z TI TO .ellipsis f1 := b2 _ _ D.i1z.symm z1
    have ez : e ≠ z := fun q => by subst q; rw [z2] at ge; cases ge; simp at ce
    exact wpAny_setField_rec z2 (by simp) fun g3 _ b3 => fin g3 e (fun c o n1 _ n3 _ q => b3.extBut _ _ n1 (b2 _ _ n3 (b1.extBut _ _ n1 q))) ⟨oe, b3.extBut _ _ ez ge, ce⟩
  | some x =>
    have hy : ys[k2]? = none := by
      rcases over with q | q
      · rw [hx] at q; cases q
      · exact q
    refine wpAny_bind (wpAny_nextOf_list_item (it1.extBut b1.extBut D.i1z) (L1.extBut b1.extBut D.l1z) hx fun g2 t2 b2 => wpAny_pure ?_)
    have pO2 : IsPair g2 TO a b := b2.extBut _ _ D.TOi1 (b1.extBut _ _ D.TOz pO)
    refine wpAny_bind (wpAny_seqItems pO2 rfl (wpAny_bind (wpAny_updateSeq_pair pO2 fun g3 pO3 b3 => ?_)))
    refine wpAny_bind (wpAny_letGo (wpAny_pure ?_))
    refine wpAny_bind (wpAny_bind (wpAny_onRaise ?_))
    show wpAny _ _ (Builtin.SmallTypes.nextOf (.ref i2) >>= _) _ _ _
    refine wpAny_bind (wpAny_nextOf_list_end hh (((it2.extBut b1.extBut D.i2z).extBut b2.extBut D.i12.symm).extBut b3.extBut D.TOi2.symm) (((L2.extBut b1.extBut D.l2z).extBut b2.extBut D.l2i1).extBut b3.extBut D.l2TO) hy fun g4 e b4 ⟨oe, ge, ce⟩ => ?_)
    have z4 : ZRec g4 z TI TO .ellipsis f1 := b4 _ _ D.i2z.symm (b3.extBut _ _ D.TOz.symm (b2.extBut _ _ D.i1z.symm z1))
    have ez : e ≠ z := fun q => by subst q; rw [z4] at ge; cases ge; simp at ce
    exact wpAny_setField_rec z4 (by simp) fun g5 _ b5 => fin g5 e (fun c o n1 n2 n3 n4 q => b5.extBut _ _ n1 (b4 _ _ n4 (b3.extBut _ _ n2 (b2.extBut _ _ n3 (b1.extBut _ _ n1 q))))) ⟨oe, b5.extBut _ _ ez ge, ce⟩
/-- how the zip stands: nothing is out, or some pair -/
def ZSt (h : Heap) (z TI TO : Addr) : Prop := ZRec h z TI TO .none (.bool false) ∨ ∃ (T : Addr) (f : Bool), ZRec h z TI TO (rawInt T) (.bool f)
theorem zn_item {z TI TO i1 i2 l1 l2 : Addr} {k1 k2 : Nat} {xs ys : Array Value} {x y a b : Value} {Q : Option Value → Shared → Prop} (D : ZipApart z TI TO i1 i2 l1 l2) (hz : ZSt s.heap z TI TO) (pI : IsPair s.heap TI (.ref i1) (.ref i2)) (pO : IsPair s.heap TO a b)
    (it1 : s.heap.IsListIter i1 l1 k1) (it2 : s.heap.IsListIter i2 l2 k2) (L1 : s.heap.IsList l1 xs) (L2 : s.heap.IsList l2 ys) (hx : xs[k1]? = some x) (hy : ys[k2]? = some y)
    (fin : ∀ g, ZSt g z TI TO → (∃ a b, IsPair g TO a b) → g.IsListIter i1 l1 (k1 + 1) → g.IsListIter i2 l2 (k2 + 1) → IsPair g s.heap.objs.size x y → g.objs.size = s.heap.objs.size + 1 →
      (∀ c o, c ≠ z → c ≠ TO → c ≠ i1 → c ≠ i2 → s.heap.get? c = some o → g.get? c = some o) → Q (some (.ref s.heap.objs.size)) { s with heap := g }) :
    wpAny (model prog w) A (pyNext (.ref z)) Q E s := by
  rcases hz with hz | ⟨T, f, hz⟩
  · exact wpAny_pyNext_zip_item D hz pI pO it1 it2 L1 L2 hx hy fun g a1 a2 a3 a4 a5 a6 a7 => fin g (.inr ⟨_, _, a1⟩) ⟨_, _, a2⟩ a3 a4 a5 a6 a7
  · cases q : s.heap.get? T with
    | some oT => exact wpAny_pyNext_zip_item_held D hz q pI it1 it2 L1 L2 hx hy fun g a1 a3 a4 a5 a6 a7 => fin g (.inr ⟨_, _, a1⟩) ⟨_, _, a7 _ _ D.TOz D.TOi1 D.TOi2 pO⟩ a3 a4 a5 a6 fun c o n1 _ n3 n4 e => a7 c o n1 n3 n4 e
    | none =>
      have ty : s.TypeIs (.ref z) "zip" := ⟨_, hz, rfl⟩
      unfold pyNext
      exact wpAny_bind (wpAny_attempt (wpAny_callSpecial?_slot (name := Str.ofString "__next__") ty F.slot_zip_next (wpAny_call_entry F.slot_zip_next ty F.entry_zip_next
        (znext_item D (fun Q' q' => free_gone hz q q') hz pI pO it1 it2 L1 L2 hx hy fun g a1 a2 a3 a4 a5 a6 a7 => wpAny_pure (fin g (.inr ⟨_, _, a1⟩) ⟨_, _, a2⟩ a3 a4 a5 a6 a7)) (F.args_zip_next_1 _))))
theorem zn_end {z TI TO i1 i2 l1 l2 : Addr} {k1 k2 : Nat} {xs ys : Array Value} {a b : Value} {Q : Option Value → Shared → Prop} (hh : A.handled = none) (D : ZipApart z TI TO i1 i2 l1 l2) (hz : ZSt s.heap z TI TO) (pI : IsPair s.heap TI (.ref i1) (.ref i2)) (pO : IsPair s.heap TO a b)
    (it1 : s.heap.IsListIter i1 l1 k1) (it2 : s.heap.IsListIter i2 l2 k2) (L1 : s.heap.IsList l1 xs) (L2 : s.heap.IsList l2 ys) (over : xs[k1]? = none ∨ ys[k2]? = none)
    (fin : ∀ g, (∀ c o, c ≠ z → c ≠ TO → c ≠ i1 → c ≠ i2 → s.heap.get? c = some o → g.get? c = some o) → Q none { s with heap := g }) : wpAny (model prog w) A (pyNext (.ref z)) Q E s := by
  rcases hz with hz | ⟨T, f, hz⟩
  · exact wpAny_pyNext_zip_end hh D hz pI pO it1 it2 L1 L2 over fin
  · cases q : s.heap.get? T with
    | some oT => exact wpAny_pyNext_zip_end_held hh D hz q pI it1 it2 L1 L2 over fun g a => fin g fun c o n1 _ n3 n4 e => a c o n1 n3 n4 e
    | none =>
      have ty : s.TypeIs (.ref z) "zip" := ⟨_, hz, rfl⟩
      unfold pyNext
      refine wpAny_bind (wpAny_attempt (wpAny_callSpecial?_slot (name := Str.ofString "__next__") ty F.slot_zip_next (wpAny_call_entry F.slot_zip_next ty F.entry_zip_next
        (znext_end hh D (fun Q' q' => free_gone hz q q') hz pI pO it1 it2 L1 L2 over fun g e hk ⟨o, ho, hc⟩ => ?_) (F.args_zip_next_1 _))))
      exact wpAny_bind (wpAny_isInstance (T := "StopIteration") (b := true) ⟨o, ho, hc⟩ isSubtype_stop (wpAny_pure (fin _ hk)))
end
end PySem

set_option maxRecDepth 100000
set_option maxHeartbeats 4000000
namespace DL
open PySem PySem.Spec L2
/-! ### zip of two lists, its pairs given to a plain name -/
theorem turn_zipN {P : Program} {w : World} {K : PySem.W.Frag} {x : Str} {tpos : Pos} {a b z TI TO i1 i2 : Addr} (D : ZipApart z TI TO i1 i2 a b) :
    Turn P w K (.Name x tpos) (Itz K a b) [z, TI, TO, i1, i2] z (fun i h => ZSt h z TI TO ∧ IsPair h TI (.ref i1) (.ref i2) ∧ (∃ p q, IsPair h TO p q) ∧ h.IsListIter i1 a i ∧ h.IsListIter i2 b i) where
  mem := List.mem_cons_self
  obj := by
    rintro i h ⟨hz, pI, ⟨p, q, pO⟩, ⟨o1, e1, _, d1⟩, ⟨o2, e2, _, d2⟩⟩ c hc
    have cs : c = z ∨ c = TI ∨ c = TO ∨ c = i1 ∨ c = i2 := by simpa using hc
    rcases cs with rfl | rfl | rfl | rfl | rfl
    · rcases hz with hz | ⟨T, f, hz⟩ <;> exact ⟨_, hz, fun v q => nomatch q⟩
    · exact ⟨_, pI, fun v q => nomatch q⟩
    · exact ⟨_, pO, fun v q => nomatch q⟩
    · exact ⟨o1, e1, fun v q => by rw [d1] at q; cases q⟩
    · exact ⟨o2, e2, fun v q => by rw [d2] at q; cases q⟩
  keep := by
    rintro i h h' ⟨hz, pI, ⟨p, q, pO⟩, t1, t2⟩ k
    refine ⟨?_, k TI (by simp) _ pI, ⟨p, q, k TO (by simp) _ pO⟩, t1.at fun o e => k i1 (by simp) o e, t2.at fun o e => k i2 (by simp) o e⟩
    rcases hz with hz | ⟨T, f, hz⟩
    · exact .inl (k z (by simp) _ hz)
    · exact .inr ⟨T, f, k z (by simp) _ hz⟩
  item := by
    intro X hP hw hK hc i pins s σ H E I hf st hg
    subst hP hw hK
    obtain ⟨hz, pI, ⟨p, q, pO⟩, t1, t2⟩ := st
    obtain ⟨xs, ys, x', y', hqx, hqy, hx, hy⟩ := hg
    obtain ⟨its, rv, pl, _⟩ := I.list hqx
    obtain ⟨its2, rv2, pl2, _⟩ := I.list hqy
    obtain ⟨u, hu, ru⟩ := rv.get hx
    obtain ⟨u2, hu2, ru2⟩ := rv2.get hy
    have hzl : z < s.heap.objs.size := by rcases hz with hz | ⟨T, f, hz⟩ <;> exact Heap.lt_size hz
    have hTI := Heap.lt_size pI
    have hTO := Heap.lt_size pO
    have hi1 : i1 < s.heap.objs.size := by obtain ⟨_, e, _⟩ := t1; exact Heap.lt_size e
    have hi2 : i2 < s.heap.objs.size := by obtain ⟨_, e, _⟩ := t2; exact Heap.lt_size e
    refine zn_item D hz pI pO t1 t2 pl.isList pl2.isList (x := u) (y := u2) (by simpa using hu) (by simpa using hu2) fun g hz' hO' t1' t2' hT hsz hk => ?_
    refine ⟨_, rfl, ?_⟩
    show wpAny _ _ (pure ()) _ _ _
    refine wpAny_pure ?_
    have new : ObjOk X.prog X.w (upd H s.heap.objs.size (.tup [x', y'])) g s.heap.objs.size (.tup [x', y']) :=
      ⟨by show 2 ≤ sizeLine; decide, [u, u2], .cons ru (.cons ru2 .nil), ⟨_, hT, rfl, _, rfl⟩⟩
    have I1 : Inv X pins σ (upd H s.heap.objs.size (.tup [x', y'])) { s with heap := g } :=
      I.turnedNew (t' := s.toks) (ch := [z, TI, TO, i1, i2]) (fun c o hb e => hk c o (fun q' => hb (by simp [q'])) (fun q' => hb (by simp [q'])) (fun q' => hb (by simp [q'])) (fun q' => hb (by simp [q'])) e) hf (Nat.le_refl _) new
    have pI' : IsPair g TI (.ref i1) (.ref i2) := hk _ _ D.TIz D.TITO D.TIi1 D.TIi2 pI
    refine ⟨.ref s.heap.objs.size, _, I1, rfl, ⟨_, x', y', rfl, I.hok.fresh (Nat.le_refl _), rfl, fun l hl => by rw [I.list_inj hl hqx]; exact hx, fun l hl => by rw [I.list_inj hl hqy]; exact hy⟩, ⟨hz', pI', hO', t1', t2'⟩, fun c hcm => ?_⟩
    have hlt : c < s.heap.objs.size := by
      have cs : c = z ∨ c = TI ∨ c = TO ∨ c = i1 ∨ c = i2 := by simpa using hcm
      rcases cs with rfl | rfl | rfl | rfl | rfl <;> assumption
    rw [upd_ne (Nat.ne_of_lt hlt)]
    exact (hf c hcm).1
  done := by
    intro X hP hw hK hc i pins s σ H E I hf st hg
    subst hP hw hK
    obtain ⟨hz, pI, ⟨p, q, pO⟩, t1, t2⟩ := st
    obtain ⟨xs, ys, hqx, hqy, hend⟩ := hg
    obtain ⟨its, rv, pl, _⟩ := I.list hqx
    obtain ⟨its2, rv2, pl2, _⟩ := I.list hqy
    have l1 := rv.length
    have l2 := rv2.length
    have he : its.toArray[i]? = none ∨ its2.toArray[i]? = none := by
      rcases hend with q | q
      · exact .inl (by simp; omega)
      · exact .inr (by simp; omega)
    exact zn_end (I.ok.hd hc) D hz pI pO t1 t2 pl.isList pl2.isList he fun g hk => ⟨rfl, I.turnedL (t' := s.toks) (ch := [z, TI, TO, i1, i2]) (fun c o hb e =>
      hk c o (fun q' => hb (by simp [q'])) (fun q' => hb (by simp [q'])) (fun q' => hb (by simp [q'])) (fun q' => hb (by simp [q'])) e) hf⟩
  self := fun A i s Q E st h => by
    rcases st.1 with hz | ⟨T, f, hz⟩
    · exact wpAny_pyIter_zip hz h
    · have ty : s.TypeIs (.ref z) "zip" := ⟨_, hz, rfl⟩
      refine wpAny_pyIter_slot ty PySem.F.slot_zip_iter (wpAny_call_entry PySem.F.slot_zip_iter ty PySem.F.entry_zip_iter ?_ (PySem.F.args_zip_iter_1 _))
      show wpAny _ _ (ret (.ref z)) _ _ s
      exact wpAny_pure ⟨_, rfl, "zip", _, ty, PySem.F.slot_zip_next.lookup, h⟩
theorem pi_zipN {X : Cx} {e e2 : Expr} {ta : TA} {p pos tpos : Pos} {x : Str} (hg : Gl X "zip") (hm : X.mg "zip" = none) (ha : PA X [e, e2] ta)
    (hs : starEach [e, e2] X.env = (false, eval e X.env) :: starEach [e2] X.env := by rfl) (hpl : (backTo pos (starEach [e2] X.env)).any (·.1) = false := by rfl) :
    PI X (.Name x tpos) (.Call (.Name "zip" p) [e, e2] [] pos) (iZip X.K ta) := by
  refine ⟨fun pins s σ H R I h => ?_⟩
  refine PyProof.Rows.Call_ (ld_blt I hg hm PyProof.Rows.boot_zip (PyProof.Rows.callWith_type1 (thn (ha.run pos pins s σ H _ I h) fun us s1 ⟨vs, H1, I1, r1, a, b, xs, ys, ex, hqx, hqy, q⟩ => ?_) hs hpl))
  subst ex
  obtain ⟨u, u', rfl, r, r'⟩ := vals2 r1
  cases r
  cases r'
  obtain ⟨its, rv, p1, _⟩ := I1.list hqx
  obtain ⟨its2, rv2, p2, _⟩ := I1.list hqy
  have la : a < s1.heap.objs.size := p1.lt
  have lb : b < s1.heap.objs.size := p2.lt
  refine call_zip_2 p1.isList p2.isList fun g hz pI pO t1 t2 hsz hk => wpAny_pyIter_zip hz ?_
  have I2 : Inv X pins σ H1 { s1 with heap := g } := I1.kept (t' := s1.toks) hk
  refine ⟨s1.heap.objs.size + 4, [s1.heap.objs.size + 4, s1.heap.objs.size + 2, s1.heap.objs.size + 3, s1.heap.objs.size, s1.heap.objs.size + 1], _, _, H1, rfl, I2, turn_zipN (PySem.W.ktu_apart s1.heap.objs.size a b la lb), ⟨.inl hz, pI, ⟨_, _, pO⟩, t1, t2⟩, fun c hcm => ?_, q⟩
  have hle : s1.heap.objs.size ≤ c := by
    have cs : c = s1.heap.objs.size + 4 ∨ c = s1.heap.objs.size + 2 ∨ c = s1.heap.objs.size + 3 ∨ c = s1.heap.objs.size ∨ c = s1.heap.objs.size + 1 := by simpa using hcm
    rcases cs with z | z | z | z | z
    · rw [z]; exact Nat.le_add_right _ 4
    · rw [z]; exact Nat.le_add_right _ 2
    · rw [z]; exact Nat.le_add_right _ 3
    · rw [z]; exact Nat.le_refl _
    · rw [z]; exact Nat.le_add_right _ 1
  exact I1.fpOk hle (I1.hok.fresh hle)
section
variable {X : Cx} {W : WX} {E1 : E1T} {K : PySem.W.Frag}
/-- the pairs of two lists -/
def zipD : List D → List D → List D
  | a :: as, b :: bs => .tup [a, b] :: zipD as bs
  | _, _ => []
theorem zipD_get : ∀ (as bs : List D) (i : Nat) (d : D), (zipD as bs)[i]? = some d → ∃ a b, as[i]? = some a ∧ bs[i]? = some b ∧ d = .tup [a, b]
  | a :: as, b :: bs, 0, d, h => by simp [zipD] at h; exact ⟨a, b, rfl, rfl, h.symm⟩
  | a :: as, b :: bs, i + 1, d, h => by simpa using zipD_get as bs i d (by simpa [zipD] using h)
  | [], _, _, _, h => by simp [zipD] at h
  | _ :: _, [], _, _, h => by simp [zipD] at h
theorem zipD_len : ∀ (as bs : List D), (zipD as bs).length = min as.length bs.length
  | a :: as, b :: bs => by simp only [zipD, List.length_cons, zipD_len as bs]; omega
  | [], _ => by simp [zipD]
  | _ :: _, [] => by simp [zipD]
theorem zip_ok {F : Fm} {a b : Addr} {as bs : List D} (ha : (D.lst as, V.ref a) ∈ F.P) (hb : (D.lst bs, V.ref b) ∈ F.P) : ItOk K F (Itz K a b) (zipD as bs) := by
  intro M H σ ρ S i
  obtain ⟨a', xs, ea, h1, g1⟩ := S.pn _ ha
  obtain ⟨b', ys, eb, h2, g2⟩ := S.pn _ hb
  cases ea
  cases eb
  refine ⟨fun d hd => ?_, fun hl => ⟨xs, ys, h1.sq, h2.sq, ?_⟩⟩
  · obtain ⟨p, q, hp, hq, rfl⟩ := zipD_get _ _ _ _ hd
    obtain ⟨x, hx, rx⟩ := g1.get hp
    obtain ⟨y, hy, ry⟩ := g2.get hq
    refine ⟨⟨xs, ys, x, y, h1.sq, h2.sq, hx, hy⟩, fun v H' ⟨T, x', y', ev, nT, eH, e1, e2⟩ => ?_⟩
    subst ev eH
    have z1 := e1 xs h1.sq
    rw [hx] at z1
    cases z1
    have z2 := e2 ys h2.sq
    rw [hy] at z2
    cases z2
    have en := same_new nT (.tup [x, y])
    exact ⟨en, T, _, rfl, SqT.of upd_same, _, _, rfl, same_rp en rx, _, _, rfl, same_rp en ry, rfl⟩
  · rw [zipD_len] at hl
    rw [g1.length, g2.length]
    omega
abbrev uItZ (t : TA1) : TA1 := fun ρ Q => t ρ fun ds => match ds with
  | [.lst as, .lst bs] => Q (zipD as bs)
  | _ => False
theorem zip_imp {ta : TA} {t : TA1} (i1 : ImpA K W E1 ta t) : ∀ (F : Fm) (M : List Addr) (H : Hp) (σ : St) (ρ : Rho) (Q1 : List D → Prop) (R : It → Hp → Prop), StR K F M H σ ρ → Xok K F W E1 → uItZ t ρ Q1 →
    (∀ J H' P' ds, Same H H' → (∀ p ∈ P', Rp K H' (M ++ F.L0) p.1 p.2) → ItOk K { F with P := P' ++ F.P } J ds → Q1 ds → R J H') → iZip K ta σ H R := by
  intro F M H σ ρ Q1 R S hx t q
  refine i1 F M H σ ρ _ _ S hx t fun vs H1 ds e1 r1 t1 => ?_
  match ds, t1 with
  | [.lst as, .lst bs], t1 =>
  obtain ⟨v, r, e2, g1, v', r', e3, g2, e4⟩ := r1
  subst e4 e3 e2
  have k1 := g1
  have k2 := g2
  obtain ⟨a, xs, ea, h1, _⟩ := g1
  obtain ⟨b, ys, eb, h2, _⟩ := g2
  subst ea eb
  refine ⟨a, b, xs, ys, rfl, h1.sq, h2.sq, q _ H1 [(.lst as, .ref a), (.lst bs, .ref b)] _ e1 (fun p hp => ?_) (zip_ok (by simp) (by simp)) t1⟩
  rcases List.mem_cons.mp hp with z | z
  · rw [z]; exact k1
  · rw [List.mem_singleton.mp z]; exact k2
theorem qi_zip {elts : List Expr} {kk : Nat} {a b : Expr} {p pos tpos : Pos} {t : TA1} (hg : Gl X "zip") (hm : X.mg "zip" = none) (h : QA X W E1 [a, b] t) (hs : starEach [a, b] X.env = (false, eval a X.env) :: starEach [b] X.env := by rfl) (hpl : (backTo pos (starEach [b] X.env)).any (·.1) = false := by rfl) :
    QI X W E1 (.Tuple elts kk tpos) (.Call (.Name "zip" p) [a, b] [] pos) (uItZ t) := by
  obtain ⟨te, p1, i1⟩ := h
  exact ⟨_, pi_zip hg hm p1 hs hpl, zip_imp i1⟩
theorem qi_zipN {x : Str} {a b : Expr} {p pos tpos : Pos} {t : TA1} (hg : Gl X "zip") (hm : X.mg "zip" = none) (h : QA X W E1 [a, b] t) (hs : starEach [a, b] X.env = (false, eval a X.env) :: starEach [b] X.env := by rfl) (hpl : (backTo pos (starEach [b] X.env)).any (·.1) = false := by rfl) :
    QI X W E1 (.Name x tpos) (.Call (.Name "zip" p) [a, b] [] pos) (uItZ t) := by
  obtain ⟨te, p1, i1⟩ := h
  exact ⟨_, pi_zipN hg hm p1 hs hpl, zip_imp i1⟩

/-! ### max of a pair, all of bools -/
def rMaxT (K : PySem.W.Frag) : List V → Hp → VK → Prop := fun vs H Q => ∃ (a : Addr) (i j : Int), vs = [V.ref a] ∧ SqT K H a [.int i, .int j] ∧ Q (.int (max i j)) H
theorem alike_two (i j : Int) : PySem.W.AlikeAll [.int i, .int j] := by
  refine ⟨fun x hx y hy => ?_, fun x hx => ?_⟩
  · simp at hx hy
    rcases hx with rfl | rfl <;> rcases hy with rfl | rfl <;> rfl
  · simp at hx
    rcases hx with rfl | rfl <;> simp
theorem call_maxT (hc : X.calm = true) (hu : X.A.units + 65 < cLine) : CallR X (.builtin "max") (rMaxT X.K) := by
  intro pins s σ H vs us Q I r h
  obtain ⟨a, i, j, rfl, hs, q⟩ := h
  rw [Vals.ref1 r]
  obtain ⟨its, rv, pt, _⟩ := I.tuple hs
  have da : DpAll X.K H [V.int i, V.int j] [.int i, .int j] := .cons (.int i) (.cons (.int j) .nil)
  obtain ⟨as, ra⟩ := Dp.readsAll I _ _ its da rv
  have d0 : PyData.depthAll [.int i, .int j] = 0 := by simp [PyData.depthAll, PyData.depth]
  refine PySem.W.max_tuple_data (vs := its.toArray) (I.ok.hd hc) pt (by simpa using ra) (alike_two i j) (by rw [d0]; omega) fun k v h' tk bs _ hr hk => ?_
  have e : PySem.W.maxD (.int i) [.int j] = .int (max i j) := PySem.W.maxD_ints i [j]
  rw [e] at hr
  cases hr
  exact ⟨.int (max i j), H, I.kept (t' := tk) hk, ⟨_, rfl⟩, q⟩
@[simp] abbrev fMaxT : List D → (D → Prop) → Prop := fun ds Q => ∃ i j, ds = [.tup [.int i, .int j]] ∧ Q (.int (max i j))
theorem i_maxT : CallI K (rMaxT K) fMaxT := by
  rintro H L ds vs Q1 Q hL r ⟨i, j, rfl, t⟩ q
  obtain ⟨x, r', rfl, ⟨a, xs, ea, h1, g1⟩, h2⟩ := r
  cases h2
  subst ea
  obtain ⟨x1, r1, e1, h3, x2, r2, e2, h4, e3⟩ := g1
  cases h3; cases h4; subst e3 e2 e1
  exact ⟨a, i, j, rfl, h1, q _ H (.int _) (Same.refl H) rfl t⟩
/-- a list of bools -/
def bL (bs : List Bool) : List D := bs.map D.bl
theorem rp_bools {H : Hp} {L : List Addr} : ∀ {ns : List Bool} {vs : List V}, RpAll K H L (bL ns) vs → vs = ns.map V.bl
  | [], _, h => h
  | n :: ns, _, ⟨x, r, h1, h2, h3⟩ => by
    cases h2
    rw [h1, rp_bools h3]; rfl
@[simp] abbrev fAll : List D → (D → Prop) → Prop := fun ds Q => ∃ bs, ds = [.lst (bL bs)] ∧ Q (.bl (bs.all id))
theorem i_all : CallI K (rAll K) fAll := by
  rintro H L ds vs Q1 Q hL r ⟨bs, rfl, t⟩ q
  obtain ⟨x, r', rfl, ⟨a, xs, ea, h1, g1⟩, h2⟩ := r
  cases h2
  subst ea
  exact ⟨a, bs, rfl, by rw [← rp_bools g1]; exact h1.sq, q _ H (.bl _) (Same.refl H) rfl t⟩
end
end DL

set_option maxRecDepth 100000
set_option maxHeartbeats 4000000
/-! The data layer: defs that raise, raise, a try whose clause keeps what it caught, isinstance of what was kept. -/
namespace DL
open PySem PySem.Spec L2

/-- what the text says of an own exception class without own __init__ -/
structure ExK (K : PySem.W.Frag) (C : Addr) : Prop where
  ex : PySem.W.excIn K C [.type "ValueError", .type "Exception", .type "BaseException", .type "object"] "ValueError.__new__" = true
  kp : PySem.W.keepIn K (.ref C) = true
  sb : PySem.W.subIn K (.ref C) (.type "BaseException") = some true
  ty : PySem.W.typeIn K (.ref C) = some (.type "type")
  ask : ExcC K C

/-- what isinstance answers of own classes -/
theorem kit_t {K : PySem.W.Frag} {C C' : Addr} (d : PySem.W.hasDictIn K C' = true) (t : PySem.W.typeIn K (.ref C') = some (.type "type")) (s : PySem.W.subIn K (.ref C) (.ref C') = some true) : PySem.W.kitOne K (.ref C) (.ref C') = some true := by
  obtain ⟨cd, hc, _⟩ := PySem.W.any_some d
  unfold PySem.W.kitOne PySem.W.kitCls
  split
  · rfl
  · dsimp only
    rw [hc, t, if_pos (by rfl)]
    exact s
theorem kit_f {K : PySem.W.Frag} {C C' : Addr} (d : PySem.W.hasDictIn K C' = true) (t : PySem.W.typeIn K (.ref C') = some (.type "type")) (s : PySem.W.subIn K (.ref C) (.ref C') = some false) (ne : (C == C') = false) : PySem.W.kitOne K (.ref C) (.ref C') = some false := by
  obtain ⟨cd, hc, _⟩ := PySem.W.any_some d
  unfold PySem.W.kitOne PySem.W.kitCls
  rw [if_neg (by
    intro z
    have z' : Value.ref C = Value.ref C' := beq_iff_eq.mp z
    cases z'
    simp at ne)]
  dsimp only
  rw [hc, t, if_pos (by rfl)]
  exact s
theorem kit_b {K : PySem.W.Frag} {C : Addr} {T : String} (m : PySem.W.kitMeta T = true) (s : PySem.W.subIn K (.ref C) (.type T) = some true) : PySem.W.kitOne K (.ref C) (.type T) = some true := by
  unfold PySem.W.kitOne PySem.W.kitCls
  rw [if_neg (by intro z; have z' : Value.ref C = Value.type T := beq_iff_eq.mp z; cases z')]
  dsimp only
  rw [if_pos m]
  exact s

theorem xcO_ok {P : Program} {w : World} {H : Hp} {h : Heap} {a C : Addr} {oe : Obj} {vs : Array Value} (e : h.get? a = some oe) (z : Zc (.ref C) none oe) (d : oe.data = .fields vs) : ObjOk P w H h a (XcO C a) :=
  ⟨⟨oe, vs, e, z, d⟩, ⟨oe, e⟩, fun _ _ ⟨o, v, q, r⟩ k => ⟨o, v, k o q, r⟩⟩
/-- a caught exception is told of in the heap from here on -/
theorem layX {X : Cx} {pins : List (Addr × Obj)} {σ : St} {H : Hp} {s : Shared} {a C : Addr} {oe : Obj} {vs : Array Value} (I : Inv X pins σ H s) (e : s.heap.get? a = some oe) (z : Zc (.ref C) none oe) (d : oe.data = .fields vs)
    (h0 : X.s_0.heap.get? a = none) (nL : a ≠ X.env.locals) (np : ∀ p ∈ X.pn ++ pins, p.1 ≠ a) (na : H a = none) : Inv X pins σ (upd H a (XcO C a)) s := by
  have up : ∀ {b : Addr} {u : HO}, H b = some u → upd H a (XcO C a) b = some u := fun {b u} q => by rw [upd_ne (ne_of_none q na)]; exact q
  refine ⟨I.ok, I.os, I.bare, ⟨I.base.keep, I.base.slot, fun b o q n hx => ?_, I.base.there, fun b xs q => up (I.base.tups b xs q), fun b o u q => up (I.base.frzs b o u q), fun b ps q => ?_⟩, I.loc, I.cell, ?_, fun x c q => ?_, fun p hp => ?_, fun b u q => ?_, I.len⟩
  · have nb : b ≠ a := by rintro rfl; rw [h0] at q; cases q
    rw [upd_ne nb]; exact I.base.free b o q n hx
  · obtain ⟨more, w⟩ := I.base.tbls b ps q
    exact ⟨more, up w⟩
  · rw [upd_ne (Ne.symm nL)]; exact I.free
  · have nc : c ≠ a := by
      rintro rfl
      obtain ⟨v, o, ho, hd⟩ := I.cell x c q
      rw [e] at ho; cases ho
      rw [d] at hd; cases hd
    rw [upd_ne nc]; exact I.freeC x c q
  · obtain ⟨p1, p2, p3⟩ := I.pin p hp
    exact ⟨p1, by rw [upd_ne (np p hp)]; exact p2, p3⟩
  · by_cases hb : b = a
    · subst hb; rw [upd_same] at q; cases q; exact xcO_ok e z d
    · rw [upd_ne hb] at q
      exact (I.hok b u q).stay (fun c v hc w => w) (fun c w => up w) fun c xs w => up w

/-- isinstance(e, c), e a caught exception, kept -/
def rIsX (K : PySem.W.Frag) : List V → Hp → VK → Prop := fun xs H Q => ∃ (C a : Addr) (c : V) (cv : Value) (b : Bool), xs = [.ref a, c] ∧ H a = some (XcO C a) ∧ ExcC K C ∧ (∀ u, RelV c u → u = cv) ∧ PySem.W.kitOne K (.ref C) cv = some b ∧ Q (.bl b) H
theorem call_isX {X : Cx} : CallR X (.builtin "isinstance") (rIsX X.K) := by
  intro pins s σ H xs us Q I r h
  obtain ⟨C, a, c, cv, b, rfl, hH, E, hcv, e, q⟩ := h
  cases r with
  | cons rx rr =>
    cases rr with
    | cons rt rr =>
      cases rr
      cases rx
      have ec := hcv _ rt
      subst ec
      obtain ⟨⟨oe, vs, hget, ⟨h1, h2⟩, hv⟩, _, _⟩ := I.hok a _ hH
      have J : PySem.W.InstAt s.heap a oe C none := by
        obtain ⟨oc, od, oda, osl⟩ := oe
        dsimp only at h1 h2 hv
        subst h1 h2 hv
        exact ⟨hget, rfl, rfl, trivial⟩
      exact PySem.W.kia_one (PySem.W.handS_kitx_exc E.hg E.hk E.hs E.hd E.ha E.hn E.ht E.hm) I.kIn J e (fun z => nomatch z) fun tk => ⟨.bl b, H, I.tok tk, rfl, q⟩
@[simp] abbrev fIsX (K : PySem.W.Frag) : List D → (D → Prop) → Prop := fun ds Q => ∃ (C : Addr) (c : D) (cv : Value) (b : Bool), ds = [.exc C, c] ∧ ((∃ C', c = .cls C' ∧ cv = .ref C') ∨ ∃ n, c = .ty n ∧ cv = .type n) ∧ ExcC K C ∧ PySem.W.kitOne K (.ref C) cv = some b ∧ Q (.bl b)
theorem i_isX {K : PySem.W.Frag} : CallI K (rIsX K) (fIsX K) := by
  rintro H L ds vs Q1 Q hL r ⟨C, c, cv, b, rfl, hc, E, hk, t⟩ q
  obtain ⟨x, r', rfl, h1, y, r2, rfl, h2, h3⟩ := r
  cases h3
  obtain ⟨a, rfl, ha⟩ := h1
  refine ⟨C, a, y, cv, b, rfl, ha, E, ?_, hk, q _ H (.bl b) (Same.refl H) rfl t⟩
  rcases hc with ⟨C', rfl, rfl⟩ | ⟨n, rfl, rfl⟩
  · cases h2
    intro u hu
    exact hu
  · cases h2
    intro u hu
    exact hu

section
variable {X : Cx} {W : WX} {E1 : E1T} {a b : Expr} {es body : List Stmt} {pos p : Pos} {i j : Nat} {x n y : Str} {c : Value} {np np2 yp ap pos' : Pos}
/-- a class of the text, as a value -/
theorem q_cls {C : Addr} (hg : Gl X x) (hm : X.mg x = some (.ref C)) (hd : (x == ("__debug__" : Str)) = false := by decide) : QE X W E1 (.Name x pos) (uC (.cls C)) :=
  q_c (v := .ref C) (pe_glob hg hm rfl hd) (fun _ _ => rfl)
/-- raise C('m') -/
theorem qs_raise {C : Addr} {m : Str} {k : Nat} {p2 : Pos} (E : ExK X.K C) (gC : X.mg x = some (.ref C)) (hc : X.calm = true) (tk : Takes X W) (hg : Gl X x) (hdb : (x == ("__debug__" : Str)) = false := by decide) :
    QS X W E1 (.Raise (some (.Call (.Name x p) [.Constant (.str m) k p2] [] pos)) none pos') (fun _ ρ => E1 C ρ) :=
  ⟨_, ps_raise hc tk (pmk_own PySem.F.excBase_ValueError E.ex gC E.kp (raises_own E.sb E.ty) hg hdb), fun F M H σ ρ D1 D S hx t k => hx C M H σ ρ S t⟩
/-- try: body / except x as n: y = n -/
theorem run_keep (hs : X.stack = X.env :: X.outer) (hf : X.env.frame = some X.env.locals) (hex : X.ex = []) (hN : X.N.Nodup) (hi : X.N[i]? = some n) (hj : X.N[j]? = some y) (hln : X.env.kindOf n = some .local) (hly : X.env.scope.names.lookup y = some .local) (hc : Names X x c)
    (hnd : (n == ("__debug__" : Str)) = false) (hnc : (n == ("__classdict__" : Str)) = false) (hsw : ∀ (X' : Cx), X'.env = X.env → swapsWith (.Name n np2) (some (.Name y yp)) ap.line X'.env = pure false)
    {pins : List (Addr × Obj)} {s : Shared} {σ : St} {H : Hp} {D : Ends} (I : Inv X pins σ H s) (W' : WX)
    (hW : ∀ cls d σ' H', W' cls d σ' H' → ∃ C, cls = .ref C ∧ d = none ∧ PySem.W.exmOne X.K (.ref C) c = some true ∧ i < σ'.length ∧ ∀ a, H' a = none → D.nx (((σ'.set i (some (.ref a))).set j (some (.ref a))).set i none) (upd H' a (XcO C a)))
    (hb : ∀ (pn : List (Addr × Obj)) (xe : Value → Shared → Prop), Takes (X.tr pn xe) W' → PassesOwn (model X.prog X.w) X.A X.env xe → ∃ tb, PSs (X.tr pn xe) body tb ∧ tb D σ H) :
    wpAny (model X.prog X.w) X.A (exec (.Try body [.ExceptHandler (some (.Name x np)) (some n) [.Assign [.Name y yp] (.Name n np2) ap] pos'] [] [] pos) X.env) (SP X pins D) X.xe s := by
  have ok := I.ok
  have hfr : X.A.frames = some (X.env :: X.outer) := by rw [ok.frames, hs]
  refine wpAny_Try_except ?_
  have tk : Takes (X.tr (X.pn ++ pins) (fun e s₁ => wpAny (model X.prog X.w) X.A (noteFrame e X.env) (fun _ s₂ => wpAny (model X.prog X.w) X.A (setFlight e none) (fun _ s₃ => wpAny (model X.prog X.w) X.A (handleBy e X.env [.ExceptHandler (some (.Name x np)) (some n) [.Assign [.Name y yp] (.Name n np2) ap] pos']) (SP X pins D) X.xe s₃) X.xe s₂) X.xe s₁)) W' := by
    -- something was raised: it lands here
    intro u s' air
    obtain ⟨a, B, sI, pins', σ', H', cls, d, rfl, J', nb, up, sky, na, os, ag, w⟩ := air
    obtain ⟨C, rfl, rfl, hm, li, fin⟩ := hW _ _ _ _ w
    have J : Inv X pins σ' H' sI := J'.ofTry ok
    rw [show (X.tr (X.pn ++ pins) _).stack = X.env :: X.outer from hs] at sky
    show wpAny _ _ (noteFrame (.ref a) X.env) _ _ _
    refine Sky.land Zc.steady hfr hf sky fun h3 fl3 up3 => ?_
    have J3 : Inv X pins σ' H' { s' with heap := h3 } := J.landed nb fl3.1 (up.trans up3) os ag
    obtain ⟨o3, v3, he3, hz3, hd3⟩ := fl3.there
    have off : a ∉ frs (X.env :: X.outer) := fun hm => by
      obtain ⟨_, o, q, no⟩ := fl3.2.2.1.mem hm
      have q' := he3.symm.trans q
      cases q'
      exact no _ hd3
    have nL : a ≠ X.env.locals := fun z => off (List.mem_filterMap.mpr ⟨X.env, List.mem_cons_self, by rw [hf, z]⟩)
    have nF : a ∉ X.fs := fun hm => by
      obtain ⟨e, he, q⟩ := List.mem_filterMap.mp hm
      exact off (List.mem_filterMap.mpr ⟨e, List.mem_cons_of_mem _ he, q⟩)
    -- what stood in the state without it is none of its objects
    have old : ∀ b o, sI.heap.get? b = some o → b ≠ a := fun b o q z => by
      subst z
      have z := nb b o q (by rw [hs]; exact off)
      rw [fl3.2.1] at z
      cases z
    have h0 : X.s_0.heap.get? a = none := by
      cases q : X.s_0.heap.get? a with
      | none => rfl
      | some o =>
        obtain ⟨o', q'⟩ := J.base.there a o q (by rw [hex]; exact fun z => nomatch z)
        exact absurd rfl (old a o' q')
    have npin : ∀ p ∈ X.pn ++ pins, p.1 ≠ a := fun p hp => old p.1 p.2 (J.pin p hp).1
    have ask : ∀ {Q : Value → Shared → Prop} {E : Value → Shared → Prop}, Q c { s' with heap := h3 } → wpAny (model X.prog X.w) (X.A.mark (some (.ref a))) (eval (.Name x np) X.env) Q E { s' with heap := h3 } := fun {Q E} q => by
      have S3 := J3.suite he3 hd3 na nL nF
      obtain ⟨hg, hdb, hv | ⟨hv, hbv, hnn⟩⟩ := hc
      · exact ld_glob (X := X.suite a ((a, o3) :: (X.pn ++ pins))) S3 hg hv q hdb
      · exact ld_blt (X := X.suite a ((a, o3) :: (X.pn ++ pins))) S3 hg hv hbv q hnn hdb
    have LT : PySem.W.Looks (model X.prog X.w) h3 (typeOf (.ref a)) (.ref C) := fun A Q E s k q => wpAny_typeOf_ref (k _ _ he3) (by rw [hz3.1]; exact q)
    refine wpAny_handleBy_cons (codeAny_handlers_test (ask ((PySem.W.exm_one (M := model X.prog X.w) J3.kIn LT hm).here ?_))) (by intro q; cases q)
    refine codeAny_handlers_suite_as (HandSPX.lands_againZ fl3 fun h4 fl4 up4 => ?_)
    have J4 : Inv X pins σ' H' { s' with heap := h4 } := J.landed nb fl4.1 ((up.trans up3).trans up4) os ag
    obtain ⟨o4, v4, he4, hz4, hd4⟩ := fl4.there
    have S4 := J4.suite he4 hd4 na nL nF
    refine store_ok (X := X.suite a ((a, o4) :: (X.pn ++ pins))) (v := .ref a) S4 hN hi (.inl hln) rfl (fun s5 S5 => ?_) (.inr hln)
    -- y = n
    have body1 := pss_one (ps_set (X := X.suite a ((a, o4) :: (X.pn ++ pins))) (i := j) (x := y) (pos := ap) (pos' := yp) hN hj (.inl hly) (pe_var (i := i) (x := n) (pos := np2) hi (.inl hln) hnd hnc) (hsw _ rfl) (.inr hly))
    refine wpAny_mono (body1.run [] s5 _ H' { nx := fun σ6 H6 => σ6 = (σ'.set i (some (.ref a))).set j (some (.ref a)) ∧ H6 = H', rt := fun _ _ => False, bk := fun _ _ => False, ct := fun _ _ => False } S5 ⟨.ref a, List.getElem?_set_self li, rfl, rfl⟩) (fun f s6 q => ?_) fun _ _ z => z.elim
    cases f with
    | next =>
      obtain ⟨σ6, H6, S6, rfl, rfl⟩ := q
      have e6 := (S6.pin (a, o4) (by simp)).1
      exact gone_ok (layX (S6.unsuite ok) e6 hz4 hd4 h0 nL npin na) hN hi hln fun s7 J7 => ⟨_, _, J7, fin a na⟩
    | brk => obtain ⟨_, _, _, z⟩ := q; exact z.elim
    | cont => obtain ⟨_, _, _, z⟩ := q; exact z.elim
    | ret u => obtain ⟨_, _, _, _, _, z⟩ := q; exact z.elim
  obtain ⟨tb, hp, ht⟩ := hb _ _ tk PassesOwn.looking
  refine wpAny_mono (hp.run [] s σ H D (I.toTry _) ht) (fun f s1 q => ?_) fun e s1 he => he
  cases f with
  | next =>
    obtain ⟨σ', H', J, q⟩ := q
    exact wpAny_execs_nil ⟨σ', H', J.ofTry ok, q⟩
  | brk => exact q.imp fun _ q => q.imp fun _ q => ⟨q.1.ofTry ok, q.2⟩
  | cont => exact q.imp fun _ q => q.imp fun _ q => ⟨q.1.ofTry ok, q.2⟩
  | ret u => exact q.imp fun _ q => q.imp fun _ q => q.imp fun _ q => ⟨q.1.ofTry ok, q.2⟩
theorem qs_keep (i j : Nat) {tb : E1T → TS1} (hs : X.stack = X.env :: X.outer) (hf : X.env.frame = some X.env.locals) (hex : X.ex = []) (hN : X.N.Nodup) (hi : X.N[i]? = some n) (hj : X.N[j]? = some y) (hln : X.env.kindOf n = some .local) (hly : X.env.scope.names.lookup y = some .local) (hc : Names X x c)
    (hb : ∀ (W' : WX) (E' : E1T) (pn : List (Addr × Obj)) (xe : Value → Shared → Prop), Takes (X.tr pn xe) W' → QSs (X.tr pn xe) W' E' body (tb E'))
    (hsw : ∀ (X' : Cx), X'.env = X.env → swapsWith (.Name n np2) (some (.Name y yp)) ap.line X'.env = pure false := by intro _ _; rfl) (hnd : (n == ("__debug__" : Str)) = false := by decide) (hnc : (n == ("__classdict__" : Str)) = false := by decide) :
    QS X W E1 (.Try body [.ExceptHandler (some (.Name x np)) (some n) [.Assign [.Name y yp] (.Name n np2) ap] pos'] [] [] pos)
      (fun D ρ => tb (fun C ρ' => PySem.W.exmOne X.K (.ref C) c = some true ∧ i < ρ'.length ∧ j < ρ'.length ∧ D.nx (((ρ'.set i .un).set j (.dat (.exc C))).set i .un)) D ρ) := by
  refine ⟨fun D σ H => ∃ F M ρ D1, StR X.K F M H σ ρ ∧ tb (fun C ρ' => PySem.W.exmOne X.K (.ref C) c = some true ∧ i < ρ'.length ∧ j < ρ'.length ∧ D1.nx (((ρ'.set i .un).set j (.dat (.exc C))).set i .un)) D1 ρ ∧ EndsOk X.K F D1 D, ⟨fun pins s σ H D I h => ?_⟩, fun F M H σ ρ D1 D S hx t k => ⟨F, M, ρ, D1, S, t, k⟩⟩
  obtain ⟨F, M, ρ, D1, S, t, k⟩ := h
  refine run_keep hs hf hex hN hi hj hln hly hc hnd hnc hsw I (fun cls d σ' H' => ∃ C M' ρ', cls = .ref C ∧ d = none ∧ StR X.K F M' H' σ' ρ' ∧ PySem.W.exmOne X.K (.ref C) c = some true ∧ i < ρ'.length ∧ j < ρ'.length ∧ D1.nx (((ρ'.set i .un).set j (.dat (.exc C))).set i .un)) (fun cls d σ' H' h => ?_) fun pn xe tk pas => ?_
  · obtain ⟨C, M', ρ', rfl, rfl, S', hm, li, lj, q⟩ := h
    have li' : i < σ'.length := by
      obtain ⟨v, h1, _⟩ := S'.sl i _ (List.getElem?_eq_getElem li)
      exact (List.getElem?_eq_some_iff.mp h1).1
    refine ⟨C, rfl, rfl, hm, li', fun a na => ?_⟩
    have S2 := S'.same (same_new na (XcO C a))
    have r : Rp X.K (upd H' a (XcO C a)) (M' ++ F.L0) (.exc C) (.ref a) := ⟨a, rfl, upd_same⟩
    have S3 := ((S2.set i li r).forget i).set j (by simpa using lj) r
    have S4 := S3.forget i
    have e1 : ((((σ'.set i (some (V.ref a))).set i none).set j (some (V.ref a))).set i none) = ((σ'.set i (some (V.ref a))).set j (some (V.ref a))).set i none := by
      apply List.ext_getElem?
      intro m
      simp only [List.getElem?_set, List.length_set]
      repeat' split
      all_goals first | rfl | simp_all
    have e2 : ((((ρ'.set i (.dat (.exc C))).set i .un).set j (.dat (.exc C))).set i .un) = ((ρ'.set i .un).set j (.dat (.exc C))).set i .un := by simp only [Rho.set, List.set_set]
    rw [e1, e2] at S4
    exact k.nx _ _ _ _ S4 q
  · obtain ⟨ts, hp, im⟩ := hb _ (fun C ρ' => PySem.W.exmOne X.K (.ref C) c = some true ∧ i < ρ'.length ∧ j < ρ'.length ∧ D1.nx (((ρ'.set i .un).set j (.dat (.exc C))).set i .un)) pn xe tk
    exact ⟨ts, hp, im F M H σ ρ D1 D S (fun C M' H' σ' ρ' S' ⟨hm, li, lj, q⟩ => ⟨C, M', ρ', rfl, rfl, S', hm, li, lj, q⟩) t k⟩

/-- x is not None -/
def D.isNon : D → Bool
  | .non => true
  | _ => false
@[simp] abbrev fNotN : F2 := fun d e Q => e = .non ∧ Q (.bl (!d.isNon))
theorem rp_non {K : PySem.W.Frag} {H : Hp} {L : List Addr} {d : D} {v : V} (r : Rp K H L d v) : decide (v = .non) = d.isNon := by
  cases d
  case tup ds => obtain ⟨a, _, rfl, _⟩ := r; rfl
  case lst ds => obtain ⟨a, _, rfl, _⟩ := r; rfl
  case dct => obtain ⟨a, rfl, _⟩ := r; rfl
  case ob => obtain ⟨a, _, _, rfl, _⟩ := r; rfl
  case exc => obtain ⟨a, rfl, _⟩ := r; rfl
  all_goals (cases r; rfl)
theorem i_notN {K : PySem.W.Frag} : OpI K (fun x y H Q => y = .non ∧ Q (.bl (!decide (x = .non))) H) fNotN := by
  rintro H L d1 d2 v1 v2 Q1 Q hL r1 r2 ⟨rfl, t⟩ q
  cases r2
  refine ⟨rfl, ?_⟩
  rw [rp_non r1]
  exact q _ H (.bl _) (Same.refl H) rfl t
/-- int(k) -/
@[simp] abbrev fInt1 : List D → (D → Prop) → Prop := fun ds Q => ∃ k : Bool, ds = [.bl k] ∧ Q (.int (if k then 1 else 0))
theorem i_int1 {K : PySem.W.Frag} : CallI K (fun xs H Q => (∃ i, xs = [.int i] ∧ Q (.int i) H) ∨ ∃ k, xs = [.bl k] ∧ Q (.int (if k then 1 else 0)) H) fInt1 := by
  rintro H L ds vs Q1 Q hL r ⟨k, rfl, t⟩ q
  obtain ⟨x, r', rfl, h1, h2⟩ := r
  cases h2; cases h1
  exact .inr ⟨k, rfl, q _ H (.int _) (Same.refl H) rfl t⟩
/-- [..] * k -/
theorem rp_rep {K : PySem.W.Frag} {H : Hp} {L : List Addr} {ds : List D} {vs : List V} (r : RpAll K H L ds vs) : ∀ k : Nat, RpAll K H L (List.replicate k ds).flatten (List.replicate k vs).flatten
  | 0 => rfl
  | k + 1 => by
    rw [List.replicate_succ, List.replicate_succ, List.flatten_cons, List.flatten_cons]
    exact r.append (rp_rep r k)
theorem q_rep {ls : List Expr} {t : TA1} {u : TE1} {lpos : Pos} (ha : QA X W E1 ls t) (hb : QE X W E1 b u) : QE X W E1 (.BinOp (.List ls lpos) .Mult b pos) (fun ρ Q => t ρ fun ds => ds.length ≤ 30 ∧ u ρ fun d => ∃ k : Nat, d = .int (k : Int) ∧ k ≤ 30 ∧ Q (.lst (List.replicate k ds).flatten)) := by
  obtain ⟨ta, h1, i1⟩ := ha
  obtain ⟨tr, h2, i2⟩ := hb
  refine ⟨_, pe_op op_rep (pe_lst h1) h2, fun F M H σ ρ Q1 Q S hx t q => ?_⟩
  refine i1 F M H σ ρ _ _ S hx t fun vs H1 ds e1 r1 ⟨hl, t1⟩ => ⟨Nat.le_of_lt (small1000 (by rw [r1.length]; omega)), fun p hp => ?_⟩
  have e2 := same_new hp (.lst vs)
  refine i2 F M _ σ ρ _ _ ((S.same e1).same e2) hx t1 fun w H2 d e3 r2 ⟨k, ed, hk, t2⟩ => ?_
  subst ed
  cases r2
  have hz : vs.length * ((k : Int)).toNat ≤ sizeLine := by
    rw [r1.length, Int.toNat_natCast, sizeLine_eq]
    have : ds.length * k ≤ 30 * 30 := Nat.mul_le_mul hl hk
    omega
  refine ⟨p, k, vs, rfl, rfl, e3 _ _ upd_same, by omega, by omega, hz, fun z hz => ?_⟩
  have e4 := same_new hz (.lst (List.replicate ((k : Int)).toNat vs).flatten)
  refine q _ _ (.lst (List.replicate k ds).flatten) (e1.trans (e2.trans (e3.trans e4))) ⟨z, _, rfl, .inl ⟨fun y => (((S.same e1).same e2).same e3).all z y hz, .inl upd_same⟩, ?_⟩ t2
  rw [Int.toNat_natCast]
  exact same_all e4 (same_all e3 (same_all e2 (rp_rep r1 k)))
/-- s.join(list of texts) -/
@[simp] abbrev fJoin : D → List D → (D → Prop) → Prop := fun d es Q => ∃ (a : Str) (ys : List Str), d = .str a ∧ es = [.lst (ys.map D.str)] ∧ (ys.map (·.length)).sum + ys.length * a.length ≤ 16777216 ∧ Q (.str (Txt.join a ys))
theorem rp_strs {K : PySem.W.Frag} {H : Hp} {L : List Addr} : ∀ {ns : List Str} {vs : List V}, RpAll K H L (ns.map D.str) vs → vs = ns.map V.str
  | [], _, h => h
  | n :: ns, _, ⟨x, r, h1, h2, h3⟩ => by
    cases h2
    rw [h1, rp_strs h3]; rfl
theorem tyI_str {K : PySem.W.Frag} : TyI K "str" (fun d => ∃ a, d = .str a) := fun H L d v r ⟨a, e⟩ => by
  subst e
  cases r
  rfl
theorem i_join {K : PySem.W.Frag} : MetI K "str" (fun x xs H Q => ∃ a p, ∃ ys : List Str, x = .str a ∧ xs = [.ref p] ∧ (SqL K H p (ys.map V.str) ∨ SqT K H p (ys.map V.str)) ∧ (ys.map (·.length)).sum + ys.length * a.length ≤ 16777216 ∧ Q (.str (Txt.join a ys)) H) fJoin := by
  rintro H L d ds v vs Q1 Q hL r1 r2 ⟨a, ys, rfl, rfl, hz, t⟩ q
  cases r1
  obtain ⟨x, r', rfl, h1, h2⟩ := r2
  cases h2
  obtain ⟨p, xs, rfl, h3, h4⟩ := h1
  refine ⟨a, p, ys, rfl, rfl, .inl ?_, hz, q _ H (.str _) (Same.refl H) rfl t⟩
  rw [← rp_strs h4]
  exact h3.sq
end

/-! ### a def that may raise, by its body -/
section
variable {P : Program} {w : World} {K : PySem.W.Frag} {mg : Str → Option Value} {base : Heap}
theorem okDX {x qual : Str} {st : Stmt} {f : Addr} {fd : FuncData} {N ps : List Str} {k : Nat} {R : List D → Re → Prop} (Fn : Fun K x qual st f fd) (S : FnScope N ps (defScope st)) (len : ∀ ds r, R ds r → ds.length = ps.length)
    (body : ∀ (cdv : Value) (A : Around) (outer : List Env) (s : Shared) (H : Hp) (E : XK), Room k (A.deeper (PyProof.Rows.envOfC qual (defScope st) s.heap.objs.size f cdv)) → ∀ (W : WX) (E1 : E1T), Takes (cxOf (L2.CX P w) P w K mg base N qual (defScope st) f cdv A outer s H E) W →
      ∃ t, QSs (cxOf (L2.CX P w) P w K mg base N qual (defScope st) f cdv A outer s H E) W E1 (defBody st) t ∧
        ∀ ds r, R ds r → (∀ C ρ, r = .er C → E1 C ρ) → t { nx := fun _ => r = .ok .non, rt := fun z _ => r = .ok z } (begun N.length ds)) : FnOk P w K mg base (L2.CX P w) (k + 1) f fd ps (spD K R) := by
  refine Fn.okX S (fun vs H Q E h => ?_) (fun cdv A outer s H vs Q E hr h => ?_)
  · obtain ⟨L, ds, r, hL, ra, hR, _⟩ := h
    rw [ra.length]
    exact len ds r hR
  · obtain ⟨L, ds, r, hL, ra, hR, qo, qe⟩ := h
    obtain ⟨t, ⟨ts, p1, i1⟩, hw⟩ := body cdv A outer s H E hr (fun cls d _ H => E cls d H) (fun C _ => r = .er C) (takes_of rfl rfl rfl rfl)
    refine ⟨ts, p1, i1 ⟨H, L, [], [], []⟩ [] H _ _ _ _ (str_start hL ra) (fun C M H' σ ρ S' z => qe C H' z S'.ext.nil) (hw ds r hR fun C _ z => z) ⟨fun M H' σ ρ S' z => ?_, fun M H' σ ρ v z S' r1 e2 => ?_, fun _ _ _ _ _ z => z.elim, fun _ _ _ _ _ z => z.elim⟩⟩
    · exact qo .non .non H' z S'.ext.nil rfl
    · exact qo z v H' e2 S'.ext.nil (same_no r1)
abbrev CalX (P : Program) (w : World) (K : PySem.W.Frag) (mg : Str → Option Value) (base : Heap) (k : Nat) (x : Str) (ps : List Str) (R : List D → Re → Prop) : Prop := Cal P w K mg base (L2.CX P w) k x ps R
theorem Dfn.okX {x : Str} {st : Stmt} {N ps : List Str} {k : Nat} {R : List D → Re → Prop} (Df : Dfn K mg x st ps) (S : FnScope N ps (defScope st)) (len : ∀ ds r, R ds r → ds.length = ps.length)
    (body : ∀ (y : Str) (f : Addr) (cdv : Value) (A : Around) (outer : List Env) (s : Shared) (H : Hp) (E : XK), Room k (A.deeper (PyProof.Rows.envOfC y (defScope st) s.heap.objs.size f cdv)) → ∀ (W : WX) (E1 : E1T), Takes (cxOf (L2.CX P w) P w K mg base N y (defScope st) f cdv A outer s H E) W →
      ∃ t, QSs (cxOf (L2.CX P w) P w K mg base N y (defScope st) f cdv A outer s H E) W E1 (defBody st) t ∧
        ∀ ds r, R ds r → (∀ C ρ, r = .er C → E1 C ρ) → t { nx := fun _ => r = .ok .non, rt := fun z _ => r = .ok z } (begun N.length ds)) : CalX P w K mg base (k + 1) x ps R := by
  obtain ⟨y, f, fd, Fn, b, m⟩ := Df.ex
  exact ⟨f, fd, okDX Fn S len (body y f), b, Fn.kp, m⟩
theorem Dfn.noneX {x : Str} {st : Stmt} {ps : List Str} {R : List D → Re → Prop} (Df : Dfn K mg x st ps) (no : ∀ ds r, ¬ R ds r) : CalX P w K mg base 0 x ps R := by
  obtain ⟨y, f, fd, Fn, b, m⟩ := Df.ex
  have no' : ∀ vs H Q E, ¬ spD K R vs H Q E := fun vs H Q E ⟨L, ds, r, _, _, h, _⟩ => no ds r h
  exact ⟨f, fd, ⟨fun vs H Q E h => absurd h (no' vs H Q E), fun A outer s H args us vs Q E _ _ _ _ h => absurd h (no' vs H Q E)⟩, b, Fn.kp, m⟩
theorem q_calX {X : Cx} {W : WX} {E1 : E1T} {a : Expr} {es : List Expr} {pos p : Pos} {j k : Nat} {x : Str} {ps : List Str} {R : List D → Re → Prop} {t : TA1} (C : CalX X.prog X.w X.K X.mg X.base j x ps R) (hr : Room k X.A) (hj : j ≤ k) (hg : Gl X x) (tk : Takes X W) (ha : QA X W E1 (a :: es) t)
    (hdb : (x == ("__debug__" : Str)) = false := by decide) (he : starEach (a :: es) X.env = (false, eval a X.env) :: starEach es X.env := by rfl) (hpl : (backTo pos (starEach es X.env)).any (·.1) = false := by rfl) :
    QE X W E1 (.Call (.Name x p) (a :: es) [] pos) (uDef E1 R t) := by
  obtain ⟨f, fd, G, b, kp, m⟩ := C.ex
  exact q_callX G (hr.mono hj) hg m kp b tk ha hdb he hpl
end
end DL

set_option maxRecDepth 100000
set_option maxHeartbeats 4000000
/-! The data layer: a chained comparison, an int of the module. -/
namespace DL
open PySem PySem.Spec L2
section
variable {X : Cx} {W : WX} {E1 : E1T} {a b c : Expr} {pos : Pos}
@[simp] abbrev uChain (f f' : F2) (t u v : TE1) : TE1 := fun ρ Q => t ρ fun d => u ρ fun e => f d e fun z => ∃ k, z = .bl k ∧ if k = true then v ρ fun d' => f' e d' Q else Q (.bl false)
/-- a < b < c -/
theorem q_chain {op op' : CmpOp} {r r' : R2} {f f' : F2} {t u v : TE1} (ho : OpR X (compareOp op) r) (ho' : OpR X (compareOp op') r') (hi : OpI X.K r f) (hi' : OpI X.K r' f') (ha : QE X W E1 a t) (hb : QE X W E1 b u) (hc : QE X W E1 c v) (hm : lastMarks [op, op'] [b, c] = false) : QE X W E1 (.Compare a [op, op'] [b, c] pos) (uChain f f' t u v) := by
  obtain ⟨te, h1, i1⟩ := ha
  obtain ⟨t2, h2, i2⟩ := hb
  obtain ⟨t3, h3, i3⟩ := hc
  refine ⟨_, pe_chain ho ho' h1 h2 h3 hm, fun F M H σ ρ Q1 Q S hx t q => ?_⟩
  refine i1 F M H σ ρ _ _ S hx t fun v H1 d e1 r1 t1 => ?_
  refine i2 F M H1 σ ρ _ _ (S.same e1) hx t1 fun w H2 d2 e2 r2 t2 => ?_
  refine hi H2 (M ++ F.L0) d d2 v w _ _ ((S.same e1).same e2).all (same_rp e2 r1) r2 t2 fun x H3 d3 e3 r3 ⟨k, ek, t3⟩ => ?_
  subst ek
  cases r3
  refine ⟨k, rfl, ?_⟩
  cases k with
  | false => exact q _ H3 (.bl false) (e1.trans (e2.trans e3)) rfl (by simpa using t3)
  | true =>
    refine i3 F M H3 σ ρ _ _ (((S.same e1).same e2).same e3) hx (by simpa using t3) fun z H4 d4 e4 r4 t4 => ?_
    exact hi' H4 (M ++ F.L0) d2 d4 w z _ _ ((((S.same e1).same e2).same e3).same e4).all (same_rp (e3.trans e4) r2) r4 t4 fun x H5 d5 e5 r5 t5 => q x H5 d5 (e1.trans (e2.trans (e3.trans (e4.trans e5)))) r5 t5
/-- an int of the module -/
theorem q_globI {x : Str} {i : Int} (hg : Gl X x) (hm : ∃ u, X.mg x = some u ∧ RelV (V.int i) u) (hd : (x == ("__debug__" : Str)) = false := by decide) : QE X W E1 (.Name x pos) (uC (.int i)) := by
  obtain ⟨u, h1, h2⟩ := hm
  exact q_c (v := .int i) (pe_glob hg h1 h2 hd) (fun _ _ => rfl)
/-- a comprehension over what stands for some things -/
theorem lc_gen {α : Type} {g : TG1} {tt : TT1} {te : TE1} {ρ : Rho} (emb : α → D) (keep : α → Bool) (f : α → D) : ∀ (xs : List α), (∀ x ∈ xs, ∀ (Q1 : D → Prop) (Q2 : Prop), (if keep x = true then Q1 (f x) else Q2) → g (emb x) ρ fun ρ' => tt ρ' fun b => if b = true then te ρ' Q1 else Q2) →
    ∀ (Q : List D → Prop), Q ((xs.filter keep).map f) → lcGo g tt te ρ (xs.map emb) Q
  | [], _, Q, q => q
  | x :: xs, h, Q, q => by
    refine h x (by simp) _ _ ?_
    by_cases z : keep x = true
    · rw [if_pos z]
      rw [List.filter_cons_of_pos z] at q
      exact lc_gen emb keep f xs (fun y hy => h y (by simp [hy])) _ q
    · rw [if_neg z]
      rw [List.filter_cons_of_neg z] at q
      exact lc_gen emb keep f xs (fun y hy => h y (by simp [hy])) _ q
theorem lc_genA {α : Type} {g : TG1} {tt : TT1} {te : TE1} {ρ : Rho} (emb : α → D) (f : α → D) (xs : List α) (h : ∀ x ∈ xs, ∀ (Q1 : D → Prop) (Q2 : Prop), Q1 (f x) → g (emb x) ρ fun ρ' => tt ρ' fun b => if b = true then te ρ' Q1 else Q2)
    (Q : List D → Prop) (q : Q (xs.map f)) : lcGo g tt te ρ (xs.map emb) Q :=
  lc_gen emb (fun _ => true) f xs (fun x hx Q1 Q2 z => h x hx Q1 Q2 (by simpa using z)) Q (by rw [List.filter_eq_self.mpr (fun _ _ => rfl)]; exact q)
theorem at_last {α : Type} (xs : List α) (x : α) : atI (xs ++ [x]) (-1) = some x := by
  unfold atI ixN
  rw [if_neg (by decide), if_pos (by simp; omega)]
  show (xs ++ [x])[(-1 + ((xs ++ [x]).length : Int)).toNat]? = some x
  have e : (-1 + ((xs ++ [x]).length : Int)).toNat = xs.length := by simp; omega
  rw [e]
  simp
end
end DL

set_option maxRecDepth 100000
set_option maxHeartbeats 4000000
/-! The data layer: objects, their making, fields, methods; defs that may change what stands at some places. -/
namespace DL
open PySem PySem.Spec L2
/-! ### by hand: a def, a method, a making, that may let an exception out of where it stands -/
theorem pas0 {X : Cx} {W : WX} : ∀ σ, PassesAt CX0 X σ (WE W σ) := fun σ pins H s e s' I c => pass0 pins σ H s e s' I c
section
variable {X : Cx} {CX : CXT} {k : Nat} {f C : Addr} {fd : FuncData} {ps : List Str} {sp : Sp} {dvs : List V} {ds : List Value} {E : St → XK} {x m : Str} {p pos apos : Pos} {e o : Expr} {es : List Expr} {ta : TE} {t : TA}
theorem run_def {pins : List (Addr × Obj)} {σ : St} {H : Hp} {s : Shared} {Q : VK} {us : List Value} {vs : List V} (G : FnOk X.prog X.w X.K X.mg X.base CX k f fd ps sp)
    (hr : Room k X.A) (hb : Binds X.K fd ps ds) (hd : Vals dvs ds) (hx : PassesAt CX X σ (E σ)) (I : Inv X pins σ H s) (rv : Vals vs us) (hsp : sp (vs ++ dvs) H Q (E σ)) :
    wpAny (model X.prog X.w) X.A (call (.ref f) us) (EP X pins σ Q) X.xe s := by
  have r2 := rv.append hd
  have len : (us ++ ds).length = ps.length := r2.length.symm.trans (G.len _ _ _ _ hsp)
  have go := G.run X.A X.stack s H ⟨us, []⟩ (us ++ ds) (vs ++ dvs) Q (E σ) hr I.env0 (hb s us I.kIn len) r2 hsp
  refine wpAny_call (codeAny_mono go fun res s' hq => ?_)
  match res, hq with
  | .error e, hq => exact hx pins H s e s' I hq
  | .ok (.ret u), hq => exact I.after hq
theorem run_mkd {pins : List (Addr × Obj)} {σ : St} {H : Hp} {s : Shared} {Q : VK} {us : List Value} {vs : List V} (M : Mk X.K C f) (G : FnOk X.prog X.w X.K X.mg X.base CX k f fd ps sp)
    (hr : Room (k + 1) X.A) (hb : Binds X.K fd ps ds) (hd : Vals dvs ds) (hx : PassesAt CX X σ (E σ)) (I : Inv X pins σ H s) (rv : Vals vs us)
    (hsp : ∀ n dn, H n = none → H dn = none → dn ≠ n → sp (.ref n :: (vs ++ dvs)) (upd (upd H dn (.own n)) n (.ins C dn [])) (fun v H2 => v = .non ∧ Q (.ref n) H2) (E σ)) :
    wpAny (model X.prog X.w) X.A (call (.ref C) us) (EP X pins σ Q) X.xe s := by
  have n1 : H (s.heap.objs.size + 1) = none := I.hok.fresh (Nat.le_succ _)
  have n2 : H s.heap.objs.size = none := I.hok.fresh (Nat.le_refl _)
  have hq := hsp _ _ n1 n2 (Nat.ne_of_lt (Nat.lt_succ_self _))
  have J := Inv.made (C := C) I
  have r2 : Vals (V.ref (s.heap.objs.size + 1) :: (vs ++ dvs)) (Value.ref (s.heap.objs.size + 1) :: (us ++ ds)) := .cons rfl (rv.append hd)
  have len : (Value.ref (s.heap.objs.size + 1) :: us ++ ds).length = ps.length := r2.length.symm.trans (G.len _ _ _ _ hq)
  have go := G.run _ X.stack _ _ ⟨Value.ref (s.heap.objs.size + 1) :: us, []⟩ _ _ _ (E σ) (hr.make C us []) (J.env0.make C us []) (hb _ (Value.ref (s.heap.objs.size + 1) :: us) J.kIn len) r2 hq
  refine wpAny_call (make_map (f := f) I.kIn M.makes M.init (beq_iff_eq.mp M.fn) (codeAny_mono go fun res s' hq' => ?_))
  match res, hq' with
  | .error e, hq' => exact hx pins _ _ e s' J hq'
  | .ok (.ret u), hq' =>
    obtain ⟨v, H', J2, rv2, ev, q3⟩ := J.after hq'
    subst ev
    exact ⟨rv2, ⟨V.ref (s.heap.objs.size + 1), H', J2, rfl, q3⟩⟩
/-- f(..) -/
def tDef (sp : Sp) (dvs : List V) (E : St → XK) (t : TA) : TE := fun σ H Q => t σ H fun vs H1 => sp (vs ++ dvs) H1 Q (E σ)
theorem pe_def (G : FnOk X.prog X.w X.K X.mg X.base CX k f fd ps sp) (hr : Room k X.A) (hg : Gl X x) (hm : X.mg x = some (.ref f)) (hk : PySem.W.keepIn X.K (.ref f) = true)
    (hb : Binds X.K fd ps ds) (hd : Vals dvs ds) (hx : ∀ σ, PassesAt CX X σ (E σ)) (ha : PA X (e :: es) t)
    (hdb : (x == ("__debug__" : Str)) = false := by decide) (hst : starEach (e :: es) X.env = (false, eval e X.env) :: starEach es X.env := by rfl) (hpl : (backTo pos (starEach es X.env)).any (·.1) = false := by rfl) :
    PE X (.Call (.Name x p) (e :: es) [] pos) (tDef sp dvs E t) :=
  ⟨fun pins s σ H Q I h => wpAny_Call_Name_kw (ld_glob I hg hm (PySem.W.callWith_K (h₀ := X.base) I.ok.mod.kin hk
    (thn (ha.run pos pins s σ H _ I h) fun us s1 ⟨vs, H1, I1, r, q⟩ => ⟨I1.kIn, run_def G hr hb hd (hx σ) I1 r q⟩) hst hpl) hdb)⟩
theorem pe_def0 (G : FnOk X.prog X.w X.K X.mg X.base CX k f fd ps sp) (hr : Room k X.A) (hg : Gl X x) (hm : X.mg x = some (.ref f)) (hk : PySem.W.keepIn X.K (.ref f) = true)
    (hb : Binds X.K fd ps ds) (hd : Vals dvs ds) (hx : ∀ σ, PassesAt CX X σ (E σ)) (hdb : (x == ("__debug__" : Str)) = false := by decide) : PE X (.Call (.Name x p) [] [] pos) (tDef sp dvs E tNil) :=
  ⟨fun pins s σ H Q I h => wpAny_Call_Name_kw (ld_glob I hg hm (PySem.W.callWith_K0 I.kIn hk (run_def (us := []) (vs := []) G hr hb hd (hx σ) I .nil h)) hdb)⟩
/-- o.m(..) -/
def tMet (C : Addr) (m : Str) (sp : Sp) (dvs : List V) (E : St → XK) (ta : TE) (t : TA) : TE := fun σ H Q => ta σ H fun x H1 => ∃ a dx fs, x = .ref a ∧ H1 a = some (.ins C dx fs) ∧ fs.lookup m = none ∧ t σ H1 fun vs H2 => sp (x :: (vs ++ dvs)) H2 Q (E σ)
theorem pe_met {pl : Sem Bool} (he : PE X o ta) (c : Cls X.K C) (hm : Meth X.K C m f) (G : FnOk X.prog X.w X.K X.mg X.base CX k f fd ps sp) (hr : Room k X.A)
    (hb : Binds X.K fd ps ds) (hd : Vals dvs ds) (hx : ∀ σ, PassesAt CX X σ (E σ)) (ha : PA X (e :: es) t)
    (hst : starEach (e :: es) X.env = (false, eval e X.env) :: starEach es X.env := by rfl) (hpl : (backTo pos (starEach es X.env)).any (·.1) = false := by rfl)
    (ht : eval (.Call (.Attribute o m apos) (e :: es) [] pos) X.env = (do let ov ← eval o X.env; standAt apos.atName; let (f, first) ← holding [ov] (getMethod ov m pl); callWith pos f first (backTo pos (starEach (e :: es) X.env)) (backToKw pos (keywordEach [] X.env))) := by rfl) :
    PE X (.Call (.Attribute o m apos) (e :: es) [] pos) (tMet C m sp dvs E ta t) := by
  refine ⟨fun pins s σ H Q I h => PySem.W.methodCall_KW (pl := pl) (thn (he.run pins s σ H _ I h) fun u s1 ⟨x, H1, I1, rx, a, dx, fs, ex, ea, l, q⟩ => ?_) ht⟩
  subst ex
  cases rx
  exact getmeth_ok I1 ea c hm l (PySem.W.callWith_K (first := [.ref a]) (h₀ := X.base) I.ok.mod.kin hm.kp
    (thn (ha.run pos pins s1 σ H1 _ I1 q) fun us s2 ⟨vs, H2, I2, r, q2⟩ => ⟨I2.kIn, run_def (us := .ref a :: us) (vs := .ref a :: vs) G hr hb hd (hx σ) I2 (.cons rfl r) q2⟩) hst hpl)
theorem pe_met0 {pl : Sem Bool} (he : PE X o ta) (c : Cls X.K C) (hm : Meth X.K C m f) (G : FnOk X.prog X.w X.K X.mg X.base CX k f fd ps sp) (hr : Room k X.A)
    (hb : Binds X.K fd ps ds) (hd : Vals dvs ds) (hx : ∀ σ, PassesAt CX X σ (E σ))
    (ht : eval (.Call (.Attribute o m apos) [] [] pos) X.env = (do let ov ← eval o X.env; standAt apos.atName; let (f, first) ← holding [ov] (getMethod ov m pl); callWith pos f first (backTo pos (starEach [] X.env)) (backToKw pos (keywordEach [] X.env))) := by rfl) :
    PE X (.Call (.Attribute o m apos) [] [] pos) (tMet C m sp dvs E ta tNil) := by
  refine ⟨fun pins s σ H Q I h => PySem.W.methodCall_KW (pl := pl) (thn (he.run pins s σ H _ I h) fun u s1 ⟨x, H1, I1, rx, a, dx, fs, ex, ea, l, q⟩ => ?_) ht⟩
  subst ex
  cases rx
  exact getmeth_ok I1 ea c hm l (PySem.W.callWith_K0 (first := [.ref a]) I1.kIn hm.kp (run_def (us := [.ref a]) (vs := [.ref a]) G hr hb hd (hx σ) I1 (.cons rfl .nil) q))
/-- C(..) -/
def tMkd (C : Addr) (sp : Sp) (dvs : List V) (E : St → XK) (t : TA) : TE := fun σ H Q => t σ H fun vs H1 => ∀ n dn, H1 n = none → H1 dn = none → dn ≠ n → sp (.ref n :: (vs ++ dvs)) (upd (upd H1 dn (.own n)) n (.ins C dn [])) (fun v H2 => v = .non ∧ Q (.ref n) H2) (E σ)
theorem pe_mkd (M : Mk X.K C f) (G : FnOk X.prog X.w X.K X.mg X.base CX k f fd ps sp) (hr : Room (k + 1) X.A) (hg : Gl X x) (hm : X.mg x = some (.ref C))
    (hb : Binds X.K fd ps ds) (hd : Vals dvs ds) (hx : ∀ σ, PassesAt CX X σ (E σ)) (ha : PA X (e :: es) t)
    (hdb : (x == ("__debug__" : Str)) = false := by decide) (hst : starEach (e :: es) X.env = (false, eval e X.env) :: starEach es X.env := by rfl) (hpl : (backTo pos (starEach es X.env)).any (·.1) = false := by rfl) :
    PE X (.Call (.Name x p) (e :: es) [] pos) (tMkd C sp dvs E t) :=
  ⟨fun pins s σ H Q I h => wpAny_Call_Name_kw (ld_glob I hg hm (PySem.W.callWith_K (h₀ := X.base) I.ok.mod.kin M.kp
    (thn (ha.run pos pins s σ H _ I h) fun us s1 ⟨vs, H1, I1, r, q⟩ => ⟨I1.kIn, run_mkd M G hr hb hd (hx σ) I1 r q⟩) hst hpl) hdb)⟩
theorem pe_mkd0 (M : Mk X.K C f) (G : FnOk X.prog X.w X.K X.mg X.base CX k f fd ps sp) (hr : Room (k + 1) X.A) (hg : Gl X x) (hm : X.mg x = some (.ref C))
    (hb : Binds X.K fd ps ds) (hd : Vals dvs ds) (hx : ∀ σ, PassesAt CX X σ (E σ)) (hdb : (x == ("__debug__" : Str)) = false := by decide) : PE X (.Call (.Name x p) [] [] pos) (tMkd C sp dvs E tNil) :=
  ⟨fun pins s σ H Q I h => wpAny_Call_Name_kw (ld_glob I hg hm (PySem.W.callWith_K0 I.kIn M.kp (run_mkd (us := []) (vs := []) M G hr hb hd (hx σ) I .nil h)) hdb)⟩
end
end DL

set_option maxRecDepth 100000
set_option maxHeartbeats 4000000
namespace DL
open PySem PySem.Spec L2
/-! ### what a def promises that may change what stands at some places -/
abbrev RG := List D → Store → (Re → Store → Prop) → Prop
/-- how a call leaves the heap: g was handed over, g' comes back; M' is new -/
structure Out (K : PySem.W.Frag) (L : List Addr) (g : Store) (H H' : Hp) (M' : List Addr) (g' : Store) : Prop where
  ext : SameX (wrs g) H H'
  fr : ∀ a ∈ M', H a = none ∧ H' a ≠ none
  st : StoreR K H' (M' ++ L) g'
  w : ∀ e ∈ g', e.w = true → e.a ∈ M' ∨ e.a ∈ wrs g
  nw : ∀ e ∈ g', e.a ∈ M' ∨ e.a ∈ g.map (·.a)
def spG (K : PySem.W.Frag) (R : RG) : Sp := fun vs H Q E => ∃ (L : List Addr) (ds : List D) (g : Store) (Q1 : Re → Store → Prop), (∀ a ∈ L, H a ≠ none) ∧ RpAll K H L ds vs ∧ StoreR K H L g ∧ R ds g Q1 ∧
  (∀ d v H' M' g', Q1 (.ok d) g' → Out K L g H H' M' g' → Rp K H' (M' ++ L) d v → Q v H') ∧ ∀ C H' M' g', Q1 (.er C) g' → Out K L g H H' M' g' → E (.ref C) none H'
theorem StR.out {K : PySem.W.Frag} {H H' : Hp} {L M : List Addr} {g : Store} {σ : St} {ρ : Rho} (S : StR K ⟨H, L, [], wrs g, g.map (·.a)⟩ M H' σ ρ) : Out K L g H H' M ρ.mu :=
  ⟨S.ext, fun a ha => S.fr a ha, ⟨fun e he => ⟨(S.mu e he).1, (S.mu e he).2.2⟩, S.nd⟩, fun e he w => (S.mu e he).2.1 w, S.ma⟩
section
variable {P : Program} {w : World} {K : PySem.W.Frag} {mg : Str → Option Value} {base : Heap}
/-- THE RULES for such defs: one that raises nothing, one that may, one with defaults that may -/
theorem okG {x qual : Str} {st : Stmt} {f : Addr} {fd : FuncData} {N ps : List Str} {k : Nat} {R : RG} (Fn : Fun K x qual st f fd) (S : FnScope N ps (defScope st)) (len : ∀ ds g Q, R ds g Q → ds.length = ps.length)
    (body : ∀ (cdv : Value) (A : Around) (outer : List Env) (s : Shared) (H : Hp) (E : XK), Room k (A.deeper (PyProof.Rows.envOfC qual (defScope st) s.heap.objs.size f cdv)) →
      ∃ t, QSs (cxOf CX0 P w K mg base N qual (defScope st) f cdv A outer s H E).nox noW noE (defBody st) t ∧
        ∀ ds g Q1, R ds g Q1 → t { nx := fun ρ => Q1 (.ok .non) ρ.mu, rt := fun z g' => Q1 (.ok z) g' } (begunG N.length ds g)) : FnOk P w K mg base CX0 (k + 1) f fd ps (spG K R) := by
  refine Fn.ok S (fun vs H Q E h => ?_) (fun cdv A outer s H vs Q E hr h => ?_)
  · obtain ⟨L, ds, g, Q1, hL, ra, sg, hR, _⟩ := h
    rw [ra.length]
    exact len ds g Q1 hR
  · obtain ⟨L, ds, g, Q1, hL, ra, sg, hR, qo, _⟩ := h
    obtain ⟨t, ⟨ts, p1, i1⟩, hw⟩ := body cdv A outer s H E hr
    exact ⟨ts, p1, i1 ⟨H, L, [], wrs g, g.map En.a⟩ [] H _ _ _ _ (str_startG hL ra sg) (fun C M H σ ρ _ z => z.elim) (hw ds g Q1 hR)
      ⟨fun M H' σ ρ S' z => qo .non .non H' M ρ.mu z S'.out rfl, fun M H' σ ρ v z S' r1 e2 => qo z v H' M ρ.mu e2 S'.out r1, fun _ _ _ _ _ z => z.elim, fun _ _ _ _ _ z => z.elim⟩⟩
theorem okGX {x qual : Str} {st : Stmt} {f : Addr} {fd : FuncData} {N ps : List Str} {k : Nat} {R : RG} (Fn : Fun K x qual st f fd) (S : FnScope N ps (defScope st)) (len : ∀ ds g Q, R ds g Q → ds.length = ps.length)
    (body : ∀ (cdv : Value) (A : Around) (outer : List Env) (s : Shared) (H : Hp) (E : XK), Room k (A.deeper (PyProof.Rows.envOfC qual (defScope st) s.heap.objs.size f cdv)) → ∀ (W : WX) (E1 : E1T), Takes (cxOf (L2.CX P w) P w K mg base N qual (defScope st) f cdv A outer s H E) W →
      ∃ t, QSs (cxOf (L2.CX P w) P w K mg base N qual (defScope st) f cdv A outer s H E) W E1 (defBody st) t ∧
        ∀ ds g Q1, R ds g Q1 → (∀ C ρ, Q1 (.er C) ρ.mu → E1 C ρ) → t { nx := fun ρ => Q1 (.ok .non) ρ.mu, rt := fun z g' => Q1 (.ok z) g' } (begunG N.length ds g)) : FnOk P w K mg base (L2.CX P w) (k + 1) f fd ps (spG K R) := by
  refine Fn.okX S (fun vs H Q E h => ?_) (fun cdv A outer s H vs Q E hr h => ?_)
  · obtain ⟨L, ds, g, Q1, hL, ra, sg, hR, _⟩ := h
    rw [ra.length]
    exact len ds g Q1 hR
  · obtain ⟨L, ds, g, Q1, hL, ra, sg, hR, qo, qe⟩ := h
    obtain ⟨t, ⟨ts, p1, i1⟩, hw⟩ := body cdv A outer s H E hr (fun cls d _ H' => E cls d H') (fun C ρ => Q1 (.er C) ρ.mu) (takes_of rfl rfl rfl rfl)
    exact ⟨ts, p1, i1 ⟨H, L, [], wrs g, g.map En.a⟩ [] H _ _ _ _ (str_startG hL ra sg) (fun C M H' σ ρ S' z => qe C H' M ρ.mu z S'.out) (hw ds g Q1 hR fun C _ z => z)
      ⟨fun M H' σ ρ S' z => qo .non .non H' M ρ.mu z S'.out rfl, fun M H' σ ρ v z S' r1 e2 => qo z v H' M ρ.mu e2 S'.out r1, fun _ _ _ _ _ z => z.elim, fun _ _ _ _ _ z => z.elim⟩⟩
theorem okGD {x qual : Str} {st : Stmt} {dvs : List V} {f : Addr} {fd : FuncData} {N ps : List Str} {k : Nat} {R : RG} (Fn : FunD K x qual (defArgs st) (defBody st) (defScope st) dvs [] f fd) (S : FnScope N ps (defScope st)) (len : ∀ ds g Q, R ds g Q → ds.length = ps.length)
    (body : ∀ (cdv : Value) (A : Around) (outer : List Env) (s : Shared) (H : Hp) (E : XK), Room k (A.deeper (PyProof.Rows.envOfC qual (defScope st) s.heap.objs.size f cdv)) → ∀ (W : WX) (E1 : E1T), Takes (cxOf (L2.CX P w) P w K mg base N qual (defScope st) f cdv A outer s H E) W →
      ∃ t, QSs (cxOf (L2.CX P w) P w K mg base N qual (defScope st) f cdv A outer s H E) W E1 (defBody st) t ∧
        ∀ ds g Q1, R ds g Q1 → (∀ C ρ, Q1 (.er C) ρ.mu → E1 C ρ) → t { nx := fun ρ => Q1 (.ok .non) ρ.mu, rt := fun z g' => Q1 (.ok z) g' } (begunG N.length ds g)) : FnOk P w K mg base (L2.CX P w) (k + 1) f fd ps (spG K R) := by
  refine Fn.ok S (fun vs H Q E h => ?_) (fun cdv A outer s H vs Q E hr h => ?_)
  · obtain ⟨L, ds, g, Q1, hL, ra, sg, hR, _⟩ := h
    rw [ra.length]
    exact len ds g Q1 hR
  · obtain ⟨L, ds, g, Q1, hL, ra, sg, hR, qo, qe⟩ := h
    obtain ⟨t, ⟨ts, p1, i1⟩, hw⟩ := body cdv A outer s H E hr (fun cls d _ H' => E cls d H') (fun C ρ => Q1 (.er C) ρ.mu) (takes_of rfl rfl rfl rfl)
    exact ⟨ts, p1, i1 ⟨H, L, [], wrs g, g.map En.a⟩ [] H _ _ _ _ (str_startG hL ra sg) (fun C M H' σ ρ S' z => qe C H' M ρ.mu z S'.out) (hw ds g Q1 hR fun C _ z => z)
      ⟨fun M H' σ ρ S' z => qo .non .non H' M ρ.mu z S'.out rfl, fun M H' σ ρ v z S' r1 e2 => qo z v H' M ρ.mu e2 S'.out r1, fun _ _ _ _ _ z => z.elim, fun _ _ _ _ _ z => z.elim⟩⟩
end
/-- a def by its name; a method; a class to be made, with its defaults -/
structure CalS (P : Program) (w : World) (K : PySem.W.Frag) (mg : Str → Option Value) (base : Heap) (CX : CXT) (k : Nat) (x : Str) (ps : List Str) (sp : Sp) : Prop where
  ex : ∃ (f : Addr) (fd : FuncData), FnOk P w K mg base CX k f fd ps sp ∧ Binds K fd ps [] ∧ PySem.W.keepIn K (.ref f) = true ∧ mg x = some (.ref f)
structure MetS (P : Program) (w : World) (K : PySem.W.Frag) (mg : Str → Option Value) (base : Heap) (CX : CXT) (k : Nat) (C : Addr) (m : Str) (ps : List Str) (sp : Sp) : Prop where
  ex : ∃ (f : Addr) (fd : FuncData), FnOk P w K mg base CX k f fd ps sp ∧ Binds K fd ps [] ∧ Meth K C m f ∧ Cls K C
structure MkdS (P : Program) (w : World) (K : PySem.W.Frag) (mg : Str → Option Value) (base : Heap) (CX : CXT) (k : Nat) (C : Addr) (x : Str) (ps : List Str) (dvs : List V) (sp : Sp) : Prop where
  ex : ∃ (f : Addr) (fd : FuncData), FnOk P w K mg base CX k f fd ps sp ∧ (∀ j, j ≤ dvs.length → ∃ ds, Vals (dvs.drop j) ds ∧ Binds K fd ps ds) ∧ Mk K C f ∧ mg x = some (.ref C)
/-- to be read alone -/
def ro (g : Store) : Store := g.map fun e => ⟨e.a, false, e.m⟩
theorem wrs_ro (g : Store) : wrs (ro g) = [] := by
  unfold wrs ro
  rw [List.filter_eq_nil_iff.mpr (by simp)]
  rfl
theorem StR.store {K : PySem.W.Frag} {F : Fm} {M : List Addr} {H : Hp} {σ : St} {ρ : Rho} (S : StR K F M H σ ρ) : StoreR K H (M ++ F.L0) ρ.mu := ⟨fun e he => ⟨(S.mu e he).1, (S.mu e he).2.2⟩, S.nd⟩
theorem StoreR.ro {K : PySem.W.Frag} {H : Hp} {L : List Addr} {g : Store} (h : StoreR K H L g) : StoreR K H L (DL.ro g) := by
  refine ⟨fun e he => ?_, ?_⟩
  · obtain ⟨e0, h0, rfl⟩ := List.mem_map.mp he
    exact h.at_ e0 h0
  · have : (DL.ro g).map (·.a) = g.map (·.a) := by unfold DL.ro; rw [List.map_map]; rfl
    rw [this]
    exact h.nd
theorem Out.same {K : PySem.W.Frag} {L : List Addr} {g : Store} {H H' : Hp} {M' : List Addr} {g' : Store} (o : Out K L (ro g) H H' M' g') : Same H H' := by
  have e := o.ext
  rw [wrs_ro] at e
  exact e.nil
/-- what comes back to a frame -/
theorem StR.back {K : PySem.W.Frag} {F : Fm} {M M' : List Addr} {H H' : Hp} {σ : St} {ρ : Rho} {g' : Store} (S : StR K F M H σ ρ) (o : Out K (M ++ F.L0) ρ.mu H H' M' g') : StR K F (M' ++ M) H' σ ⟨ρ.sl, g'⟩ := by
  have mt := S.store.mutAt
  have sb := S.store.sub
  have al := S.all
  have hL : ∀ a, H a ≠ none → a ∈ (M' ++ M) ++ F.L0 → a ∈ M ++ F.L0 := fun a ha hm => by
    rw [List.append_assoc] at hm
    rcases List.mem_append.mp hm with z | z
    · exact absurd (o.fr a z).1 ha
    · exact z
  have k1 : ∀ {d : D} {v : V}, Rp K H (M ++ F.L0) d v → Rp K H' ((M' ++ M) ++ F.L0) d v := fun {d v} r => Rp.sameX o.ext mt sb hL d v r
  have k2 : ∀ {d : List D} {v : List V}, RpAll K H (M ++ F.L0) d v → RpAll K H' ((M' ++ M) ++ F.L0) d v := fun {d v} r => RpAll.sameX o.ext mt sb hL d v r
  have inG : ∀ a, a ∈ wrs ρ.mu → a ∈ M ∨ a ∈ F.G := fun a ha => by
    obtain ⟨e, he, w, rfl⟩ := mem_wrs.mp ha
    exact (S.mu e he).2.1 w
  have nw : ∀ {a : Addr} {xs : List V}, H a = some (.lst xs) → a ∉ wrs ρ.mu := fun {a xs} h z => by
    obtain ⟨e, he, _, rfl⟩ := mem_wrs.mp z
    exact (S.mu e he).2.2.neL h rfl
  refine ⟨fun a u h => ?_, S.al, fun a ha => ?_, fun i x q => ?_, S.uq, fun p hp => k1 (S.pn p hp), S.gl, fun e he => ?_, o.st.nd, fun e he => ?_⟩
  · obtain ⟨h1, h2⟩ := S.ext a u h
    refine ⟨fun n => (o.ext a u (h1 n)).1 fun z => ?_, ?_⟩
    · rcases inG a z with z | z
      · rw [(S.fr a z).1] at h; cases h
      · exact n z
    · cases q : H a with
      | none => exact absurd q h2
      | some u2 => exact (o.ext a u2 q).2
  · rcases List.mem_append.mp ha with z | z
    · refine ⟨?_, (o.fr a z).2⟩
      cases q : F.H0 a with
      | none => rfl
      | some u => exact absurd (o.fr a z).1 (S.ext a u q).2
    · refine ⟨(S.fr a z).1, ?_⟩
      cases q : H a with
      | none => exact absurd q (S.fr a z).2
      | some u2 => exact (o.ext a u2 q).2
  · obtain ⟨v, h1, h2⟩ := S.sl i x q
    refine ⟨v, h1, ?_⟩
    cases x with
    | un => trivial
    | dat d => obtain ⟨y, h3, h4⟩ := h2; exact ⟨y, h3, k1 h4⟩
    | own us => obtain ⟨b, ys, h3, h4, h5, h6⟩ := h2; exact ⟨b, ys, h3, List.mem_append_right _ h4, (o.ext b _ h5).1 (nw h5), k2 h6⟩
  · obtain ⟨a1, a2⟩ := o.st.at_ e he
    rw [← List.append_assoc] at a1 a2
    refine ⟨a1, fun w => ?_, a2⟩
    rcases o.w e he w with z | z
    · exact .inl (List.mem_append_left _ z)
    · exact (inG _ z).imp (List.mem_append_right _) id
  · rcases o.nw e he with z | z
    · exact .inl (List.mem_append_left _ z)
    · obtain ⟨e0, h0, z⟩ := List.mem_map.mp z
      rw [← z]
      exact (S.ma e0 h0).imp (List.mem_append_right _) id
theorem StR.keep {K : PySem.W.Frag} {F : Fm} {M M' : List Addr} {H H' : Hp} {σ : St} {ρ : Rho} {g' : Store} (S : StR K F M H σ ρ) (o : Out K (M ++ F.L0) ρ.mu H H' M' g') {d : D} {v : V} (r : Rp K H (M ++ F.L0) d v) : Rp K H' ((M' ++ M) ++ F.L0) d v := by
  refine Rp.sameX o.ext S.store.mutAt S.store.sub (fun a ha hm => ?_) d v r
  rw [List.append_assoc] at hm
  rcases List.mem_append.mp hm with z | z
  · exact absurd (o.fr a z).1 ha
  · exact z
/-! ### fields -/
theorem rp_lookup {K : PySem.W.Frag} {H : Hp} {L : List Addr} {f : Str} {z : D} : ∀ {ns : List Str} {ds : List D} {fs : List (Str × V)}, fs.map (·.1) = ns → RpAll K H L ds (fs.map (·.2)) → (ns.zip ds).lookup f = some z → ∃ v, fs.lookup f = some v ∧ Rp K H L z v
  | [], _, [], _, _, h => by simp at h
  | n :: ns, [], (m, v) :: fs, _, r, h => by simp at h
  | n :: ns, d :: ds, (m, v) :: fs, e, r, h => by
    obtain ⟨x, r', e1, r1, r2⟩ := r
    simp only [List.map_cons, List.cons.injEq] at e e1
    obtain ⟨rfl, e⟩ := e
    obtain ⟨rfl, e1⟩ := e1
    rw [List.zip_cons_cons] at h
    by_cases q : (f == m) = true
    · rw [List.lookup_cons, q] at h
      cases h
      exact ⟨v, by rw [List.lookup_cons, q], r1⟩
    · rw [Bool.not_eq_true] at q
      rw [List.lookup_cons, q] at h
      obtain ⟨v2, g1, g2⟩ := rp_lookup e (by rw [e1]; exact r2) h
      exact ⟨v2, by rw [List.lookup_cons, q]; exact g1, g2⟩
theorem no_lookup {m : Str} {α : Type} : ∀ {fs : List (Str × α)}, m ∉ fs.map (·.1) → fs.lookup m = none
  | [], _ => rfl
  | (n, v) :: fs, h => by
    simp only [List.map_cons, List.mem_cons, not_or] at h
    have q : (m == n) = false := by rw [beq_eq_false_iff_ne]; exact h.1
    rw [List.lookup_cons, q]
    exact no_lookup h.2
section
variable {X : Cx} {W : WX} {E1 : E1T} {a b o e : Expr} {es : List Expr} {pos p apos : Pos} {CX : CXT} {C : Addr} {j k : Nat} {x m f : Str} {ps : List Str} {t : TE1} {u : TA1}
/-- o.f of an object that is a datum -/
@[simp] abbrev uFld (C : Addr) (f : Str) (t : TE1) : TE1 := fun ρ Q => t ρ fun d => ∃ ns ds z, d = .ob C ns ds ∧ (ns.zip ds).lookup f = some z ∧ Q z
theorem q_fld (cl : Cls X.K C) (na : NoAttr X.K C f) (h : QE X W E1 e t) (hb : attributeBase e f X.env (eval e X.env) = eval e X.env := by rfl) : QE X W E1 (.Attribute e f pos) (uFld C f t) := by
  obtain ⟨te, h1, i1⟩ := h
  refine ⟨_, pe_fld h1 hb, fun F M H σ ρ Q1 Q S hx t q => ?_⟩
  refine i1 F M H σ ρ _ _ S hx t fun v H1 d e1 r1 ⟨ns, ds, z, ed, l, t1⟩ => ?_
  subst ed
  obtain ⟨a, dx, fs, rfl, ha, en, ra, _⟩ := r1
  obtain ⟨v, lv, rv⟩ := rp_lookup en ra l
  exact ⟨a, C, dx, fs, v, rfl, ha, cl, na, lv, q v H1 z e1 rv t1⟩
/-- o.f of an object that may change -/
@[simp] abbrev uFldM (C : Addr) (f : Str) (t : TE1) : TE1 := fun ρ Q => t ρ fun d => ∃ (a : Addr) (n : Nat) (w : Bool) (fs : List (Str × D)) (z : D), d = .cls a ∧ ρ.mu[n]? = some (En.mk a w (.ob C fs)) ∧ fs.lookup f = some z ∧ Q z
theorem zip_map {α β : Type} : ∀ fs : List (α × β), (fs.map (·.1)).zip (fs.map (·.2)) = fs
  | [] => rfl
  | (a, b) :: fs => by simp only [List.map_cons, List.zip_cons_cons, zip_map fs]
theorem q_fldM (cl : Cls X.K C) (na : NoAttr X.K C f) (h : QE X W E1 e t) (hb : attributeBase e f X.env (eval e X.env) = eval e X.env := by rfl) : QE X W E1 (.Attribute e f pos) (uFldM C f t) := by
  obtain ⟨te, h1, i1⟩ := h
  refine ⟨_, pe_fld h1 hb, fun F M H σ ρ Q1 Q S hx t q => ?_⟩
  refine i1 F M H σ ρ _ _ S hx t fun v H1 d e1 r1 ⟨a, n, w, fs, z, ed, em, l, t1⟩ => ?_
  subst ed
  cases r1
  obtain ⟨_, _, dx, vs, ha, en, ra⟩ := (S.same e1).mu _ (mu_at em)
  obtain ⟨v, lv, rv⟩ := rp_lookup en ra (by rw [zip_map]; exact l)
  exact ⟨a, C, dx, vs, v, rfl, ha, cl, na, lv, q v H1 z e1 rv t1⟩
/-- fields in order, one stored -/
def putD (f : Str) (z : D) : List (Str × D) → List (Str × D)
  | [] => [(f, z)]
  | (g, x) :: r => if g = f then (g, z) :: r else (g, x) :: putD f z r
theorem rp_putF {K : PySem.W.Frag} {H : Hp} {L : List Addr} {f : Str} {z : D} {v : V} (rz : Rp K H L z v) : ∀ {fs : List (Str × D)} {vs : List (Str × V)}, vs.map (·.1) = fs.map (·.1) → RpAll K H L (fs.map (·.2)) (vs.map (·.2)) →
    (putF f v vs).map (·.1) = (putD f z fs).map (·.1) ∧ RpAll K H L ((putD f z fs).map (·.2)) ((putF f v vs).map (·.2))
  | [], [], _, _ => ⟨rfl, ⟨v, [], rfl, rz, rfl⟩⟩
  | [], (n, y) :: vs, e, _ => by simp at e
  | (n, d) :: fs, [], e, _ => by simp at e
  | (n, d) :: fs, (n', y) :: vs, e, r => by
    obtain ⟨x, r', e1, r1, r2⟩ := r
    simp only [List.map_cons, List.cons.injEq] at e e1
    obtain ⟨rfl, e⟩ := e
    obtain ⟨rfl, e1⟩ := e1
    by_cases q : n' = f
    · rw [show putF f v ((n', y) :: vs) = if n' = f then (n', v) :: vs else (n', y) :: putF f v vs from rfl, show putD f z ((n', d) :: fs) = if n' = f then (n', z) :: fs else (n', d) :: putD f z fs from rfl, if_pos q, if_pos q]
      exact ⟨by simp [e], v, _, rfl, rz, by rw [e1]; exact r2⟩
    · obtain ⟨g1, g2⟩ := rp_putF rz e (by rw [e1]; exact r2)
      rw [show putF f v ((n', y) :: vs) = if n' = f then (n', v) :: vs else (n', y) :: putF f v vs from rfl, show putD f z ((n', d) :: fs) = if n' = f then (n', z) :: fs else (n', d) :: putD f z fs from rfl, if_neg q, if_neg q]
      exact ⟨by simp [g1], y, _, rfl, r1, g2⟩
/-- o.f = e, o an object that may be changed here -/
@[simp] abbrev uFldSet (C : Addr) (f : Str) (t tv : TE1) : TS1 := fun D1 ρ => tv ρ fun z => t ρ fun d => ∃ (a : Addr) (n : Nat) (fs : List (Str × D)), d = .cls a ∧ ρ.mu[n]? = some (En.mk a true (.ob C fs)) ∧ fs.length < 1000 ∧ D1.nx (ρ.setMu n (.ob C (putD f z fs)))
theorem qs_fld {tv : TE1} (cl : Cls X.K C) (na : NoAttr X.K C f) (ho : QE X W E1 o t) (hv : QE X W E1 e tv) (hs : swapsWith e (some (.Attribute o f apos)) pos.line X.env = pure false := by rfl) : QS X W E1 (.Assign [.Attribute o f apos] e pos) (uFldSet C f t tv) := by
  obtain ⟨te, h1, i1⟩ := ho
  obtain ⟨tr, h2, i2⟩ := hv
  refine ⟨_, ps_fld h1 h2 hs, fun F M H σ ρ D1 D S hx t k => ?_⟩
  refine i2 F M H σ ρ _ _ S hx t fun y H1 z e1 ry t1 => ?_
  refine i1 F M H1 σ ρ _ _ (S.same e1) hx t1 fun v H2 d e2 r2 ⟨a, n, fs, ed, em, hl, t2⟩ => ?_
  subst ed
  cases r2
  have S2 := (S.same e1).same e2
  obtain ⟨hm, _, dx, vs, ha, en, ra⟩ := S2.mu _ (mu_at em)
  have ra0 : RpAll X.K H2 (M ++ F.L0) (fs.map (·.2)) (vs.map (·.2)) := ra
  obtain ⟨g1, g2⟩ := rp_putF (f := f) (same_rp e2 ry) en ra0
  have hlen : vs.length = fs.length := by have := congrArg List.length en; simpa using this
  exact ⟨a, C, dx, vs, rfl, ha, cl, na, by rw [hlen]; exact hl, k.nx M _ σ _ (S2.chgMu (m' := .ob C (putD f z fs)) em rfl ⟨dx, _, upd_same, g1, RpAll.updM hm ha rfl _ _ g2⟩) t2⟩
/-! ### calls -/
/-- an outcome -/
@[simp] abbrev reK (E1 : E1T) (ρ : Rho) (Q : D → Prop) : Re → Prop := fun r => match r with | .ok d => Q d | .er C => E1 C ρ
@[simp] abbrev uMetD (E1 : E1T) (C : Addr) (m : Str) (R : List D → Re → Prop) (t : TE1) (u : TA1) : TE1 := fun ρ Q => t ρ fun d => (∃ ns fs, d = .ob C ns fs ∧ m ∉ ns) ∧ u ρ fun ds => ∃ r, R (d :: ds) r ∧ reK E1 ρ Q r
theorem metD_imp {te : TE} {ta : TA} {R : List D → Re → Prop} (i1 : ImpE X.K W E1 te t) (i2 : ImpA X.K W E1 ta u) : ImpE X.K W E1 (tMet C m (spD X.K R) [] (WE W) te ta) (uMetD E1 C m R t u) := by
  refine fun F M H σ ρ Q1 Q S hx t q => i1 F M H σ ρ _ _ S hx t fun v H1 d e1 r1 ⟨⟨ns, fs, ed, hm⟩, t1⟩ => ?_
  have r0 := r1
  subst ed
  obtain ⟨a, dx, vs, rfl, ha, en, _⟩ := r1
  refine ⟨a, dx, vs, rfl, ha, no_lookup (by rw [en]; exact hm), ?_⟩
  refine i2 F M H1 σ ρ _ _ (S.same e1) hx t1 fun ws H2 ds e2 r2 ⟨z, hz, t2⟩ => ?_
  refine ⟨M ++ F.L0, .ob C ns fs :: ds, z, ((S.same e1).same e2).all, ⟨_, _, rfl, same_rp e2 r0, by simpa using r2⟩, hz, fun d' v' H' e0 e3 r3 => ?_, fun C' H' e0 e3 => ?_⟩
  · subst e0; exact q v' H' d' (e1.trans (e2.trans e3)) r3 t2
  · subst e0; exact hx C' M H' σ ρ (((S.same e1).same e2).same e3) t2
theorem q_metD {R : List D → Re → Prop} (G : MetS X.prog X.w X.K X.mg X.base CX j C m ps (spD X.K R)) (hr : Room k X.A) (hj : j ≤ k) (hx : ∀ σ, PassesAt CX X σ (WE W σ)) (ho : QE X W E1 o t) (ha : QA X W E1 (e :: es) u)
    (hst : starEach (e :: es) X.env = (false, eval e X.env) :: starEach es X.env := by rfl) (hpl : (backTo pos (starEach es X.env)).any (·.1) = false := by rfl) {pl : Sem Bool}
    (ht : eval (.Call (.Attribute o m apos) (e :: es) [] pos) X.env = (do let ov ← eval o X.env; standAt apos.atName; let (f, first) ← holding [ov] (getMethod ov m pl); callWith pos f first (backTo pos (starEach (e :: es) X.env)) (backToKw pos (keywordEach [] X.env))) := by rfl) :
    QE X W E1 (.Call (.Attribute o m apos) (e :: es) [] pos) (uMetD E1 C m R t u) := by
  obtain ⟨f, fd, F, b, me, cl⟩ := G.ex
  obtain ⟨te, h1, i1⟩ := ho
  obtain ⟨tr, h2, i2⟩ := ha
  exact ⟨_, pe_met h1 cl me F (hr.mono hj) b .nil hx h2 hst hpl ht, metD_imp i1 i2⟩
theorem q_metD0 {R : List D → Re → Prop} (G : MetS X.prog X.w X.K X.mg X.base CX j C m ps (spD X.K R)) (hr : Room k X.A) (hj : j ≤ k) (hx : ∀ σ, PassesAt CX X σ (WE W σ)) (ho : QE X W E1 o t) {pl : Sem Bool}
    (ht : eval (.Call (.Attribute o m apos) [] [] pos) X.env = (do let ov ← eval o X.env; standAt apos.atName; let (f, first) ← holding [ov] (getMethod ov m pl); callWith pos f first (backTo pos (starEach [] X.env)) (backToKw pos (keywordEach [] X.env))) := by rfl) :
    QE X W E1 (.Call (.Attribute o m apos) [] [] pos) (uMetD E1 C m R t uNil) := by
  obtain ⟨f, fd, F, b, me, cl⟩ := G.ex
  obtain ⟨te, h1, i1⟩ := ho
  exact ⟨_, pe_met0 h1 cl me F (hr.mono hj) b .nil hx ht, metD_imp i1 fun F M H σ ρ Q1 Q S hx t q => q [] H [] (Same.refl H) rfl t⟩
/-- C(..), an object that is a datum from here on; dfs the defaults that fill up -/
@[simp] abbrev uMkd (E1 : E1T) (C : Addr) (R : RG) (dfs : List D) (u : TA1) : TE1 := fun ρ Q => u ρ fun ds => ∀ a, R (.cls a :: (ds ++ dfs)) [⟨a, true, .ob C []⟩] fun r g' => match r with
  | .ok d => ∃ fs, d = .non ∧ g' = [⟨a, true, .ob C fs⟩] ∧ Q (.ob C (fs.map (·.1)) (fs.map (·.2)))
  | .er C' => E1 C' ρ
theorem mkd_imp {ta : TA} {R : RG} {dvs : List V} {dfs : List D} (hd : ∀ H L, RpAll X.K H L dfs dvs) (i2 : ImpA X.K W E1 ta u) : ImpE X.K W E1 (tMkd C (spG X.K R) dvs (WE W) ta) (uMkd E1 C R dfs u) := by
  refine fun F M H σ ρ Q1 Q S hx t q => i2 F M H σ ρ _ _ S hx t fun vs H1 ds e1 r1 t1 => ?_
  intro n dn hn hdn ne
  have S1 := S.same e1
  have al := S1.all
  have eH : Same H1 (upd (upd H1 dn (.own n)) n (.ins C dn [])) := (same_new hdn _).trans (same_new (by rw [upd_ne (Ne.symm ne)]; exact hn) _)
  have hLn : ∀ b, H1 b ≠ none → b ∈ n :: (M ++ F.L0) → b ∈ M ++ F.L0 := fun b hb hm => (List.mem_cons.mp hm).elim (fun z => absurd (z ▸ hn) hb) id
  have wr : wrs [(⟨n, true, .ob C []⟩ : En)] = [n] := rfl
  refine ⟨n :: (M ++ F.L0), .cls n :: (ds ++ dfs), [⟨n, true, .ob C []⟩], _, fun b hb => ?_, ⟨_, _, rfl, rfl, ?_⟩, ⟨fun e he => ?_, by simp⟩, t1 n, fun d v H' M' g' z o r => ?_, fun C' H' M' g' z o => ?_⟩
  · rcases List.mem_cons.mp hb with z | z
    · subst z; rw [upd_same]; simp
    · exact same_ne eH (al b z)
  · exact RpAll.append (RpAll.same eH hLn _ _ r1) (hd _ _)
  · rw [List.mem_singleton.mp he]
    exact ⟨List.mem_cons_self, dn, [], upd_same, rfl, rfl⟩
  · obtain ⟨fs, rfl, rfl, z⟩ := z
    cases r
    have ex := o.ext
    rw [wr] at ex
    have e2 : Same H1 H' := fun b u hb => (ex b u (eH b u hb)).1 fun w => by
      rw [List.mem_singleton.mp w, hn] at hb; cases hb
    obtain ⟨hm, dx, vs2, ha, en, ra⟩ := o.st.at_ _ (List.mem_singleton.mpr rfl)
    refine ⟨rfl, q (.ref n) H' (.ob C (fs.map (·.1)) (fs.map (·.2))) (e1.trans e2) ⟨n, dx, vs2, rfl, ha, en, RpAll.same (Same.refl _) (fun b _ hb => List.mem_append_right _ (List.mem_cons_of_mem _ hb)) _ _ ra, fun w => al n w hn⟩ z⟩
  · have ex := o.ext
    rw [wr] at ex
    have e2 : Same H1 H' := fun b u hb => (ex b u (eH b u hb)).1 fun w => by
      rw [List.mem_singleton.mp w, hn] at hb; cases hb
    exact hx C' M H' σ ρ (S1.same e2) z
theorem q_mkd {R : RG} {dvs : List V} (dfs : List D) (n : Nat) (G : MkdS X.prog X.w X.K X.mg X.base CX j C x ps dvs (spG X.K R)) (hr : Room k X.A) (hj : j + 1 ≤ k) (hg : Gl X x) (hx : ∀ σ, PassesAt CX X σ (WE W σ)) (hn : n ≤ dvs.length) (hd : ∀ H L, RpAll X.K H L dfs (dvs.drop n)) (ha : QA X W E1 (e :: es) u)
    (hdb : (x == ("__debug__" : Str)) = false := by decide) (hst : starEach (e :: es) X.env = (false, eval e X.env) :: starEach es X.env := by rfl) (hpl : (backTo pos (starEach es X.env)).any (·.1) = false := by rfl) :
    QE X W E1 (.Call (.Name x p) (e :: es) [] pos) (uMkd E1 C R dfs u) := by
  obtain ⟨f, fd, F, b, me, hm⟩ := G.ex
  obtain ⟨ds, vd, bd⟩ := b n hn
  obtain ⟨tr, h2, i2⟩ := ha
  exact ⟨_, pe_mkd me F (hr.mono hj) hg hm bd vd hx h2 hdb hst hpl, mkd_imp hd i2⟩
theorem q_mkd0 {R : RG} {dvs : List V} (dfs : List D) (G : MkdS X.prog X.w X.K X.mg X.base CX j C x ps dvs (spG X.K R)) (hr : Room k X.A) (hj : j + 1 ≤ k) (hg : Gl X x) (hx : ∀ σ, PassesAt CX X σ (WE W σ)) (hd : ∀ H L, RpAll X.K H L dfs dvs)
    (hdb : (x == ("__debug__" : Str)) = false := by decide) : QE X W E1 (.Call (.Name x p) [] [] pos) (uMkd E1 C R dfs uNil) := by
  obtain ⟨f, fd, F, b, me, hm⟩ := G.ex
  obtain ⟨ds, vd, bd⟩ := b 0 (Nat.zero_le _)
  exact ⟨_, pe_mkd0 me F (hr.mono hj) hg hm bd vd hx hdb, mkd_imp (by simpa using hd) fun F M H σ ρ Q1 Q S hx t q => q [] H [] (Same.refl H) rfl t⟩
/-- a def that is handed what may change, to be read alone -/
@[simp] abbrev uCalR (E1 : E1T) (R : RG) (u : TA1) : TE1 := fun ρ Q => u ρ fun ds => R ds (ro ρ.mu) fun r _ => reK E1 ρ Q r
theorem calR_imp {ta : TA} {R : RG} (i2 : ImpA X.K W E1 ta u) : ImpE X.K W E1 (tDef (spG X.K R) [] (WE W) ta) (uCalR E1 R u) := by
  refine fun F M H σ ρ Q1 Q S hx t q => i2 F M H σ ρ _ _ S hx t fun vs H1 ds e1 r1 t1 => ?_
  have S1 := S.same e1
  refine ⟨M ++ F.L0, ds, ro ρ.mu, _, S1.all, by simpa using r1, S1.store.ro, t1, fun d v H' M' g' z o r => ?_, fun C' H' M' g' z o => ?_⟩
  · exact q v H' d (e1.trans o.same) (Rp.same (Same.refl _) (fun b _ hb => List.mem_append_right _ hb) _ _ r) z
  · exact hx C' M H' σ ρ (S1.same o.same) z
theorem q_calR {R : RG} (G : CalS X.prog X.w X.K X.mg X.base CX j x ps (spG X.K R)) (hr : Room k X.A) (hj : j ≤ k) (hg : Gl X x) (hx : ∀ σ, PassesAt CX X σ (WE W σ)) (ha : QA X W E1 (e :: es) u)
    (hdb : (x == ("__debug__" : Str)) = false := by decide) (hst : starEach (e :: es) X.env = (false, eval e X.env) :: starEach es X.env := by rfl) (hpl : (backTo pos (starEach es X.env)).any (·.1) = false := by rfl) :
    QE X W E1 (.Call (.Name x p) (e :: es) [] pos) (uCalR E1 R u) := by
  obtain ⟨f, fd, F, b, kp, hm⟩ := G.ex
  obtain ⟨tr, h2, i2⟩ := ha
  exact ⟨_, pe_def F (hr.mono hj) hg hm kp b .nil hx h2 hdb hst hpl, calR_imp i2⟩
end
end DL

set_option maxRecDepth 100000
set_option maxHeartbeats 4000000
namespace DL
open PySem PySem.Spec L2
/-! ### methods and classes of the text -/
structure MDf (K : PySem.W.Frag) (C : Addr) (m qual : Str) (st : Stmt) (ps : List Str) : Prop where
  ex : ∃ (f : Addr) (fd : FuncData), Fun K m qual st f fd ∧ Binds K fd ps [] ∧ Meth K C m f ∧ Cls K C
structure CDf (K : PySem.W.Frag) (mg : Str → Option Value) (C : Addr) (x qual : Str) (st : Stmt) (ps : List Str) (dvs : List V) : Prop where
  ex : ∃ (f : Addr) (fd : FuncData), FunD K "__init__" qual (defArgs st) (defBody st) (defScope st) dvs [] f fd ∧ (∀ j, j ≤ dvs.length → ∃ ds, Vals (dvs.drop j) ds ∧ Binds K fd ps ds) ∧ Mk K C f ∧ mg x = some (.ref C)
theorem mdf_mk {K : PySem.W.Frag} {C f : Addr} {m qual : Str} {st : Stmt} {ps : List Str} {od an : Option Addr} {sl : Array (Option Value)} {oc kV dc pm cd ct : Value} (cl : Cls K C)
    (a1 : PySem.W.findIn K (.ref C) m = some (some (.ref f))) (i1 : PySem.W.isFn K (.ref f) = true) (l1 : K.lookup f = some ⟨oc, od, .func (PySem.W.fnOf m qual (defArgs st) (defBody st) (defScope st) .none kV dc pm an cd ct), sl⟩)
    (c1 : PySem.W.codeIn K cd qual = true) (k1 : PySem.W.keepIn K (.ref f) = true)
    (hb : ∀ (kV doc pm : Value) (an : Option Addr) (cdv ct : Value) (us : List Value), us.length = ps.length → bindArgs (PySem.W.fnOf m qual (defArgs st) (defBody st) (defScope st) .none kV doc pm an cdv ct) ⟨us, []⟩ = pure (ps.zip us)) : MDf K C m qual st ps :=
  ⟨f, _, fun_mk (st := st) l1 c1 k1, (fun_mk (st := st) l1 c1 k1).binds hb, ⟨a1, i1, k1⟩, cl⟩
/-- a class whose __init__ has no defaults -/
theorem cdf_mk {K : PySem.W.Frag} {h : Heap} {mg : Str → Option Value} {C f : Addr} {x qual : Str} {st : Stmt} {ps : List Str} {od an : Option Addr} {sl : Array (Option Value)} {oc kV dc pm cd ct : Value} (mC : mg x = some (.ref C))
    (a1 : PySem.W.findIn K (.ref C) "__init__" = some (some (.ref f))) (i1 : PySem.W.isFn K (.ref f) = true) (l1 : K.lookup f = some ⟨oc, od, .func (PySem.W.fnOf "__init__" qual (defArgs st) (defBody st) (defScope st) .none kV dc pm an cd ct), sl⟩)
    (c1 : PySem.W.codeIn K cd qual = true) (k1 : PySem.W.keepIn K (.ref f) = true) (mk : PySem.W.makesIn K C = true) (kc : PySem.W.keepIn K (.ref C) = true)
    (hb : ∀ (kV doc pm : Value) (an : Option Addr) (cdv ct : Value) (us : List Value), us.length = ps.length → bindArgs (PySem.W.fnOf "__init__" qual (defArgs st) (defBody st) (defScope st) .none kV doc pm an cdv ct) ⟨us, []⟩ = pure (ps.zip us)) : CDf K mg C x qual st ps [] := by
  have F : FunD K "__init__" qual (defArgs st) (defBody st) (defScope st) [] [] f (PySem.W.fnOf "__init__" qual (defArgs st) (defBody st) (defScope st) .none kV dc pm an cd ct) := ⟨⟨oc, od, .none, kV, dc, pm, an, cd, ct, sl, rfl, l1, c1, .inl ⟨rfl, rfl⟩, .inl rfl⟩, k1⟩
  exact ⟨f, _, F, fun j _ => ⟨[], by rw [List.drop_nil]; exact .nil, F.bindsN hb⟩, ⟨mk, a1, i1, kc⟩, mC⟩
/-- a class whose __init__ has two ints as defaults -/
theorem cdf_mk2 {K : PySem.W.Frag} {h : Heap} {mg : Str → Option Value} {C f T : Addr} {x qual : Str} {st : Stmt} {ps : List Str} {i j : Int} {oT : Obj} {its : List Value} {nT : Nat} {od an : Option Addr} {sl : Array (Option Value)} {oc kV dc pm cd ct : Value} (mC : mg x = some (.ref C))
    (a1 : PySem.W.findIn K (.ref C) "__init__" = some (some (.ref f))) (i1 : PySem.W.isFn K (.ref f) = true) (l1 : K.lookup f = some ⟨oc, od, .func (PySem.W.fnOf "__init__" qual (defArgs st) (defBody st) (defScope st) (.ref T) kV dc pm an cd ct), sl⟩)
    (c1 : PySem.W.codeIn K cd qual = true) (k1 : PySem.W.keepIn K (.ref f) = true) (mk : PySem.W.makesIn K C = true) (kc : PySem.W.keepIn K (.ref C) = true)
    (lT : K.lookup T = some oT) (dT : oT.data = .seq its.toArray nT) (vT : Vals [V.int i, V.int j] its) (hp : ps.length = 3)
    (hb : ∀ (T : Addr) (kV doc pm : Value) (an : Option Addr) (cdv ct : Value) (us its : List Value) (j : Nat), j ≤ 2 → us.length = j + 1 → its.length = 2 →
      ∃ k, bindArgs (PySem.W.fnOf "__init__" qual (defArgs st) (defBody st) (defScope st) (.ref T) kV doc pm an cdv ct) ⟨us, []⟩ = seqItems? (.ref T) >>= k ∧ k (some its.toArray) = pure (ps.zip (us ++ its.drop j))) : CDf K mg C x qual st ps [.int i, .int j] := by
  have F : FunD K "__init__" qual (defArgs st) (defBody st) (defScope st) [.int i, .int j] [] f (PySem.W.fnOf "__init__" qual (defArgs st) (defBody st) (defScope st) (.ref T) kV dc pm an cd ct) := ⟨⟨oc, od, .ref T, kV, dc, pm, an, cd, ct, sl, rfl, l1, c1, .inr ⟨by simp, T, oT, its, nT, rfl, lT, dT, vT⟩, .inl rfl⟩, k1⟩
  refine ⟨f, _, F, fun j hj => ?_, ⟨mk, a1, i1, kc⟩, mC⟩
  have hj : j ≤ 2 := hj
  exact F.binds1 (j + 1) j (by simp) (by simp [hp]; omega) fun T kV doc pm an cdv ct us its l1 l2 => hb T kV doc pm an cdv ct us its j hj l1 l2
section
variable {P : Program} {w : World} {K : PySem.W.Frag} {mg : Str → Option Value} {base : Heap} {C : Addr} {x m qual : Str} {st : Stmt} {N ps : List Str} {k : Nat} {R : List D → Re → Prop} {RS : RG} {dvs : List V}
theorem MDf.ok (Df : MDf K C m qual st ps) (S : FnScope N ps (defScope st)) (len : ∀ ds r, R ds r → ds.length = ps.length)
    (body : ∀ (f : Addr) (cdv : Value) (A : Around) (outer : List Env) (s : Shared) (H : Hp) (E : XK), Room k (A.deeper (PyProof.Rows.envOfC qual (defScope st) s.heap.objs.size f cdv)) →
      ∃ t, QSs (cxOf CX0 P w K mg base N qual (defScope st) f cdv A outer s H E).nox (fun _ _ _ _ => False) (fun _ _ => False) (defBody st) t ∧
        ∀ ds r, R ds r → ∃ d, r = .ok d ∧ t { nx := fun _ => D.non = d, rt := fun z _ => z = d } (begun N.length ds)) : MetS P w K mg base CX0 (k + 1) C m ps (spD K R) := by
  obtain ⟨f, fd, Fn, b, me, cl⟩ := Df.ex
  exact ⟨f, fd, okD Fn S len (body f), b, me, cl⟩
theorem MDf.okX (Df : MDf K C m qual st ps) (S : FnScope N ps (defScope st)) (len : ∀ ds r, R ds r → ds.length = ps.length)
    (body : ∀ (f : Addr) (cdv : Value) (A : Around) (outer : List Env) (s : Shared) (H : Hp) (E : XK), Room k (A.deeper (PyProof.Rows.envOfC qual (defScope st) s.heap.objs.size f cdv)) → ∀ (W : WX) (E1 : E1T), Takes (cxOf (L2.CX P w) P w K mg base N qual (defScope st) f cdv A outer s H E) W →
      ∃ t, QSs (cxOf (L2.CX P w) P w K mg base N qual (defScope st) f cdv A outer s H E) W E1 (defBody st) t ∧
        ∀ ds r, R ds r → (∀ C ρ, r = .er C → E1 C ρ) → t { nx := fun _ => r = .ok .non, rt := fun z _ => r = .ok z } (begun N.length ds)) : MetS P w K mg base (L2.CX P w) (k + 1) C m ps (spD K R) := by
  obtain ⟨f, fd, Fn, b, me, cl⟩ := Df.ex
  exact ⟨f, fd, okDX Fn S len (body f), b, me, cl⟩
theorem MDf.okG (Df : MDf K C m qual st ps) (S : FnScope N ps (defScope st)) (len : ∀ ds g Q, RS ds g Q → ds.length = ps.length)
    (body : ∀ (f : Addr) (cdv : Value) (A : Around) (outer : List Env) (s : Shared) (H : Hp) (E : XK), Room k (A.deeper (PyProof.Rows.envOfC qual (defScope st) s.heap.objs.size f cdv)) →
      ∃ t, QSs (cxOf CX0 P w K mg base N qual (defScope st) f cdv A outer s H E).nox noW noE (defBody st) t ∧
        ∀ ds g Q1, RS ds g Q1 → t { nx := fun ρ => Q1 (.ok .non) ρ.mu, rt := fun z g' => Q1 (.ok z) g' } (begunG N.length ds g)) : MetS P w K mg base CX0 (k + 1) C m ps (spG K RS) := by
  obtain ⟨f, fd, Fn, b, me, cl⟩ := Df.ex
  exact ⟨f, fd, DL.okG Fn S len (body f), b, me, cl⟩
theorem MDf.okGX (Df : MDf K C m qual st ps) (S : FnScope N ps (defScope st)) (len : ∀ ds g Q, RS ds g Q → ds.length = ps.length)
    (body : ∀ (f : Addr) (cdv : Value) (A : Around) (outer : List Env) (s : Shared) (H : Hp) (E : XK), Room k (A.deeper (PyProof.Rows.envOfC qual (defScope st) s.heap.objs.size f cdv)) → ∀ (W : WX) (E1 : E1T), Takes (cxOf (L2.CX P w) P w K mg base N qual (defScope st) f cdv A outer s H E) W →
      ∃ t, QSs (cxOf (L2.CX P w) P w K mg base N qual (defScope st) f cdv A outer s H E) W E1 (defBody st) t ∧
        ∀ ds g Q1, RS ds g Q1 → (∀ C ρ, Q1 (.er C) ρ.mu → E1 C ρ) → t { nx := fun ρ => Q1 (.ok .non) ρ.mu, rt := fun z g' => Q1 (.ok z) g' } (begunG N.length ds g)) : MetS P w K mg base (L2.CX P w) (k + 1) C m ps (spG K RS) := by
  obtain ⟨f, fd, Fn, b, me, cl⟩ := Df.ex
  exact ⟨f, fd, DL.okGX Fn S len (body f), b, me, cl⟩
theorem CDf.ok (Df : CDf K mg C x qual st ps dvs) (S : FnScope N ps (defScope st)) (len : ∀ ds g Q, RS ds g Q → ds.length = ps.length)
    (body : ∀ (f : Addr) (cdv : Value) (A : Around) (outer : List Env) (s : Shared) (H : Hp) (E : XK), Room k (A.deeper (PyProof.Rows.envOfC qual (defScope st) s.heap.objs.size f cdv)) → ∀ (W : WX) (E1 : E1T), Takes (cxOf (L2.CX P w) P w K mg base N qual (defScope st) f cdv A outer s H E) W →
      ∃ t, QSs (cxOf (L2.CX P w) P w K mg base N qual (defScope st) f cdv A outer s H E) W E1 (defBody st) t ∧
        ∀ ds g Q1, RS ds g Q1 → (∀ C ρ, Q1 (.er C) ρ.mu → E1 C ρ) → t { nx := fun ρ => Q1 (.ok .non) ρ.mu, rt := fun z g' => Q1 (.ok z) g' } (begunG N.length ds g)) : MkdS P w K mg base (L2.CX P w) (k + 1) C x ps dvs (spG K RS) := by
  obtain ⟨f, fd, Fn, b, me, mC⟩ := Df.ex
  exact ⟨f, fd, okGD Fn S len (body f), b, me, mC⟩
/-- defs that are handed what may change -/
theorem Dfn.okG (Df : Dfn K mg x st ps) (S : FnScope N ps (defScope st)) (len : ∀ ds g Q, RS ds g Q → ds.length = ps.length)
    (body : ∀ (y : Str) (f : Addr) (cdv : Value) (A : Around) (outer : List Env) (s : Shared) (H : Hp) (E : XK), Room k (A.deeper (PyProof.Rows.envOfC y (defScope st) s.heap.objs.size f cdv)) →
      ∃ t, QSs (cxOf CX0 P w K mg base N y (defScope st) f cdv A outer s H E).nox noW noE (defBody st) t ∧
        ∀ ds g Q1, RS ds g Q1 → t { nx := fun ρ => Q1 (.ok .non) ρ.mu, rt := fun z g' => Q1 (.ok z) g' } (begunG N.length ds g)) : CalS P w K mg base CX0 (k + 1) x ps (spG K RS) := by
  obtain ⟨y, f, fd, Fn, b, hm⟩ := Df.ex
  exact ⟨f, fd, DL.okG Fn S len (body y f), b, Fn.kp, hm⟩
theorem Dfn.okGX (Df : Dfn K mg x st ps) (S : FnScope N ps (defScope st)) (len : ∀ ds g Q, RS ds g Q → ds.length = ps.length)
    (body : ∀ (y : Str) (f : Addr) (cdv : Value) (A : Around) (outer : List Env) (s : Shared) (H : Hp) (E : XK), Room k (A.deeper (PyProof.Rows.envOfC y (defScope st) s.heap.objs.size f cdv)) → ∀ (W : WX) (E1 : E1T), Takes (cxOf (L2.CX P w) P w K mg base N y (defScope st) f cdv A outer s H E) W →
      ∃ t, QSs (cxOf (L2.CX P w) P w K mg base N y (defScope st) f cdv A outer s H E) W E1 (defBody st) t ∧
        ∀ ds g Q1, RS ds g Q1 → (∀ C ρ, Q1 (.er C) ρ.mu → E1 C ρ) → t { nx := fun ρ => Q1 (.ok .non) ρ.mu, rt := fun z g' => Q1 (.ok z) g' } (begunG N.length ds g)) : CalS P w K mg base (L2.CX P w) (k + 1) x ps (spG K RS) := by
  obtain ⟨y, f, fd, Fn, b, hm⟩ := Df.ex
  exact ⟨f, fd, DL.okGX Fn S len (body y f), b, Fn.kp, hm⟩
end
end DL

set_option maxRecDepth 100000
set_option maxHeartbeats 4000000
/-! The data layer: dicts that may change; expressions that change what stands at some places. -/
namespace DL
open PySem PySem.Spec L2
/-! ### dicts by data -/
def keyD : Key → D
  | .inl i => .int i
  | .inr x => .str x
abbrev KD := List (Key × D)
def valD (kvs : KD) (k : Key) : Option D := (kvs.find? fun kv => decide (kv.1 = k)).map (·.2)
def putKD (kvs : KD) (k : Key) (v : D) : KD := if (kvs.any fun kv => decide (kv.1 = k)) = true then kvs.map (fun kv => if kv.1 = k then (kv.1, v) else kv) else kvs ++ [(k, v)]
def dropKD (kvs : KD) (k : Key) : KD := kvs.filter fun kv => decide (kv.1 ≠ k)
theorem rp_key {K : PySem.W.Frag} {H : Hp} {L : List Addr} {k : Key} {v : V} (r : Rp K H L (keyD k) v) : v = kV k := by
  cases k <;> exact r
theorem rp_key' {K : PySem.W.Frag} {H : Hp} {L : List Addr} (k : Key) : Rp K H L (keyD k) (kV k) := by
  cases k <;> rfl
/-- keys alike, values that stand for data -/
structure KP (K : PySem.W.Frag) (H : Hp) (L : List Addr) (kvs : KD) (vs : List (Key × V)) : Prop where
  ks : vs.map (·.1) = kvs.map (·.1)
  rp : RpAll K H L (kvs.map (·.2)) (vs.map (·.2))
theorem KP.nil {K : PySem.W.Frag} {H : Hp} {L : List Addr} : KP K H L [] [] := ⟨rfl, rfl⟩
theorem KP.len {K : PySem.W.Frag} {H : Hp} {L : List Addr} {kvs : KD} {vs : List (Key × V)} (h : KP K H L kvs vs) : vs.length = kvs.length := by have := congrArg List.length h.ks; simpa using this
/-- by the head -/
theorem KP.cases {K : PySem.W.Frag} {H : Hp} {L : List Addr} {k : Key} {d : D} {kvs : KD} {vs : List (Key × V)} (h : KP K H L ((k, d) :: kvs) vs) : ∃ v r, vs = (k, v) :: r ∧ Rp K H L d v ∧ KP K H L kvs r := by
  obtain ⟨h1, h2⟩ := h
  cases vs with
  | nil => simp at h1
  | cons p r =>
    obtain ⟨k', v⟩ := p
    obtain ⟨x, r', e, r1, r2⟩ := h2
    simp only [List.map_cons, List.cons.injEq] at h1 e
    obtain ⟨rfl, h1⟩ := h1
    obtain ⟨rfl, e⟩ := e
    exact ⟨v, r, rfl, r1, h1, by rw [e]; exact r2⟩
theorem KP.cons {K : PySem.W.Frag} {H : Hp} {L : List Addr} {k : Key} {d : D} {v : V} {kvs : KD} {vs : List (Key × V)} (r : Rp K H L d v) (h : KP K H L kvs vs) : KP K H L ((k, d) :: kvs) ((k, v) :: vs) :=
  ⟨by simp [h.ks], v, _, rfl, r, h.rp⟩
theorem KP.append {K : PySem.W.Frag} {H : Hp} {L : List Addr} {a b : KD} {va vb : List (Key × V)} (h : KP K H L a va) (h' : KP K H L b vb) : KP K H L (a ++ b) (va ++ vb) :=
  ⟨by rw [List.map_append, List.map_append, h.ks, h'.ks], by rw [List.map_append, List.map_append]; exact h.rp.append h'.rp⟩
theorem KP.val {K : PySem.W.Frag} {H : Hp} {L : List Addr} {k : Key} : ∀ {kvs : KD} {vs : List (Key × V)}, KP K H L kvs vs → (∃ z v, valD kvs k = some z ∧ valV vs k = some v ∧ Rp K H L z v) ∨ (valD kvs k = none ∧ valV vs k = none)
  | [], vs, h => by
    have := h.len
    cases vs with
    | nil => exact .inr ⟨rfl, rfl⟩
    | cons _ _ => simp at this
  | (j, d) :: kvs, vs, h => by
    obtain ⟨v, r, rfl, r1, h'⟩ := h.cases
    by_cases e : j = k
    · exact .inl ⟨d, v, by simp [valD, List.find?_cons, e], valV_pos e, r1⟩
    · rw [valV_neg (p := (j, v)) e, show valD ((j, d) :: kvs) k = valD kvs k by simp [valD, List.find?_cons, e]]
      exact KP.val h'
theorem KP.any {K : PySem.W.Frag} {H : Hp} {L : List Addr} {k : Key} : ∀ {kvs : KD} {vs : List (Key × V)}, KP K H L kvs vs → (vs.any fun kv => decide (kv.1 = k)) = kvs.any fun kv => decide (kv.1 = k)
  | [], vs, h => by
    have := h.len
    cases vs with
    | nil => rfl
    | cons _ _ => simp at this
  | (j, d) :: kvs, vs, h => by
    obtain ⟨v, r, rfl, r1, h'⟩ := h.cases
    simp only [List.any_cons, KP.any h']
theorem KP.repl {K : PySem.W.Frag} {H : Hp} {L : List Addr} {k : Key} {z : D} {y : V} (rz : Rp K H L z y) : ∀ {kvs : KD} {vs : List (Key × V)}, KP K H L kvs vs → KP K H L (kvs.map fun kv => if kv.1 = k then (kv.1, z) else kv) (vs.map fun kv => if kv.1 = k then (kv.1, y) else kv)
  | [], vs, h => by
    have := h.len
    cases vs with
    | nil => exact .nil
    | cons _ _ => simp at this
  | (j, d) :: kvs, vs, h => by
    obtain ⟨v, r, rfl, r1, h'⟩ := h.cases
    rw [List.map_cons, List.map_cons]
    by_cases e : j = k
    · rw [if_pos e, if_pos e]; exact .cons rz (KP.repl rz h')
    · rw [if_neg e, if_neg e]; exact .cons r1 (KP.repl rz h')
theorem KP.put {K : PySem.W.Frag} {H : Hp} {L : List Addr} {k : Key} {z : D} {y : V} {kvs : KD} {vs : List (Key × V)} (rz : Rp K H L z y) (h : KP K H L kvs vs) : KP K H L (putKD kvs k z) (putK vs k y) := by
  unfold putKD putK
  rw [h.any]
  split
  · exact h.repl rz
  · exact h.append (.cons rz .nil)
theorem KP.drop {K : PySem.W.Frag} {H : Hp} {L : List Addr} {k : Key} : ∀ {kvs : KD} {vs : List (Key × V)}, KP K H L kvs vs → KP K H L (dropKD kvs k) (dropK vs k)
  | [], vs, h => by
    have := h.len
    cases vs with
    | nil => exact .nil
    | cons _ _ => simp at this
  | (j, d) :: kvs, vs, h => by
    obtain ⟨v, r, rfl, r1, h'⟩ := h.cases
    unfold dropKD dropK
    by_cases e : j = k
    · rw [List.filter_cons_of_neg (by simp [e]), List.filter_cons_of_neg (by simp [e])]; exact KP.drop h'
    · rw [List.filter_cons_of_pos (by simp [e]), List.filter_cons_of_pos (by simp [e])]; exact .cons r1 (KP.drop h')
theorem KP.same {K : PySem.W.Frag} {H H' : Hp} {L : List Addr} {kvs : KD} {vs : List (Key × V)} (e : Same H H') (h : KP K H L kvs vs) : KP K H' L kvs vs := ⟨h.ks, same_all e h.rp⟩
theorem KP.updM {K : PySem.W.Frag} {H : Hp} {L : List Addr} {l : Addr} {o u : HO} {kvs : KD} {vs : List (Key × V)} (hl : l ∈ L) (ho : H l = some o) (m : mutB o = true) (h : KP K H L kvs vs) : KP K (upd H l u) L kvs vs := ⟨h.ks, RpAll.updM hl ho m _ _ h.rp⟩
theorem StR.dk {K : PySem.W.Frag} {F : Fm} {M : List Addr} {H : Hp} {σ : St} {ρ : Rho} (S : StR K F M H σ ρ) {n : Nat} {a : Addr} {w : Bool} {kvs : KD} (e : ρ.mu[n]? = some (En.mk a w (.dk kvs))) : a ∈ M ++ F.L0 ∧ ∃ vs, H a = some (.dK vs) ∧ KP K H (M ++ F.L0) kvs vs := by
  obtain ⟨hm, _, vs, h1, h2, h3⟩ := S.mu _ (mu_at e)
  exact ⟨hm, vs, h1, h2, h3⟩
section
variable {X : Cx} {W : WX} {E1 : E1T} {a b o e : Expr} {es : List Expr} {pos p pos' tpos apos : Pos} {CX : CXT} {C : Addr} {j k : Nat} {x m f : Str} {ps : List Str} {t u tv : TE1} {ua : TA1}
/-- d[k] -/
@[simp] abbrev uDGet (t u : TE1) : TE1 := fun ρ Q => t ρ fun d => u ρ fun e => ∃ (a : Addr) (n : Nat) (w : Bool) (kvs : KD) (k : Key) (z : D), d = .cls a ∧ ρ.mu[n]? = some (En.mk a w (.dk kvs)) ∧ e = keyD k ∧ valD kvs k = some z ∧ Q z
theorem q_dget (hu : X.A.units + 1 < cLine) (ho : QE X W E1 o t) (hi : QE X W E1 e u) (hs : NoSl e := by exact fun _ _ => rfl) : QE X W E1 (.Subscript o e pos) (uDGet t u) := by
  obtain ⟨te, h1, i1⟩ := ho
  obtain ⟨tr, h2, i2⟩ := hi
  refine ⟨_, pe_dget hu h1 h2 hs, fun F M H σ ρ Q1 Q S hx t q => ?_⟩
  refine i1 F M H σ ρ _ _ S hx t fun v H1 d e1 r1 t1 => ?_
  refine i2 F M H1 σ ρ _ _ (S.same e1) hx t1 fun y H2 d2 e2 r2 ⟨a, n, w, kvs, k, z, ed, em, ek, hz, t2⟩ => ?_
  subst ed ek
  cases r1
  rw [rp_key r2]
  obtain ⟨_, vs, ha, kp⟩ := ((S.same e1).same e2).dk em
  rcases kp.val (k := k) with ⟨z', v', g1, g2, g3⟩ | ⟨g1, _⟩
  · rw [hz] at g1
    cases g1
    exact ⟨a, v', rfl, by rw [← g2]; exact DGet.k ha, q v' H2 z (e1.trans e2) g3 t2⟩
  · rw [hz] at g1; cases g1
/-- k in d, k not in d: as tests -/
@[simp] abbrev uDIn (yes : Bool) (u t : TE1) : TT1 := fun ρ Q => u ρ fun e => t ρ fun d => ∃ (a : Addr) (n : Nat) (w : Bool) (kvs : KD) (k : Key), d = .cls a ∧ ρ.mu[n]? = some (En.mk a w (.dk kvs)) ∧ e = keyD k ∧ Q ((valD kvs k).isSome == yes)
theorem din_imp {te tr : TE} {K : PySem.W.Frag} {yes : Bool} {tt : TE} (i2 : ImpE K W E1 tr u) (i1 : ImpE K W E1 te t)
    (h : ∀ σ H Q, (tr σ H fun y H1 => te σ H1 fun x H2 => ∃ a o, x = .ref a ∧ DGet H2 a y o ∧ Q (V.bl (o.isSome == yes)) H2) → tt σ H Q) : ImpT K W E1 (tB tt) (uDIn yes u t) := by
  refine fun F M H σ ρ Q1 Q S hx t q => h σ H _ (i2 F M H σ ρ _ _ S hx t fun y H1 d e1 r1 t1 => ?_)
  refine i1 F M H1 σ ρ _ _ (S.same e1) hx t1 fun x H2 d2 e2 r2 ⟨a, n, w, kvs, k, ed, em, ek, t2⟩ => ?_
  subst ed ek
  cases r2
  rw [rp_key r1]
  obtain ⟨_, vs, ha, kp⟩ := ((S.same e1).same e2).dk em
  refine ⟨a, valV vs k, rfl, DGet.k ha, ?_⟩
  have e3 : (valV vs k).isSome = (valD kvs k).isSome := by
    rcases kp.val (k := k) with ⟨z', v', g1, g2, g3⟩ | ⟨g1, g2⟩ <;> rw [g1, g2] <;> rfl
  exact ⟨_, rfl, by rw [e3]; exact q _ H2 (e1.trans e2) t2⟩
theorem qt_din (hu : X.A.units + 1 < cLine) (hi : QE X W E1 e u) (ho : QE X W E1 o t) (hb : behindInMarks CmpOp.In o = false := by rfl) : QT X W E1 (.Compare e [.In] [o] pos) (uDIn true u t) := by
  obtain ⟨te, h1, i1⟩ := ho
  obtain ⟨tr, h2, i2⟩ := hi
  refine ⟨_, L2.pt_cmp (pc_din hu h2 h1) hb, din_imp i2 i1 fun σ H Q z => ?_⟩
  have z2 : tDIn tr te σ H Q := by
    unfold tDIn
    simpa using z
  exact z2
theorem qt_dnotin (hu : X.A.units + 1 < cLine) (hi : QE X W E1 e u) (ho : QE X W E1 o t) (hb : behindInMarks CmpOp.NotIn o = false := by rfl) : QT X W E1 (.Compare e [.NotIn] [o] pos) (uDIn false u t) := by
  obtain ⟨te, h1, i1⟩ := ho
  obtain ⟨tr, h2, i2⟩ := hi
  refine ⟨_, L2.pt_cmp (pc_dnotin hu h2 h1) hb, din_imp i2 i1 fun σ H Q z => ?_⟩
  have z2 : tDNotIn tr te σ H Q := by
    unfold tDNotIn
    simpa using z
  exact z2
/-- d[k] = e -/
@[simp] abbrev uDPut (t u tv : TE1) : TS1 := fun D1 ρ => tv ρ fun z => t ρ fun d => u ρ fun e => ∃ (a : Addr) (n : Nat) (kvs : KD) (k : Key), d = .cls a ∧ ρ.mu[n]? = some (En.mk a true (.dk kvs)) ∧ e = keyD k ∧ kvs.length ≤ 1000 ∧ D1.nx (ρ.setMu n (.dk (putKD kvs k z)))
theorem qs_dput {i : Expr} (hu : X.A.units + 1 < cLine) (ho : QE X W E1 o t) (hi : QE X W E1 i u) (hv : QE X W E1 e tv) (hs : swapsWith e (some (.Subscript o i pos')) pos.line X.env = pure false := by rfl) : QS X W E1 (.Assign [.Subscript o i pos'] e pos) (uDPut t u tv) := by
  obtain ⟨te, h1, i1⟩ := ho
  obtain ⟨tr, h2, i2⟩ := hi
  obtain ⟨t3, h3, i3⟩ := hv
  refine ⟨_, ps_dput hu h1 h2 h3 hs, fun F M H σ ρ D1 D S hx t k => ?_⟩
  refine i3 F M H σ ρ _ _ S hx t fun y H1 z e1 ry t1 => ?_
  refine i1 F M H1 σ ρ _ _ (S.same e1) hx t1 fun x H2 d e2 rx t2 => ?_
  refine i2 F M H2 σ ρ _ _ ((S.same e1).same e2) hx t2 fun w H3 d2 e3 rw' ⟨a, n, kvs, kk, ed, em, ek, hl, t3⟩ => ?_
  subst ed ek
  cases rx
  rw [rp_key rw']
  have S3 := ((S.same e1).same e2).same e3
  obtain ⟨hm, vs, ha, kp⟩ := S3.dk em
  refine ⟨a, _, rfl, DPut.k ha (small1000 (by rw [kp.len]; exact hl)), k.nx M _ σ _ (S3.chgMu (m' := .dk (putKD kvs kk z)) em rfl ?_) t3⟩
  have kp2 := (kp.put (k := kk) (same_rp (e2.trans e3) ry)).updM (u := .dK (putK vs kk y)) hm ha rfl
  exact ⟨_, upd_same, kp2.ks, kp2.rp⟩
/-- del d[k] -/
@[simp] abbrev uDDel (t u : TE1) : TS1 := fun D1 ρ => t ρ fun d => u ρ fun e => ∃ (a : Addr) (n : Nat) (kvs : KD) (k : Key), d = .cls a ∧ ρ.mu[n]? = some (En.mk a true (.dk kvs)) ∧ e = keyD k ∧ (valD kvs k).isSome = true ∧ D1.nx (ρ.setMu n (.dk (dropKD kvs k)))
theorem qs_ddel {i : Expr} (ho : QE X W E1 o t) (hi : QE X W E1 i u) : QS X W E1 (.Delete [.Subscript o i tpos] pos) (uDDel t u) := by
  obtain ⟨te, h1, i1⟩ := ho
  obtain ⟨tr, h2, i2⟩ := hi
  refine ⟨_, ps_ddel h1 h2, fun F M H σ ρ D1 D S hx t k => ?_⟩
  refine i1 F M H σ ρ _ _ S hx t fun x H2 d e2 rx t2 => ?_
  refine i2 F M H2 σ ρ _ _ (S.same e2) hx t2 fun w H3 d2 e3 rw' ⟨a, n, kvs, kk, ed, em, ek, hl, t3⟩ => ?_
  subst ed ek
  cases rx
  rw [rp_key rw']
  have S3 := (S.same e2).same e3
  obtain ⟨hm, vs, ha, kp⟩ := S3.dk em
  have e4 : (valV vs kk).isSome = true := by
    rcases kp.val (k := kk) with ⟨z', v', g1, g2, g3⟩ | ⟨g1, g2⟩
    · rw [g2]; rfl
    · rw [g1] at hl; cases hl
  refine ⟨a, vs, kk, rfl, ha, rfl, e4, k.nx M _ σ _ (S3.chgMu (m' := .dk (dropKD kvs kk)) em rfl ?_) t3⟩
  have kp2 := (kp.drop (k := kk)).updM (u := .dK (dropK vs kk)) hm ha rfl
  exact ⟨_, upd_same, kp2.ks, kp2.rp⟩
/-- sorted(d), d with ints as keys -/
@[simp] abbrev uSortD (t : TE1) : TE1 := fun ρ Q => t ρ fun d => ∃ (a : Addr) (n : Nat) (w : Bool) (kvs : KD) (ks : List Int), d = .cls a ∧ ρ.mu[n]? = some (En.mk a w (.dk kvs)) ∧ kvs.map (·.1) = ks.map Sum.inl ∧ ks.length < 64 ∧ ∀ ys : List Int, ys.Perm ks → ys.Pairwise (· ≤ ·) → Q (.lst (iL ys))
theorem q_sortD (hc : X.calm = true) (hg : Gl X "sorted") (hm : X.mg "sorted" = none) (ho : QE X W E1 o t) (hst : starEach [o] X.env = [(false, eval o X.env)] := by rfl) : QE X W E1 (.Call (.Name "sorted" p) [o] [] pos) (uSortD t) := by
  obtain ⟨te, h1, i1⟩ := ho
  refine ⟨_, pe_callB (call_sortedDI hc) hg hm (by decide +kernel) (pa_cons h1 pa_nil (by rw [hst]; rfl)) (by decide) (by decide) (by rw [hst]; rfl) (by rfl), fun F M H σ ρ Q1 Q S hx t q => ?_⟩
  refine i1 F M H σ ρ _ _ S hx t fun x H1 d e1 rx ⟨a, n, w, kvs, ks, ed, em, ek, hl, t1⟩ => ?_
  subst ed
  cases rx
  have S1 := S.same e1
  obtain ⟨hm, vs, ha, kp⟩ := S1.dk em
  refine ⟨a, vs, ks, rfl, .inl ha, kp.ks.trans ek, hl, fun ys z pm srt hz => ?_⟩
  have en := same_new hz (.lst (ys.map V.int))
  exact q _ _ (.lst (iL ys)) (e1.trans en) ⟨z, _, rfl, .inl ⟨fun w => S1.all z w hz, .inl upd_same⟩, rp_of_ints ys⟩ (t1 ys pm srt)
end
/-! ### expressions that change what stands at some places -/
abbrev TF1 := Rho → (D → Rho → Prop) → Prop
def ImpF (K : PySem.W.Frag) (W : WX) (E1 : E1T) (te : TE) (t : TF1) : Prop := ∀ (F : Fm) (M : List Addr) (H : Hp) (σ : St) (ρ : Rho) (Q1 : D → Rho → Prop) (Q : VK), StR K F M H σ ρ → Xok K F W E1 → t ρ Q1 →
  (∀ v H' M' ρ' d, StR K F M' H' σ ρ' → (∀ d0 v0, Rp K H (M ++ F.L0) d0 v0 → Rp K H' (M' ++ F.L0) d0 v0) → Rp K H' (M' ++ F.L0) d v → Q1 d ρ' → Q v H') → te σ H Q
def QF (X : Cx) (W : WX) (E1 : E1T) (e : Expr) (t : TF1) : Prop := ∃ te, PE X e te ∧ ImpF X.K W E1 te t
@[simp] abbrev uF (t : TE1) : TF1 := fun ρ Q => t ρ fun d => Q d ρ
section
variable {X : Cx} {W : WX} {E1 : E1T} {a b o e : Expr} {es : List Expr} {pos p pos' tpos apos : Pos} {CX : CXT} {C : Addr} {j k : Nat} {x m f : Str} {ps : List Str} {t u tv : TE1} {ua : TA1} {tf : TF1} {K : PySem.W.Frag}
theorem impF {te : TE} (i : ImpE K W E1 te t) : ImpF K W E1 te (uF t) := fun F M H σ ρ Q1 Q S hx t q => i F M H σ ρ _ _ S hx t fun v H' d e1 r1 t1 => q v H' M ρ d (S.same e1) (fun d0 v0 r => same_rp e1 r) r1 t1
theorem qf_of (h : QE X W E1 e t) : QF X W E1 e (uF t) := by
  obtain ⟨te, h1, i1⟩ := h
  exact ⟨te, h1, impF i1⟩
/-- f(..) -/
@[simp] abbrev reF (E1 : E1T) (sl : List Sl) (Q : D → Rho → Prop) : Re → Store → Prop := fun r g' => match r with | .ok d => Q d ⟨sl, g'⟩ | .er C => E1 C ⟨sl, g'⟩
@[simp] abbrev uCalM (E1 : E1T) (R : RG) (u : TA1) : TF1 := fun ρ Q => u ρ fun ds => R ds ρ.mu (reF E1 ρ.sl Q)
theorem calM_imp {ta : TA} {R : RG} (i2 : ImpA K W E1 ta ua) : ImpF K W E1 (tDef (spG K R) [] (WE W) ta) (uCalM E1 R ua) := by
  refine fun F M H σ ρ Q1 Q S hx t q => i2 F M H σ ρ _ _ S hx t fun vs H1 ds e1 r1 t1 => ?_
  have S1 := S.same e1
  refine ⟨M ++ F.L0, ds, ρ.mu, _, S1.all, by simpa using r1, S1.store, t1, fun d v H' M' g' z o r => ?_, fun C' H' M' g' z o => ?_⟩
  · exact q v H' (M' ++ M) ⟨ρ.sl, g'⟩ d (S1.back o) (fun d0 v0 r0 => S1.keep o (same_rp e1 r0)) (by rw [List.append_assoc]; exact r) z
  · exact hx C' (M' ++ M) H' σ ⟨ρ.sl, g'⟩ (S1.back o) z
theorem qf_cal {R : RG} (G : CalS X.prog X.w X.K X.mg X.base CX j x ps (spG X.K R)) (hr : Room k X.A) (hj : j ≤ k) (hg : Gl X x) (hx : ∀ σ, PassesAt CX X σ (WE W σ)) (ha : QA X W E1 (e :: es) ua)
    (hdb : (x == ("__debug__" : Str)) = false := by decide) (hst : starEach (e :: es) X.env = (false, eval e X.env) :: starEach es X.env := by rfl) (hpl : (backTo pos (starEach es X.env)).any (·.1) = false := by rfl) :
    QF X W E1 (.Call (.Name x p) (e :: es) [] pos) (uCalM E1 R ua) := by
  obtain ⟨f, fd, F, b, kp, hm⟩ := G.ex
  obtain ⟨tr, h2, i2⟩ := ha
  exact ⟨_, pe_def F (hr.mono hj) hg hm kp b .nil hx h2 hdb hst hpl, calM_imp i2⟩
theorem qf_cal0 {R : RG} (G : CalS X.prog X.w X.K X.mg X.base CX j x ps (spG X.K R)) (hr : Room k X.A) (hj : j ≤ k) (hg : Gl X x) (hx : ∀ σ, PassesAt CX X σ (WE W σ)) (hdb : (x == ("__debug__" : Str)) = false := by decide) :
    QF X W E1 (.Call (.Name x p) [] [] pos) (uCalM E1 R uNil) := by
  obtain ⟨f, fd, F, b, kp, hm⟩ := G.ex
  exact ⟨_, pe_def0 F (hr.mono hj) hg hm kp b .nil hx hdb, calM_imp fun F M H σ ρ Q1 Q S hx t q => q [] H [] (Same.refl H) rfl t⟩
/-- o.m(..), o an object that may change -/
@[simp] abbrev uMetM (E1 : E1T) (C : Addr) (m : Str) (R : RG) (t : TE1) (u : TA1) : TF1 := fun ρ Q => t ρ fun d => (∃ (a : Addr) (n : Nat) (w : Bool) (fs : List (Str × D)), d = .cls a ∧ ρ.mu[n]? = some (En.mk a w (.ob C fs)) ∧ m ∉ fs.map (·.1)) ∧ u ρ fun ds => R (d :: ds) ρ.mu (reF E1 ρ.sl Q)
theorem metM_imp {te : TE} {ta : TA} {R : RG} (i1 : ImpE K W E1 te t) (i2 : ImpA K W E1 ta ua) : ImpF K W E1 (tMet C m (spG K R) [] (WE W) te ta) (uMetM E1 C m R t ua) := by
  refine fun F M H σ ρ Q1 Q S hx t q => i1 F M H σ ρ _ _ S hx t fun v H1 d e1 r1 ⟨⟨a, n, w, fs, ed, em, hm⟩, t1⟩ => ?_
  subst ed
  cases r1
  obtain ⟨_, _, dx, vs, ha, en, _⟩ := (S.same e1).mu _ (mu_at em)
  refine ⟨a, dx, vs, rfl, ha, no_lookup (by rw [en]; exact hm), ?_⟩
  refine i2 F M H1 σ ρ _ _ (S.same e1) hx t1 fun ws H2 ds e2 r2 t2 => ?_
  have S2 := (S.same e1).same e2
  refine ⟨M ++ F.L0, .cls a :: ds, ρ.mu, _, S2.all, ⟨_, _, rfl, rfl, by simpa using r2⟩, S2.store, t2, fun d v H' M' g' z o r => ?_, fun C' H' M' g' z o => ?_⟩
  · exact q v H' (M' ++ M) ⟨ρ.sl, g'⟩ d (S2.back o) (fun d0 v0 r0 => S2.keep o (same_rp (e1.trans e2) r0)) (by rw [List.append_assoc]; exact r) z
  · exact hx C' (M' ++ M) H' σ ⟨ρ.sl, g'⟩ (S2.back o) z
theorem qf_met {R : RG} (G : MetS X.prog X.w X.K X.mg X.base CX j C m ps (spG X.K R)) (hr : Room k X.A) (hj : j ≤ k) (hx : ∀ σ, PassesAt CX X σ (WE W σ)) (ho : QE X W E1 o t) (ha : QA X W E1 (e :: es) ua)
    (hst : starEach (e :: es) X.env = (false, eval e X.env) :: starEach es X.env := by rfl) (hpl : (backTo pos (starEach es X.env)).any (·.1) = false := by rfl) {pl : Sem Bool}
    (ht : eval (.Call (.Attribute o m apos) (e :: es) [] pos) X.env = (do let ov ← eval o X.env; standAt apos.atName; let (f, first) ← holding [ov] (getMethod ov m pl); callWith pos f first (backTo pos (starEach (e :: es) X.env)) (backToKw pos (keywordEach [] X.env))) := by rfl) :
    QF X W E1 (.Call (.Attribute o m apos) (e :: es) [] pos) (uMetM E1 C m R t ua) := by
  obtain ⟨f, fd, F, b, me, cl⟩ := G.ex
  obtain ⟨te, h1, i1⟩ := ho
  obtain ⟨tr, h2, i2⟩ := ha
  exact ⟨_, pe_met h1 cl me F (hr.mono hj) b .nil hx h2 hst hpl ht, metM_imp i1 i2⟩
theorem qf_met0 {R : RG} (G : MetS X.prog X.w X.K X.mg X.base CX j C m ps (spG X.K R)) (hr : Room k X.A) (hj : j ≤ k) (hx : ∀ σ, PassesAt CX X σ (WE W σ)) (ho : QE X W E1 o t) {pl : Sem Bool}
    (ht : eval (.Call (.Attribute o m apos) [] [] pos) X.env = (do let ov ← eval o X.env; standAt apos.atName; let (f, first) ← holding [ov] (getMethod ov m pl); callWith pos f first (backTo pos (starEach [] X.env)) (backToKw pos (keywordEach [] X.env))) := by rfl) :
    QF X W E1 (.Call (.Attribute o m apos) [] [] pos) (uMetM E1 C m R t uNil) := by
  obtain ⟨f, fd, F, b, me, cl⟩ := G.ex
  obtain ⟨te, h1, i1⟩ := ho
  exact ⟨_, pe_met0 h1 cl me F (hr.mono hj) b .nil hx ht, metM_imp i1 fun F M H σ ρ Q1 Q S hx t q => q [] H [] (Same.refl H) rfl t⟩
/-- o.m(..) that reads alone -/
@[simp] abbrev uMetR (E1 : E1T) (C : Addr) (m : Str) (R : RG) (t : TE1) (u : TA1) : TE1 := fun ρ Q => t ρ fun d => (∃ (a : Addr) (n : Nat) (w : Bool) (fs : List (Str × D)), d = .cls a ∧ ρ.mu[n]? = some (En.mk a w (.ob C fs)) ∧ m ∉ fs.map (·.1)) ∧ u ρ fun ds => R (d :: ds) (ro ρ.mu) fun r _ => reK E1 ρ Q r
theorem metR_imp {te : TE} {ta : TA} {R : RG} (i1 : ImpE K W E1 te t) (i2 : ImpA K W E1 ta ua) : ImpE K W E1 (tMet C m (spG K R) [] (WE W) te ta) (uMetR E1 C m R t ua) := by
  refine fun F M H σ ρ Q1 Q S hx t q => i1 F M H σ ρ _ _ S hx t fun v H1 d e1 r1 ⟨⟨a, n, w, fs, ed, em, hm⟩, t1⟩ => ?_
  subst ed
  cases r1
  obtain ⟨_, _, dx, vs, ha, en, _⟩ := (S.same e1).mu _ (mu_at em)
  refine ⟨a, dx, vs, rfl, ha, no_lookup (by rw [en]; exact hm), ?_⟩
  refine i2 F M H1 σ ρ _ _ (S.same e1) hx t1 fun ws H2 ds e2 r2 t2 => ?_
  have S2 := (S.same e1).same e2
  refine ⟨M ++ F.L0, .cls a :: ds, ro ρ.mu, _, S2.all, ⟨_, _, rfl, rfl, by simpa using r2⟩, S2.store.ro, t2, fun d v H' M' g' z o r => ?_, fun C' H' M' g' z o => ?_⟩
  · exact q v H' d (e1.trans (e2.trans o.same)) (Rp.same (Same.refl _) (fun b _ hb => List.mem_append_right _ hb) _ _ r) z
  · exact hx C' M H' σ ρ (S2.same o.same) z
theorem q_metR {R : RG} (G : MetS X.prog X.w X.K X.mg X.base CX j C m ps (spG X.K R)) (hr : Room k X.A) (hj : j ≤ k) (hx : ∀ σ, PassesAt CX X σ (WE W σ)) (ho : QE X W E1 o t) (ha : QA X W E1 (e :: es) ua)
    (hst : starEach (e :: es) X.env = (false, eval e X.env) :: starEach es X.env := by rfl) (hpl : (backTo pos (starEach es X.env)).any (·.1) = false := by rfl) {pl : Sem Bool}
    (ht : eval (.Call (.Attribute o m apos) (e :: es) [] pos) X.env = (do let ov ← eval o X.env; standAt apos.atName; let (f, first) ← holding [ov] (getMethod ov m pl); callWith pos f first (backTo pos (starEach (e :: es) X.env)) (backToKw pos (keywordEach [] X.env))) := by rfl) :
    QE X W E1 (.Call (.Attribute o m apos) (e :: es) [] pos) (uMetR E1 C m R t ua) := by
  obtain ⟨f, fd, F, b, me, cl⟩ := G.ex
  obtain ⟨te, h1, i1⟩ := ho
  obtain ⟨tr, h2, i2⟩ := ha
  exact ⟨_, pe_met h1 cl me F (hr.mono hj) b .nil hx h2 hst hpl ht, metR_imp i1 i2⟩
theorem q_metR0 {R : RG} (G : MetS X.prog X.w X.K X.mg X.base CX j C m ps (spG X.K R)) (hr : Room k X.A) (hj : j ≤ k) (hx : ∀ σ, PassesAt CX X σ (WE W σ)) (ho : QE X W E1 o t) {pl : Sem Bool}
    (ht : eval (.Call (.Attribute o m apos) [] [] pos) X.env = (do let ov ← eval o X.env; standAt apos.atName; let (f, first) ← holding [ov] (getMethod ov m pl); callWith pos f first (backTo pos (starEach [] X.env)) (backToKw pos (keywordEach [] X.env))) := by rfl) :
    QE X W E1 (.Call (.Attribute o m apos) [] [] pos) (uMetR E1 C m R t uNil) := by
  obtain ⟨f, fd, F, b, me, cl⟩ := G.ex
  obtain ⟨te, h1, i1⟩ := ho
  exact ⟨_, pe_met0 h1 cl me F (hr.mono hj) b .nil hx ht, metR_imp i1 fun F M H σ ρ Q1 Q S hx t q => q [] H [] (Same.refl H) rfl t⟩
/-- something new that may be changed -/
theorem StR.newMu {F : Fm} {M : List Addr} {H : Hp} {σ : St} {ρ : Rho} (S : StR K F M H σ ρ) {q : Addr} {u : HO} {m : Mu} (hq : H q = none) (r : RpMu K (upd H q u) ((q :: M) ++ F.L0) q m) : StR K F (q :: M) (upd H q u) σ ⟨ρ.sl, ρ.mu ++ [⟨q, true, m⟩]⟩ := by
  have e := same_new hq u
  have hL : ∀ a, H a ≠ none → a ∈ (q :: M) ++ F.L0 → a ∈ M ++ F.L0 := fun a ha hm => mem_out hq ha hm
  have hq0 : F.H0 q = none := by
    cases z : F.H0 q with
    | none => rfl
    | some o => exact absurd hq (S.ext _ _ z).2
  refine ⟨S.ext.trans (.of _ e), S.al, fun a ha => ?_, fun i x z => ?_, S.uq, fun p hp => Rp.same e hL _ _ (S.pn p hp), S.gl, fun n hn => ?_, ?_, fun n hn => ?_⟩
  · rcases List.mem_cons.mp ha with z | z
    · subst z; exact ⟨hq0, by rw [upd_same]; simp⟩
    · exact ⟨(S.fr a z).1, same_ne e (S.fr a z).2⟩
  · obtain ⟨v, h1, h2⟩ := S.sl i x z
    refine ⟨v, h1, ?_⟩
    cases x with
    | un => trivial
    | dat d => obtain ⟨y, h3, h4⟩ := h2; exact ⟨y, h3, Rp.same e hL _ _ h4⟩
    | own us => obtain ⟨b, ys, h3, h4, h5, h6⟩ := h2; exact ⟨b, ys, h3, List.mem_cons_of_mem _ h4, e _ _ h5, RpAll.same e hL _ _ h6⟩
  · rcases List.mem_append.mp hn with z | z
    · obtain ⟨a1, a2, a3⟩ := S.mu n z
      exact ⟨List.mem_cons_of_mem _ a1, fun w => (a2 w).imp (List.mem_cons_of_mem _) id, a3.same e hL⟩
    · rw [List.mem_singleton.mp z]
      exact ⟨List.mem_cons_self, fun _ => .inl List.mem_cons_self, r⟩
  · rw [List.map_append, List.nodup_append]
    refine ⟨S.nd, by simp, fun x hx y hy z => ?_⟩
    obtain ⟨n, hn, rfl⟩ := List.mem_map.mp hx
    have hy : y = q := by simpa using hy
    exact S.all n.a (S.mu n hn).1 (by rw [z, hy]; exact hq)
  · rcases List.mem_append.mp hn with z | z
    · exact (S.ma n z).imp (List.mem_cons_of_mem _) id
    · rw [List.mem_singleton.mp z]; exact .inl List.mem_cons_self
/-- C(..), an object that may be changed -/
@[simp] abbrev uMkM (E1 : E1T) (C : Addr) (R : RG) (dfs : List D) (u : TA1) : TF1 := fun ρ Q => u ρ fun ds => ∀ a, R (.cls a :: (ds ++ dfs)) [⟨a, true, .ob C []⟩] fun r g' => match r with
  | .ok d => d = .non ∧ Q (.cls a) ⟨ρ.sl, ρ.mu ++ g'⟩
  | .er C' => E1 C' ρ
theorem mkM_imp {ta : TA} {R : RG} {dvs : List V} {dfs : List D} (hd : ∀ H L, RpAll K H L dfs dvs) (i2 : ImpA K W E1 ta ua) : ImpF K W E1 (tMkd C (spG K R) dvs (WE W) ta) (uMkM E1 C R dfs ua) := by
  refine fun F M H σ ρ Q1 Q S hx t q => i2 F M H σ ρ _ _ S hx t fun vs H1 ds e1 r1 t1 => ?_
  intro n dn hn hdn ne
  have S1 := S.same e1
  have al := S1.all
  have eH : Same H1 (upd (upd H1 dn (.own n)) n (.ins C dn [])) := (same_new hdn _).trans (same_new (by rw [upd_ne (Ne.symm ne)]; exact hn) _)
  have hLn : ∀ b, H1 b ≠ none → b ∈ n :: (M ++ F.L0) → b ∈ M ++ F.L0 := fun b hb hm => (List.mem_cons.mp hm).elim (fun z => absurd (z ▸ hn) hb) id
  have wr : wrs [(⟨n, true, .ob C []⟩ : En)] = [n] := rfl
  have S1' : StR K F M (upd H1 dn (.own n)) σ ρ := S1.same (same_new hdn _)
  have hn' : upd H1 dn (.own n) n = none := by rw [upd_ne (Ne.symm ne)]; exact hn
  refine ⟨n :: (M ++ F.L0), .cls n :: (ds ++ dfs), [⟨n, true, .ob C []⟩], _, fun b hb => ?_, ⟨_, _, rfl, rfl, ?_⟩, ⟨fun e he => ?_, by simp⟩, t1 n, fun d v H' M' g' z o r => ?_, fun C' H' M' g' z o => ?_⟩
  · rcases List.mem_cons.mp hb with z | z
    · subst z; rw [upd_same]; simp
    · exact same_ne eH (al b z)
  · exact RpAll.append (RpAll.same eH hLn _ _ r1) (hd _ _)
  · rw [List.mem_singleton.mp he]
    exact ⟨List.mem_cons_self, dn, [], upd_same, rfl, rfl⟩
  · obtain ⟨rfl, z⟩ := z
    cases r
    refine ⟨rfl, ?_⟩
    have ex := o.ext
    rw [wr] at ex
    have e2 : Same H1 H' := fun b u hb => (ex b u (eH b u hb)).1 fun w => by
      rw [List.mem_singleton.mp w, hn] at hb; cases hb
    have hn2 : H' n ≠ none := (ex n _ upd_same).2
    -- n and what came with it are new
    have new : ∀ b ∈ M' ++ [n], H1 b = none ∧ H' b ≠ none := fun b hb => by
      rcases List.mem_append.mp hb with w | w
      · refine ⟨?_, (o.fr b w).2⟩
        cases z : H1 b with
        | none => rfl
        | some u => exact absurd (o.fr b w).1 (by rw [eH b u z]; simp)
      · rw [List.mem_singleton.mp w]; exact ⟨hn, hn2⟩
    have hL2 : ∀ b, H1 b ≠ none → b ∈ ((M' ++ [n]) ++ M) ++ F.L0 → b ∈ M ++ F.L0 := fun b hb hm => by
      rw [List.append_assoc] at hm
      rcases List.mem_append.mp hm with w | w
      · exact absurd (new b w).1 hb
      · exact w
    have eL : M' ++ (n :: (M ++ F.L0)) = ((M' ++ [n]) ++ M) ++ F.L0 := by simp
    have hq0 : ∀ b ∈ M' ++ [n], F.H0 b = none := fun b hb => by
      cases z : F.H0 b with
      | none => rfl
      | some u => exact absurd (new b hb).1 (S1.ext b u z).2
    refine q (.ref n) H' ((M' ++ [n]) ++ M) ⟨ρ.sl, ρ.mu ++ g'⟩ (.cls n) ⟨S1.ext.trans (.of _ e2), S1.al, fun b hb => ?_, fun i x z => ?_, S1.uq, fun p hp => Rp.same e2 hL2 _ _ (S1.pn p hp), S1.gl, fun w hw => ?_, ?_, fun w hw => ?_⟩ (fun d0 v0 r0 => Rp.same (e1.trans e2) (fun b hb hm => hL2 b (same_ne e1 hb) hm) _ _ r0) rfl z
    · rcases List.mem_append.mp hb with w | w
      · exact ⟨hq0 b w, (new b w).2⟩
      · exact ⟨(S1.fr b w).1, same_ne e2 (S1.fr b w).2⟩
    · obtain ⟨v, h1, h2⟩ := S1.sl i x z
      refine ⟨v, h1, ?_⟩
      cases x with
      | un => trivial
      | dat d => obtain ⟨y, h3, h4⟩ := h2; exact ⟨y, h3, Rp.same e2 hL2 _ _ h4⟩
      | own us => obtain ⟨b, ys, h3, h4, h5, h6⟩ := h2; exact ⟨b, ys, h3, List.mem_append_right _ h4, e2 _ _ h5, RpAll.same e2 hL2 _ _ h6⟩
    · rcases List.mem_append.mp hw with h | h
      · obtain ⟨a1, a2, a3⟩ := S1.mu w h
        refine ⟨by rw [List.append_assoc]; exact List.mem_append_right _ a1, fun z => (a2 z).imp (List.mem_append_right _) id, a3.same e2 hL2⟩
      · obtain ⟨a1, a2⟩ := o.st.at_ w h
        rw [eL] at a1 a2
        refine ⟨a1, fun z => ?_, a2⟩
        rcases o.w w h z with y | y
        · exact .inl (List.mem_append_left _ (List.mem_append_left _ y))
        · rw [wr] at y
          exact .inl (List.mem_append_left _ (List.mem_append_right _ y))
    · rw [List.map_append, List.nodup_append]
      refine ⟨S1.nd, o.st.nd, fun x hx y hy z => ?_⟩
      obtain ⟨w, hw, rfl⟩ := List.mem_map.mp hx
      obtain ⟨w', hw', rfl⟩ := List.mem_map.mp hy
      have i1 : H1 w'.a = none := by
        rcases o.nw w' hw' with y | y
        · exact (new _ (List.mem_append_left _ y)).1
        · have y : w'.a = n := by simpa using y
          rw [y]; exact hn
      exact al w.a (S1.mu w hw).1 (by rw [z]; exact i1)
    · rcases List.mem_append.mp hw with h | h
      · exact (S1.ma w h).imp (List.mem_append_right _) id
      · rcases o.nw w h with y | y
        · exact .inl (List.mem_append_left _ (List.mem_append_left _ y))
        · have y : w.a = n := by simpa using y
          rw [y]
          exact .inl (List.mem_append_left _ (List.mem_append_right _ (List.mem_singleton.mpr rfl)))
  · have ex := o.ext
    rw [wr] at ex
    have e2 : Same H1 H' := fun b u hb => (ex b u (eH b u hb)).1 fun w => by
      rw [List.mem_singleton.mp w, hn] at hb; cases hb
    exact hx C' M H' σ ρ (S1.same e2) z
end
end DL

set_option maxRecDepth 100000
set_option maxHeartbeats 4000000
/-! The data layer: statements, tests, displays over expressions that change what stands at some places. -/
namespace DL
open PySem PySem.Spec L2
abbrev TAF1 := Rho → (List D → Rho → Prop) → Prop
def ImpAF (K : PySem.W.Frag) (W : WX) (E1 : E1T) (te : TA) (t : TAF1) : Prop := ∀ (F : Fm) (M : List Addr) (H : Hp) (σ : St) (ρ : Rho) (Q1 : List D → Rho → Prop) (Q : List V → Hp → Prop), StR K F M H σ ρ → Xok K F W E1 → t ρ Q1 →
  (∀ v H' M' ρ' d, StR K F M' H' σ ρ' → (∀ d0 v0, Rp K H (M ++ F.L0) d0 v0 → Rp K H' (M' ++ F.L0) d0 v0) → RpAll K H' (M' ++ F.L0) d v → Q1 d ρ' → Q v H') → te σ H Q
def QAF (X : Cx) (W : WX) (E1 : E1T) (es : List Expr) (t : TAF1) : Prop := ∃ te, PA X es te ∧ ImpAF X.K W E1 te t
abbrev TTF1 := Rho → (Bool → Rho → Prop) → Prop
def ImpTF (K : PySem.W.Frag) (W : WX) (E1 : E1T) (te : TT) (t : TTF1) : Prop := ∀ (F : Fm) (M : List Addr) (H : Hp) (σ : St) (ρ : Rho) (Q1 : Bool → Rho → Prop) (Q : Bool → Hp → Prop), StR K F M H σ ρ → Xok K F W E1 → t ρ Q1 →
  (∀ b H' M' ρ', StR K F M' H' σ ρ' → Q1 b ρ' → Q b H') → te σ H Q
def QTF (X : Cx) (W : WX) (E1 : E1T) (e : Expr) (t : TTF1) : Prop := ∃ te, PT X e te ∧ ImpTF X.K W E1 te t
def QWF (X : Cx) (W : WX) (E1 : E1T) (e : Expr) (t : TTF1) : Prop := ∃ te, PW X e te ∧ ImpTF X.K W E1 te t
section
variable {X : Cx} {W : WX} {E1 : E1T} {a b c o e : Expr} {es rest : List Expr} {body orelse : List Stmt} {pos p pos' tpos apos lpos : Pos} {CX : CXT} {C : Addr} {j k : Nat} {x m f : Str} {ps : List Str} {t u tv : TE1} {ua : TA1} {tf uf : TF1} {taf : TAF1} {K : PySem.W.Frag}
/-! statements -/
@[simp] abbrev uSetF (i : Nat) (t : TF1) : TS1 := fun D1 ρ => t ρ fun d ρ' => i < ρ'.length ∧ D1.nx (ρ'.set i (.dat d))
theorem qs_setF (i : Nat) (hN : X.N.Nodup) (hi : X.N[i]? = some x) (hx : Loc X.env.scope x) (h : QF X W E1 e tf) (hs : swapsWith e (some (.Name x pos')) pos.line X.env = pure false := by rfl) (hf : X.fn x = true ∨ X.env.scope.names.lookup x = some .local := by first | exact .inl rfl | exact .inr rfl | assumption) :
    QS X W E1 (.Assign [.Name x pos'] e pos) (uSetF i tf) := by
  obtain ⟨te, p1, i1⟩ := h
  refine ⟨_, ps_set hN hi hx p1 hs hf, fun F M H σ ρ D1 D S hx t k => ?_⟩
  exact i1 F M H σ ρ _ _ S hx t fun v H1 M' ρ' d S' _ r1 ⟨hl, t1⟩ => k.nx M' H1 _ _ (S'.set i hl r1) t1
@[simp] abbrev uDropF (t : TF1) : TS1 := fun D1 ρ => t ρ fun _ ρ' => D1.nx ρ'
theorem qs_exprF (h : QF X W E1 e tf) (hs : swapsWith e none pos.line X.env = pure false := by rfl) : QS X W E1 (.Expr e pos) (uDropF tf) := by
  obtain ⟨te, p1, i1⟩ := h
  refine ⟨_, ps_expr p1 hs, fun F M H σ ρ D1 D S hx t k => ?_⟩
  exact i1 F M H σ ρ _ _ S hx t fun v H1 M' ρ' d S' _ r1 t1 => k.nx M' H1 σ ρ' S' t1
@[simp] abbrev uRetF (t : TF1) : TS1 := fun D1 ρ => t ρ fun d ρ' => D1.rt d ρ'.mu
theorem qs_retF (h : QF X W E1 e tf) : QS X W E1 (.Return (some e) pos) (uRetF tf) := by
  obtain ⟨te, p1, i1⟩ := h
  refine ⟨_, ps_ret p1, fun F M H σ ρ D1 D S hx t k => ?_⟩
  exact i1 F M H σ ρ _ _ S hx t fun v H1 M' ρ' d S' _ r1 t1 => k.rt M' H1 σ ρ' v d S' r1 t1
/-- o.f = e -/
@[simp] abbrev uFldSetF (C : Addr) (f : Str) (t : TE1) (tv : TF1) : TS1 := fun D1 ρ => tv ρ fun z ρ' => t ρ' fun d => ∃ (a : Addr) (n : Nat) (fs : List (Str × D)), d = .cls a ∧ ρ'.mu[n]? = some (En.mk a true (.ob C fs)) ∧ fs.length < 1000 ∧ D1.nx (ρ'.setMu n (.ob C (putD f z fs)))
theorem qs_fldF (cl : Cls X.K C) (na : NoAttr X.K C f) (ho : QE X W E1 o t) (hv : QF X W E1 e tf) (hs : swapsWith e (some (.Attribute o f apos)) pos.line X.env = pure false := by rfl) : QS X W E1 (.Assign [.Attribute o f apos] e pos) (uFldSetF C f t tf) := by
  obtain ⟨te, h1, i1⟩ := ho
  obtain ⟨tr, h2, i2⟩ := hv
  refine ⟨_, ps_fld h1 h2 hs, fun F M H σ ρ D1 D S hx t k => ?_⟩
  refine i2 F M H σ ρ _ _ S hx t fun y H1 M' ρ' z S' _ ry t1 => ?_
  refine i1 F M' H1 σ ρ' _ _ S' hx t1 fun v H2 d e2 r2 ⟨a, n, fs, ed, em, hl, t2⟩ => ?_
  subst ed
  cases r2
  have S2 := S'.same e2
  obtain ⟨hm, _, dx, vs, ha, en, ra⟩ := S2.mu _ (mu_at em)
  have ra0 : RpAll X.K H2 (M' ++ F.L0) (fs.map (·.2)) (vs.map (·.2)) := ra
  obtain ⟨g1, g2⟩ := rp_putF (f := f) (same_rp e2 ry) en ra0
  have hlen : vs.length = fs.length := by have := congrArg List.length en; simpa using this
  exact ⟨a, C, dx, vs, rfl, ha, cl, na, by rw [hlen]; exact hl, k.nx M' _ σ _ (S2.chgMu (m' := .ob C (putD f z fs)) em rfl ⟨dx, _, upd_same, g1, RpAll.updM hm ha rfl _ _ g2⟩) t2⟩
/-- d[k] = e -/
@[simp] abbrev uDPutF (t u : TE1) (tv : TF1) : TS1 := fun D1 ρ => tv ρ fun z ρ' => t ρ' fun d => u ρ' fun e => ∃ (a : Addr) (n : Nat) (kvs : KD) (k : Key), d = .cls a ∧ ρ'.mu[n]? = some (En.mk a true (.dk kvs)) ∧ e = keyD k ∧ kvs.length ≤ 1000 ∧ D1.nx (ρ'.setMu n (.dk (putKD kvs k z)))
theorem qs_dputF {i : Expr} (hu : X.A.units + 1 < cLine) (ho : QE X W E1 o t) (hi : QE X W E1 i u) (hv : QF X W E1 e tf) (hs : swapsWith e (some (.Subscript o i pos')) pos.line X.env = pure false := by rfl) : QS X W E1 (.Assign [.Subscript o i pos'] e pos) (uDPutF t u tf) := by
  obtain ⟨te, h1, i1⟩ := ho
  obtain ⟨tr, h2, i2⟩ := hi
  obtain ⟨t3, h3, i3⟩ := hv
  refine ⟨_, ps_dput hu h1 h2 h3 hs, fun F M H σ ρ D1 D S hx t k => ?_⟩
  refine i3 F M H σ ρ _ _ S hx t fun y H1 M' ρ' z S' _ ry t1 => ?_
  refine i1 F M' H1 σ ρ' _ _ S' hx t1 fun x H2 d e2 rx t2 => ?_
  refine i2 F M' H2 σ ρ' _ _ (S'.same e2) hx t2 fun w H3 d2 e3 rw' ⟨a, n, kvs, kk, ed, em, ek, hl, t3⟩ => ?_
  subst ed ek
  cases rx
  rw [rp_key rw']
  have S3 := (S'.same e2).same e3
  obtain ⟨hm, vs, ha, kp⟩ := S3.dk em
  refine ⟨a, _, rfl, DPut.k ha (small1000 (by rw [kp.len]; exact hl)), k.nx M' _ σ _ (S3.chgMu (m' := .dk (putKD kvs kk z)) em rfl ?_) t3⟩
  have kp2 := (kp.put (k := kk) (same_rp (e2.trans e3) ry)).updM (u := .dK (putK vs kk y)) hm ha rfl
  exact ⟨_, upd_same, kp2.ks, kp2.rp⟩
/-! operations, tests -/
@[simp] abbrev uOpF (f : F2) (t : TF1) (u : TE1) : TF1 := fun ρ Q => t ρ fun d ρ' => u ρ' fun e => f d e fun z => Q z ρ'
theorem opF_imp {r : R2} {f : F2} {te tr : TE} (hi : OpI K r f) (i1 : ImpF K W E1 te tf) (i2 : ImpE K W E1 tr u) : ImpF K W E1 (tOp r te tr) (uOpF f tf u) := fun F M H σ ρ Q1 Q S hx t q => by
  refine i1 F M H σ ρ _ _ S hx t fun v H1 M' ρ' d S' kp r1 t1 => ?_
  refine i2 F M' H1 σ ρ' _ _ S' hx t1 fun w H2 d2 e2 r2 t2 => ?_
  exact hi H2 (M' ++ F.L0) d d2 v w _ _ (S'.same e2).all (same_rp e2 r1) r2 t2 fun x H3 d3 e3 r3 t3 => q x H3 M' ρ' d3 ((S'.same e2).same e3) (fun d0 v0 r0 => same_rp (e2.trans e3) (kp d0 v0 r0)) r3 t3
theorem qf_cmp {op : CmpOp} {r : R2} {f : F2} (ho : OpR X (compareOp op) r) (hi : OpI X.K r f) (hm : behindInMarks op b = false) (ha : QF X W E1 a tf) (hb : QE X W E1 b u) : QF X W E1 (.Compare a [op] [b] pos) (uOpF f tf u) := by
  obtain ⟨te, h1, i1⟩ := ha
  obtain ⟨tr, h2, i2⟩ := hb
  exact ⟨_, pe_cmpR ho h1 h2 hm, opF_imp hi i1 i2⟩
@[simp] abbrev uBF (t : TF1) : TTF1 := fun ρ Q => t ρ fun d ρ' => ∃ c, d = .bl c ∧ Q c ρ'
theorem bF_imp {te : TE} (i1 : ImpF K W E1 te tf) : ImpTF K W E1 (tB te) (uBF tf) := fun F M H σ ρ Q1 Q S hx t q => by
  refine i1 F M H σ ρ _ _ S hx t fun v H1 M' ρ' d S' _ r1 ⟨c, ed, t1⟩ => ?_
  subst ed
  cases r1
  exact ⟨c, rfl, q c H1 M' ρ' S' t1⟩
theorem qtf_val (h : QF X W E1 a tf) (he : ∀ whole, isTrue a X.env whole = (do let v ← whole; standAt a.pos; holding [v] (truthy v)) := by intro _; rfl) : QTF X W E1 a (uBF tf) := by
  obtain ⟨te, h1, i1⟩ := h
  exact ⟨_, pt_val h1 he, bF_imp i1⟩
theorem qtf_cmp {op : CmpOp} {r : R2} {f : F2} (ho : OpR X (compareOp op) r) (hi : OpI X.K r f) (hm : behindInMarks op b = false) (ha : QF X W E1 a tf) (hb : QE X W E1 b u) : QTF X W E1 (.Compare a [op] [b] pos) (uBF (uOpF f tf u)) := by
  obtain ⟨te, h1, i1⟩ := ha
  obtain ⟨tr, h2, i2⟩ := hb
  exact ⟨_, pt_cmpR ho h1 h2 hm, bF_imp (opF_imp hi i1 i2)⟩
@[simp] abbrev uTF (t : TT1) : TTF1 := fun ρ Q => t ρ fun c => Q c ρ
theorem qtf_of {t : TT1} (h : QT X W E1 a t) : QTF X W E1 a (uTF t) := by
  obtain ⟨te, h1, i1⟩ := h
  exact ⟨te, h1, fun F M H σ ρ Q1 Q S hx t q => i1 F M H σ ρ _ _ S hx t fun b H' e1 t1 => q b H' M ρ (S.same e1) t1⟩
theorem qtf_w {t : TTF1} (h : QWF X W E1 a t) : QTF X W E1 a t := by
  obtain ⟨te, h1, i1⟩ := h
  exact ⟨_, h1.pt, i1⟩
theorem qwf_and1 {t : TTF1} (h : QTF X W E1 a t) : QWF X W E1 (.BoolOp .And [a] pos) t := by
  obtain ⟨te, h1, i1⟩ := h
  exact ⟨_, pw_and1 h1, i1⟩
theorem qwf_or1 {t : TTF1} (h : QTF X W E1 a t) : QWF X W E1 (.BoolOp .Or [a] pos) t := by
  obtain ⟨te, h1, i1⟩ := h
  exact ⟨_, pw_or1 h1, i1⟩
@[simp] abbrev uAndF (t u : TTF1) : TTF1 := fun ρ Q => t ρ fun c ρ' => if c = true then u ρ' Q else Q false ρ'
@[simp] abbrev uOrF (t u : TTF1) : TTF1 := fun ρ Q => t ρ fun c ρ' => if c = true then Q true ρ' else u ρ' Q
theorem qwf_and {t u : TTF1} (h : QTF X W E1 a t) (h' : QWF X W E1 (.BoolOp .And (b :: rest) pos) u) : QWF X W E1 (.BoolOp .And (a :: b :: rest) pos) (uAndF t u) := by
  obtain ⟨te, h1, i1⟩ := h
  obtain ⟨tr, h2, i2⟩ := h'
  refine ⟨_, pw_and h1 h2, fun F M H σ ρ Q1 Q S hx t q => ?_⟩
  refine i1 F M H σ ρ _ _ S hx t fun c H1 M' ρ' S' t1 => ?_
  cases c with
  | true => exact i2 F M' H1 σ ρ' _ _ S' hx (by simpa using t1) q
  | false => exact q false H1 M' ρ' S' (by simpa using t1)
theorem qwf_or {t u : TTF1} (h : QTF X W E1 a t) (h' : QWF X W E1 (.BoolOp .Or (b :: rest) pos) u) : QWF X W E1 (.BoolOp .Or (a :: b :: rest) pos) (uOrF t u) := by
  obtain ⟨te, h1, i1⟩ := h
  obtain ⟨tr, h2, i2⟩ := h'
  refine ⟨_, pw_or h1 h2, fun F M H σ ρ Q1 Q S hx t q => ?_⟩
  refine i1 F M H σ ρ _ _ S hx t fun c H1 M' ρ' S' t1 => ?_
  cases c with
  | true => exact q true H1 M' ρ' S' (by simpa using t1)
  | false => exact i2 F M' H1 σ ρ' _ _ S' hx (by simpa using t1) q
@[simp] abbrev uNotF (t : TTF1) : TTF1 := fun ρ Q => t ρ fun c ρ' => Q (!c) ρ'
theorem qtf_not {t : TTF1} (h : QTF X W E1 a t) : QTF X W E1 (.UnaryOp .Not a pos) (uNotF t) := by
  obtain ⟨te, h1, i1⟩ := h
  refine ⟨_, pt_not h1, fun F M H σ ρ Q1 Q S hx t q => ?_⟩
  exact i1 F M H σ ρ _ _ S hx t fun c H1 M' ρ' S' t1 => q _ H1 M' ρ' S' t1
@[simp] abbrev uIfF (c : TTF1) (t u : TS1) : TS1 := fun D ρ => c ρ fun b ρ' => if b = true then t D ρ' else u D ρ'
theorem qs_ifF {tc : TTF1} {t u : TS1} (hc : QTF X W E1 c tc) (ha : QSs X W E1 body t) (hb : QSs X W E1 orelse u) : QS X W E1 (.If c body orelse pos) (uIfF tc t u) := by
  obtain ⟨te, p1, i1⟩ := hc
  obtain ⟨t2, p2, i2⟩ := ha
  obtain ⟨t3, p3, i3⟩ := hb
  refine ⟨_, ps_if p1 p2 p3, fun F M H σ ρ D1 D S hx t k => ?_⟩
  refine i1 F M H σ ρ _ _ S hx t fun b H1 M' ρ' S' t1 => ?_
  cases b with
  | true => exact i2 F M' H1 σ ρ' D1 D S' hx (by simpa using t1) k
  | false => exact i3 F M' H1 σ ρ' D1 D S' hx (by simpa using t1) k
/-! and, or, not as values -/
@[simp] abbrev uAndVF (t u : TF1) : TF1 := fun ρ Q => t ρ fun d ρ' => ∃ c, d = .bl c ∧ if c = true then u ρ' Q else Q (.bl false) ρ'
@[simp] abbrev uOrVF (t u : TF1) : TF1 := fun ρ Q => t ρ fun d ρ' => ∃ c, d = .bl c ∧ if c = true then Q (.bl true) ρ' else u ρ' Q
theorem qf_one {op} (h : QF X W E1 a tf) : QF X W E1 (.BoolOp op [a] pos) tf := by
  obtain ⟨te, h1, i1⟩ := h
  exact ⟨_, pe_one h1, i1⟩
theorem qf_and (h : QF X W E1 a tf) (h' : QF X W E1 (.BoolOp .And (b :: rest) pos) uf) : QF X W E1 (.BoolOp .And (a :: b :: rest) pos) (uAndVF tf uf) := by
  obtain ⟨te, h1, i1⟩ := h
  obtain ⟨tr, h2, i2⟩ := h'
  refine ⟨_, pe_and h1 h2, fun F M H σ ρ Q1 Q S hx t q => ?_⟩
  refine i1 F M H σ ρ _ _ S hx t fun v H1 M' ρ' d S' kp r1 ⟨c, ed, t1⟩ => ?_
  subst ed
  cases r1
  refine ⟨c, rfl, ?_⟩
  cases c with
  | true => exact i2 F M' H1 σ ρ' _ _ S' hx (by simpa using t1) fun x H2 M2 ρ2 d2 S2 kp2 r2 t2 => q x H2 M2 ρ2 d2 S2 (fun d0 v0 r0 => kp2 d0 v0 (kp d0 v0 r0)) r2 t2
  | false => exact q _ H1 M' ρ' (.bl false) S' kp rfl (by simpa using t1)
theorem qf_or (h : QF X W E1 a tf) (h' : QF X W E1 (.BoolOp .Or (b :: rest) pos) uf) : QF X W E1 (.BoolOp .Or (a :: b :: rest) pos) (uOrVF tf uf) := by
  obtain ⟨te, h1, i1⟩ := h
  obtain ⟨tr, h2, i2⟩ := h'
  refine ⟨_, pe_or h1 h2, fun F M H σ ρ Q1 Q S hx t q => ?_⟩
  refine i1 F M H σ ρ _ _ S hx t fun v H1 M' ρ' d S' kp r1 ⟨c, ed, t1⟩ => ?_
  subst ed
  cases r1
  refine ⟨c, rfl, ?_⟩
  cases c with
  | true => exact q _ H1 M' ρ' (.bl true) S' kp rfl (by simpa using t1)
  | false => exact i2 F M' H1 σ ρ' _ _ S' hx (by simpa using t1) fun x H2 M2 ρ2 d2 S2 kp2 r2 t2 => q x H2 M2 ρ2 d2 S2 (fun d0 v0 r0 => kp2 d0 v0 (kp d0 v0 r0)) r2 t2
/-! lists of such -/
theorem qaf_nil : QAF X W E1 [] (fun ρ Q => Q [] ρ) := ⟨_, pa_nil, fun F M H σ ρ Q1 Q S hx t q => q [] H M ρ [] S (fun _ _ r => r) rfl t⟩
theorem RpAll.keep {K : PySem.W.Frag} {H H' : Hp} {L L' : List Addr} (kp : ∀ d0 v0, Rp K H L d0 v0 → Rp K H' L' d0 v0) : ∀ (ds : List D) (vs : List V), RpAll K H L ds vs → RpAll K H' L' ds vs
  | [], _, h => h
  | d :: ds, _, ⟨x, r, h1, h2, h3⟩ => ⟨x, r, h1, kp _ _ h2, RpAll.keep kp ds r h3⟩
theorem qaf_cons (ha : QF X W E1 a tf) (hr : QAF X W E1 es taf) (hs : starEach (a :: es) X.env = (false, eval a X.env) :: starEach es X.env := by rfl) : QAF X W E1 (a :: es) (fun ρ Q => tf ρ fun d ρ' => taf ρ' fun ds ρ'' => Q (d :: ds) ρ'') := by
  obtain ⟨te, h1, i1⟩ := ha
  obtain ⟨tr, h2, i2⟩ := hr
  refine ⟨_, pa_cons h1 h2 hs, fun F M H σ ρ Q1 Q S hx t q => ?_⟩
  refine i1 F M H σ ρ _ _ S hx t fun v H1 M' ρ' d S' kp r1 t1 => ?_
  refine i2 F M' H1 σ ρ' _ _ S' hx t1 fun vs H2 M2 ρ2 ds S2 kp2 r2 t2 => ?_
  exact q (v :: vs) H2 M2 ρ2 (d :: ds) S2 (fun d0 v0 r0 => kp2 d0 v0 (kp d0 v0 r0)) ⟨v, vs, rfl, kp2 _ _ r1, r2⟩ t2
theorem qf_lst (h : QAF X W E1 es taf) : QF X W E1 (.List es pos) (fun ρ Q => taf ρ fun ds ρ' => ds.length ≤ 1000 ∧ Q (.lst ds) ρ') := by
  obtain ⟨te, h1, i1⟩ := h
  refine ⟨_, pe_lst h1, fun F M H σ ρ Q1 Q S hx t q => ?_⟩
  refine i1 F M H σ ρ _ _ S hx t fun vs H1 M' ρ' ds S' kp r1 ⟨hl, t1⟩ => ⟨Nat.le_of_lt (small1000 (by rw [r1.length]; exact hl)), fun p hp => ?_⟩
  have e2 := same_new hp (.lst vs)
  exact q _ _ M' ρ' (.lst ds) (S'.same e2) (fun d0 v0 r0 => same_rp e2 (kp d0 v0 r0)) ⟨p, vs, rfl, .inl ⟨fun z => S'.all p z hp, .inl upd_same⟩, same_all e2 r1⟩ t1
/-- d.pop(k) -/
@[simp] abbrev uDPop (t u : TE1) : TF1 := fun ρ Q => t ρ fun d => ∃ (a : Addr) (n : Nat) (kvs : KD), d = .cls a ∧ ρ.mu[n]? = some (En.mk a true (.dk kvs)) ∧ u ρ fun e => ∃ (k : Key) (z : D), e = keyD k ∧ valD kvs k = some z ∧ Q z (ρ.setMu n (.dk (dropKD kvs k)))
theorem qf_dpop (ho : QE X W E1 o t) (he : QE X W E1 e u) (mm : M1 X o "pop" apos e pos) : QF X W E1 (.Call (.Attribute o "pop" apos) [e] [] pos) (uDPop t u) := by
  obtain ⟨te, h1, i1⟩ := ho
  obtain ⟨tr, h2, i2⟩ := he
  refine ⟨_, pe_dpop1 h1 h2 mm, fun F M H σ ρ Q1 Q S hx t q => ?_⟩
  refine i1 F M H σ ρ _ _ S hx t fun v H1 d e1 r1 ⟨a, n, kvs, ed, em, t1⟩ => ?_
  subst ed
  cases r1
  obtain ⟨_, vs0, ha0, _⟩ := (S.same e1).dk em
  refine ⟨a, rfl, .inl ⟨vs0, .inl ha0⟩, ?_⟩
  refine i2 F M H1 σ ρ _ _ (S.same e1) hx t1 fun w H2 d2 e2 r2 ⟨kk, z, ek, hz, t2⟩ => ?_
  subst ek
  rw [rp_key r2]
  have S2 := (S.same e1).same e2
  obtain ⟨hm, vs, ha, kp⟩ := S2.dk em
  rcases kp.val (k := kk) with ⟨z', v', g1, g2, g3⟩ | ⟨g1, _⟩
  · rw [hz] at g1
    cases g1
    have kp2 := (kp.drop (k := kk)).updM (u := .dK (dropK vs kk)) hm ha rfl
    refine ⟨vs, kk, v', ha, rfl, g2, q v' _ M _ z (S2.chgMu (m' := .dk (dropKD kvs kk)) em rfl ⟨_, upd_same, kp2.ks, kp2.rp⟩) (fun d0 v0 r0 => Rp.updM hm ha rfl _ _ (same_rp (e1.trans e2) r0)) (Rp.updM hm ha rfl _ _ g3) t2⟩
  · rw [hz] at g1; cases g1
/-- {k: v, ..} -/
def uPairs : List (Key × TF1) → Rho → (KD → Rho → Prop) → Prop
  | [], ρ, Q => Q [] ρ
  | (k, t) :: r, ρ, Q => t ρ fun d ρ' => uPairs r ρ' fun kvs ρ'' => Q ((k, d) :: kvs) ρ''
structure QPs (X : Cx) (W : WX) (E1 : E1T) (pos : Pos) (keys : List (Option Expr)) (values : List Expr) (ts : List (Key × TF1)) : Prop where
  ex : ∃ trs, PPs X pos keys values trs ∧ ∀ (F : Fm) (M : List Addr) (H : Hp) (σ : St) (ρ : Rho) (Q1 : KD → Rho → Prop) (Q : List (V × V) → Hp → Prop), StR X.K F M H σ ρ → Xok X.K F W E1 → uPairs ts ρ Q1 →
    (∀ vs H' M' ρ' kvs, StR X.K F M' H' σ ρ' → (∀ d0 v0, Rp X.K H (M ++ F.L0) d0 v0 → Rp X.K H' (M' ++ F.L0) d0 v0) → KP X.K H' (M' ++ F.L0) kvs vs → Q1 kvs ρ' → Q (vs.map fun kv => (kV kv.1, kv.2)) H') → tPairs trs σ H Q
theorem qps_nil : QPs X W E1 pos [] [] [] := ⟨_, pps_nil, fun F M H σ ρ Q1 Q S hx t q => q [] H M ρ [] S (fun _ _ r => r) .nil t⟩
theorem qps_cons {kk : Key} {kx v : Expr} {ks : List (Option Expr)} {vs : List Expr} {ts : List (Key × TF1)} (hk : QE X W E1 kx (uC (keyD kk))) (hv : QF X W E1 v tf) (hr : QPs X W E1 pos ks vs ts) : QPs X W E1 pos (some kx :: ks) (v :: vs) ((kk, tf) :: ts) := by
  obtain ⟨te, h1, i1⟩ := hk
  obtain ⟨tr, h2, i2⟩ := hv
  obtain ⟨trs, h3, i3⟩ := hr.ex
  refine ⟨_, pps_cons h1 h2 h3, fun F M H σ ρ Q1 Q S hx t q => ?_⟩
  refine i1 F M H σ ρ (fun d => d = keyD kk) _ S hx rfl fun y H1 d e1 ry ed => ?_
  subst ed
  have ey := rp_key ry
  subst ey
  refine i2 F M H1 σ ρ _ _ (S.same e1) hx t fun w H2 M2 ρ2 d2 S2 kp2 r2 t2 => ?_
  refine i3 F M2 H2 σ ρ2 _ _ S2 hx t2 fun ws H3 M3 ρ3 kvs S3 kp3 r3 t3 => ?_
  exact q ((kk, w) :: ws) H3 M3 ρ3 ((kk, d2) :: kvs) S3 (fun d0 v0 r0 => kp3 d0 v0 (kp2 d0 v0 (same_rp e1 r0))) (.cons (kp3 _ _ r2) r3) t3
theorem mergeK_nodup : ∀ {more kvs : List (Key × V)}, (kvs ++ more).map (·.1) |>.Nodup → mergeK kvs more = kvs ++ more
  | [], kvs, _ => by simp [mergeK]
  | (k, v) :: more, kvs, h => by
    have hn : valV kvs k = none := by
      cases z : valV kvs k with
      | none => rfl
      | some y =>
        have any := valV_any k kvs
        rw [z] at any
        have any' : (kvs.any fun kv => decide (kv.1 = k)) = true := any
        obtain ⟨p, hp, e⟩ := List.any_eq_true.mp any'
        have e : p.1 = k := by simpa using e
        rw [List.map_append, List.nodup_append] at h
        exact absurd e (h.2.2 p.1 (List.mem_map.mpr ⟨p, hp, rfl⟩) k (by simp))
    have e1 : mergeK kvs ((k, v) :: more) = mergeK (putK kvs k v) more := rfl
    rw [e1, putK_new v hn, mergeK_nodup (by simpa using h)]
    simp
@[simp] abbrev uDisp (ts : List (Key × TF1)) : TF1 := fun ρ Q => ∀ p, uPairs ts ⟨ρ.sl, ρ.mu ++ [⟨p, true, .dk []⟩]⟩ fun kvs ρ' => ∃ n, ρ'.mu[n]? = some (En.mk p true (.dk [])) ∧ (kvs.map (·.1)).Nodup ∧ kvs.length ≤ 15 ∧ Q (.cls p) (ρ'.setMu n (.dk kvs))
theorem qf_disp {keys : List (Option Expr)} {values : List Expr} {ts : List (Key × TF1)} (h : QPs X W E1 pos keys values ts) (hall : keys.all (·.isSome) = true) (hl : keys.length = values.length) (h0 : keys ≠ []) (h15 : keys.length ≤ 15) : QF X W E1 (.Dict keys values pos) (uDisp ts) := by
  obtain ⟨trs, h1, i1⟩ := h.ex
  refine ⟨_, pe_disp h1 hall hl h0 h15, fun F M H σ ρ Q1 Q S hx t q => fun p hp => ?_⟩
  have S1 := S.newMu (u := .dK []) (m := .dk []) hp ⟨[], upd_same, rfl, rfl⟩
  have e1 := same_new hp (.dK [])
  refine i1 F (p :: M) _ σ _ _ _ S1 hx (t p) fun vs H' M' ρ' kvs S' kp r' ⟨n, em, nd, h15', t'⟩ => ?_
  obtain ⟨hm, vs0, ha, kp0⟩ := S'.dk em
  have hv0 : vs0 = [] := by have := kp0.len; cases vs0 <;> simp_all
  subst hv0
  refine ⟨ha, vs, rfl, by rw [r'.len]; exact h15', ?_⟩
  have em2 : mergeK [] vs = vs := mergeK_nodup (by rw [List.nil_append, r'.ks]; exact nd)
  rw [em2]
  have r2 := r'.updM (u := .dK vs) hm ha rfl
  refine q _ _ M' _ (.cls p) (S'.chgMu (m' := .dk kvs) em rfl ⟨vs, upd_same, r2.ks, r2.rp⟩) (fun d0 v0 r0 => Rp.updM hm ha rfl _ _ (kp d0 v0 (Rp.same e1 (fun a ha hm => mem_out hp ha hm) _ _ r0))) rfl t'
/-- C(..) as such an expression -/
theorem qf_mk {R : RG} {dvs : List V} (dfs : List D) (n : Nat) (G : MkdS X.prog X.w X.K X.mg X.base CX j C x ps dvs (spG X.K R)) (hr : Room k X.A) (hj : j + 1 ≤ k) (hg : Gl X x) (hx : ∀ σ, PassesAt CX X σ (WE W σ)) (hn : n ≤ dvs.length) (hd : ∀ H L, RpAll X.K H L dfs (dvs.drop n)) (ha : QA X W E1 (e :: es) ua)
    (hdb : (x == ("__debug__" : Str)) = false := by decide) (hst : starEach (e :: es) X.env = (false, eval e X.env) :: starEach es X.env := by rfl) (hpl : (backTo pos (starEach es X.env)).any (·.1) = false := by rfl) :
    QF X W E1 (.Call (.Name x p) (e :: es) [] pos) (uMkM E1 C R dfs ua) := by
  obtain ⟨f, fd, F, b, me, hm⟩ := G.ex
  obtain ⟨ds, vd, bd⟩ := b n hn
  obtain ⟨tr, h2, i2⟩ := ha
  exact ⟨_, pe_mkd me F (hr.mono hj) hg hm bd vd hx h2 hdb hst hpl, mkM_imp hd i2⟩
theorem qf_mk0 {R : RG} {dvs : List V} (dfs : List D) (G : MkdS X.prog X.w X.K X.mg X.base CX j C x ps dvs (spG X.K R)) (hr : Room k X.A) (hj : j + 1 ≤ k) (hg : Gl X x) (hx : ∀ σ, PassesAt CX X σ (WE W σ)) (hd : ∀ H L, RpAll X.K H L dfs dvs)
    (hdb : (x == ("__debug__" : Str)) = false := by decide) : QF X W E1 (.Call (.Name x p) [] [] pos) (uMkM E1 C R dfs uNil) := by
  obtain ⟨f, fd, F, b, me, hm⟩ := G.ex
  obtain ⟨ds, vd, bd⟩ := b 0 (Nat.zero_le _)
  exact ⟨_, pe_mkd0 me F (hr.mono hj) hg hm bd vd hx hdb, mkM_imp (by simpa using hd) fun F M H σ ρ Q1 Q S hx t q => q [] H [] (Same.refl H) rfl t⟩
end
end DL

set_option maxRecDepth 100000
set_option maxHeartbeats 4000000
/-! The data layer: calls over arguments that change what stands at some places. -/
namespace DL
open PySem PySem.Spec L2
section
variable {X : Cx} {W : WX} {E1 : E1T} {a b c o e : Expr} {es rest : List Expr} {pos p pos' tpos apos : Pos} {CX : CXT} {C : Addr} {j k : Nat} {m f : Str} {ps : List Str} {t u : TE1} {taf : TAF1} {K : PySem.W.Frag}
@[simp] abbrev uCallF (f : List D → (D → Prop) → Prop) (t : TAF1) : TF1 := fun ρ Q => t ρ fun ds ρ' => f ds fun d => Q d ρ'
theorem qf_callB {x : Str} {id : String} {r : List V → Hp → VK → Prop} {f : List D → (D → Prop) → Prop} {p : Pos} (hc : CallR X (.builtin id) r) (hi : CallI X.K r f) (hg : Gl X x) (hm : X.mg x = none) (hv : bootBuiltins x = some (.builtin id)) (ha : QAF X W E1 (a :: es) taf)
    (hn : x ≠ "__name__" := by decide) (hdb : (x == ("__debug__" : Str)) = false := by decide)
    (he : starEach (a :: es) X.env = (false, eval a X.env) :: starEach es X.env := by rfl) (hpl : (backTo pos (starEach es X.env)).any (·.1) = false := by rfl) : QF X W E1 (.Call (.Name x p) (a :: es) [] pos) (uCallF f taf) := by
  obtain ⟨te, h1, i1⟩ := ha
  refine ⟨_, pe_callB hc hg hm hv h1 hn hdb he hpl, fun F M H σ ρ Q1 Q S hx t q => ?_⟩
  refine i1 F M H σ ρ _ _ S hx t fun vs H1 M' ρ' ds S' kp r1 t1 => ?_
  exact hi H1 (M' ++ F.L0) ds vs _ _ S'.all r1 t1 fun x H3 d3 e3 r3 t3 => q x H3 M' ρ' d3 (S'.same e3) (fun d0 v0 r0 => same_rp e3 (kp d0 v0 r0)) r3 t3
/-- o.m(..), o a datum, what it is asked changes things -/
@[simp] abbrev uMetDF (E1 : E1T) (C : Addr) (m : Str) (R : List D → Re → Prop) (t : TE1) (u : TAF1) : TF1 := fun ρ Q => t ρ fun d => (∃ ns fs, d = .ob C ns fs ∧ m ∉ ns) ∧ u ρ fun ds ρ' => ∃ r, R (d :: ds) r ∧ reK E1 ρ' (fun z => Q z ρ') r
theorem qf_metDF {R : List D → Re → Prop} (G : MetS X.prog X.w X.K X.mg X.base CX j C m ps (spD X.K R)) (hr : Room k X.A) (hj : j ≤ k) (hx : ∀ σ, PassesAt CX X σ (WE W σ)) (ho : QE X W E1 o t) (ha : QAF X W E1 (e :: es) taf)
    (hst : starEach (e :: es) X.env = (false, eval e X.env) :: starEach es X.env := by rfl) (hpl : (backTo pos (starEach es X.env)).any (·.1) = false := by rfl) {pl : Sem Bool}
    (ht : eval (.Call (.Attribute o m apos) (e :: es) [] pos) X.env = (do let ov ← eval o X.env; standAt apos.atName; let (f, first) ← holding [ov] (getMethod ov m pl); callWith pos f first (backTo pos (starEach (e :: es) X.env)) (backToKw pos (keywordEach [] X.env))) := by rfl) :
    QF X W E1 (.Call (.Attribute o m apos) (e :: es) [] pos) (uMetDF E1 C m R t taf) := by
  obtain ⟨f, fd, F, b, me, cl⟩ := G.ex
  obtain ⟨te, h1, i1⟩ := ho
  obtain ⟨tr, h2, i2⟩ := ha
  refine ⟨_, pe_met h1 cl me F (hr.mono hj) b .nil hx h2 hst hpl ht, ?_⟩
  refine fun F M H σ ρ Q1 Q S hx t q => i1 F M H σ ρ _ _ S hx t fun v H1 d e1 r1 ⟨⟨ns, fs, ed, hm⟩, t1⟩ => ?_
  have r0 := r1
  subst ed
  obtain ⟨a, dx, vs, rfl, ha, en, _⟩ := r1
  refine ⟨a, dx, vs, rfl, ha, no_lookup (by rw [en]; exact hm), ?_⟩
  refine i2 F M H1 σ ρ _ _ (S.same e1) hx t1 fun ws H2 M' ρ' ds S' kp r2 ⟨z, hz, t2⟩ => ?_
  refine ⟨M' ++ F.L0, .ob C ns fs :: ds, z, S'.all, ⟨_, _, rfl, kp _ _ r0, by simpa using r2⟩, hz, fun d' v' H' e0 e3 r3 => ?_, fun C' H' e0 e3 => ?_⟩
  · subst e0; exact q v' H' M' ρ' d' (S'.same e3) (fun d0 v0 r => same_rp e3 (kp d0 v0 (same_rp e1 r))) r3 t2
  · subst e0; exact hx C' M' H' σ ρ' (S'.same e3) t2
end
end DL

set_option maxRecDepth 100000
set_option maxHeartbeats 4000000
namespace DL
open PySem PySem.Spec L2
/-! ### told parts -/
inductive Told where
  | n (i : Int) | t (i : Int) (l r : Told)
  deriving DecidableEq
namespace Told
def d : Told → D
  | n i => .int i
  | t i l r => .tup [.int i, l.d, r.d]
def size : Told → Nat
  | n _ => 1
  | t _ l r => l.size + r.size + 1
def depth : Told → Nat
  | n _ => 0
  | t _ l r => max l.depth r.depth + 1
def ok : Told → Prop
  | n i => 0 ≤ i
  | t i l r => 0 ≤ i ∧ l.ok ∧ r.ok
def low : Told → Int
  | n i => i
  | t i _ _ => i
def top : Told → Int
  | n i => i
  | t i l r => i + max l.top r.top
def lift : Told → Int → Told
  | n i, m => n (i + m)
  | t i l r, m => t (i + m) l r
def over : Told → Told → Told
  | n a, n b => if a = b then n a else t (min a b) (n (a - min a b)) (n (b - min a b))
  | l, r => t (min l.low r.low) (l.lift (-(min l.low r.low))) (r.lift (-(min l.low r.low)))
def least : Told → Told
  | n i => n i
  | t i l r => (over l.least r.least).lift i
/-- the same number twice -/
def twin : Told → Told → Bool
  | n a, n b => a == b
  | _, _ => false
def above (l r : Told) : Bool := !(twin l r) && (l.low == 0 || r.low == 0)
def isLeast : Told → Bool
  | n _ => true
  | t _ l r => above l r && l.isLeast && r.isLeast
theorem size_pos (o : Told) : 1 ≤ o.size := by cases o <;> simp [size]
theorem eqv_d : ∀ a b : Told, a.d.eqv b.d = decide (a = b)
  | n a, n b => by
    simp only [d, D.eqv, D.py, PyData.eqv, Told.n.injEq]
    by_cases h : a = b <;> simp [h]
  | n a, t _ l r => by simp [d, D.eqv, D.py, PyData.eqv]
  | t _ l r, n b => by simp [d, D.eqv, D.py, PyData.eqv]
  | t i l r, t j l' r' => by
    have h1 := eqv_d l l'
    have h2 := eqv_d r r'
    simp only [D.eqv] at h1 h2
    simp only [d, D.eqv, D.py, pys, PyData.eqv, PyData.eqvAll, h1, h2, Told.t.injEq, Bool.and_true]
    by_cases e0 : i = j <;> by_cases e1 : l = l' <;> by_cases e2 : r = r' <;> simp [e0, e1, e2]
theorem lay : ∀ o : Told, o.d.py.canLay0 = true
  | n b => rfl
  | t i l r => by simp only [d, D.py, pys, PyData.canLay0, PyData.canLayAll0, lay l, lay r, Bool.and_true]
theorem pdepth : ∀ o : Told, o.d.py.depth = o.depth
  | n b => rfl
  | t i l r => by simp only [d, D.py, pys, PyData.depth, PyData.depthAll, pdepth l, pdepth r, depth]; omega
theorem sh {o : Told} (h : o.depth ≤ 64) : o.d.Sh := by
  show (o.d.py.canLay0 && decide (o.d.py.depth ≤ 64)) = true
  rw [lay, pdepth, Bool.true_and]
  exact decide_eq_true h
theorem lift_low (o : Told) (m : Int) : (o.lift m).low = o.low + m := by cases o <;> rfl
theorem lift_depth (o : Told) (m : Int) : (o.lift m).depth = o.depth := by cases o <;> rfl
theorem lift_size (o : Told) (m : Int) : (o.lift m).size = o.size := by cases o <;> rfl
theorem lift_least (o : Told) (m : Int) : (o.lift m).isLeast = o.isLeast := by cases o <;> rfl
theorem lift_zero (o : Told) : o.lift 0 = o := by cases o <;> simp [lift]
theorem lift_lift (o : Told) (a b : Int) : (o.lift a).lift b = o.lift (a + b) := by cases o <;> simp [lift, Int.add_assoc]
theorem low_ok {o : Told} (h : o.ok) : 0 ≤ o.low := by
  cases o with
  | n i => exact h
  | t i l r => exact h.1
theorem lift_ok {o : Told} {m : Int} (h : o.ok) (hm : 0 ≤ o.low + m) : (o.lift m).ok := by
  cases o with
  | n i => exact hm
  | t i l r => exact ⟨hm, h.2⟩
theorem twin_iff {l r : Told} : twin l r = true ↔ ∃ a, l = n a ∧ r = n a := by
  constructor
  · intro h
    unfold twin at h
    split at h
    · rename_i a b
      exact ⟨a, rfl, by rw [beq_iff_eq.mp h]⟩
    · cases h
  · rintro ⟨a, rfl, rfl⟩
    simp [twin]
/-- over, by whether both are one number -/
theorem over_twin {l r : Told} {a : Int} (h1 : l = n a) (h2 : r = n a) : over l r = n a := by subst h1 h2; simp [over]
theorem over_else {l r : Told} (h : twin l r = false) : over l r = t (min l.low r.low) (l.lift (-(min l.low r.low))) (r.lift (-(min l.low r.low))) := by
  unfold over
  split
  · rename_i a b
    have ne : ¬ a = b := by simpa [twin] using h
    rw [if_neg ne]
    simp only [low, lift, Int.sub_eq_add_neg]
  · rfl
theorem over_depth (l r : Told) : (over l r).depth ≤ max l.depth r.depth + 1 := by
  by_cases h : twin l r = true
  · obtain ⟨a, h1, h2⟩ := twin_iff.mp h
    rw [over_twin h1 h2]
    exact Nat.zero_le _
  · rw [Bool.not_eq_true] at h
    rw [over_else h]
    simp only [depth, lift_depth]
    exact Nat.le_refl _
theorem least_depth : ∀ o : Told, o.least.depth ≤ o.depth
  | n _ => Nat.le_refl _
  | t i l r => by
    have h1 := over_depth l.least r.least
    have h2 := least_depth l
    have h3 := least_depth r
    simp only [least, lift_depth, depth]
    omega
theorem over_size (l r : Told) : (over l r).size ≤ l.size + r.size + 1 := by
  by_cases h : twin l r = true
  · obtain ⟨a, h1, h2⟩ := twin_iff.mp h
    rw [over_twin h1 h2]
    simp [size]
  · rw [Bool.not_eq_true] at h
    rw [over_else h]
    simp only [size, lift_size]
    exact Nat.le_refl _
theorem least_size : ∀ o : Told, o.least.size ≤ o.size
  | n _ => Nat.le_refl _
  | t i l r => by
    have h1 := over_size l.least r.least
    have h2 := least_size l
    have h3 := least_size r
    simp only [least, lift_size, size]
    omega
theorem over_low (l r : Told) : (over l r).low = min l.low r.low := by
  by_cases h : twin l r = true
  · obtain ⟨a, h1, h2⟩ := twin_iff.mp h
    rw [over_twin h1 h2, h1, h2]
    simp [low]
  · rw [Bool.not_eq_true] at h
    rw [over_else h]
    rfl
theorem over_ok {l r : Told} (hl : l.ok) (hr : r.ok) : (over l r).ok := by
  have h1 := low_ok hl
  have h2 := low_ok hr
  by_cases h : twin l r = true
  · obtain ⟨a, h1, h2⟩ := twin_iff.mp h
    rw [over_twin h1 h2]
    rw [h1] at hl
    exact hl
  · rw [Bool.not_eq_true] at h
    rw [over_else h]
    exact ⟨by omega, lift_ok hl (by omega), lift_ok hr (by omega)⟩
theorem least_ok : ∀ {o : Told}, o.ok → o.least.ok
  | n _, h => h
  | t i l r, h => by
    have q := over_ok (least_ok h.2.1) (least_ok h.2.2)
    have z := low_ok q
    have z2 : 0 ≤ i := h.1
    exact lift_ok q (by omega)
theorem twin_lift (l r : Told) (m : Int) : twin (l.lift m) (r.lift m) = twin l r := by
  cases l with
  | t i l r => rfl
  | n a =>
    cases r with
    | t i l r => rfl
    | n b =>
      simp only [lift, twin]
      by_cases h : a = b
      · rw [h]
        simp
      · have h2 : ¬ a + m = b + m := by omega
        rw [beq_eq_false_iff_ne.mpr h, beq_eq_false_iff_ne.mpr h2]
theorem over_isLeast {l r : Told} (h1 : l.isLeast = true) (h2 : r.isLeast = true) : (over l r).isLeast = true := by
  by_cases h : twin l r = true
  · obtain ⟨a, e1, e2⟩ := twin_iff.mp h
    rw [over_twin e1 e2]
    rfl
  · rw [Bool.not_eq_true] at h
    rw [over_else h]
    simp only [isLeast, above, twin_lift, h, lift_low, lift_least, h1, h2, Bool.and_true, Bool.not_false, Bool.true_and, Bool.or_eq_true, beq_iff_eq]
    omega
theorem least_isLeast : ∀ o : Told, o.least.isLeast = true
  | n _ => rfl
  | t i l r => by
    rw [least, lift_least]
    exact over_isLeast (least_isLeast l) (least_isLeast r)
theorem least_id : ∀ {o : Told}, o.ok → o.isLeast = true → o.least = o
  | n _, _, _ => rfl
  | t i l r, h, q => by
    simp only [isLeast, above, Bool.and_eq_true, Bool.not_eq_true', Bool.or_eq_true, beq_iff_eq] at q
    obtain ⟨⟨⟨q1, q2⟩, q3⟩, q4⟩ := q
    have z1 := low_ok h.2.1
    have z2 := low_ok h.2.2
    have m0 : min l.low r.low = 0 := by omega
    rw [least, least_id h.2.1 q3, least_id h.2.2 q4, over_else q1, m0]
    simp only [Int.neg_zero, lift_zero]
    simp only [lift, Int.zero_add]
theorem isLeast_iff {o : Told} (h : o.ok) : o.isLeast = decide (o = o.least) := by
  by_cases q : o.isLeast = true
  · rw [q, least_id h q]
    simp
  · rw [Bool.not_eq_true] at q
    rw [q]
    symm
    apply decide_eq_false
    intro e
    rw [e, least_isLeast] at q
    cases q
end Told
/-! ### of anything -/
def isToldD : D → Bool
  | .int i => decide (0 ≤ i)
  | .tup [.int i, a, b] => decide (0 ≤ i) && isToldD a && isToldD b
  | _ => false
theorem Told.plain : ∀ o : Told, plainD o.d = true
  | .n b => rfl
  | .t i l r => by simp only [Told.d, plainD, plainL, Told.plain l, Told.plain r, Bool.and_true]
theorem Told.nodes : ∀ o : Told, DL.nodes o.d ≤ 2 * o.size
  | .n b => by simp [Told.d, DL.nodes, Told.size]
  | .t i l r => by
    have h1 := Told.nodes l
    have h2 := Told.nodes r
    simp only [Told.d, DL.nodes, nodesL, Told.size]
    omega
theorem Told.isTold : ∀ {o : Told}, o.ok → isToldD o.d = true
  | .n b, h => by simp only [Told.d, isToldD]; exact decide_eq_true h
  | .t i l r, h => by
    have h0 : decide (0 ≤ i) = true := decide_eq_true h.1
    simp only [Told.d, isToldD, Told.isTold h.2.1, Told.isTold h.2.2, Bool.and_true, h0]
theorem Told.dep : ∀ o : Told, DL.dep o.d = o.depth
  | .n b => rfl
  | .t i l r => by
    rw [Told.d, dep_three, Told.dep l, Told.dep r]
    show max 0 (max l.depth r.depth) + 1 = max l.depth r.depth + 1
    omega
end DL

set_option maxRecDepth 100000
set_option maxHeartbeats 4000000
namespace DL
open PySem PySem.Spec L2
/-! ### least and greatest of a list -/
def lo : List Int → Int
  | [] => 0
  | [x] => x
  | x :: y :: r => min x (lo (y :: r))
def hi : List Int → Int
  | [] => 0
  | [x] => x
  | x :: y :: r => max x (hi (y :: r))
theorem lo_spec : ∀ {ns : List Int}, ns ≠ [] → lo ns ∈ ns ∧ ∀ x ∈ ns, lo ns ≤ x
  | [], h => absurd rfl h
  | [x], _ => by simp [lo]
  | x :: y :: r, _ => by
    obtain ⟨h1, h2⟩ := lo_spec (ns := y :: r) (by simp)
    rw [lo]
    refine ⟨?_, fun z hz => ?_⟩
    · by_cases h : x ≤ lo (y :: r)
      · rw [Int.min_eq_left h]; simp
      · rw [Int.min_eq_right (by omega)]; exact List.mem_cons_of_mem _ h1
    · rcases List.mem_cons.mp hz with rfl | hz
      · exact Int.min_le_left _ _
      · exact Int.le_trans (Int.min_le_right _ _) (h2 z hz)
theorem hi_spec : ∀ {ns : List Int}, ns ≠ [] → hi ns ∈ ns ∧ ∀ x ∈ ns, x ≤ hi ns
  | [], h => absurd rfl h
  | [x], _ => by simp [hi]
  | x :: y :: r, _ => by
    obtain ⟨h1, h2⟩ := hi_spec (ns := y :: r) (by simp)
    rw [hi]
    refine ⟨?_, fun z hz => ?_⟩
    · by_cases h : hi (y :: r) ≤ x
      · rw [Int.max_eq_left h]; simp
      · rw [Int.max_eq_right (by omega)]; exact List.mem_cons_of_mem _ h1
    · rcases List.mem_cons.mp hz with rfl | hz
      · exact Int.le_max_left _ _
      · exact Int.le_trans (h2 z hz) (Int.le_max_right _ _)
theorem lo_eq {ns : List Int} {m : Int} (h1 : m ∈ ns) (h2 : ∀ x ∈ ns, m ≤ x) : lo ns = m := by
  obtain ⟨g1, g2⟩ := lo_spec (ns := ns) (by rintro rfl; simp at h1)
  exact Int.le_antisymm (g2 m h1) (h2 _ g1)
theorem hi_eq {ns : List Int} {m : Int} (h1 : m ∈ ns) (h2 : ∀ x ∈ ns, x ≤ m) : hi ns = m := by
  obtain ⟨g1, g2⟩ := hi_spec (ns := ns) (by rintro rfl; simp at h1)
  exact Int.le_antisymm (h2 _ g1) (g2 m h1)
theorem lo_map {ns : List Int} (h : ns ≠ []) (c : Int) : lo (ns.map (· + c)) = lo ns + c := by
  obtain ⟨g1, g2⟩ := lo_spec h
  refine lo_eq (List.mem_map.mpr ⟨_, g1, rfl⟩) fun x hx => ?_
  obtain ⟨y, hy, rfl⟩ := List.mem_map.mp hx
  have := g2 y hy
  show lo ns + c ≤ y + c
  omega
theorem hi_map {ns : List Int} (h : ns ≠ []) (c : Int) : hi (ns.map (· + c)) = hi ns + c := by
  obtain ⟨g1, g2⟩ := hi_spec h
  refine hi_eq (List.mem_map.mpr ⟨_, g1, rfl⟩) fun x hx => ?_
  obtain ⟨y, hy, rfl⟩ := List.mem_map.mp hx
  have := g2 y hy
  show y + c ≤ hi ns + c
  omega
theorem lo_app {as bs : List Int} (ha : as ≠ []) (hb : bs ≠ []) : lo (as ++ bs) = min (lo as) (lo bs) := by
  obtain ⟨g1, g2⟩ := lo_spec ha
  obtain ⟨k1, k2⟩ := lo_spec hb
  refine lo_eq ?_ fun x hx => ?_
  · by_cases h : lo as ≤ lo bs
    · rw [Int.min_eq_left h]; exact List.mem_append_left _ g1
    · rw [Int.min_eq_right (by omega)]; exact List.mem_append_right _ k1
  · rcases List.mem_append.mp hx with z | z
    · have := g2 x z; omega
    · have := k2 x z; omega
theorem hi_app {as bs : List Int} (ha : as ≠ []) (hb : bs ≠ []) : hi (as ++ bs) = max (hi as) (hi bs) := by
  obtain ⟨g1, g2⟩ := hi_spec ha
  obtain ⟨k1, k2⟩ := hi_spec hb
  refine hi_eq ?_ fun x hx => ?_
  · by_cases h : hi bs ≤ hi as
    · rw [Int.max_eq_left h]; exact List.mem_append_left _ g1
    · rw [Int.max_eq_right (by omega)]; exact List.mem_append_right _ k1
  · rcases List.mem_append.mp hx with z | z
    · have := g2 x z; omega
    · have := k2 x z; omega
theorem ne_of_len {ns : List Int} {k : Nat} (h : ns.length = 2 ^ k) : ns ≠ [] := by
  rintro rfl
  have := Nat.two_pow_pos k
  simp at h
  omega
theorem cnt_all {ns : List Int} {h : Int} : ns.count h = ns.length ↔ ∀ x ∈ ns, x = h := by
  rw [List.count_eq_length]
  constructor
  · intro z x hx; exact (z x hx).symm
  · intro z x hx; exact (z x hx).symm
/-! ### told parts and the numbers at places -/
def nums : Nat → Told → List Int
  | 0, o => [o.low]
  | k + 1, .n i => nums k (.n i) ++ nums k (.n i)
  | k + 1, .t i l r => (nums k l ++ nums k r).map (· + i)
theorem nums_len : ∀ (k : Nat) (o : Told), (nums k o).length = 2 ^ k
  | 0, _ => rfl
  | k + 1, .n i => by rw [nums, List.length_append, nums_len k, Nat.pow_succ]; omega
  | k + 1, .t i l r => by rw [nums, List.length_map, List.length_append, nums_len k, nums_len k, Nat.pow_succ]; omega
/-- the least told part that tells just some numbers -/
def toldOf : Nat → List Int → Told
  | 0, ns => .n (ns.headD 0)
  | k + 1, ns => if ns.count (lo ns) = ns.length then .n (lo ns) else .t (lo ns) (toldOf k ((ns.map (· + -(lo ns))).take (2 ^ k))) (toldOf k ((ns.map (· + -(lo ns))).drop (2 ^ k)))
theorem one_item {ns : List Int} (h : ns.length = 2 ^ 0) : ∃ x, ns = [x] := by
  match ns, h with
  | [x], _ => exact ⟨x, rfl⟩
theorem toldOf_low : ∀ {k : Nat} {ns : List Int}, ns.length = 2 ^ k → (toldOf k ns).low = lo ns
  | 0, ns, h => by obtain ⟨x, rfl⟩ := one_item h; rfl
  | k + 1, ns, h => by rw [toldOf]; split <;> rfl
theorem toldOf_all : ∀ {k : Nat} {ns : List Int} {a : Int}, ns.length = 2 ^ k → (∀ x ∈ ns, x = a) → toldOf k ns = .n a
  | 0, ns, a, h, g => by
    obtain ⟨x, rfl⟩ := one_item h
    rw [g x (by simp)]; rfl
  | k + 1, ns, a, h, g => by
    have e : lo ns = a := g _ (lo_spec (ne_of_len h)).1
    rw [toldOf, e, if_pos (cnt_all.mpr g)]
theorem toldOf_n : ∀ {k : Nat} {ns : List Int} {a : Int}, ns.length = 2 ^ k → toldOf k ns = .n a → ∀ x ∈ ns, x = a
  | 0, ns, a, h, g => by
    obtain ⟨x, rfl⟩ := one_item h
    have g' : Told.n x = .n a := g
    cases g'
    simp
  | k + 1, ns, a, h, g => by
    rw [toldOf] at g
    split at g
    · cases g
      exact cnt_all.mp ‹_›
    · cases g
theorem toldOf_map : ∀ {k : Nat} {ns : List Int} (c : Int), ns.length = 2 ^ k → toldOf k (ns.map (· + c)) = (toldOf k ns).lift c
  | 0, ns, c, h => by obtain ⟨x, rfl⟩ := one_item h; rfl
  | k + 1, ns, c, h => by
    have ne := ne_of_len h
    have e : lo (ns.map (· + c)) = lo ns + c := lo_map ne c
    rw [toldOf, toldOf, e]
    by_cases q : ns.count (lo ns) = ns.length
    · have q' : (ns.map (· + c)).count (lo ns + c) = (ns.map (· + c)).length := by
        rw [cnt_all]
        intro x hx
        obtain ⟨y, hy, rfl⟩ := List.mem_map.mp hx
        rw [cnt_all.mp q y hy]
      rw [if_pos q, if_pos q']; rfl
    · have q' : ¬ (ns.map (· + c)).count (lo ns + c) = (ns.map (· + c)).length := by
        intro z
        refine q (cnt_all.mpr fun x hx => ?_)
        have := cnt_all.mp z (x + c) (List.mem_map.mpr ⟨x, hx, rfl⟩)
        omega
      rw [if_neg q, if_neg q']
      have e2 : (ns.map (· + c)).map (· + -(lo ns + c)) = ns.map (· + -(lo ns)) := by
        rw [List.map_map]
        apply List.map_congr_left
        intro x _
        show x + c + -(lo ns + c) = x + -(lo ns)
        omega
      rw [e2]; rfl
theorem toldOf_app {k : Nat} {as bs : List Int} (ha : as.length = 2 ^ k) (hb : bs.length = 2 ^ k) : toldOf (k + 1) (as ++ bs) = Told.over (toldOf k as) (toldOf k bs) := by
  have na := ne_of_len ha
  have nb := ne_of_len hb
  have el := lo_app na nb
  rw [toldOf]
  by_cases q : (as ++ bs).count (lo (as ++ bs)) = (as ++ bs).length
  · have g := cnt_all.mp q
    rw [if_pos q]
    symm
    exact Told.over_twin (toldOf_all ha fun x hx => g x (List.mem_append_left _ hx)) (toldOf_all hb fun x hx => g x (List.mem_append_right _ hx))
  · rw [if_neg q]
    have nt : Told.twin (toldOf k as) (toldOf k bs) = false := by
      rw [← Bool.not_eq_true]
      intro z
      obtain ⟨a, h1, h2⟩ := Told.twin_iff.mp z
      have g1 := toldOf_n ha h1
      have g2 := toldOf_n hb h2
      have all : ∀ x ∈ as ++ bs, x = a := fun x hx => (List.mem_append.mp hx).elim (g1 x) (g2 x)
      have e : lo (as ++ bs) = a := all _ (lo_spec (by simp [na])).1
      exact q (by rw [e]; exact cnt_all.mpr all)
    rw [Told.over_else nt, toldOf_low ha, toldOf_low hb, ← el]
    generalize lo (as ++ bs) = m
    have e1 : ((as ++ bs).map (· + -m)).take (2 ^ k) = as.map (· + -m) := by
      rw [List.map_append, ← ha, List.take_left' (by simp)]
    have e2 : ((as ++ bs).map (· + -m)).drop (2 ^ k) = bs.map (· + -m) := by
      rw [List.map_append, ← ha, List.drop_left' (by simp)]
    rw [e1, e2, toldOf_map _ ha, toldOf_map _ hb]
theorem toldOf_nums : ∀ (k : Nat) (o : Told), o.depth ≤ k → toldOf k (nums k o) = o.least
  | 0, .n i, _ => rfl
  | 0, .t _ _ _, h => by simp [Told.depth] at h
  | k + 1, .n i, _ => by
    have q := toldOf_nums k (.n i) (Nat.zero_le _)
    rw [nums, toldOf_app (nums_len k _) (nums_len k _), q]
    exact Told.over_twin rfl rfl
  | k + 1, .t i l r, h => by
    have e6 : (Told.t i l r).depth = max l.depth r.depth + 1 := rfl
    rw [nums, toldOf_map i (by rw [List.length_append, nums_len, nums_len, Nat.pow_succ]; omega), toldOf_app (nums_len k _) (nums_len k _), toldOf_nums k l (by omega), toldOf_nums k r (by omega)]
    rfl
theorem toldOf_top : ∀ {k : Nat} {ns : List Int}, ns.length = 2 ^ k → (toldOf k ns).top = hi ns
  | 0, ns, h => by obtain ⟨x, rfl⟩ := one_item h; rfl
  | k + 1, ns, h => by
    have ne := ne_of_len h
    have pk : 2 ^ (k + 1) = 2 * 2 ^ k := by rw [Nat.pow_succ]; omega
    rw [toldOf]
    split
    · rename_i q
      have g := cnt_all.mp q
      symm
      exact hi_eq (lo_spec ne).1 fun x hx => by rw [g x hx]; exact Int.le_refl _
    · generalize hm : lo ns = m
      have l1 : ((ns.map (· + -m)).take (2 ^ k)).length = 2 ^ k := by rw [List.length_take, List.length_map, h]; omega
      have l2 : ((ns.map (· + -m)).drop (2 ^ k)).length = 2 ^ k := by rw [List.length_drop, List.length_map, h]; omega
      have e := hi_app (ne_of_len l1) (ne_of_len l2)
      rw [List.take_append_drop, hi_map ne] at e
      simp only [Told.top, toldOf_top l1, toldOf_top l2]
      omega
/-- the numbers of a comprehension, each one made anew -/
theorem lc_ints {g : TG1} {tt : TT1} {te : TE1} {ρ : Rho} (f : Int → Int) (h : ∀ (x : Int) (Q1 : D → Prop) (Q2 : Prop), Q1 (.int (f x)) → g (.int x) ρ fun ρ' => tt ρ' fun b => if b = true then te ρ' Q1 else Q2) :
    ∀ (ns : List Int) (Q : List D → Prop), Q (iL (ns.map f)) → lcGo g tt te ρ (iL ns) Q
  | [], Q, q => q
  | x :: ns, Q, q => h x _ _ (lc_ints f h ns _ q)
theorem lc_zip {g : TG1} {tt : TT1} {te : TE1} {ρ : Rho} (f : Int → Int → D) (h : ∀ (x y : Int) (Q1 : D → Prop) (Q2 : Prop), Q1 (f x y) → g (.tup [.int x, .int y]) ρ fun ρ' => tt ρ' fun b => if b = true then te ρ' Q1 else Q2) :
    ∀ (xs ys : List Int) (Q : List D → Prop), Q (List.zipWith f xs ys) → lcGo g tt te ρ (zipD (iL xs) (iL ys)) Q
  | [], _, Q, q => by simpa [zipD, iL, lcGo] using q
  | _ :: _, [], Q, q => by simpa [zipD, iL, lcGo] using q
  | x :: xs, y :: ys, Q, q => h x y _ _ (lc_zip f h xs ys _ q)
theorem lc_enum {g : TG1} {tt : TT1} {te : TE1} {ρ : Rho} (f : Nat → Int → Int) (n : Nat) (h : ∀ (i : Nat) (x : Int) (Q1 : D → Prop) (Q2 : Prop), i < n → Q1 (.int (f i x)) → g (.tup [.int (i : Nat), .int x]) ρ fun ρ' => tt ρ' fun b => if b = true then te ρ' Q1 else Q2) :
    ∀ (k : Nat) (ns : List Int) (Q : List D → Prop), k + ns.length ≤ n → Q (iL (ns.mapIdx fun i x => f (i + k) x)) → lcGo g tt te ρ ((iL ns).mapIdx fun i d => .tup [.int ((i + k : Nat) : Int), d]) Q
  | k, [], Q, _, q => q
  | k, x :: ns, Q, hn, q => by
    rw [iL_cons, List.mapIdx_cons]
    have e0 : (0 + k : Nat) = k := Nat.zero_add k
    rw [List.mapIdx_cons, e0] at q
    refine h k x _ _ (by simp at hn; omega) ?_ |> fun z => by rw [e0]; exact z
    have e1 : (fun (i : Nat) (d : D) => D.tup [.int ((i + 1 + k : Nat) : Int), d]) = fun i d => .tup [.int ((i + (k + 1) : Nat) : Int), d] := by
      funext i d
      rw [show i + 1 + k = i + (k + 1) by omega]
    have e2 : (fun (i : Nat) (x : Int) => f (i + 1 + k) x) = fun i x => f (i + (k + 1)) x := by
      funext i x
      rw [show i + 1 + k = i + (k + 1) by omega]
    rw [e1]
    rw [e2] at q
    exact lc_enum f n h (k + 1) ns _ (by simp at hn; omega) q
theorem nums_toldOf : ∀ {k : Nat} {ns : List Int}, ns.length = 2 ^ k → nums k (toldOf k ns) = ns
  | 0, ns, h => by obtain ⟨x, rfl⟩ := one_item h; rfl
  | k + 1, ns, h => by
    have pk : 2 ^ (k + 1) = 2 * 2 ^ k := by rw [Nat.pow_succ]; omega
    rw [toldOf]
    split
    · rename_i q
      have g := cnt_all.mp q
      have hl := nums_len (k + 1) (.n (lo ns))
      have c : ∀ (k : Nat) (i : Int), ∀ x ∈ nums k (.n i), x = i := by
        intro k
        induction k with
        | zero => intro i x hx; simpa [nums, Told.low] using hx
        | succ k ih =>
          intro i x hx
          rw [nums, List.mem_append] at hx
          exact hx.elim (ih i x) (ih i x)
      have r1 : nums (k + 1) (.n (lo ns)) = List.replicate (2 ^ (k + 1)) (lo ns) := List.eq_replicate_iff.mpr ⟨hl, c _ _⟩
      have r2 : ns = List.replicate (2 ^ (k + 1)) (lo ns) := List.eq_replicate_iff.mpr ⟨h, g⟩
      rw [r1, ← r2]
    · have l1 : ((ns.map (· + -(lo ns))).take (2 ^ k)).length = 2 ^ k := by rw [List.length_take, List.length_map, h]; omega
      have l2 : ((ns.map (· + -(lo ns))).drop (2 ^ k)).length = 2 ^ k := by rw [List.length_drop, List.length_map, h]; omega
      rw [nums, nums_toldOf l1, nums_toldOf l2, List.take_append_drop, List.map_map]
      have e : ((fun x => x + lo ns) ∘ fun x => x + -(lo ns)) = id := by
        funext x
        show x + -(lo ns) + lo ns = x
        omega
      rw [e, List.map_id]
theorem toldOf_ok : ∀ {k : Nat} {ns : List Int}, ns.length = 2 ^ k → (∀ x ∈ ns, 0 ≤ x) → (toldOf k ns).ok
  | 0, ns, h, g => by obtain ⟨x, rfl⟩ := one_item h; exact g x (by simp)
  | k + 1, ns, h, g => by
    have pk : 2 ^ (k + 1) = 2 * 2 ^ k := by rw [Nat.pow_succ]; omega
    obtain ⟨g1, g2⟩ := lo_spec (ne_of_len h)
    have nn : ∀ x ∈ ns.map (· + -(lo ns)), 0 ≤ x := by
      intro x hx
      obtain ⟨y, hy, rfl⟩ := List.mem_map.mp hx
      have := g2 y hy
      show 0 ≤ y + -(lo ns)
      omega
    have l1 : ((ns.map (· + -(lo ns))).take (2 ^ k)).length = 2 ^ k := by rw [List.length_take, List.length_map, h]; omega
    have l2 : ((ns.map (· + -(lo ns))).drop (2 ^ k)).length = 2 ^ k := by rw [List.length_drop, List.length_map, h]; omega
    rw [toldOf]
    split
    · exact g _ g1
    · exact ⟨g _ g1, toldOf_ok l1 fun x hx => nn x (List.mem_of_mem_take hx), toldOf_ok l2 fun x hx => nn x (List.mem_of_mem_drop hx)⟩
theorem nums_nn : ∀ (k : Nat) {o : Told}, o.ok → ∀ x ∈ nums k o, 0 ≤ x
  | 0, o, h, x, hx => by
    simp [nums] at hx
    rw [hx]
    exact Told.low_ok h
  | k + 1, .n i, h, x, hx => by
    rw [nums, List.mem_append] at hx
    exact hx.elim (nums_nn k h x) (nums_nn k h x)
  | k + 1, .t i l r, h, x, hx => by
    rw [nums] at hx
    obtain ⟨y, hy, rfl⟩ := List.mem_map.mp hx
    have h0 : 0 ≤ i := h.1
    have hy' : 0 ≤ y := by
      rcases List.mem_append.mp hy with z | z
      · exact nums_nn k h.2.1 y z
      · exact nums_nn k h.2.2 y z
    show 0 ≤ y + i
    omega
end DL

set_option maxRecDepth 100000
set_option maxHeartbeats 4000000
namespace DL
open PySem PySem.Spec L2
namespace Own
/-- an own part parted -/
def partO : Own → Own × Own
  | lf false => (lf false, lf false)
  | lf true => (nd (lf true) (lf false), nd (lf false) (lf true))
  | nd l r => if l = lf false then (nd (lf false) (partO r).1, nd (lf false) (partO r).2) else if r = lf false then (nd (partO l).1 (lf false), nd (partO l).2 (lf false)) else (nd l (lf false), nd (lf false) r)
def sharesO : Own → Own → Bool
  | lf false, _ => false
  | lf true, b => !decide (b = lf false)
  | nd _ _, lf b => b
  | nd l r, nd l' r' => sharesO l l' || sharesO r r'
def both2 : Option Own → Option Own → Option Own
  | some x, some y => some (pair x y)
  | _, _ => none
def togO : Own → Own → Option Own
  | lf false, b => some b
  | lf true, b => if b = lf false then some (lf true) else none
  | nd l r, lf b => if b = false then some (nd l r) else none
  | nd l r, nd l' r' => both2 (togO l l') (togO r r')
theorem togO_zero : ∀ a : Own, togO a (lf false) = some a
  | lf false => rfl
  | lf true => rfl
  | nd _ _ => rfl
theorem partO_shares : ∀ a : Own, sharesO (partO a).1 (partO a).2 = false
  | lf false => rfl
  | lf true => rfl
  | nd l r => by
    have h1 := partO_shares l
    have h2 := partO_shares r
    rw [partO]
    split
    · simp [sharesO, h2]
    · split
      · simp [sharesO, h1]
      · cases l with
        | nd _ _ => simp [sharesO]
        | lf b => cases b <;> simp [sharesO]
theorem partO_tog : ∀ a : Own, a.isLeast = true → togO (partO a).1 (partO a).2 = some a
  | lf false, _ => rfl
  | lf true, _ => rfl
  | nd l r, h => by
    have e : pair l r = nd l r := by
      have z := least_id _ h
      simp only [isLeast, Bool.and_eq_true] at h
      rw [least, least_id l h.1.2, least_id r h.2] at z
      exact z
    simp only [isLeast, Bool.and_eq_true] at h
    have h1 := partO_tog l h.1.2
    have h2 := partO_tog r h.2
    rw [partO]
    split
    · rename_i q
      subst q
      show both2 (togO (lf false) (lf false)) _ = _
      rw [h2, togO_zero]
      exact congrArg some e
    · split
      · rename_i q
        subst q
        show both2 _ (togO (lf false) (lf false)) = _
        rw [h1, togO_zero]
        exact congrArg some e
      · show both2 (togO l (lf false)) (togO (lf false) r) = _
        rw [togO_zero]
        exact congrArg some e
theorem partO_ne : ∀ a : Own, a ≠ lf false → (partO a).1 ≠ lf false ∧ (partO a).2 ≠ lf false
  | lf false, h => absurd rfl h
  | lf true, _ => by simp [partO]
  | nd l r, _ => by
    rw [partO]
    split
    · simp
    · split <;> simp
theorem partO_depth : ∀ a : Own, (partO a).1.depth ≤ a.depth + 1 ∧ (partO a).2.depth ≤ a.depth + 1
  | lf false => by simp [partO, depth]
  | lf true => by simp [partO, depth]
  | nd l r => by
    have h1 := partO_depth l
    have h2 := partO_depth r
    rw [partO]
    split
    · simp only [depth]; omega
    · split
      · simp only [depth]; omega
      · simp only [depth]; omega
theorem togO_depth : ∀ {a b x : Own}, togO a b = some x → x.depth ≤ max a.depth b.depth
  | lf false, b, x, h => by simp only [togO, Option.some.injEq] at h; subst h; simp [depth]
  | lf true, b, x, h => by
    simp only [togO] at h
    split at h
    · cases h; simp [depth]
    · cases h
  | nd l r, lf b, x, h => by
    simp only [togO] at h
    split at h
    · cases h; exact Nat.le_max_left _ _
    · cases h
  | nd l r, nd l' r', x, h => by
    simp only [togO] at h
    cases h1 : togO l l' with
    | none => rw [h1] at h; cases h
    | some y =>
      cases h2 : togO r r' with
      | none => rw [h1, h2] at h; cases h
      | some z =>
        rw [h1, h2] at h
        cases h
        have g1 := togO_depth h1
        have g2 := togO_depth h2
        have g3 := pair_depth y z
        simp only [depth]
        omega
theorem sharesO_pair (A B C E : Own) : sharesO (pair A B) (pair C E) = (sharesO A C || sharesO B E) := by
  have k3 : ∀ o : Own, o = lf false ∨ o = lf true ∨ ∃ l r, o = nd l r := fun o => by
    cases o with
    | lf b => cases b <;> simp
    | nd l r => exact .inr (.inr ⟨l, r, rfl⟩)
  rcases k3 A with rfl | rfl | ⟨_, _, rfl⟩ <;> rcases k3 B with rfl | rfl | ⟨_, _, rfl⟩ <;> rcases k3 C with rfl | rfl | ⟨_, _, rfl⟩ <;> rcases k3 E with rfl | rfl | ⟨_, _, rfl⟩ <;> simp [pair, sharesO]
theorem togO_pair (A B C E : Own) : togO (pair A B) (pair C E) = both2 (togO A C) (togO B E) := by
  have k3 : ∀ o : Own, o = lf false ∨ o = lf true ∨ ∃ l r, o = nd l r := fun o => by
    cases o with
    | lf b => cases b <;> simp
    | nd l r => exact .inr (.inr ⟨l, r, rfl⟩)
  rcases k3 A with rfl | rfl | ⟨_, _, rfl⟩ <;> rcases k3 B with rfl | rfl | ⟨_, _, rfl⟩ <;> rcases k3 C with rfl | rfl | ⟨_, _, rfl⟩ <;> rcases k3 E with rfl | rfl | ⟨_, _, rfl⟩ <;> simp [pair, togO, both2]
end Own
/-! ### pairs of a zip -/
def zipF (p : Int → Int → Bool) (f : Int → Int → D) : List Int → List Int → List D
  | x :: xs, y :: ys => if p x y = true then f x y :: zipF p f xs ys else zipF p f xs ys
  | _, _ => []
theorem lc_zipF {g : TG1} {tt : TT1} {te : TE1} {ρ : Rho} (p : Int → Int → Bool) (f : Int → Int → D) (h : ∀ (x y : Int) (Q1 : D → Prop) (Q2 : Prop), (if p x y = true then Q1 (f x y) else Q2) → g (.tup [.int x, .int y]) ρ fun ρ' => tt ρ' fun b => if b = true then te ρ' Q1 else Q2) :
    ∀ (xs ys : List Int) (Q : List D → Prop), Q (zipF p f xs ys) → lcGo g tt te ρ (zipD (iL xs) (iL ys)) Q
  | [], _, Q, q => by simpa [zipD, iL, lcGo, zipF] using q
  | _ :: _, [], Q, q => by simpa [zipD, iL, lcGo, zipF] using q
  | x :: xs, y :: ys, Q, q => by
    refine h x y _ _ ?_
    rw [zipF] at q
    split
    · rename_i z
      rw [if_pos z] at q
      exact lc_zipF p f h xs ys _ q
    · rename_i z
      rw [if_neg z] at q
      exact lc_zipF p f h xs ys _ q
theorem lst_eqv_nil (zs : List D) : (D.lst zs).eqv (.lst []) = zs.isEmpty := by
  cases zs <;> simp [D.eqv, D.py, pys, PyData.eqv, PyData.eqvAll]
theorem sh_pairs {zs : List D} (h : ∀ z ∈ zs, ∃ x y : Int, z = .tup [.int x, .int y]) : (D.lst zs).Sh := by
  have g : ∀ zs : List D, (∀ z ∈ zs, ∃ x y : Int, z = .tup [.int x, .int y]) → PyData.canLayAll0 (pys zs) = true ∧ PyData.depthAll (pys zs) ≤ 1 := by
    intro zs
    induction zs with
    | nil => intro _; exact ⟨rfl, by simp [pys, PyData.depthAll]⟩
    | cons z zs ih =>
      intro h
      obtain ⟨x, y, rfl⟩ := h z (by simp)
      obtain ⟨i1, i2⟩ := ih fun w hw => h w (by simp [hw])
      refine ⟨by simp only [pys, PyData.canLayAll0, i1, D.py, PyData.canLay0, Bool.and_true], ?_⟩
      simp only [pys, PyData.depthAll, D.py, PyData.depth]
      omega
  obtain ⟨h1, h2⟩ := g zs h
  show ((D.lst zs).py.canLay0 && decide ((D.lst zs).py.depth ≤ 64)) = true
  rw [Bool.and_eq_true]
  refine ⟨by simpa only [D.py, PyData.canLay0] using h1, decide_eq_true ?_⟩
  simp only [D.py, PyData.depth]
  omega
theorem zipF_pairs (p : Int → Int → Bool) : ∀ xs ys : List Int, ∀ z ∈ zipF p (fun x y => .tup [.int x, .int y]) xs ys, ∃ x y : Int, z = .tup [.int x, .int y]
  | [], _, z, h => by simp [zipF] at h
  | _ :: _, [], z, h => by simp [zipF] at h
  | x :: xs, y :: ys, z, h => by
    rw [zipF] at h
    split at h
    · rcases List.mem_cons.mp h with rfl | h
      · exact ⟨x, y, rfl⟩
      · exact zipF_pairs p xs ys z h
    · exact zipF_pairs p xs ys z h
end DL

set_option maxRecDepth 100000
set_option maxHeartbeats 4000000
namespace DL
open PySem PySem.Spec L2
/-! ### filled, on the numbers at places and on told parts -/
def allEq (ns : List Int) : Prop := ∀ x ∈ ns, x = ns.headD 0
instance (ns : List Int) : Decidable (allEq ns) := by unfold allEq; infer_instance
theorem allEq_map {ns : List Int} (c : Int) (h : ns ≠ []) : allEq (ns.map (· + c)) ↔ allEq ns := by
  match ns, h with
  | x :: t, _ =>
  unfold allEq
  simp only [List.map_cons, List.headD_cons, List.mem_cons, List.mem_map]
  constructor
  · intro z y hy
    rcases hy with rfl | hy
    · rfl
    · have := z (y + c) (.inr ⟨y, hy, rfl⟩); omega
  · rintro z y (rfl | ⟨w, hw, rfl⟩)
    · rfl
    · show w + c = x + c
      rw [z w (.inr hw)]
theorem allEq_iff {ns : List Int} : allEq ns ↔ ns.count (ns.headD 0) = ns.length := by
  unfold allEq
  rw [List.count_eq_length]
  exact ⟨fun z x hx => (z x hx).symm, fun z x hx => (z x hx).symm⟩
/-- by the told rule, on the numbers at 2 ^ k places -/
def fillN : Nat → Own → List Int → List Int
  | 0, _, ns => ns
  | k + 1, o, ns =>
    if o = .lf false ∨ allEq ns then ns else
    match o with
    | .lf _ => List.replicate ns.length (hi ns)
    | .nd a b =>
      if a = .lf true then
        let r := fillN k b (ns.drop (2 ^ k))
        List.replicate (2 ^ k) (max (hi (ns.take (2 ^ k))) (lo r)) ++ r
      else if b = .lf true then
        let l := fillN k a (ns.take (2 ^ k))
        l ++ List.replicate (2 ^ k) (max (hi (ns.drop (2 ^ k))) (lo l))
      else fillN k a (ns.take (2 ^ k)) ++ fillN k b (ns.drop (2 ^ k))
theorem fillN_same {k : Nat} {o : Own} {ns : List Int} (h : o = .lf false ∨ allEq ns) : fillN (k + 1) o ns = ns := by
  rw [fillN.eq_def]
  exact if_pos h
theorem fillN_lf {k : Nat} {b : Bool} {ns : List Int} (h : ¬ (Own.lf b = .lf false ∨ allEq ns)) : fillN (k + 1) (.lf b) ns = List.replicate ns.length (hi ns) := by
  rw [fillN.eq_def]
  exact if_neg h
theorem fillN_nd {k : Nat} {a b : Own} {ns : List Int} (h : ¬ (Own.nd a b = .lf false ∨ allEq ns)) : fillN (k + 1) (.nd a b) ns =
    if a = .lf true then List.replicate (2 ^ k) (max (hi (ns.take (2 ^ k))) (lo (fillN k b (ns.drop (2 ^ k))))) ++ fillN k b (ns.drop (2 ^ k))
    else if b = .lf true then fillN k a (ns.take (2 ^ k)) ++ List.replicate (2 ^ k) (max (hi (ns.drop (2 ^ k))) (lo (fillN k a (ns.take (2 ^ k)))))
    else fillN k a (ns.take (2 ^ k)) ++ fillN k b (ns.drop (2 ^ k)) := by
  rw [fillN.eq_def]
  exact if_neg h
theorem fillN_len : ∀ (k : Nat) (o : Own) {ns : List Int}, ns.length = 2 ^ k → (fillN k o ns).length = 2 ^ k
  | 0, o, ns, h => h
  | k + 1, o, ns, h => by
    have pk : 2 ^ (k + 1) = 2 * 2 ^ k := by rw [Nat.pow_succ]; omega
    have l1 : (ns.take (2 ^ k)).length = 2 ^ k := by rw [List.length_take, h]; omega
    have l2 : (ns.drop (2 ^ k)).length = 2 ^ k := by rw [List.length_drop, h]; omega
    by_cases q : o = .lf false ∨ allEq ns
    · rw [fillN_same q, h]
    · cases o with
      | lf c => rw [fillN_lf q]; simp [h]
      | nd a b =>
        have ha := fillN_len k a l1
        have hb := fillN_len k b l2
        rw [fillN_nd q]
        split
        · rw [List.length_append, List.length_replicate, hb]; omega
        · split
          · rw [List.length_append, List.length_replicate, ha]; omega
          · rw [List.length_append, ha, hb]; omega
theorem fillN_map : ∀ (k : Nat) (o : Own) {ns : List Int} (c : Int), ns.length = 2 ^ k → fillN k o (ns.map (· + c)) = (fillN k o ns).map (· + c)
  | 0, o, ns, c, h => rfl
  | k + 1, o, ns, c, h => by
    have pk : 2 ^ (k + 1) = 2 * 2 ^ k := by rw [Nat.pow_succ]; omega
    have ne := ne_of_len h
    have l1 : (ns.take (2 ^ k)).length = 2 ^ k := by rw [List.length_take, h]; omega
    have l2 : (ns.drop (2 ^ k)).length = 2 ^ k := by rw [List.length_drop, h]; omega
    have n1 := ne_of_len l1
    have n2 := ne_of_len l2
    have mx : ∀ a b c : Int, max (a + c) (b + c) = max a b + c := by omega
    by_cases q : o = .lf false ∨ allEq ns
    · rw [fillN_same q, fillN_same (q.imp id (allEq_map c ne).mpr)]
    · have q' : ¬ (o = .lf false ∨ allEq (ns.map (· + c))) := fun z => q (z.imp id (allEq_map c ne).mp)
      cases o with
      | lf b => rw [fillN_lf q, fillN_lf q']; simp [hi_map ne]
      | nd a b =>
        rw [fillN_nd q, fillN_nd q']
        have ha := fillN_map k a c l1
        have hb := fillN_map k b c l2
        have na := ne_of_len (fillN_len k a l1)
        have nb := ne_of_len (fillN_len k b l2)
        rw [← List.map_take, ← List.map_drop, ha, hb]
        split
        · rw [hi_map n1, lo_map nb, List.map_append, List.map_replicate, mx]
        · split
          · rw [hi_map n2, lo_map na, List.map_append, List.map_replicate, mx]
          · rw [List.map_append]
/-- filled, as the document tells it, on told parts -/
def fillT : Own → Told → Told
  | .lf false, t => t
  | .lf true, .n i => .n i
  | .lf true, .t i l r => .n (Told.t i l r).top
  | .nd _ _, .n i => .n i
  | .nd a b, .t i l r =>
    if a = .lf true then (Told.over (.n (max l.top (fillT b r).low)) (fillT b r)).lift i
    else if b = .lf true then (Told.over (fillT a l) (.n (max r.top (fillT a l).low))).lift i
    else (Told.over (fillT a l) (fillT b r)).lift i
theorem toldOf_rep {k : Nat} {a : Int} : toldOf k (List.replicate (2 ^ k) a) = .n a := toldOf_all (by simp) fun x hx => (List.mem_replicate.mp hx).2
theorem fillT_toldOf : ∀ (k : Nat) (o : Own) {ns : List Int}, o.depth ≤ k → ns.length = 2 ^ k → fillT o (toldOf k ns) = toldOf k (fillN k o ns)
  | 0, .lf false, ns, _, h => rfl
  | 0, .lf true, ns, _, h => rfl
  | 0, .nd _ _, ns, ho, h => by simp [Own.depth] at ho
  | k + 1, o, ns, ho, h => by
    have pk : 2 ^ (k + 1) = 2 * 2 ^ k := by rw [Nat.pow_succ]; omega
    have ne := ne_of_len h
    by_cases all : allEq ns
    · have e : toldOf (k + 1) ns = .n (ns.headD 0) := toldOf_all h all
      rw [fillN_same (.inr all), e]
      cases o with
      | lf b => cases b <;> rfl
      | nd a b => rfl
    · have nall : ¬ ns.count (lo ns) = ns.length := fun z => all fun x hx => by
        have g := cnt_all.mp z
        match ns, ne with
        | y :: t, _ => rw [g x hx]; exact (g y (by simp)).symm
      by_cases o0 : o = .lf false
      · subst o0
        rw [fillN_same (.inl rfl)]
        rfl
      · have e : toldOf (k + 1) ns = .t (lo ns) (toldOf k ((ns.map (· + -(lo ns))).take (2 ^ k))) (toldOf k ((ns.map (· + -(lo ns))).drop (2 ^ k))) := by rw [toldOf, if_neg nall]
        have tp := toldOf_top h
        have q : ¬ (o = .lf false ∨ allEq ns) := fun z => z.elim o0 all
        cases o with
        | lf b =>
          cases b with
          | false => exact absurd rfl o0
          | true =>
            rw [fillN_lf q, h, toldOf_rep, ← tp, e]
            rfl
        | nd a b =>
          have e6 : (Own.nd a b).depth = max a.depth b.depth + 1 := rfl
          have l1 : (ns.take (2 ^ k)).length = 2 ^ k := by rw [List.length_take, h]; omega
          have l2 : (ns.drop (2 ^ k)).length = 2 ^ k := by rw [List.length_drop, h]; omega
          have fa := fillN_len k a l1
          have fb := fillN_len k b l2
          rw [e, fillN_nd q, fillT]
          generalize lo ns = m at *
          rw [List.map_take.symm, List.map_drop.symm]
          generalize ns.take (2 ^ k) = as at *
          generalize ns.drop (2 ^ k) = bs at *
          have m1 : (as.map (· + -m)).length = 2 ^ k := by rw [List.length_map, l1]
          have m2 : (bs.map (· + -m)).length = 2 ^ k := by rw [List.length_map, l2]
          have ia := fillT_toldOf k a (ns := as.map (· + -m)) (by omega) m1
          have ib := fillT_toldOf k b (ns := bs.map (· + -m)) (by omega) m2
          have ta : (toldOf k (as.map (· + -m))).top = hi as + -m := by rw [toldOf_top m1, hi_map (ne_of_len l1)]
          have tb : (toldOf k (bs.map (· + -m))).top = hi bs + -m := by rw [toldOf_top m2, hi_map (ne_of_len l2)]
          have wa : (toldOf k (fillN k a (as.map (· + -m)))).low = lo (fillN k a as) + -m := by rw [toldOf_low (fillN_len k a m1), fillN_map k a _ l1, lo_map (ne_of_len fa)]
          have wb : (toldOf k (fillN k b (bs.map (· + -m)))).low = lo (fillN k b bs) + -m := by rw [toldOf_low (fillN_len k b m2), fillN_map k b _ l2, lo_map (ne_of_len fb)]
          have mx : ∀ x y : Int, max (x + -m) (y + -m) = max x y + -m := by omega
          have up : ∀ x : Int, toldOf k (List.replicate (2 ^ k) x) = .n x := fun x => toldOf_rep
          have back : ∀ xs ys : List Int, xs.length = 2 ^ k → ys.length = 2 ^ k → (Told.over (toldOf k (xs.map (· + -m))) (toldOf k (ys.map (· + -m)))).lift m = toldOf (k + 1) (xs ++ ys) := by
            intro xs ys hx hy
            have z := toldOf_map (k := k + 1) (ns := xs ++ ys) (-m) (by rw [List.length_append, hx, hy, Nat.pow_succ]; omega)
            rw [List.map_append, toldOf_app (by rw [List.length_map, hx]) (by rw [List.length_map, hy])] at z
            rw [z, Told.lift_lift, show -m + m = (0 : Int) by omega, Told.lift_zero]
          have rp : ∀ x : Int, (.n (x + -m) : Told) = toldOf k ((List.replicate (2 ^ k) x).map (· + -m)) := fun x => by rw [List.map_replicate, up]
          rw [ia, ib, ta, tb, wa, wb, mx, mx]
          split
          · rw [rp, fillN_map k b _ l2]
            exact back _ _ (by simp) fb
          · split
            · rw [rp, fillN_map k a _ l1]
              exact back _ _ fa (by simp)
            · rw [fillN_map k a _ l1, fillN_map k b _ l2]
              exact back _ _ fa fb
end DL

set_option maxRecDepth 100000
set_option maxHeartbeats 4000000
namespace DL
open PySem PySem.Spec L2
/-! ### grown: its price and what it makes, on the numbers at places and on told parts -/
def prc (ns : List Int) : Int := if allEq ns then 1001 else 1
def pick (a b : Own) (ga gb : Int) : Bool := if a = .lf false then false else if b = .lf false then true else decide (ga < gb)
def growL : Nat → Own → List Int → Int × List Int
  | k + 1, .nd a b, ns =>
    if pick a b (growL k a (ns.take (2 ^ k))).1 (growL k b (ns.drop (2 ^ k))).1 = true then ((growL k a (ns.take (2 ^ k))).1 + prc ns, (growL k a (ns.take (2 ^ k))).2 ++ ns.drop (2 ^ k))
    else ((growL k b (ns.drop (2 ^ k))).1 + prc ns, ns.take (2 ^ k) ++ (growL k b (ns.drop (2 ^ k))).2)
  | _, _, ns => (0, ns.map (· + 1))
def growT : Own → Told → Int × Told
  | .lf _, t => (0, t.lift 1)
  | .nd a b, .n i => if pick a b (growT a (.n 0)).1 (growT b (.n 0)).1 = true then ((growT a (.n 0)).1 + 1001, (Told.over (growT a (.n 0)).2 (.n 0)).lift i) else ((growT b (.n 0)).1 + 1001, (Told.over (.n 0) (growT b (.n 0)).2).lift i)
  | .nd a b, .t i l r => if pick a b (growT a l).1 (growT b r).1 = true then ((growT a l).1 + 1, (Told.over (growT a l).2 r).lift i) else ((growT b r).1 + 1, (Told.over l (growT b r).2).lift i)
theorem growL_lf {k : Nat} {b : Bool} {ns : List Int} : growL k (.lf b) ns = (0, ns.map (· + 1)) := by cases k <;> rfl
theorem growL_nd {k : Nat} {a b : Own} {ns : List Int} : growL (k + 1) (.nd a b) ns =
    if pick a b (growL k a (ns.take (2 ^ k))).1 (growL k b (ns.drop (2 ^ k))).1 = true then ((growL k a (ns.take (2 ^ k))).1 + prc ns, (growL k a (ns.take (2 ^ k))).2 ++ ns.drop (2 ^ k))
    else ((growL k b (ns.drop (2 ^ k))).1 + prc ns, ns.take (2 ^ k) ++ (growL k b (ns.drop (2 ^ k))).2) := by
  rw [growL]
theorem growL_len : ∀ (k : Nat) (o : Own) {ns : List Int}, o.depth ≤ k → ns.length = 2 ^ k → (growL k o ns).2.length = 2 ^ k
  | k, .lf b, ns, _, h => by rw [growL_lf]; simp [h]
  | 0, .nd a b, ns, ho, h => by simp [Own.depth] at ho
  | k + 1, .nd a b, ns, ho, h => by
    have e6 : (Own.nd a b).depth = max a.depth b.depth + 1 := rfl
    have pk : 2 ^ (k + 1) = 2 * 2 ^ k := by rw [Nat.pow_succ]; omega
    have l1 : (ns.take (2 ^ k)).length = 2 ^ k := by rw [List.length_take, h]; omega
    have l2 : (ns.drop (2 ^ k)).length = 2 ^ k := by rw [List.length_drop, h]; omega
    have ha := growL_len k a (by omega) l1
    have hb := growL_len k b (by omega) l2
    rw [growL_nd]
    split
    · rw [List.length_append, ha, l2]; omega
    · rw [List.length_append, hb, l1]; omega
theorem growL_map : ∀ (k : Nat) (o : Own) {ns : List Int} (c : Int), o.depth ≤ k → ns.length = 2 ^ k → growL k o (ns.map (· + c)) = ((growL k o ns).1, (growL k o ns).2.map (· + c))
  | k, .lf b, ns, c, _, h => by
    rw [growL_lf, growL_lf, List.map_map, List.map_map]
    congr 1
    apply List.map_congr_left
    intro x _
    show x + c + 1 = x + 1 + c
    omega
  | 0, .nd a b, ns, c, ho, h => by simp [Own.depth] at ho
  | k + 1, .nd a b, ns, c, ho, h => by
    have e6 : (Own.nd a b).depth = max a.depth b.depth + 1 := rfl
    have pk : 2 ^ (k + 1) = 2 * 2 ^ k := by rw [Nat.pow_succ]; omega
    have l1 : (ns.take (2 ^ k)).length = 2 ^ k := by rw [List.length_take, h]; omega
    have l2 : (ns.drop (2 ^ k)).length = 2 ^ k := by rw [List.length_drop, h]; omega
    have ha := growL_map k a c (by omega) l1
    have hb := growL_map k b c (by omega) l2
    have e : prc (ns.map (· + c)) = prc ns := by
      unfold prc
      by_cases q : allEq ns
      · rw [if_pos q, if_pos ((allEq_map c (ne_of_len h)).mpr q)]
      · rw [if_neg q, if_neg fun z => q ((allEq_map c (ne_of_len h)).mp z)]
    rw [growL_nd, growL_nd, e, ← List.map_take, ← List.map_drop, ha, hb]
    split <;> simp
theorem growT_toldOf : ∀ (k : Nat) (o : Own) {ns : List Int}, o.depth ≤ k → ns.length = 2 ^ k → growT o (toldOf k ns) = ((growL k o ns).1, toldOf k (growL k o ns).2)
  | k, .lf b, ns, _, h => by rw [growL_lf, toldOf_map 1 h]; rfl
  | 0, .nd a b, ns, ho, h => by simp [Own.depth] at ho
  | k + 1, .nd a b, ns, ho, h => by
    have e6 : (Own.nd a b).depth = max a.depth b.depth + 1 := rfl
    have pk : 2 ^ (k + 1) = 2 * 2 ^ k := by rw [Nat.pow_succ]; omega
    have l1 : (ns.take (2 ^ k)).length = 2 ^ k := by rw [List.length_take, h]; omega
    have l2 : (ns.drop (2 ^ k)).length = 2 ^ k := by rw [List.length_drop, h]; omega
    have back : ∀ (m : Int) (xs ys : List Int), xs.length = 2 ^ k → ys.length = 2 ^ k → (Told.over (toldOf k (xs.map (· + -m))) (toldOf k (ys.map (· + -m)))).lift m = toldOf (k + 1) (xs ++ ys) := by
      intro m xs ys hx hy
      have z := toldOf_map (k := k + 1) (ns := xs ++ ys) (-m) (by rw [List.length_append, hx, hy, Nat.pow_succ]; omega)
      rw [List.map_append, toldOf_app (by rw [List.length_map, hx]) (by rw [List.length_map, hy])] at z
      rw [z, Told.lift_lift, show -m + m = (0 : Int) by omega, Told.lift_zero]
    have main : ∀ (m : Int), growT a (toldOf k ((ns.take (2 ^ k)).map (· + -m))) = ((growL k a (ns.take (2 ^ k))).1, toldOf k ((growL k a (ns.take (2 ^ k))).2.map (· + -m))) ∧
        growT b (toldOf k ((ns.drop (2 ^ k)).map (· + -m))) = ((growL k b (ns.drop (2 ^ k))).1, toldOf k ((growL k b (ns.drop (2 ^ k))).2.map (· + -m))) := by
      intro m
      have ia := growT_toldOf k a (ns := (ns.take (2 ^ k)).map (· + -m)) (by omega) (by rw [List.length_map, l1])
      have ib := growT_toldOf k b (ns := (ns.drop (2 ^ k)).map (· + -m)) (by omega) (by rw [List.length_map, l2])
      rw [growL_map k a _ (by omega) l1] at ia
      rw [growL_map k b _ (by omega) l2] at ib
      exact ⟨ia, ib⟩
    have ga := growL_len k a (by omega) l1
    have gb := growL_len k b (by omega) l2
    by_cases all : allEq ns
    · obtain ⟨m, hm⟩ : ∃ m, ∀ x ∈ ns, x = m := ⟨_, all⟩
      have e : toldOf (k + 1) ns = .n m := toldOf_all h hm
      have h0 : ∀ xs : List Int, (∀ x ∈ xs, x ∈ ns) → xs.length = 2 ^ k → toldOf k (xs.map (· + -m)) = .n 0 := fun xs hx hl => toldOf_all (by rw [List.length_map, hl]) fun x hx2 => by
        obtain ⟨y, hy, rfl⟩ := List.mem_map.mp hx2
        have := hm y (hx y hy)
        show y + -m = 0
        omega
      have ea := h0 _ (fun x hx => List.mem_of_mem_take hx) l1
      have eb := h0 _ (fun x hx => List.mem_of_mem_drop hx) l2
      have ep : prc ns = 1001 := if_pos all
      obtain ⟨ma, mb⟩ := main m
      rw [ea] at ma
      rw [eb] at mb
      have b1 := back m _ _ ga l2
      have b2 := back m _ _ l1 gb
      rw [eb] at b1
      rw [ea] at b2
      rw [e, growT, ma, mb, growL_nd, ep]
      split
      · exact congrArg (Prod.mk _) b1
      · exact congrArg (Prod.mk _) b2
    · have nall : ¬ ns.count (lo ns) = ns.length := fun z => all fun x hx => by
        have g := cnt_all.mp z
        match ns, ne_of_len h with
        | y :: t, _ => rw [g x hx]; exact (g y (by simp)).symm
      have e : toldOf (k + 1) ns = .t (lo ns) (toldOf k ((ns.take (2 ^ k)).map (· + -(lo ns)))) (toldOf k ((ns.drop (2 ^ k)).map (· + -(lo ns)))) := by rw [toldOf, if_neg nall, List.map_take, List.map_drop]
      have ep : prc ns = 1 := if_neg all
      obtain ⟨ma, mb⟩ := main (lo ns)
      have b1 := back (lo ns) _ _ ga l2
      have b2 := back (lo ns) _ _ l1 gb
      rw [e, growT, ma, mb, growL_nd, ep]
      split
      · exact congrArg (Prod.mk _) b1
      · exact congrArg (Prod.mk _) b2
end DL

set_option maxRecDepth 100000
set_option maxHeartbeats 4000000
namespace DL
open PySem PySem.Spec L2
/-! ### grown at the last one of the cheapest leaves -/
def leavesN : Nat → Own → List Int → Int → Int → List (Int × Int × Int)
  | k + 1, .nd a b, ns, at_, paid => leavesN k a (ns.take (2 ^ k)) at_ (paid + prc ns) ++ leavesN k b (ns.drop (2 ^ k)) (at_ + (2 ^ k : Nat)) (paid + prc ns)
  | _, .lf true, ns, at_, paid => [(paid, at_, ((ns.length : Nat) : Int))]
  | _, _, _, _, _ => []
/-- the last one of the least -/
def Best (ls : List (Int × Int × Int)) (z : Int × Int × Int) : Prop := ∃ as bs, ls = as ++ z :: bs ∧ (∀ w ∈ as, z.1 ≤ w.1) ∧ ∀ w ∈ bs, z.1 < w.1
theorem Best.le {ls : List (Int × Int × Int)} {z : Int × Int × Int} (h : Best ls z) : z ∈ ls ∧ ∀ w ∈ ls, z.1 ≤ w.1 := by
  obtain ⟨as, bs, rfl, h1, h2⟩ := h
  refine ⟨by simp, fun w hw => ?_⟩
  rcases List.mem_append.mp hw with q | q
  · exact h1 w q
  · rcases List.mem_cons.mp q with rfl | q
    · exact Int.le_refl _
    · exact Int.le_of_lt (h2 w q)
theorem Best.left {xs ys : List (Int × Int × Int)} {z : Int × Int × Int} (h : Best xs z) (g : ∀ w ∈ ys, z.1 < w.1) : Best (xs ++ ys) z := by
  obtain ⟨as, bs, rfl, h1, h2⟩ := h
  exact ⟨as, bs ++ ys, by simp, h1, fun w hw => (List.mem_append.mp hw).elim (h2 w) (g w)⟩
theorem Best.right {xs ys : List (Int × Int × Int)} {z : Int × Int × Int} (h : Best ys z) (g : ∀ w ∈ xs, z.1 ≤ w.1) : Best (xs ++ ys) z := by
  obtain ⟨as, bs, rfl, h1, h2⟩ := h
  exact ⟨xs ++ as, bs, by simp, fun w hw => (List.mem_append.mp hw).elim (g w) (h1 w), h2⟩
/-- of some leaves the last one of the least is the last one of those that cost so much -/
theorem Best.filter {ls : List (Int × Int × Int)} {z : Int × Int × Int} (h : Best ls z) : ∃ us, ls.filter (fun w => w.1 == z.1) = us ++ [z] := by
  obtain ⟨as, bs, rfl, h1, h2⟩ := h
  refine ⟨as.filter (fun w => w.1 == z.1), ?_⟩
  have e : bs.filter (fun w => w.1 == z.1) = [] := by
    rw [List.filter_eq_nil_iff]
    intro w hw
    have := h2 w hw
    simp only [beq_iff_eq]
    omega
  rw [List.filter_append, List.filter_cons_of_pos (by simp), e]
/-- one more at z places from s on -/
def incr (s z : Nat) (ns : List Int) : List Int := ns.mapIdx fun j x => if s ≤ j ∧ j < s + z then x + 1 else x
theorem incr_all (ns : List Int) : incr 0 ns.length ns = ns.map (· + 1) := by
  apply List.ext_getElem (by simp [incr])
  intro i h1 h2
  have hi : i < ns.length := by simpa [incr] using h1
  simp [incr, hi]
theorem incr_left {s z : Nat} {as bs : List Int} (h : s + z ≤ as.length) : incr s z (as ++ bs) = incr s z as ++ bs := by
  apply List.ext_getElem (by simp [incr])
  intro i h1 h2
  by_cases hi : i < as.length
  · rw [List.getElem_append_left (by simpa [incr] using hi)]
    simp [incr, List.getElem_append_left hi]
  · rw [List.getElem_append_right (by simp [incr]; omega)]
    have z' : ¬ (s ≤ i ∧ i < s + z) := by omega
    simp [incr, z', List.getElem_append_right (Nat.le_of_not_lt hi)]
theorem incr_right {s z : Nat} {as bs : List Int} : incr (as.length + s) z (as ++ bs) = as ++ incr s z bs := by
  apply List.ext_getElem (by simp [incr])
  intro i h1 h2
  by_cases hi : i < as.length
  · rw [List.getElem_append_left hi]
    have z' : ¬ (as.length + s ≤ i ∧ i < as.length + s + z) := by omega
    simp [incr, z', List.getElem_append_left hi]
  · rw [List.getElem_append_right (Nat.le_of_not_lt hi)]
    have e : (as.length + s ≤ i ∧ i < as.length + s + z) ↔ (s ≤ i - as.length ∧ i - as.length < s + z) := by omega
    simp [incr, e, List.getElem_append_right (Nat.le_of_not_lt hi)]
theorem leaves_zero : ∀ (k : Nat) (ns : List Int) (at_ paid : Int), leavesN k (.lf false) ns at_ paid = []
  | 0, _, _, _ => rfl
  | _ + 1, _, _, _ => rfl
theorem leaves_one : ∀ (k : Nat) (ns : List Int) (at_ paid : Int), leavesN k (.lf true) ns at_ paid = [(paid, at_, ((ns.length : Nat) : Int))]
  | 0, _, _, _ => rfl
  | _ + 1, _, _, _ => rfl
theorem leaves_best : ∀ (k : Nat) (o : Own) {ns : List Int} (at_ paid : Int), o.depth ≤ k → ns.length = 2 ^ k → o.isLeast = true → o ≠ .lf false →
    ∃ s z : Nat, s + z ≤ 2 ^ k ∧ Best (leavesN k o ns at_ paid) (paid + (growL k o ns).1, at_ + s, z) ∧ (growL k o ns).2 = incr s z ns
  | k, .lf false, ns, at_, paid, _, h, _, ho => absurd rfl ho
  | k, .lf true, ns, at_, paid, _, h, _, _ => by
    refine ⟨0, ns.length, by omega, ?_, ?_⟩
    · rw [leaves_one, growL_lf]
      exact ⟨[], [], by simp, by simp, by simp⟩
    · rw [growL_lf, incr_all]
  | 0, .nd a b, ns, at_, paid, ho, h, _, _ => by simp [Own.depth] at ho
  | k + 1, .nd a b, ns, at_, paid, ho, h, hl, _ => by
    have e6 : (Own.nd a b).depth = max a.depth b.depth + 1 := rfl
    have pk : 2 ^ (k + 1) = 2 * 2 ^ k := by rw [Nat.pow_succ]; omega
    have l1 : (ns.take (2 ^ k)).length = 2 ^ k := by rw [List.length_take, h]; omega
    have l2 : (ns.drop (2 ^ k)).length = 2 ^ k := by rw [List.length_drop, h]; omega
    have ens : ns = ns.take (2 ^ k) ++ ns.drop (2 ^ k) := (List.take_append_drop _ _).symm
    simp only [Own.isLeast, Bool.and_eq_true, Bool.not_eq_true', Bool.and_eq_false_iff, decide_eq_false_iff_not] at hl
    obtain ⟨⟨⟨n0, _⟩, la⟩, lb⟩ := hl
    have ha := fun na => leaves_best k a (ns := ns.take (2 ^ k)) at_ (paid + prc ns) (by omega) l1 la na
    have hb := fun nb => leaves_best k b (ns := ns.drop (2 ^ k)) (at_ + (2 ^ k : Nat)) (paid + prc ns) (by omega) l2 lb nb
    have eL : leavesN (k + 1) (.nd a b) ns at_ paid = leavesN k a (ns.take (2 ^ k)) at_ (paid + prc ns) ++ leavesN k b (ns.drop (2 ^ k)) (at_ + (2 ^ k : Nat)) (paid + prc ns) := rfl
    rw [eL, growL_nd]
    have goA : ∀ (na : a ≠ .lf false), (∀ w ∈ leavesN k b (ns.drop (2 ^ k)) (at_ + (2 ^ k : Nat)) (paid + prc ns), paid + prc ns + (growL k a (ns.take (2 ^ k))).1 < w.1) →
        ∃ s z : Nat, s + z ≤ 2 ^ (k + 1) ∧ Best (leavesN k a (ns.take (2 ^ k)) at_ (paid + prc ns) ++ leavesN k b (ns.drop (2 ^ k)) (at_ + (2 ^ k : Nat)) (paid + prc ns)) (paid + ((growL k a (ns.take (2 ^ k))).1 + prc ns), at_ + s, z) ∧ (growL k a (ns.take (2 ^ k))).2 ++ ns.drop (2 ^ k) = incr s z ns := by
      intro na g
      obtain ⟨s, z, h1, h2, h3⟩ := ha na
      refine ⟨s, z, by omega, ?_, ?_⟩
      · rw [show paid + ((growL k a (ns.take (2 ^ k))).1 + prc ns) = paid + prc ns + (growL k a (ns.take (2 ^ k))).1 by omega]
        exact h2.left g
      · rw [h3]
        conv => rhs; rw [ens]
        rw [incr_left (by rw [l1]; exact h1)]
    have goB : ∀ (nb : b ≠ .lf false), (∀ w ∈ leavesN k a (ns.take (2 ^ k)) at_ (paid + prc ns), paid + prc ns + (growL k b (ns.drop (2 ^ k))).1 ≤ w.1) →
        ∃ s z : Nat, s + z ≤ 2 ^ (k + 1) ∧ Best (leavesN k a (ns.take (2 ^ k)) at_ (paid + prc ns) ++ leavesN k b (ns.drop (2 ^ k)) (at_ + (2 ^ k : Nat)) (paid + prc ns)) (paid + ((growL k b (ns.drop (2 ^ k))).1 + prc ns), at_ + s, z) ∧ ns.take (2 ^ k) ++ (growL k b (ns.drop (2 ^ k))).2 = incr s z ns := by
      intro nb g
      obtain ⟨s, z, h1, h2, h3⟩ := hb nb
      refine ⟨2 ^ k + s, z, by omega, ?_, ?_⟩
      · rw [show paid + ((growL k b (ns.drop (2 ^ k))).1 + prc ns) = paid + prc ns + (growL k b (ns.drop (2 ^ k))).1 by omega, show at_ + ((2 ^ k + s : Nat) : Int) = at_ + ((2 ^ k : Nat) : Int) + (s : Int) by omega]
        exact h2.right g
      · rw [h3]
        conv => rhs; rw [ens]
        have z := incr_right (s := s) (z := z) (as := ns.take (2 ^ k)) (bs := ns.drop (2 ^ k))
        rw [l1] at z
        exact z.symm
    by_cases a0 : a = .lf false
    · have nb : b ≠ .lf false := fun z => n0.elim (fun q => q a0) (fun q => q z)
      rw [if_neg (by simp [pick, a0])]
      exact goB nb (by rw [a0, leaves_zero]; simp)
    · by_cases b0 : b = .lf false
      · rw [if_pos (by simp [pick, a0, b0])]
        exact goA a0 (by rw [b0, leaves_zero]; simp)
      · obtain ⟨s1, z1, _, p1, _⟩ := ha a0
        obtain ⟨s2, z2, _, p2, _⟩ := hb b0
        have q1 := p1.le.2
        have q2 := p2.le.2
        by_cases lt : (growL k a (ns.take (2 ^ k))).1 < (growL k b (ns.drop (2 ^ k))).1
        · rw [if_pos (by simp [pick, a0, b0, lt])]
          exact goA a0 fun w hw => by
            have := q2 w hw
            dsimp only at this
            omega
        · rw [if_neg (by simp [pick, a0, b0, lt])]
          exact goB b0 fun w hw => by
            have := q1 w hw
            dsimp only at this
            omega
end DL

set_option maxRecDepth 100000
set_option maxHeartbeats 4000000
namespace DL
open PySem PySem.Spec L2
/-! ### own parts and their places -/
def pl : Nat → Own → List Int
  | 0, .lf b => [Own.n b]
  | 0, .nd _ _ => [0]
  | k + 1, .lf b => pl k (.lf b) ++ pl k (.lf b)
  | k + 1, .nd l r => pl k l ++ pl k r
theorem pl_len : ∀ (k : Nat) (o : Own), (pl k o).length = 2 ^ k
  | 0, .lf b => rfl
  | 0, .nd _ _ => rfl
  | k + 1, .lf b => by rw [pl, List.length_append, pl_len k, Nat.pow_succ]; omega
  | k + 1, .nd l r => by rw [pl, List.length_append, pl_len k, pl_len k, Nat.pow_succ]; omega
theorem pl_01 : ∀ (k : Nat) (o : Own), ∀ x ∈ pl k o, x = 0 ∨ x = 1
  | 0, .lf b, x, h => by
    simp [pl, Own.n] at h
    cases b <;> simp at h <;> omega
  | 0, .nd _ _, x, h => by simp [pl] at h; exact .inl h
  | k + 1, .lf b, x, h => by
    rw [pl, List.mem_append] at h
    exact h.elim (pl_01 k _ x) (pl_01 k _ x)
  | k + 1, .nd l r, x, h => by
    rw [pl, List.mem_append] at h
    exact h.elim (pl_01 k _ x) (pl_01 k _ x)
/-- the least own part of places -/
def ofPl : Nat → List Int → Own
  | 0, ns => .lf (ns.headD 0 == 1)
  | k + 1, ns => if ns.count (ns.headD 0) = ns.length then .lf (ns.headD 0 == 1) else .nd (ofPl k (ns.take (2 ^ k))) (ofPl k (ns.drop (2 ^ k)))
/-- the least own part of an own part's places is its least form -/
theorem pl_all (b : Bool) : ∀ (k : Nat) (o : Own), o.depth ≤ k → ((∀ x ∈ pl k o, x = Own.n b) ↔ o.least = .lf b)
  | 0, .lf c, _ => by cases b <;> cases c <;> simp [pl, Own.n, Own.least]
  | 0, .nd _ _, h => by simp [Own.depth] at h
  | k + 1, .lf c, _ => by
    have q := pl_all b k (.lf c) (Nat.zero_le _)
    rw [pl]
    simp only [List.mem_append, or_self]
    exact q
  | k + 1, .nd l r, h => by
    have e6 : (Own.nd l r).depth = max l.depth r.depth + 1 := rfl
    have q1 := pl_all b k l (by omega)
    have q2 := pl_all b k r (by omega)
    rw [pl]
    simp only [List.mem_append, Own.least, Own.pair_lf, ← q1, ← q2]
    constructor
    · intro z
      exact ⟨fun x hx => z x (.inl hx), fun x hx => z x (.inr hx)⟩
    · rintro ⟨z1, z2⟩ x (hx | hx)
      · exact z1 x hx
      · exact z2 x hx
theorem count_all {ns : List Int} {h : Int} : ns.count h = ns.length ↔ ∀ x ∈ ns, x = h := by
  rw [List.count_eq_length]
  constructor
  · intro z x hx; exact (z x hx).symm
  · intro z x hx; exact (z x hx).symm
theorem ofPl_pl : ∀ (k : Nat) (o : Own), o.depth ≤ k → ofPl k (pl k o) = o.least
  | 0, .lf c, _ => by cases c <;> rfl
  | 0, .nd _ _, h => by simp [Own.depth] at h
  | k + 1, o, h => by
    have hl := pl_len (k + 1) o
    have h01 := pl_01 (k + 1) o
    have pp := Nat.two_pow_pos (k + 1)
    have pa := fun b => pl_all b (k + 1) o h
    rw [ofPl]
    have hd : ∃ b, (pl (k + 1) o).headD 0 = Own.n b := by
      match e : pl (k + 1) o with
      | [] => rw [e] at hl; simp at hl; omega
      | x :: t =>
        rcases h01 x (by rw [e]; simp) with rfl | rfl
        · exact ⟨false, rfl⟩
        · exact ⟨true, rfl⟩
    obtain ⟨b, hb⟩ := hd
    rw [hb]
    by_cases c : (pl (k + 1) o).count (Own.n b) = (pl (k + 1) o).length
    · rw [if_pos c, ((pa b).mp (count_all.mp c))]
      cases b <;> rfl
    · rw [if_neg c]
      have no : ∀ b', o.least ≠ .lf b' := by
        intro b' e
        have z := (pa b').mpr e
        have e2 : Own.n b = Own.n b' := by
          match e3 : pl (k + 1) o with
          | [] => rw [e3] at hl; simp at hl; omega
          | x :: t =>
            rw [e3] at hb
            have w := z x (by rw [e3]; simp)
            rw [← w]
            exact hb.symm
        exact c (count_all.mpr (by rw [e2]; exact z))
      cases o with
      | lf c0 => exact absurd rfl (no c0)
      | nd l r =>
        have e6 : (Own.nd l r).depth = max l.depth r.depth + 1 := rfl
        have hl1 := pl_len k l
        have e1 : (pl (k + 1) (.nd l r)).take (2 ^ k) = pl k l := by rw [pl, ← hl1, List.take_left]
        have e2 : (pl (k + 1) (.nd l r)).drop (2 ^ k) = pl k r := by rw [pl, ← hl1, List.drop_left]
        rw [e1, e2, ofPl_pl k l (by omega), ofPl_pl k r (by omega)]
        symm
        exact Own.pair_nd fun b' z => no b' (Own.pair_lf.mpr z)
/-! ### places and least forms -/
theorem ofPl_lf {b : Bool} : ∀ {k : Nat} {ns : List Int}, ns.length = 2 ^ k → (∀ x ∈ ns, x = 0 ∨ x = 1) → (ofPl k ns = .lf b ↔ ∀ x ∈ ns, x = Own.n b)
  | 0, ns, h, g => by
    obtain ⟨x, rfl⟩ := one_item h
    rcases g x (by simp) with rfl | rfl <;> cases b <;> simp [ofPl, Own.n]
  | k + 1, ns, h, g => by
    match ns, h with
    | [], h => have := Nat.two_pow_pos (k + 1); simp at h; omega
    | x :: t, h =>
    have hx := g x (by simp)
    rw [ofPl]
    by_cases c : (x :: t).count ((x :: t).headD 0) = (x :: t).length
    · rw [if_pos c]
      have all := count_all.mp c
      constructor
      · intro e y hy
        rw [all y hy]
        show x = _
        have e' : (x == 1) = b := Own.lf.inj e
        rcases hx with rfl | rfl <;> subst e' <;> rfl
      · intro e
        have ex : x = Own.n b := e x (by simp)
        show Own.lf (x == 1) = _
        rw [ex]
        cases b <;> rfl
    · rw [if_neg c]
      constructor
      · intro e; cases e
      · intro e
        have ex : x = Own.n b := e x (by simp)
        exact absurd (count_all.mpr fun y hy => by rw [e y hy]; exact ex.symm) c
theorem ofPl_app {k : Nat} {as bs : List Int} (ha : as.length = 2 ^ k) (hb : bs.length = 2 ^ k) (ga : ∀ x ∈ as, x = 0 ∨ x = 1) (gb : ∀ x ∈ bs, x = 0 ∨ x = 1) : ofPl (k + 1) (as ++ bs) = Own.pair (ofPl k as) (ofPl k bs) := by
  have hl : (as ++ bs).length = 2 ^ (k + 1) := by rw [List.length_append, ha, hb, Nat.pow_succ]; omega
  have gl : ∀ x ∈ as ++ bs, x = 0 ∨ x = 1 := fun x hx => (List.mem_append.mp hx).elim (ga x) (gb x)
  have e1 : (as ++ bs).take (2 ^ k) = as := by rw [← ha, List.take_left' rfl]
  have e2 : (as ++ bs).drop (2 ^ k) = bs := by rw [← ha, List.drop_left' rfl]
  by_cases z : ∃ b, ofPl k as = .lf b ∧ ofPl k bs = .lf b
  · obtain ⟨b, z1, z2⟩ := z
    rw [Own.pair_lf.mpr ⟨z1, z2⟩]
    exact (ofPl_lf hl gl).mpr fun x hx => (List.mem_append.mp hx).elim ((ofPl_lf ha ga).mp z1 x) ((ofPl_lf hb gb).mp z2 x)
  · rw [Own.pair_nd fun b w => z ⟨b, w⟩]
    have nl : ∀ b, ofPl (k + 1) (as ++ bs) ≠ .lf b := fun b e => by
      have all := (ofPl_lf hl gl).mp e
      exact z ⟨b, (ofPl_lf ha ga).mpr fun x hx => all x (by simp [hx]), (ofPl_lf hb gb).mpr fun x hx => all x (by simp [hx])⟩
    rw [ofPl] at nl ⊢
    split
    · rename_i c
      exact absurd (if_pos c) (nl _)
    · rw [e1, e2]
theorem halves_of {k : Nat} {xs : List Int} (h : xs.length = 2 ^ (k + 1)) (g : ∀ x ∈ xs, x = 0 ∨ x = 1) : ∃ as bs, xs = as ++ bs ∧ as.length = 2 ^ k ∧ bs.length = 2 ^ k ∧ (∀ x ∈ as, x = 0 ∨ x = 1) ∧ ∀ x ∈ bs, x = 0 ∨ x = 1 := by
  have pk : 2 ^ (k + 1) = 2 * 2 ^ k := by rw [Nat.pow_succ]; omega
  exact ⟨xs.take (2 ^ k), xs.drop (2 ^ k), (List.take_append_drop _ _).symm, by rw [List.length_take, h]; omega, by rw [List.length_drop, h]; omega, fun x hx => g x (List.mem_of_mem_take hx), fun x hx => g x (List.mem_of_mem_drop hx)⟩
/-- whether both have some place -/
def bothL : List Int → List Int → Bool
  | x :: xs, y :: ys => (x == 1 && y == 1) || bothL xs ys
  | _, _ => false
theorem bothL_app : ∀ {as bs cs ds : List Int}, as.length = cs.length → bothL (as ++ bs) (cs ++ ds) = (bothL as cs || bothL bs ds)
  | [], _, [], _, _ => by simp [bothL]
  | a :: as, _, c :: cs, _, h => by
    simp only [List.cons_append, bothL, bothL_app (as := as) (cs := cs) (by simpa using h), Bool.or_assoc]
theorem bothL_comm : ∀ as bs : List Int, bothL as bs = bothL bs as
  | [], [] => rfl
  | [], _ :: _ => rfl
  | _ :: _, [] => rfl
  | a :: as, b :: bs => by rw [bothL, bothL, bothL_comm as bs, Bool.and_comm]
def mx2 : List Int → List Int → List Int
  | a :: as, b :: bs => max a b :: mx2 as bs
  | _, _ => []
theorem mx2_len : ∀ {as bs : List Int}, as.length = bs.length → (mx2 as bs).length = as.length
  | [], [], _ => rfl
  | a :: as, b :: bs, h => by simp only [mx2, List.length_cons, mx2_len (as := as) (bs := bs) (by simpa using h)]
theorem mx2_app : ∀ {as bs cs ds : List Int}, as.length = cs.length → mx2 (as ++ bs) (cs ++ ds) = mx2 as cs ++ mx2 bs ds
  | [], _, [], _, _ => by simp [mx2]
  | a :: as, _, c :: cs, _, h => by simp only [List.cons_append, mx2, mx2_app (as := as) (cs := cs) (by simpa using h)]
theorem mx2_comm : ∀ as bs : List Int, mx2 as bs = mx2 bs as
  | [], [] => rfl
  | [], _ :: _ => rfl
  | _ :: _, [] => rfl
  | a :: as, b :: bs => by rw [mx2, mx2, mx2_comm as bs, Int.max_comm]
theorem mx2_01 : ∀ {as bs : List Int}, (∀ x ∈ as, x = 0 ∨ x = 1) → (∀ x ∈ bs, x = 0 ∨ x = 1) → ∀ x ∈ mx2 as bs, x = 0 ∨ x = 1
  | [], _, _, _, x, h => by simp [mx2] at h
  | _ :: _, [], _, _, x, h => by simp [mx2] at h
  | a :: as, b :: bs, g1, g2, x, h => by
    rcases List.mem_cons.mp h with rfl | h
    · rcases g1 a (by simp) with rfl | rfl <;> rcases g2 b (by simp) with rfl | rfl <;> decide
    · exact mx2_01 (fun y hy => g1 y (by simp [hy])) (fun y hy => g2 y (by simp [hy])) x h
theorem mx2_zip : ∀ as bs : List Int, List.zipWith (fun x y => D.int (max x y)) as bs = iL (mx2 as bs)
  | [], _ => by simp [mx2, iL]
  | _ :: _, [] => by simp [mx2, iL]
  | a :: as, b :: bs => by simp only [List.zipWith_cons_cons, mx2_zip as bs, mx2]; rfl
theorem shares_ofPl : ∀ {k : Nat} {xs ys : List Int}, xs.length = 2 ^ k → ys.length = 2 ^ k → (∀ x ∈ xs, x = 0 ∨ x = 1) → (∀ x ∈ ys, x = 0 ∨ x = 1) → Own.sharesO (ofPl k xs) (ofPl k ys) = bothL xs ys
  | 0, xs, ys, h1, h2, g1, g2 => by
    obtain ⟨x, rfl⟩ := one_item h1
    obtain ⟨y, rfl⟩ := one_item h2
    rcases g1 x (by simp) with rfl | rfl <;> rcases g2 y (by simp) with rfl | rfl <;> rfl
  | k + 1, xs, ys, h1, h2, g1, g2 => by
    obtain ⟨as, bs, rfl, l1, l2, m1, m2⟩ := halves_of h1 g1
    obtain ⟨cs, ds, rfl, l3, l4, m3, m4⟩ := halves_of h2 g2
    rw [ofPl_app l1 l2 m1 m2, ofPl_app l3 l4 m3 m4, Own.sharesO_pair, shares_ofPl l1 l3 m1 m3, shares_ofPl l2 l4 m2 m4, bothL_app (by rw [l1, l3])]
theorem tog_ofPl : ∀ {k : Nat} {xs ys : List Int}, xs.length = 2 ^ k → ys.length = 2 ^ k → (∀ x ∈ xs, x = 0 ∨ x = 1) → (∀ x ∈ ys, x = 0 ∨ x = 1) → Own.togO (ofPl k xs) (ofPl k ys) = if bothL xs ys = true then none else some (ofPl k (mx2 xs ys))
  | 0, xs, ys, h1, h2, g1, g2 => by
    obtain ⟨x, rfl⟩ := one_item h1
    obtain ⟨y, rfl⟩ := one_item h2
    rcases g1 x (by simp) with rfl | rfl <;> rcases g2 y (by simp) with rfl | rfl <;> decide
  | k + 1, xs, ys, h1, h2, g1, g2 => by
    obtain ⟨as, bs, rfl, l1, l2, m1, m2⟩ := halves_of h1 g1
    obtain ⟨cs, ds, rfl, l3, l4, m3, m4⟩ := halves_of h2 g2
    have n1 := mx2_01 m1 m3
    have n2 := mx2_01 m2 m4
    rw [ofPl_app l1 l2 m1 m2, ofPl_app l3 l4 m3 m4, Own.togO_pair, tog_ofPl l1 l3 m1 m3, tog_ofPl l2 l4 m2 m4, bothL_app (by rw [l1, l3]), mx2_app (by rw [l1, l3]), ofPl_app (by rw [mx2_len (by rw [l1, l3]), l1]) (by rw [mx2_len (by rw [l2, l4]), l2]) n1 n2]
    cases bothL as cs <;> cases bothL bs ds <;> rfl
theorem ofPl_depth : ∀ (k : Nat) (ns : List Int), (ofPl k ns).depth ≤ k
  | 0, ns => Nat.le_refl _
  | k + 1, ns => by
    rw [ofPl]
    split
    · exact Nat.zero_le _
    · have h1 := ofPl_depth k (ns.take (2 ^ k))
      have h2 := ofPl_depth k (ns.drop (2 ^ k))
      simp only [Own.depth]
      omega
theorem pair11 (x y : Int) : (D.tup [.int x, .int y]).eqv (.tup [.int 1, .int 1]) = (x == 1 && y == 1) := by
  simp [D.eqv, D.py, pys, PyData.eqv, PyData.eqvAll]
theorem zipF_both : ∀ xs ys : List Int, (zipF (fun x y => x == 1 && y == 1) (fun x y => .tup [.int x, .int y]) xs ys).isEmpty = !bothL xs ys
  | [], _ => rfl
  | _ :: _, [] => rfl
  | x :: xs, y :: ys => by
    rw [zipF, bothL]
    by_cases z : (x == 1 && y == 1) = true
    · rw [if_pos z, z]; rfl
    · rw [if_neg z, zipF_both xs ys]
      rw [Bool.not_eq_true] at z
      rw [z, Bool.false_or]
end DL

set_option maxRecDepth 100000
set_option maxHeartbeats 4000000
namespace DL
open PySem PySem.Spec L2
/-! ### raised within the own part: no place less, none beside it otherwise -/
def Wi : List Int → List Int → List Int → Prop
  | [], [], [] => True
  | p :: ps, x :: xs, y :: ys => x ≤ y ∧ (p = 0 → y = x) ∧ Wi ps xs ys
  | _, _, _ => False
theorem Wi_refl : ∀ {ps xs : List Int}, ps.length = xs.length → Wi ps xs xs
  | [], [], _ => trivial
  | p :: ps, x :: xs, h => ⟨Int.le_refl _, fun _ => rfl, Wi_refl (by simpa using h)⟩
theorem Wi_app : ∀ {ps xs ys qs us vs : List Int}, Wi ps xs ys → Wi qs us vs → Wi (ps ++ qs) (xs ++ us) (ys ++ vs)
  | [], [], [], _, _, _, _, h => h
  | p :: ps, x :: xs, y :: ys, _, _, _, ⟨h1, h2, h3⟩, h => ⟨h1, h2, Wi_app h3 h⟩
theorem Wi_const {c : Int} : ∀ {ps xs : List Int}, ps.length = xs.length → (∀ p ∈ ps, p = 1) → (∀ x ∈ xs, x ≤ c) → Wi ps xs (List.replicate xs.length c)
  | [], [], _, _, _ => trivial
  | p :: ps, x :: xs, h, g, q => ⟨q x (by simp), fun z => absurd (g p (by simp)) (by rw [z]; decide), Wi_const (by simpa using h) (fun p hp => g p (by simp [hp])) fun x hx => q x (by simp [hx])⟩
theorem Wi_one : ∀ {ps xs : List Int}, ps.length = xs.length → (∀ p ∈ ps, p = 1) → Wi ps xs (xs.map (· + 1))
  | [], [], _, _ => trivial
  | p :: ps, x :: xs, h, g => ⟨by show x ≤ x + 1; omega, fun z => absurd (g p (by simp)) (by rw [z]; decide), Wi_one (by simpa using h) fun p hp => g p (by simp [hp])⟩
/-- what changed tells more at some place of the own part -/
theorem Wi_more : ∀ {ps xs ys : List Int}, Wi ps xs ys → ys ≠ xs → ∃ i, ∃ (h1 : i < ps.length) (h2 : i < xs.length) (h3 : i < ys.length), ps[i] ≠ 0 ∧ xs[i] < ys[i]
  | [], [], [], _, h => absurd rfl h
  | p :: ps, x :: xs, y :: ys, ⟨h1, h2, h3⟩, h => by
    by_cases e : y = x
    · obtain ⟨i, a, b, c, g⟩ := Wi_more h3 fun z => h (by rw [e, z])
      exact ⟨i + 1, by simpa using a, by simpa using b, by simpa using c, by simpa using g⟩
    · exact ⟨0, by simp, by simp, by simp, fun z => e (h2 z), by show x < y; omega⟩
theorem Wi_len : ∀ {ps xs ys : List Int}, Wi ps xs ys → ps.length = xs.length ∧ ys.length = xs.length
  | [], [], [], _ => ⟨rfl, rfl⟩
  | p :: ps, x :: xs, y :: ys, ⟨_, _, h⟩ => by
    obtain ⟨a, b⟩ := Wi_len h
    simp [a, b]
theorem pl_one (k : Nat) : ∀ p ∈ pl k (.lf true), p = 1 := (pl_all true k (.lf true) (Nat.zero_le _)).mpr rfl
theorem fillN_wi : ∀ (k : Nat) (o : Own) {ns : List Int}, o.depth ≤ k → ns.length = 2 ^ k → Wi (pl k o) ns (fillN k o ns)
  | 0, o, ns, _, h => Wi_refl (by rw [pl_len, h])
  | k + 1, o, ns, ho, h => by
    have pk : 2 ^ (k + 1) = 2 * 2 ^ k := by rw [Nat.pow_succ]; omega
    have l1 : (ns.take (2 ^ k)).length = 2 ^ k := by rw [List.length_take, h]; omega
    have l2 : (ns.drop (2 ^ k)).length = 2 ^ k := by rw [List.length_drop, h]; omega
    by_cases q : o = .lf false ∨ allEq ns
    · rw [fillN_same q]
      exact Wi_refl (by rw [pl_len, h])
    · cases o with
      | lf b =>
        cases b with
        | false => exact absurd (.inl rfl) q
        | true =>
          rw [fillN_lf q]
          exact Wi_const (by rw [pl_len, h]) (pl_one _) (hi_spec (ne_of_len h)).2
      | nd a b =>
        have e6 : (Own.nd a b).depth = max a.depth b.depth + 1 := rfl
        have wa := fillN_wi k a (by omega) l1
        have wb := fillN_wi k b (by omega) l2
        have ca : ∀ c : Int, (∀ x ∈ ns.take (2 ^ k), x ≤ c) → Wi (pl k (.lf true)) (ns.take (2 ^ k)) (List.replicate (2 ^ k) c) := fun c g => by
          have z := Wi_const (c := c) (ps := pl k (.lf true)) (xs := ns.take (2 ^ k)) (by rw [pl_len, l1]) (pl_one _) g
          rwa [l1] at z
        have cb : ∀ c : Int, (∀ x ∈ ns.drop (2 ^ k), x ≤ c) → Wi (pl k (.lf true)) (ns.drop (2 ^ k)) (List.replicate (2 ^ k) c) := fun c g => by
          have z := Wi_const (c := c) (ps := pl k (.lf true)) (xs := ns.drop (2 ^ k)) (by rw [pl_len, l2]) (pl_one _) g
          rwa [l2] at z
        have ens : ns.take (2 ^ k) ++ ns.drop (2 ^ k) = ns := List.take_append_drop _ _
        rw [fillN_nd q, pl]
        conv => arg 2; rw [← ens]
        split
        · rename_i z
          subst z
          exact Wi_app (ca _ fun x hx => Int.le_trans ((hi_spec (ne_of_len l1)).2 x hx) (Int.le_max_left _ _)) wb
        · split
          · rename_i z
            subst z
            exact Wi_app wa (cb _ fun x hx => Int.le_trans ((hi_spec (ne_of_len l2)).2 x hx) (Int.le_max_left _ _))
          · exact Wi_app wa wb
theorem growL_wi : ∀ (k : Nat) (o : Own) {ns : List Int}, o.depth ≤ k → ns.length = 2 ^ k → o.isLeast = true → o ≠ .lf false → Wi (pl k o) ns (growL k o ns).2
  | k, .lf false, ns, _, h, _, ho => absurd rfl ho
  | k, .lf true, ns, _, h, _, _ => by
    rw [growL_lf]
    exact Wi_one (by rw [pl_len, h]) (pl_one _)
  | 0, .nd a b, ns, ho, h, _, _ => by simp [Own.depth] at ho
  | k + 1, .nd a b, ns, ho, h, hl, _ => by
    have e6 : (Own.nd a b).depth = max a.depth b.depth + 1 := rfl
    have pk : 2 ^ (k + 1) = 2 * 2 ^ k := by rw [Nat.pow_succ]; omega
    have l1 : (ns.take (2 ^ k)).length = 2 ^ k := by rw [List.length_take, h]; omega
    have l2 : (ns.drop (2 ^ k)).length = 2 ^ k := by rw [List.length_drop, h]; omega
    have ens : ns.take (2 ^ k) ++ ns.drop (2 ^ k) = ns := List.take_append_drop _ _
    simp only [Own.isLeast, Bool.and_eq_true, Bool.not_eq_true', Bool.and_eq_false_iff, decide_eq_false_iff_not] at hl
    obtain ⟨⟨⟨n0, _⟩, la⟩, lb⟩ := hl
    rw [growL_nd, pl]
    conv => arg 2; rw [← ens]
    split
    · rename_i z
      have na : a ≠ .lf false := fun w => by simp [pick, w] at z
      exact Wi_app (growL_wi k a (by omega) l1 la na) (Wi_refl (by rw [pl_len, l2]))
    · rename_i z
      have nb : b ≠ .lf false := fun w => by
        have na : a ≠ .lf false := fun v => n0.elim (fun q => q v) (fun q => q w)
        simp [pick, na, w] at z
      exact Wi_app (Wi_refl (by rw [pl_len, l1])) (growL_wi k b (by omega) l2 lb nb)
end DL

namespace DL
namespace Kn
/-! ### which deeds a told part knows, over any places (points 10 to 12)
V d: what was told behind the deed d; w d: a place of the doer's own part where d told more than before. -/
variable {P : Type}
structure Known (n : Nat) (V : Nat → P → Int) (w : Nat → P) (E : P → Int) (kn : Nat → Prop) : Prop where
  lt : ∀ d, kn d → d < n
  nn : ∀ p, 0 ≤ E p
  ge : ∀ d, kn d → ∀ p, V d p ≤ E p
  le : ∀ p, E p = 0 ∨ ∃ d, kn d ∧ E p = V d p
  kw : ∀ d, d < n → V d (w d) ≤ E (w d) → kn d
variable {n : Nat} {V : Nat → P → Int} {w : Nat → P} {E E' : P → Int} {kn kn' : Nat → Prop}
/-- THE PROMISE of point 12, for two stamps of which both are as told -/
theorem Known.at_most (h : Known n V w E kn) (h' : Known n V w E' kn') : (∀ p, E p ≤ E' p) ↔ ∀ d, kn d → kn' d := by
  constructor
  · intro g d hd
    exact h'.kw d (h.lt d hd) (Int.le_trans (h.ge d hd _) (g _))
  · intro g p
    rcases h.le p with z | ⟨d, hd, z⟩
    · rw [z]; exact h'.nn p
    · rw [z]; exact h'.ge d (g d hd) p
/-- at first -/
theorem Known.first : Known 0 V w (fun _ => 0) (fun _ => False) := ⟨fun _ h => h.elim, fun _ => Int.le_refl _, fun _ h => h.elim, fun _ => .inl rfl, fun d h => absurd h (Nat.not_lt_zero d)⟩
/-- joined, told -/
theorem Known.join (h : Known n V w E kn) (h' : Known n V w E' kn') : Known n V w (fun p => max (E p) (E' p)) (fun d => kn d ∨ kn' d) where
  lt := fun d z => z.elim (h.lt d) (h'.lt d)
  nn := fun p => Int.le_trans (h.nn p) (Int.le_max_left _ _)
  ge := fun d z p => z.elim (fun q => Int.le_trans (h.ge d q p) (Int.le_max_left _ _)) fun q => Int.le_trans (h'.ge d q p) (Int.le_max_right _ _)
  le := fun p => by
    by_cases c : E p ≤ E' p
    · rw [Int.max_eq_right c]
      exact (h'.le p).imp id fun ⟨d, a, b⟩ => ⟨d, .inr a, b⟩
    · rw [Int.max_eq_left (by omega)]
      exact (h.le p).imp id fun ⟨d, a, b⟩ => ⟨d, .inl a, b⟩
  kw := fun d hd z => by
    by_cases c : E (w d) ≤ E' (w d)
    · rw [Int.max_eq_right c] at z
      exact .inr (h'.kw d hd z)
    · rw [Int.max_eq_left (by omega)] at z
      exact .inl (h.kw d hd z)
/-- the deed n, behind which the doer tells F; own: the places of its own part -/
structure Deed (n : Nat) (V : Nat → P → Int) (w : Nat → P) (E F : P → Int) (own : P → Prop) (V' : Nat → P → Int) (w' : Nat → P) : Prop where
  up : ∀ p, E p ≤ F p
  off : ∀ p, ¬ own p → F p = E p
  at_ : own (w' n) ∧ E (w' n) < F (w' n)
  eV : ∀ d, d < n → V' d = V d
  ew : ∀ d, d < n → w' d = w d
  nV : V' n = F
variable {F : P → Int} {own : P → Prop} {V' : Nat → P → Int} {w' : Nat → P}
/-- the doer -/
theorem Deed.doer (D : Deed n V w E F own V' w') (h : Known n V w E kn) (top : ∀ d, d < n → ∀ p, own p → V d p ≤ E p) : Known (n + 1) V' w' F (fun d => kn d ∨ d = n) where
  lt := fun d z => z.elim (fun q => Nat.lt_succ_of_lt (h.lt d q)) fun q => by omega
  nn := fun p => Int.le_trans (h.nn p) (D.up p)
  ge := fun d z p => by
    rcases z with q | rfl
    · rw [D.eV d (h.lt d q)]
      exact Int.le_trans (h.ge d q p) (D.up p)
    · rw [D.nV]; exact Int.le_refl _
  le := fun p => .inr ⟨n, .inr rfl, by rw [D.nV]⟩
  kw := fun d hd z => by
    by_cases q : d = n
    · exact .inr q
    · have hd' : d < n := by omega
      rw [D.eV d hd', D.ew d hd'] at z
      refine .inl (h.kw d hd' ?_)
      by_cases o : own (w d)
      · exact top d hd' _ o
      · rw [D.off _ o] at z; exact z
/-- every other stamp, of whatever moment, that tells no more than the doer did at the doer's own places -/
theorem Deed.other (D : Deed n V w E F own V' w') (h : Known n V w E' kn') (top : ∀ p, own p → E' p ≤ E p) : Known (n + 1) V' w' E' kn' where
  lt := fun d z => Nat.lt_succ_of_lt (h.lt d z)
  nn := h.nn
  ge := fun d z p => by
    rw [D.eV d (h.lt d z)]
    exact h.ge d z p
  le := fun p => (h.le p).imp id fun ⟨d, a, b⟩ => ⟨d, a, by rw [D.eV d (h.lt d a)]; exact b⟩
  kw := fun d hd z => by
    by_cases q : d = n
    · subst q
      rw [D.nV] at z
      have h1 := D.at_.2
      have h2 := top _ D.at_.1
      omega
    · have hd' : d < n := by omega
      rw [D.eV d hd', D.ew d hd'] at z
      exact h.kw d hd' z
/-- what is told nowhere tells more than the hand that has the place: behind a deed -/
theorem Deed.top (D : Deed n V w E F own V' w') {G : P → Int} {own2 : P → Prop} {E2 : P → Int} (g : ∀ p, own2 p → G p ≤ E2 p) (hF : ∀ p, own2 p → ¬ own p) (gE : ∀ p, own2 p → E p ≤ E2 p) : (∀ p, own2 p → F p ≤ E2 p) := fun p hp => by
  rw [D.off p (hF p hp)]; exact gE p hp
end Kn
end DL

set_option maxRecDepth 100000
set_option maxHeartbeats 4000000
namespace DL
open PySem PySem.Spec L2
/-! ### halves, at most, joined, on numbers at places -/
def hvL : Told → Told
  | .n i => .n i
  | .t i l _ => l.lift i
def hvR : Told → Told
  | .n i => .n i
  | .t i _ r => r.lift i
/-- no number of the one list is greater than the other's at its place -/
def leL : List Int → List Int → Bool
  | a :: as, b :: bs => decide (a ≤ b) && leL as bs
  | _, _ => true
theorem leL_app : ∀ {as bs cs ds : List Int}, as.length = bs.length → leL (as ++ cs) (bs ++ ds) = (leL as bs && leL cs ds)
  | [], [], _, _, _ => by simp [leL]
  | a :: as, b :: bs, cs, ds, h => by
    simp only [List.cons_append, leL, leL_app (as := as) (bs := bs) (by simpa using h), Bool.and_assoc]
theorem leL_const {i : Int} : ∀ {as bs : List Int}, as.length = bs.length → (∀ x ∈ as, x = i) → leL as bs = decide (∀ x ∈ bs, i ≤ x)
  | [], [], _, _ => by simp [leL]
  | a :: as, b :: bs, h, g => by
    have ea : a = i := g a (by simp)
    rw [leL, leL_const (i := i) (by simpa using h) fun x hx => g x (by simp [hx]), ea]
    by_cases h1 : i ≤ b <;> by_cases h2 : ∀ x ∈ bs, i ≤ x <;> simp [h1, h2]
theorem leL_refl : ∀ as : List Int, leL as as = true
  | [] => rfl
  | a :: as => by simp [leL, leL_refl as]
theorem nums_const : ∀ (k : Nat) (i : Int), ∀ x ∈ nums k (.n i), x = i
  | 0, i, x, h => by simpa [nums, Told.low] using h
  | k + 1, i, x, h => by
    rw [nums, List.mem_append] at h
    exact h.elim (nums_const k i x) (nums_const k i x)
theorem nums_lift : ∀ (k : Nat) (o : Told) (c : Int), o.depth ≤ k → nums k (o.lift c) = (nums k o).map (· + c)
  | 0, o, c, _ => by simp [nums, Told.lift_low]
  | k + 1, .n i, c, _ => by
    have q := nums_lift k (.n i) c (Nat.zero_le _)
    rw [show (Told.n i).lift c = .n (i + c) from rfl] at *
    rw [nums, nums, List.map_append, q]
  | k + 1, .t i l r, c, _ => by
    rw [show (Told.t i l r).lift c = .t (i + c) l r from rfl, nums, nums, List.map_map]
    apply List.map_congr_left
    intro x _
    show x + (i + c) = x + i + c
    omega
theorem hv_nums {k : Nat} {o : Told} (h : o.depth ≤ k + 1) : nums (k + 1) o = nums k (hvL o) ++ nums k (hvR o) := by
  cases o with
  | n i => rfl
  | t i l r =>
    have e6 : (Told.t i l r).depth = max l.depth r.depth + 1 := rfl
    rw [nums, List.map_append, hvL, hvR, nums_lift k l i (by omega), nums_lift k r i (by omega)]
theorem hv_depth {k : Nat} {o : Told} (h : o.depth ≤ k + 1) : (hvL o).depth ≤ k ∧ (hvR o).depth ≤ k := by
  cases o with
  | n i => exact ⟨Nat.zero_le _, Nat.zero_le _⟩
  | t i l r =>
    have e6 : (Told.t i l r).depth = max l.depth r.depth + 1 := rfl
    simp only [hvL, hvR, Told.lift_depth]
    omega
theorem hv_ok {o : Told} (h : o.ok) : (hvL o).ok ∧ (hvR o).ok := by
  cases o with
  | n i => exact ⟨h, h⟩
  | t i l r =>
    have h0 : 0 ≤ i := h.1
    have h1 := Told.low_ok h.2.1
    have h2 := Told.low_ok h.2.2
    exact ⟨Told.lift_ok h.2.1 (by omega), Told.lift_ok h.2.2 (by omega)⟩
theorem hv_least {o : Told} (h : o.isLeast = true) : (hvL o).isLeast = true ∧ (hvR o).isLeast = true := by
  cases o with
  | n i => exact ⟨rfl, rfl⟩
  | t i l r =>
    simp only [Told.isLeast, Bool.and_eq_true] at h
    simp only [hvL, hvR, Told.lift_least]
    exact ⟨h.1.2, h.2⟩
/-- of a least form the number ahead is the least one -/
theorem low_lo {k : Nat} {o : Told} (hk : o.ok) (h : o.isLeast = true) (hd : o.depth ≤ k) : o.low = lo (nums k o) := by
  have e := toldOf_nums k o hd
  rw [Told.least_id hk h] at e
  rw [← toldOf_low (nums_len k o), e]
/-- the greater number at each place -/
def mxL : List Int → List Int → List Int
  | a :: as, b :: bs => max a b :: mxL as bs
  | _, _ => []
theorem mxL_len : ∀ {as bs : List Int}, as.length = bs.length → (mxL as bs).length = as.length
  | [], [], _ => rfl
  | a :: as, b :: bs, h => by simp only [mxL, List.length_cons, mxL_len (as := as) (bs := bs) (by simpa using h)]
theorem mxL_app : ∀ {as bs cs ds : List Int}, as.length = bs.length → mxL (as ++ cs) (bs ++ ds) = mxL as bs ++ mxL cs ds
  | [], [], _, _, _ => by simp [mxL]
  | a :: as, b :: bs, cs, ds, h => by simp only [List.cons_append, mxL, mxL_app (as := as) (bs := bs) (by simpa using h)]
theorem mxL_const {i j : Int} : ∀ {as bs : List Int}, (∀ x ∈ as, x = i) → (∀ x ∈ bs, x = j) → ∀ x ∈ mxL as bs, x = max i j
  | [], _, _, _, x, h => by simp [mxL] at h
  | _ :: _, [], _, _, x, h => by simp [mxL] at h
  | a :: as, b :: bs, g1, g2, x, h => by
    rcases List.mem_cons.mp h with rfl | h
    · rw [g1 a (by simp), g2 b (by simp)]
    · exact mxL_const (fun y hy => g1 y (by simp [hy])) (fun y hy => g2 y (by simp [hy])) x h
theorem toldOf_depth : ∀ (k : Nat) (ns : List Int), (toldOf k ns).depth ≤ k
  | 0, ns => Nat.le_refl _
  | k + 1, ns => by
    rw [toldOf]
    split
    · exact Nat.zero_le _
    · have h1 := toldOf_depth k ((ns.map (· + -(lo ns))).take (2 ^ k))
      have h2 := toldOf_depth k ((ns.map (· + -(lo ns))).drop (2 ^ k))
      simp only [Told.depth]
      omega
theorem toldOf_isLeast {k : Nat} {ns : List Int} (h : ns.length = 2 ^ k) : (toldOf k ns).isLeast = true := by
  have e := toldOf_nums k (toldOf k ns) (toldOf_depth k ns)
  rw [nums_toldOf h] at e
  rw [e]
  exact Told.least_isLeast _
theorem mxL_same : ∀ as : List Int, mxL as as = as
  | [] => rfl
  | a :: as => by simp [mxL, mxL_same as]
theorem mxL_comm : ∀ as bs : List Int, mxL as bs = mxL bs as
  | [], [] => rfl
  | [], _ :: _ => rfl
  | _ :: _, [] => rfl
  | a :: as, b :: bs => by rw [mxL, mxL, mxL_comm as bs, Int.max_comm]
theorem leL_mx : ∀ {as bs : List Int}, as.length = bs.length → leL as (mxL as bs) = true
  | [], [], _ => rfl
  | a :: as, b :: bs, h => by
    have z : a ≤ max a b := Int.le_max_left _ _
    simp [mxL, leL, leL_mx (as := as) (bs := bs) (by simpa using h), z]
theorem mxL_nn : ∀ {as bs : List Int}, (∀ x ∈ as, 0 ≤ x) → ∀ x ∈ mxL as bs, 0 ≤ x
  | [], _, _, x, h => by simp [mxL] at h
  | _ :: _, [], _, x, h => by simp [mxL] at h
  | a :: as, b :: bs, g, x, h => by
    rcases List.mem_cons.mp h with rfl | h
    · exact Int.le_trans (g a (by simp)) (Int.le_max_left _ _)
    · exact mxL_nn (as := as) (bs := bs) (fun y hy => g y (by simp [hy])) x h
theorem mxL_zip : ∀ as bs : List Int, List.zipWith (fun x y => D.int (max x y)) as bs = iL (mxL as bs)
  | [], _ => by simp [mxL, iL]
  | _ :: _, [] => by simp [mxL, iL]
  | a :: as, b :: bs => by simp only [List.zipWith_cons_cons, mxL_zip as bs, mxL]; rfl
theorem leL_zip : ∀ as bs : List Int, ∃ qs : List Bool, List.zipWith (fun x y => D.bl (decide (x ≤ y))) as bs = bL qs ∧ qs.all id = leL as bs
  | [], _ => ⟨[], by simp [bL], rfl⟩
  | _ :: _, [] => ⟨[], by simp [bL], rfl⟩
  | a :: as, b :: bs => by
    obtain ⟨qs, h1, h2⟩ := leL_zip as bs
    exact ⟨decide (a ≤ b) :: qs, by rw [List.zipWith_cons_cons, h1]; rfl, by simp [h2, leL]⟩
end DL

set_option maxRecDepth 100000
set_option maxHeartbeats 4000000
namespace DL
open PySem PySem.Spec L2
/-! ### filled, grown, raised on told parts, as the program goes: by halves -/
namespace Told
theorem over_lift (a b : Told) (m : Int) : over (a.lift m) (b.lift m) = (over a b).lift m := by
  by_cases h : twin a b = true
  · obtain ⟨c, rfl, rfl⟩ := twin_iff.mp h
    rw [over_twin rfl rfl]
    exact over_twin rfl rfl
  · rw [Bool.not_eq_true] at h
    rw [over_else h, over_else (by rw [twin_lift]; exact h), lift_low, lift_low, lift_lift, lift_lift]
    have e : min (a.low + m) (b.low + m) = min a.low b.low + m := by omega
    rw [e, show m + -(min a.low b.low + m) = -(min a.low b.low) by omega]
    rfl
theorem top_lift (a : Told) (m : Int) : (a.lift m).top = a.top + m := by
  cases a with
  | n i => rfl
  | t i l r => simp only [lift, top]; omega
theorem over_inj {a b c d : Told} (h : over a b = over c d) : a = c ∧ b = d := by
  have nt : ∀ {a b c : Told} {i : Int}, twin a b = false → over a b ≠ n i := fun h z => by rw [over_else h] at z; cases z
  have back : ∀ {a b : Told} {m : Int} {x y : Told}, over a b = t m x y → a = x.lift m ∧ b = y.lift m := fun {a b m x y} z => by
    by_cases h : twin a b = true
    · obtain ⟨c, rfl, rfl⟩ := twin_iff.mp h
      rw [over_twin rfl rfl] at z
      cases z
    · rw [Bool.not_eq_true] at h
      rw [over_else h] at z
      cases z
      rw [lift_lift, lift_lift, show -(min a.low b.low) + min a.low b.low = (0 : Int) by omega, lift_zero, lift_zero]
      exact ⟨rfl, rfl⟩
  by_cases h1 : twin a b = true
  · obtain ⟨i, rfl, rfl⟩ := twin_iff.mp h1
    by_cases h2 : twin c d = true
    · obtain ⟨j, rfl, rfl⟩ := twin_iff.mp h2
      rw [over_twin rfl rfl, over_twin rfl rfl] at h
      cases h
      exact ⟨rfl, rfl⟩
    · rw [Bool.not_eq_true] at h2
      rw [over_twin rfl rfl] at h
      exact absurd h.symm (nt (c := c) h2)
  · rw [Bool.not_eq_true] at h1
    obtain ⟨m, x, y, e⟩ : ∃ m x y, over a b = t m x y := ⟨_, _, _, over_else h1⟩
    obtain ⟨g1, g2⟩ := back e
    obtain ⟨k1, k2⟩ := back (h.symm.trans e)
    exact ⟨g1.trans k1.symm, g2.trans k2.symm⟩
end Told
theorem fillT_n (o : Own) (i : Int) : fillT o (.n i) = .n i := by
  cases o with
  | lf b => cases b <;> rfl
  | nd a b => rfl
theorem fillT_lift : ∀ (o : Own) (t : Told) (m : Int), fillT o (t.lift m) = (fillT o t).lift m
  | o, .n i, m => by
    rw [fillT_n]
    exact fillT_n o (i + m)
  | .lf false, .t i l r, m => rfl
  | .lf true, .t i l r, m => by
    have e := Told.top_lift (.t i l r) m
    show fillT (.lf true) (.t (i + m) l r) = (Told.n (Told.t i l r).top).lift m
    rw [fillT]
    show Told.n (Told.t (i + m) l r).top = .n ((Told.t i l r).top + m)
    rw [← e]
    rfl
  | .nd a b, .t i l r, m => by
    show fillT (.nd a b) (.t (i + m) l r) = _
    rw [fillT, fillT]
    split
    · rw [Told.lift_lift]
    · split <;> rw [Told.lift_lift]
/-- as the program fills it -/
theorem fillT_hv {a b : Own} {t : Told} (ht : ∀ i, t ≠ .n i) : fillT (.nd a b) t =
    if a = .lf true then Told.over (.n (max (hvL t).top (fillT b (hvR t)).low)) (fillT b (hvR t))
    else if b = .lf true then Told.over (fillT a (hvL t)) (.n (max (hvR t).top (fillT a (hvL t)).low))
    else Told.over (fillT a (hvL t)) (fillT b (hvR t)) := by
  cases t with
  | n i => exact absurd rfl (ht i)
  | t i l r =>
    have mx : ∀ x y : Int, max (x + i) (y + i) = max x y + i := by omega
    rw [fillT, hvL, hvR, fillT_lift, fillT_lift, Told.top_lift, Told.top_lift, Told.lift_low, Told.lift_low, mx, mx]
    split
    · rw [show (Told.n (max l.top (fillT b r).low + i)) = (Told.n (max l.top (fillT b r).low)).lift i from rfl, Told.over_lift]
    · split
      · rw [show (Told.n (max r.top (fillT a l).low + i)) = (Told.n (max r.top (fillT a l).low)).lift i from rfl, Told.over_lift]
      · rw [Told.over_lift]
theorem fillT_depth : ∀ (o : Own) (t : Told), (fillT o t).depth ≤ t.depth
  | o, .n i => by rw [fillT_n]; exact Nat.le_refl _
  | .lf false, .t i l r => Nat.le_refl _
  | .lf true, .t i l r => Nat.zero_le _
  | .nd a b, .t i l r => by
    have ha := fillT_depth a l
    have hb := fillT_depth b r
    have e6 : (Told.t i l r).depth = max l.depth r.depth + 1 := rfl
    have e0 : ∀ j : Int, (Told.n j).depth = 0 := fun _ => rfl
    rw [fillT]
    split
    · have z := Told.over_depth (.n (max l.top (fillT b r).low)) (fillT b r)
      rw [e0] at z
      rw [Told.lift_depth]
      omega
    · split
      · have z := Told.over_depth (fillT a l) (.n (max r.top (fillT a l).low))
        rw [e0] at z
        rw [Told.lift_depth]
        omega
      · have z := Told.over_depth (fillT a l) (fillT b r)
        rw [Told.lift_depth]
        omega
/-- each place of the own part that is had whole meets a number -/
def Fit : Own → Told → Prop
  | .lf false, _ => True
  | .lf true, t => ∃ i, t = .n i
  | .nd a b, t => Fit a (hvL t) ∧ Fit b (hvR t)
theorem Fit_n : ∀ (o : Own) (i : Int), Fit o (.n i)
  | .lf false, _ => trivial
  | .lf true, i => ⟨i, rfl⟩
  | .nd a b, i => ⟨Fit_n a i, Fit_n b i⟩
theorem Fit_lift : ∀ (o : Own) (t : Told) (m : Int), Fit o t → Fit o (t.lift m)
  | .lf false, _, _, _ => trivial
  | .lf true, _, m, ⟨i, e⟩ => ⟨i + m, by rw [e]; rfl⟩
  | .nd a b, .n i, m, _ => ⟨Fit_n a _, Fit_n b _⟩
  | .nd a b, .t i l r, m, ⟨h1, h2⟩ => by
    have z1 := Fit_lift a (l.lift i) m h1
    have z2 := Fit_lift b (r.lift i) m h2
    rw [Told.lift_lift] at z1 z2
    exact ⟨z1, z2⟩
theorem Fit_of : ∀ (o : Own) (t : Told), t.ok → t.isLeast = true → fillT o t = t → Fit o t
  | o, .n i, _, _, _ => Fit_n o i
  | .lf false, .t i l r, _, _, _ => trivial
  | .lf true, .t i l r, _, _, h => by cases h
  | .nd a b, .t i l r, hk, hl, h => by
    have e := Told.least_id hk hl
    simp only [Told.isLeast, Bool.and_eq_true] at hl
    rw [Told.least, Told.least_id hk.2.1 hl.1.2, Told.least_id hk.2.2 hl.2] at e
    rw [fillT] at h
    have inj : ∀ {x y : Told}, (Told.over x y).lift i = .t i l r → x = l ∧ y = r := fun {x y} z => by
      have z2 := congrArg (fun u => Told.lift u (-i)) (z.trans e.symm)
      simp only [Told.lift_lift] at z2
      rw [show i + -i = (0 : Int) by omega, Told.lift_zero, Told.lift_zero] at z2
      exact Told.over_inj z2
    split at h
    · rename_i q
      subst q
      obtain ⟨z1, z2⟩ := inj h
      exact ⟨⟨_, by rw [← z1]; rfl⟩, Fit_lift b r i (Fit_of b r hk.2.2 hl.2 z2)⟩
    · split at h
      · rename_i q
        subst q
        obtain ⟨z1, z2⟩ := inj h
        exact ⟨Fit_lift a l i (Fit_of a l hk.2.1 hl.1.2 z1), ⟨_, by rw [← z2]; rfl⟩⟩
      · obtain ⟨z1, z2⟩ := inj h
        exact ⟨Fit_lift a l i (Fit_of a l hk.2.1 hl.1.2 z1), Fit_lift b r i (Fit_of b r hk.2.2 hl.2 z2)⟩
theorem growT_lift : ∀ (o : Own) (t : Told) (m : Int), growT o (t.lift m) = ((growT o t).1, (growT o t).2.lift m)
  | .lf b, t, m => by
    show ((0 : Int), (t.lift m).lift 1) = ((0 : Int), (t.lift 1).lift m)
    rw [Told.lift_lift, Told.lift_lift, Int.add_comm]
  | .nd a b, .n i, m => by
    show growT (.nd a b) (.n (i + m)) = _
    rw [growT, growT]
    split <;> rw [Told.lift_lift]
  | .nd a b, .t i l r, m => by
    show growT (.nd a b) (.t (i + m) l r) = _
    rw [growT, growT]
    split <;> rw [Told.lift_lift]
def cost : Told → Int
  | .n _ => 1001
  | .t _ _ _ => 1
/-- as the program grows it -/
theorem growT_hv (a b : Own) (t : Told) : growT (.nd a b) t =
    if pick a b (growT a (hvL t)).1 (growT b (hvR t)).1 = true then (cost t + (growT a (hvL t)).1, Told.over (growT a (hvL t)).2 (hvR t))
    else (cost t + (growT b (hvR t)).1, Told.over (hvL t) (growT b (hvR t)).2) := by
  cases t with
  | n i =>
    have e : ∀ o, growT o (.n i) = ((growT o (.n 0)).1, (growT o (.n 0)).2.lift i) := fun o => by
      have z := growT_lift o (.n 0) i
      rw [show (Told.n 0).lift i = .n i by simp [Told.lift]] at z
      exact z
    have z0 : (Told.n i) = (Told.n 0).lift i := by simp [Told.lift]
    have eg : growT (.nd a b) (.n i) = if pick a b (growT a (.n 0)).1 (growT b (.n 0)).1 = true then ((growT a (.n 0)).1 + 1001, (Told.over (growT a (.n 0)).2 (.n 0)).lift i) else ((growT b (.n 0)).1 + 1001, (Told.over (.n 0) (growT b (.n 0)).2).lift i) := by rw [growT]
    have l0 : hvL (.n i) = (Told.n 0).lift i := z0
    have r0 : hvR (.n i) = (Told.n 0).lift i := z0
    have c0 : cost (.n i) = 1001 := rfl
    rw [eg]
    simp only [l0, r0, c0, growT_lift, Told.over_lift]
    split <;> rw [Int.add_comm]
  | t i l r =>
    have eg : growT (.nd a b) (.t i l r) = if pick a b (growT a l).1 (growT b r).1 = true then ((growT a l).1 + 1, (Told.over (growT a l).2 r).lift i) else ((growT b r).1 + 1, (Told.over l (growT b r).2).lift i) := by rw [growT]
    have l0 : hvL (.t i l r) = l.lift i := rfl
    have r0 : hvR (.t i l r) = r.lift i := rfl
    have c0 : cost (.t i l r) = 1 := rfl
    rw [eg]
    simp only [l0, r0, c0, growT_lift, Told.over_lift]
    split <;> rw [Int.add_comm]
theorem growT_depth : ∀ (o : Own) (t : Told) (k : Nat), o.depth ≤ k → t.depth ≤ k → (growT o t).2.depth ≤ k
  | .lf b, t, k, _, h => by
    show (t.lift 1).depth ≤ k
    rw [Told.lift_depth]; exact h
  | .nd a b, t, 0, h, _ => by simp [Own.depth] at h
  | .nd a b, t, k + 1, h, h2 => by
    have e6 : (Own.nd a b).depth = max a.depth b.depth + 1 := rfl
    obtain ⟨d1, d2⟩ := hv_depth h2
    have ga := growT_depth a (hvL t) k (by omega) d1
    have gb := growT_depth b (hvR t) k (by omega) d2
    rw [growT_hv]
    split
    · have z := Told.over_depth (growT a (hvL t)).2 (hvR t)
      show (Told.over _ _).depth ≤ _
      omega
    · have z := Told.over_depth (hvL t) (growT b (hvR t)).2
      show (Told.over _ _).depth ≤ _
      omega
/-- the told part behind a deed -/
def raiseT (o : Own) (t : Told) : Told := if fillT o t = t then (growT o t).2 else fillT o t
def raiseN (k : Nat) (o : Own) (ns : List Int) : List Int := if fillN k o ns = ns then (growL k o ns).2 else fillN k o ns
theorem raiseN_len {k : Nat} {o : Own} {ns : List Int} (h : o.depth ≤ k) (hl : ns.length = 2 ^ k) : (raiseN k o ns).length = 2 ^ k := by
  unfold raiseN
  split
  · exact growL_len k o h hl
  · exact fillN_len k o hl
theorem raiseT_toldOf {k : Nat} {o : Own} {ns : List Int} (h : o.depth ≤ k) (hl : ns.length = 2 ^ k) : raiseT o (toldOf k ns) = toldOf k (raiseN k o ns) := by
  have e := fillT_toldOf k o h hl
  unfold raiseT raiseN
  rw [e, growT_toldOf k o h hl]
  by_cases z : fillN k o ns = ns
  · rw [if_pos (by rw [z]), if_pos z]
  · rw [if_neg (fun w => z ?_), if_neg z]
    have w2 := congrArg (nums k) w
    rw [nums_toldOf (fillN_len k o hl), nums_toldOf hl] at w2
    exact w2
theorem raiseT_depth {o : Own} {t : Told} {k : Nat} (h : o.depth ≤ k) (h2 : t.depth ≤ k) : (raiseT o t).depth ≤ k := by
  unfold raiseT
  split
  · exact growT_depth o t k h h2
  · exact Nat.le_trans (fillT_depth o t) h2
/-! the own part with a place far down on one side -/
def chO (left : Bool) : Nat → Own
  | 0 => .lf true
  | k + 1 => if left then .nd (chO left k) (.lf false) else .nd (.lf false) (chO left k)
def chT (left : Bool) (x : Int) : Nat → Told
  | 0 => .n x
  | k + 1 => if left then .t 0 (chT left x k) (.n 0) else .t 0 (.n 0) (chT left x k)
theorem chO_depth (s : Bool) : ∀ k, (chO s k).depth = k
  | 0 => rfl
  | k + 1 => by cases s <;> simp [chO, Own.depth, chO_depth _ k]
theorem chT_depth (s : Bool) (x : Int) : ∀ k, (chT s x k).depth = k
  | 0 => rfl
  | k + 1 => by cases s <;> simp [chT, Told.depth, chT_depth _ x k]
theorem chT_low (s : Bool) (x : Int) : ∀ k, (chT s x (k + 1)).low = 0
  | k => by cases s <;> rfl
theorem chO_ne (s : Bool) (k : Nat) : chO s (k + 1) ≠ .lf true ∧ ∀ k, chO s k ≠ .lf false := by
  constructor
  · cases s <;> simp [chO]
  · intro k; cases k <;> cases s <;> simp [chO]
theorem over0 {x : Told} (h : x.low = 0 ∨ 0 < x.low) : Told.over (.n 0) x = (if x = .n 0 then .n 0 else .t 0 (.n 0) x) ∧ Told.over x (.n 0) = (if x = .n 0 then .n 0 else .t 0 x (.n 0)) := by
  by_cases z : x = .n 0
  · subst z; exact ⟨rfl, rfl⟩
  · rw [if_neg z, if_neg z]
    have t1 : Told.twin (.n 0) x = false := by
      rw [← Bool.not_eq_true]; intro w
      obtain ⟨a, e1, e2⟩ := Told.twin_iff.mp w
      cases e1; exact z e2
    have t2 : Told.twin x (.n 0) = false := by
      rw [← Bool.not_eq_true]; intro w
      obtain ⟨a, e1, e2⟩ := Told.twin_iff.mp w
      cases e2; exact z e1
    have m1 : min (Told.n 0).low x.low = 0 := by show min 0 x.low = 0; omega
    have m2 : min x.low (Told.n 0).low = 0 := by show min x.low 0 = 0; omega
    rw [Told.over_else t1, Told.over_else t2, m1, m2, Int.neg_zero, Told.lift_zero, Told.lift_zero]
    exact ⟨rfl, rfl⟩
theorem ch_over (s : Bool) {x : Int} (hx : 0 < x) (k : Nat) : Told.over (.n 0) (chT s x k) = .t 0 (.n 0) (chT s x k) ∧ Told.over (chT s x k) (.n 0) = .t 0 (chT s x k) (.n 0) := by
  have h : (chT s x k).low = 0 ∨ 0 < (chT s x k).low := by
    cases k with
    | zero => exact .inr hx
    | succ k => exact .inl (chT_low s x k)
  have ne : chT s x k ≠ .n 0 := by
    cases k with
    | zero =>
      intro z
      have z' : x = 0 := Told.n.inj z
      omega
    | succ k => cases s <;> simp [chT]
  obtain ⟨a, b⟩ := over0 h
  rw [a, b, if_neg ne, if_neg ne]
  exact ⟨rfl, rfl⟩
theorem ch_fill (s : Bool) : ∀ k, fillT (chO s k) (chT s 1 k) = chT s 1 k
  | 0 => by cases s <;> rfl
  | k + 1 => by
    have ih := ch_fill s k
    obtain ⟨o1, o2⟩ := ch_over s (x := 1) (by decide) k
    cases s
    · rw [show chO false (k + 1) = .nd (.lf false) (chO false k) from rfl, show chT false 1 (k + 1) = .t 0 (.n 0) (chT false 1 k) from rfl, fillT, if_neg (by decide), ih]
      split
      · rename_i z
        cases k with
        | zero => rfl
        | succ k => exact absurd z (chO_ne false k).1
      · rw [show fillT (.lf false) (.n 0) = .n 0 from rfl, o1]; rfl
    · rw [show chO true (k + 1) = .nd (chO true k) (.lf false) from rfl, show chT true 1 (k + 1) = .t 0 (chT true 1 k) (.n 0) from rfl, fillT, ih]
      split
      · rename_i z
        cases k with
        | zero => rfl
        | succ k => exact absurd z (chO_ne true k).1
      · rw [if_neg (by decide), show fillT (.lf false) (.n 0) = .n 0 from rfl, o2]; rfl
theorem ch_grow (s : Bool) : ∀ k : Nat, growT (chO s k) (chT s 1 k) = ((k : Int), chT s 2 k)
  | 0 => by cases s <;> rfl
  | k + 1 => by
    have ih := ch_grow s k
    obtain ⟨o1, o2⟩ := ch_over s (x := 2) (by decide) k
    have n0 := (chO_ne s 0).2 k
    have ec : (((k + 1 : Nat)) : Int) = (k : Int) + 1 := by omega
    cases s
    · rw [show chO false (k + 1) = .nd (.lf false) (chO false k) from rfl, show chT false 1 (k + 1) = .t 0 (.n 0) (chT false 1 k) from rfl, growT, ih, if_neg (by simp [pick]), o1, ec, Told.lift_zero]; rfl
    · rw [show chO true (k + 1) = .nd (chO true k) (.lf false) from rfl, show chT true 1 (k + 1) = .t 0 (chT true 1 k) (.n 0) from rfl, growT, ih, if_pos (by simp [pick, n0]), o2, ec, Told.lift_zero]; rfl
/-- what the law calls far: a place far down on one side, one beneath a number on the other -/
def farO (s : Bool) (k : Nat) : Own := if s then .nd (chO false k) (.nd (.lf false) (.lf true)) else .nd (.nd (.lf false) (.lf true)) (chO false k)
def farT (s : Bool) (x : Int) (k : Nat) : Told := if s then .t 0 (chT false x k) (.n 0) else .t 0 (.n 0) (chT false x k)
theorem far_fill (s : Bool) {k : Nat} (h : 1 ≤ k) : fillT (farO s k) (farT s 1 k) = farT s 1 k := by
  obtain ⟨k, rfl⟩ : ∃ j, k = j + 1 := ⟨k - 1, by omega⟩
  obtain ⟨o1, o2⟩ := ch_over false (x := 1) (by decide) (k + 1)
  have n1 := (chO_ne false k).1
  have ih := ch_fill false (k + 1)
  cases s
  · rw [show farO false (k + 1) = .nd (.nd (.lf false) (.lf true)) (chO false (k + 1)) from rfl, show farT false 1 (k + 1) = .t 0 (.n 0) (chT false 1 (k + 1)) from rfl, fillT, if_neg (by decide), if_neg n1, ih, fillT_n, o1]; rfl
  · rw [show farO true (k + 1) = .nd (chO false (k + 1)) (.nd (.lf false) (.lf true)) from rfl, show farT true 1 (k + 1) = .t 0 (chT false 1 (k + 1)) (.n 0) from rfl, fillT, if_neg n1, if_neg (by decide), ih, fillT_n, o2]; rfl
theorem far_grow (s : Bool) {k : Nat} (h : k ≤ 900) : growT (farO s k) (farT s 1 k) = ((k : Int) + 1, farT s 2 k) := by
  have ih := ch_grow false k
  obtain ⟨o1, o2⟩ := ch_over false (x := 2) (by decide) k
  have n0 := (chO_ne false 0).2 k
  have g : growT (.nd (.lf false) (.lf true)) (.n 0) = (1001, .t 0 (.n 0) (.n 1)) := by decide
  cases s
  · rw [show farO false k = .nd (.nd (.lf false) (.lf true)) (chO false k) from rfl, show farT false 1 k = .t 0 (.n 0) (chT false 1 k) from rfl, growT, ih, g, if_neg (by simp [pick, n0]; omega), o1, Told.lift_zero]; rfl
  · rw [show farO true k = .nd (chO false k) (.nd (.lf false) (.lf true)) from rfl, show farT true 1 k = .t 0 (chT false 1 k) (.n 0) from rfl, growT, ih, g, if_pos (by simp [pick, n0]; omega), o2, Told.lift_zero]; rfl
theorem far_raise (s : Bool) {k : Nat} (h : 1 ≤ k) (h2 : k ≤ 900) : raiseT (farO s k) (farT s 1 k) = farT s 2 k := by
  unfold raiseT
  rw [if_pos (far_fill s h), far_grow s h2]
theorem far_depth (s : Bool) {k : Nat} (h : 1 ≤ k) (x : Int) : (farO s k).depth = k + 1 ∧ (farT s x k).depth = k + 1 := by
  have a := chO_depth false k
  have b := chT_depth false x k
  cases s
  · have d1 : (farO false k).depth = max (max 0 0 + 1) (chO false k).depth + 1 := rfl
    have d2 : (farT false x k).depth = max 0 (chT false x k).depth + 1 := rfl
    omega
  · have d1 : (farO true k).depth = max (chO false k).depth (max 0 0 + 1) + 1 := rfl
    have d2 : (farT true x k).depth = max (chT false x k).depth 0 + 1 := rfl
    omega
theorem ch_least : ∀ k, (chO false k).isLeast = true ∧ (chT false 1 k).ok ∧ (chT false 1 k).isLeast = true
  | 0 => ⟨rfl, by show (0 : Int) ≤ 1; decide, rfl⟩
  | k + 1 => by
    obtain ⟨h1, h2, h3⟩ := ch_least k
    have n0 := (chO_ne false 0).2 k
    have ne : chT false 1 k ≠ .n 0 := by
      cases k with
      | zero => intro z; cases z
      | succ k => simp [chT]
    have tw : Told.twin (.n 0) (chT false 1 k) = false := by
      rw [← Bool.not_eq_true]
      intro w
      obtain ⟨a, e1, e2⟩ := Told.twin_iff.mp w
      cases e1; exact ne e2
    refine ⟨by simp [chO, Own.isLeast, h1, n0], ⟨Int.le_refl _, Int.le_refl _, h2⟩, ?_⟩
    simp [chT, Told.isLeast, Told.above, tw, Told.low, h3]
theorem far_least (s : Bool) (k : Nat) : (farO s k).isLeast = true ∧ (farT s 1 k).ok ∧ (farT s 1 k).isLeast = true := by
  obtain ⟨h1, h2, h3⟩ := ch_least (k + 1)
  obtain ⟨g1, g2, g3⟩ := ch_least k
  have n0 := (chO_ne false 0).2 k
  cases s
  · exact ⟨by simp [farO, Own.isLeast, g1], h2, h3⟩
  · refine ⟨by simp [farO, Own.isLeast, g1], ⟨Int.le_refl _, g2, Int.le_refl _⟩, ?_⟩
    have h3' : (Told.t 0 (.n 0) (chT false 1 k)).isLeast = true := h3
    simp only [Told.isLeast, Told.above, Bool.and_eq_true, Bool.not_eq_true'] at h3'
    have tw : Told.twin (chT false 1 k) (.n 0) = false := by
      rw [← Bool.not_eq_true]
      intro w
      obtain ⟨a, e1, e2⟩ := Told.twin_iff.mp w
      cases e2
      have z := h3'.1.1.1
      rw [e1] at z
      cases z
    simp [farT, Told.isLeast, Told.above, tw, Told.low, g3]
theorem far_ne (s : Bool) (k : Nat) : farO s k ≠ .lf false := by cases s <;> simp [farO]
theorem far_fit (s : Bool) {k : Nat} (h : 1 ≤ k) : Fit (farO s k) (farT s 1 k) := Fit_of _ _ (far_least s k).2.1 (far_least s k).2.2 (far_fill s h)
end DL

set_option maxRecDepth 100000
set_option maxHeartbeats 4000000
namespace DL
open PySem PySem.Spec L2
/-! ### raised: within the own part, and something changed -/
theorem map1_ne : ∀ {ns : List Int}, ns ≠ [] → ns.map (· + 1) ≠ ns
  | [], h => absurd rfl h
  | x :: t, _ => fun e => by
    have z : x + 1 = x := (List.cons.inj e).1
    omega
theorem growL_ne : ∀ (k : Nat) (o : Own) {ns : List Int}, o.depth ≤ k → ns.length = 2 ^ k → (growL k o ns).2 ≠ ns
  | k, .lf b, ns, _, h => by rw [growL_lf]; exact map1_ne (ne_of_len h)
  | 0, .nd a b, ns, ho, h => by simp [Own.depth] at ho
  | k + 1, .nd a b, ns, ho, h => by
    have e6 : (Own.nd a b).depth = max a.depth b.depth + 1 := rfl
    have pk : 2 ^ (k + 1) = 2 * 2 ^ k := by rw [Nat.pow_succ]; omega
    have l1 : (ns.take (2 ^ k)).length = 2 ^ k := by rw [List.length_take, h]; omega
    have l2 : (ns.drop (2 ^ k)).length = 2 ^ k := by rw [List.length_drop, h]; omega
    have ha := growL_ne k a (by omega) l1
    have hb := growL_ne k b (by omega) l2
    have ga := growL_len k a (by omega) l1
    have ens : ns = ns.take (2 ^ k) ++ ns.drop (2 ^ k) := (List.take_append_drop _ _).symm
    rw [growL_nd]
    split
    · intro z
      have z2 := z.trans ens
      exact ha (List.append_inj z2 (by rw [ga, l1])).1
    · intro z
      have z2 := z.trans ens
      exact hb (List.append_inj z2 rfl).2
theorem raiseN_wi {k : Nat} {o : Own} {ns : List Int} (ho : o.depth ≤ k) (hl : ns.length = 2 ^ k) (ol : o.isLeast = true) (o0 : o ≠ .lf false) : Wi (pl k o) ns (raiseN k o ns) ∧ raiseN k o ns ≠ ns := by
  unfold raiseN
  split
  · exact ⟨growL_wi k o ho hl ol o0, growL_ne k o ho hl⟩
  · exact ⟨fillN_wi k o ho hl, ‹_›⟩
theorem Wi_nn : ∀ {ps xs ys : List Int}, Wi ps xs ys → (∀ x ∈ xs, 0 ≤ x) → ∀ y ∈ ys, 0 ≤ y
  | [], [], [], _, _, y, h => by simp at h
  | p :: ps, x :: xs, y :: ys, ⟨h1, _, h3⟩, g, z, hz => by
    rcases List.mem_cons.mp hz with rfl | hz
    · exact Int.le_trans (g x (by simp)) h1
    · exact Wi_nn h3 (fun w hw => g w (by simp [hw])) z hz
/-- the told part behind a deed: all that is told of it -/
theorem raiseT_all {k : Nat} {o : Own} {t : Told} (ho : o.depth ≤ k) (ol : o.isLeast = true) (o0 : o ≠ .lf false) (ht : t.depth ≤ k) (tok : t.ok) (tl : t.isLeast = true) :
    (raiseT o t).depth ≤ k ∧ (raiseT o t).ok ∧ (raiseT o t).isLeast = true ∧ Wi (pl k o) (nums k t) (nums k (raiseT o t)) ∧ nums k (raiseT o t) ≠ nums k t := by
  have hl := nums_len k t
  have e : t = toldOf k (nums k t) := by rw [toldOf_nums k t ht, Told.least_id tok tl]
  have er := raiseT_toldOf (o := o) ho hl
  rw [← e] at er
  have rl := raiseN_len (o := o) ho hl
  obtain ⟨w, ne⟩ := raiseN_wi ho hl ol o0
  have nn := Wi_nn w (nums_nn k tok)
  refine ⟨raiseT_depth ho ht, ?_, ?_, ?_, ?_⟩
  · rw [er]; exact toldOf_ok rl nn
  · rw [er]; exact toldOf_isLeast rl
  · rw [er, nums_toldOf rl]; exact w
  · rw [er, nums_toldOf rl]; exact ne
theorem Told.size_lt : ∀ o : Told, o.size < 2 ^ (o.depth + 1)
  | .n _ => by simp [Told.size, Told.depth]
  | .t i l r => by
    have h1 := Told.size_lt l
    have h2 := Told.size_lt r
    have m1 : 2 ^ (l.depth + 1) ≤ 2 ^ (max l.depth r.depth + 1) := Nat.pow_le_pow_right (by decide) (by omega)
    have m2 : 2 ^ (r.depth + 1) ≤ 2 ^ (max l.depth r.depth + 1) := Nat.pow_le_pow_right (by decide) (by omega)
    have e : 2 ^ ((Told.t i l r).depth + 1) = 2 * 2 ^ (max l.depth r.depth + 1) := by
      show 2 ^ (max l.depth r.depth + 1 + 1) = _
      rw [Nat.pow_succ]; omega
    rw [e, Told.size]
    omega
theorem Own.size_lt : ∀ o : Own, o.size < 2 ^ (o.depth + 1)
  | .lf _ => by simp [Own.size, Own.depth]
  | .nd l r => by
    have h1 := Own.size_lt l
    have h2 := Own.size_lt r
    have m1 : 2 ^ (l.depth + 1) ≤ 2 ^ (max l.depth r.depth + 1) := Nat.pow_le_pow_right (by decide) (by omega)
    have m2 : 2 ^ (r.depth + 1) ≤ 2 ^ (max l.depth r.depth + 1) := Nat.pow_le_pow_right (by decide) (by omega)
    have e : 2 ^ ((Own.nd l r).depth + 1) = 2 * 2 ^ (max l.depth r.depth + 1) := by
      show 2 ^ (max l.depth r.depth + 1 + 1) = _
      rw [Nat.pow_succ]; omega
    rw [e, Own.size]
    omega
theorem Own.partO_least : ∀ a : Own, a.isLeast = true → (Own.partO a).1.isLeast = true ∧ (Own.partO a).2.isLeast = true
  | .lf b, _ => by cases b <;> exact ⟨rfl, rfl⟩
  | .nd l r, h => by
    simp only [Own.isLeast, Bool.and_eq_true, Bool.not_eq_true', Bool.and_eq_false_iff, decide_eq_false_iff_not] at h
    obtain ⟨⟨⟨n0, n1⟩, hl⟩, hr⟩ := h
    rw [Own.partO]
    split
    · rename_i z
      have nr : r ≠ .lf false := n0.elim (fun q => absurd z q) id
      obtain ⟨p1, p2⟩ := Own.partO_least r hr
      obtain ⟨q1, q2⟩ := Own.partO_ne r nr
      simp [Own.isLeast, p1, p2, q1, q2]
    · rename_i z
      split
      · obtain ⟨p1, p2⟩ := Own.partO_least l hl
        obtain ⟨q1, q2⟩ := Own.partO_ne l z
        simp [Own.isLeast, p1, p2, q1, q2]
      · rename_i w
        simp [Own.isLeast, hl, hr, z, w]
/-! lists of ints, compared -/
theorem eqvAll_iL : ∀ a b : List Int, PyData.eqvAll (pys (iL a)) (pys (iL b)) = decide (a = b)
  | [], [] => by simp [iL, pys, PyData.eqvAll]
  | [], _ :: _ => by simp [iL, pys, PyData.eqvAll]
  | _ :: _, [] => by simp [iL, pys, PyData.eqvAll]
  | x :: a, y :: b => by
    have ih := eqvAll_iL a b
    simp only [iL, List.map_cons, pys, D.py, PyData.eqvAll, PyData.eqv] at ih ⊢
    rw [ih]
    by_cases h1 : x = y <;> by_cases h2 : a = b <;> simp [h1, h2]
theorem eqv_iL (a b : List Int) : (D.lst (iL a)).eqv (.lst (iL b)) = decide (a = b) := eqvAll_iL a b
theorem sh_iL (a : List Int) : (D.lst (iL a)).Sh := by
  have h1 : ∀ a : List Int, PyData.canLayAll0 (pys (iL a)) = true ∧ PyData.depthAll (pys (iL a)) = 0 := by
    intro a
    induction a with
    | nil => exact ⟨rfl, rfl⟩
    | cons x a ih => exact ⟨by simpa [iL, pys, PyData.canLayAll0, D.py, PyData.canLay0] using ih.1, by simpa [iL, pys, PyData.depthAll, D.py, PyData.depth] using ih.2⟩
  show (PyData.canLayAll0 (pys (iL a)) && decide (PyData.depthAll (pys (iL a)) + 1 ≤ 64)) = true
  rw [(h1 a).1, (h1 a).2]
  rfl
/-- what enumerate hands out of ints -/
theorem enum_iL (ps : List Int) : ((iL ps).mapIdx fun i d => D.tup [.int (i : Nat), d]) = ps.zipIdx.map fun p => D.tup [.int (p.2 : Nat), .int p.1] := by
  rw [List.mapIdx_eq_zipIdx_map, iL, List.zipIdx_map, List.map_map]
  rfl
theorem Wi_get : ∀ {ps xs ys : List Int} {i : Nat}, Wi ps xs ys → ps[i]? = some 0 → ∃ x, xs[i]? = some x ∧ ys[i]? = some x
  | [], [], [], i, _, e => by simp at e
  | p :: ps, x :: xs, y :: ys, 0, ⟨_, h, _⟩, e => by
    simp at e
    exact ⟨x, rfl, by simp [h e]⟩
  | p :: ps, x :: xs, y :: ys, i + 1, ⟨_, _, h⟩, e => by simpa using Wi_get (i := i) h (by simpa using e)
theorem Wi_le : ∀ {ps xs ys : List Int}, Wi ps xs ys → leL xs ys = true
  | [], [], [], _ => rfl
  | p :: ps, x :: xs, y :: ys, ⟨h, _, g⟩ => by simp [leL, h, Wi_le g]
theorem at_nat {α : Type} {xs : List α} {i : Nat} {x : α} (h : xs[i]? = some x) : atI xs (i : Int) = some x := by
  have hl := (List.getElem?_eq_some_iff.mp h).1
  unfold atI ixN
  rw [if_pos (by omega), if_pos (by omega)]
  simpa using h
theorem at_iL {xs : List Int} {i : Nat} {x : Int} (h : xs[i]? = some x) : atI (iL xs) (i : Int) = some (.int x) := at_nat (by rw [iL, List.getElem?_map, h]; rfl)
end DL

set_option maxRecDepth 100000
set_option maxHeartbeats 4000000
namespace DL
open PySem PySem.Spec L2
/-! ### stamps -/
def stD (C : Addr) (o : Own) (t : Told) : D := .ob C ["own", "told"] [o.d, t.d]
theorem ne_own_told : ¬ (("own" : Str) = "told") := by decide +kernel
theorem ne_told_own : ¬ (("told" : Str) = "own") := by decide +kernel
theorem lk_own {a b : D} : ((["own", "told"] : List Str).zip [a, b]).lookup ("own" : Str) = some a := by simp [List.lookup]
theorem lk_told {a b : D} : ((["own", "told"] : List Str).zip [a, b]).lookup ("told" : Str) = some b := by
  have e : (("told" : Str) == ("own" : Str)) = false := by rw [beq_eq_false_iff_ne]; exact ne_told_own
  simp [List.lookup, e]
theorem put_told {a b : D} : putD ("told" : Str) b [(("own" : Str), a)] = [(("own" : Str), a), (("told" : Str), b)] := by simp [putD, ne_own_told]
theorem Own.togO_least : ∀ {a b x : Own}, a.isLeast = true → b.isLeast = true → Own.togO a b = some x → x.isLeast = true
  | .lf c, b, x, ha, hb, h => by
    cases c
    · simp [Own.togO] at h; subst h; exact hb
    · by_cases z : b = .lf false
      · subst z; simp [Own.togO] at h; subst h; rfl
      · simp [Own.togO, z] at h
  | .nd l r, .lf c, x, ha, hb, h => by
    cases c
    · simp [Own.togO] at h; subst h; exact ha
    · simp [Own.togO] at h
  | .nd l r, .nd l' r', x, ha, hb, h => by
    simp only [Own.isLeast, Bool.and_eq_true] at ha hb
    rw [Own.togO] at h
    cases h1 : Own.togO l l' with
    | none => rw [h1] at h; simp [Own.both2] at h
    | some u =>
      cases h2 : Own.togO r r' with
      | none => rw [h1, h2] at h; simp [Own.both2] at h
      | some v =>
        rw [h1, h2] at h
        simp [Own.both2] at h
        subst h
        exact Own.isLeast_pair (Own.togO_least ha.1.2 hb.1.2 h1) (Own.togO_least ha.2 hb.2 h2)
/-- both told parts joined, at k halvings -/
def joinT (k : Nat) (t u : Told) : Told := toldOf k (mxL (nums k t) (nums k u))
theorem joinT_all {k : Nat} {t u : Told} (ht : t.ok) : (joinT k t u).depth ≤ k ∧ (joinT k t u).ok ∧ (joinT k t u).isLeast = true ∧ nums k (joinT k t u) = mxL (nums k t) (nums k u) := by
  have l : (mxL (nums k t) (nums k u)).length = 2 ^ k := by rw [mxL_len (by rw [nums_len, nums_len]), nums_len]
  exact ⟨toldOf_depth _ _, toldOf_ok l (mxL_nn (nums_nn k ht)), toldOf_isLeast l, nums_toldOf l⟩
end DL

set_option maxRecDepth 100000
set_option maxHeartbeats 4000000
namespace DL
open PySem PySem.Spec L2
/-! ### hands: what their dict holds -/
abbrev HS := List (Int × Own × Told)
def hsD (C : Addr) (hs : HS) : KD := hs.map fun p => (.inl p.1, stD C p.2.1 p.2.2)
def hsGet (hs : HS) (k : Int) : Option (Own × Told) := (hs.find? fun p => decide (p.1 = k)).map (·.2)
def hsPut (hs : HS) (k : Int) (o : Own) (t : Told) : HS := if (hs.any fun p => decide (p.1 = k)) = true then hs.map (fun p => if p.1 = k then (k, o, t) else p) else hs ++ [(k, o, t)]
def hsDrop (hs : HS) (k : Int) : HS := hs.filter fun p => decide (p.1 ≠ k)
theorem hs_val (C : Addr) (k : Int) : ∀ hs : HS, valD (hsD C hs) (.inl k) = (hsGet hs k).map fun p => stD C p.1 p.2
  | [] => rfl
  | (i, o, t) :: hs => by
    have ih := hs_val C k hs
    unfold valD hsD hsGet at *
    rw [List.map_cons, List.find?_cons, List.find?_cons]
    by_cases e : i = k
    · subst e; simp
    · have e2 : ¬ ((Sum.inl i : Key) = .inl k) := fun z => e (Sum.inl.inj z)
      simp only [e, e2, decide_false]
      exact ih
theorem hs_any (C : Addr) (k : Int) : ∀ hs : HS, ((hsD C hs).any fun kv => decide (kv.1 = Sum.inl k)) = hs.any fun p => decide (p.1 = k)
  | [] => rfl
  | (i, o, t) :: hs => by
    have ih := hs_any C k hs
    unfold hsD at *
    rw [List.map_cons, List.any_cons, List.any_cons, ih]
    by_cases e : i = k
    · subst e; simp
    · have e2 : ¬ ((Sum.inl i : Key) = .inl k) := fun z => e (Sum.inl.inj z)
      simp [e, e2]
theorem hs_put (C : Addr) (k : Int) (o : Own) (t : Told) (hs : HS) : putKD (hsD C hs) (.inl k) (stD C o t) = hsD C (hsPut hs k o t) := by
  unfold putKD hsPut
  rw [hs_any]
  split
  · unfold hsD
    rw [List.map_map, List.map_map]
    apply List.map_congr_left
    rintro ⟨i, o', t'⟩ _
    by_cases e : i = k
    · subst e; simp
    · have e2 : ¬ ((Sum.inl i : Key) = .inl k) := fun z => e (Sum.inl.inj z)
      simp [e, e2]
  · unfold hsD
    rw [List.map_append]
    rfl
theorem hs_drop (C : Addr) (k : Int) : ∀ hs : HS, dropKD (hsD C hs) (.inl k) = hsD C (hsDrop hs k)
  | [] => rfl
  | (i, o, t) :: hs => by
    have ih := hs_drop C k hs
    unfold dropKD hsD hsDrop at *
    rw [List.map_cons]
    by_cases e : i = k
    · subst e
      rw [List.filter_cons_of_neg (by simp), List.filter_cons_of_neg (by simp), ih]
    · have e2 : ¬ ((Sum.inl i : Key) = .inl k) := fun z => e (Sum.inl.inj z)
      rw [List.filter_cons_of_pos (by simpa using e2), List.filter_cons_of_pos (by simpa using e), ih]
      rfl
theorem hs_keys (C : Addr) (hs : HS) : (hsD C hs).map (·.1) = (hs.map (·.1)).map Sum.inl := by
  unfold hsD
  rw [List.map_map, List.map_map]
  rfl
theorem hs_len (C : Addr) (hs : HS) : (hsD C hs).length = hs.length := List.length_map _
/-- what every stamp of the hands keeps to -/
def SWF (o : Own) (t : Told) : Prop := o.depth ≤ 37 ∧ t.depth ≤ 37 ∧ o.isLeast = true ∧ t.ok ∧ t.isLeast = true
def HWF (hs : HS) : Prop := ∀ p ∈ hs, SWF p.2.1 p.2.2
theorem HWF.get {hs : HS} (h : HWF hs) {k : Int} {o : Own} {t : Told} (g : hsGet hs k = some (o, t)) : SWF o t := by
  unfold hsGet at g
  cases e : hs.find? fun p => decide (p.1 = k) with
  | none => rw [e] at g; cases g
  | some p =>
    rw [e] at g
    obtain ⟨i, o', t'⟩ := p
    cases g
    exact h _ (List.mem_of_find?_eq_some e)
/-- how a Hands object stands -/
def obH (s : Addr) (n : Int) : List (Str × D) := [("_stamps", .cls s), ("_next", .int n)]
structure HAt (CS CH : Addr) (g : Store) (w : Bool) (h : Addr) (i j : Nat) (s : Addr) (hs : HS) (n : Int) : Prop where
  ob : g[i]? = some (En.mk h w (.ob CH (obH s n)))
  dk : g[j]? = some (En.mk s w (.dk (hsD CS hs)))
theorem ro_get {g : Store} {i : Nat} {a : Addr} {w : Bool} {m : Mu} (h : g[i]? = some (En.mk a w m)) : (ro g)[i]? = some (En.mk a false m) := by
  unfold ro
  rw [List.getElem?_map, h]
  rfl
theorem HAt.ro {CS CH : Addr} {g : Store} {w : Bool} {h : Addr} {i j : Nat} {s : Addr} {hs : HS} {n : Int} (z : HAt CS CH g w h i j s hs n) : HAt CS CH (DL.ro g) false h i j s hs n := ⟨ro_get z.ob, ro_get z.dk⟩
theorem gset_get {g : Store} {i j : Nat} {m : Mu} {e : En} (h : g[j]? = some e) : (gset g j m)[i]? = if i = j then some ⟨e.a, e.w, m⟩ else g[i]? := by
  unfold gset
  rw [h]
  dsimp only
  have hj : j < g.length := (List.getElem?_eq_some_iff.mp h).1
  by_cases z : i = j
  · subst z; rw [List.getElem?_set_self hj, if_pos rfl]
  · rw [List.getElem?_set_ne (fun w => z w.symm), if_neg z]
theorem HAt.ne {CS CH : Addr} {g : Store} {w : Bool} {h : Addr} {i j : Nat} {s : Addr} {hs : HS} {n : Int} (z : HAt CS CH g w h i j s hs n) : i ≠ j := by
  rintro rfl
  have := z.ob.symm.trans z.dk
  cases this
theorem lk_stamps {a b : D} : ([(("_stamps" : Str), a), (("_next" : Str), b)]).lookup ("_stamps" : Str) = some a := by simp [List.lookup]
theorem ne_ns : ¬ (("_next" : Str) = "_stamps") := by decide +kernel
theorem ne_sn : ¬ (("_stamps" : Str) = "_next") := by decide +kernel
theorem lk_next {a b : D} : ([(("_stamps" : Str), a), (("_next" : Str), b)]).lookup ("_next" : Str) = some b := by
  have e : (("_next" : Str) == ("_stamps" : Str)) = false := by rw [beq_eq_false_iff_ne]; exact ne_ns
  simp [List.lookup, e]
theorem put_next {a b c : D} : putD ("_next" : Str) c [(("_stamps" : Str), a), (("_next" : Str), b)] = [(("_stamps" : Str), a), (("_next" : Str), c)] := by simp [putD, ne_sn]
theorem put_next1 {a c : D} : putD ("_next" : Str) c [(("_stamps" : Str), a)] = [(("_stamps" : Str), a), (("_next" : Str), c)] := by simp [putD, ne_sn]
theorem no_of : ("_stamp_of" : Str) ∉ (["_stamps", "_next"] : List Str) := by decide +kernel
/-- what is no hand that is there -/
def NoH (hs : HS) (x : D) : Prop := (∃ T, x.tyS = some T) ∧ ∀ k, x = .int k → hsGet hs k = none
theorem HAt.put {CS CH : Addr} {g : Store} {w : Bool} {h : Addr} {i j : Nat} {s : Addr} {hs : HS} {n : Int} (z : HAt CS CH g w h i j s hs n) (hs' : HS) : HAt CS CH (gset g j (.dk (hsD CS hs'))) w h i j s hs' n :=
  ⟨by rw [gset_get z.dk, if_neg z.ne]; exact z.ob, by rw [gset_get z.dk, if_pos rfl]⟩
theorem HAt.next {CS CH : Addr} {g : Store} {w : Bool} {h : Addr} {i j : Nat} {s : Addr} {hs : HS} {n : Int} (z : HAt CS CH g w h i j s hs n) (n' : Int) : HAt CS CH (gset g i (.ob CH (obH s n'))) w h i j s hs n' :=
  ⟨by rw [gset_get z.ob, if_pos rfl], by rw [gset_get z.ob, if_neg z.ne.symm]; exact z.dk⟩
theorem no_fork : ("fork" : Str) ∉ (["own", "told"] : List Str) := by decide +kernel
theorem no_deed : ("deed" : Str) ∉ (["own", "told"] : List Str) := by decide +kernel
theorem no_joined : ("joined" : Str) ∉ (["own", "told"] : List Str) := by decide +kernel
theorem no_learnt : ("learnt" : Str) ∉ (["own", "told"] : List Str) := by decide +kernel
theorem no_most : ("is_at_most" : Str) ∉ (["own", "told"] : List Str) := by decide +kernel
theorem hsPut_len (hs : HS) (k : Int) (o : Own) (t : Told) : (hsPut hs k o t).length ≤ hs.length + 1 := by
  unfold hsPut
  split
  · simp
  · simp
end DL

set_option maxRecDepth 100000
set_option maxHeartbeats 4000000
namespace DL
open PySem PySem.Spec L2
/-! ### tables by ints -/
abbrev Tab (α : Type) := List (Int × α)
section
variable {α β : Type}
def tget (rs : Tab α) (k : Int) : Option α := (rs.find? fun p => decide (p.1 = k)).map (·.2)
def tput (rs : Tab α) (k : Int) (a : α) : Tab α := if (rs.any fun p => decide (p.1 = k)) = true then rs.map (fun p => if p.1 = k then (k, a) else p) else rs ++ [(k, a)]
def tdrop (rs : Tab α) (k : Int) : Tab α := rs.filter fun p => decide (p.1 ≠ k)
def tabD (F : α → D) (rs : Tab α) : KD := rs.map fun p => (.inl p.1, F p.2)
def tmap (g : α → β) (rs : Tab α) : Tab β := rs.map fun p => (p.1, g p.2)
theorem tab_val (F : α → D) (k : Int) : ∀ rs : Tab α, valD (tabD F rs) (.inl k) = (tget rs k).map F
  | [] => rfl
  | (i, a) :: rs => by
    have ih := tab_val F k rs
    unfold valD tabD tget at *
    rw [List.map_cons, List.find?_cons, List.find?_cons]
    by_cases e : i = k
    · subst e; simp
    · have e2 : ¬ ((Sum.inl i : Key) = .inl k) := fun z => e (Sum.inl.inj z)
      simp only [e, e2, decide_false]
      exact ih
theorem tab_any (F : α → D) (k : Int) : ∀ rs : Tab α, ((tabD F rs).any fun kv => decide (kv.1 = Sum.inl k)) = rs.any fun p => decide (p.1 = k)
  | [] => rfl
  | (i, a) :: rs => by
    have ih := tab_any F k rs
    unfold tabD at *
    rw [List.map_cons, List.any_cons, List.any_cons, ih]
    by_cases e : i = k
    · subst e; simp
    · have e2 : ¬ ((Sum.inl i : Key) = .inl k) := fun z => e (Sum.inl.inj z)
      simp [e, e2]
theorem tab_put (F : α → D) (k : Int) (a : α) (rs : Tab α) : putKD (tabD F rs) (.inl k) (F a) = tabD F (tput rs k a) := by
  unfold putKD tput
  rw [tab_any]
  split
  · unfold tabD
    rw [List.map_map, List.map_map]
    apply List.map_congr_left
    rintro ⟨i, b⟩ _
    by_cases e : i = k
    · subst e; simp
    · have e2 : ¬ ((Sum.inl i : Key) = .inl k) := fun z => e (Sum.inl.inj z)
      simp [e, e2]
  · unfold tabD
    rw [List.map_append]
    rfl
theorem tab_drop (F : α → D) (k : Int) : ∀ rs : Tab α, dropKD (tabD F rs) (.inl k) = tabD F (tdrop rs k)
  | [] => rfl
  | (i, a) :: rs => by
    have ih := tab_drop F k rs
    unfold dropKD tabD tdrop at *
    rw [List.map_cons]
    by_cases e : i = k
    · subst e
      rw [List.filter_cons_of_neg (by simp), List.filter_cons_of_neg (by simp), ih]
    · have e2 : ¬ ((Sum.inl i : Key) = .inl k) := fun z => e (Sum.inl.inj z)
      rw [List.filter_cons_of_pos (by simpa using e2), List.filter_cons_of_pos (by simpa using e), ih]
      rfl
theorem tab_keys (F : α → D) (rs : Tab α) : (tabD F rs).map (·.1) = (rs.map (·.1)).map Sum.inl := by
  unfold tabD
  rw [List.map_map, List.map_map]
  rfl
theorem tab_len (F : α → D) (rs : Tab α) : (tabD F rs).length = rs.length := List.length_map _
theorem tmap_any (g : α → β) (k : Int) (rs : Tab α) : ((tmap g rs).any fun p => decide (p.1 = k)) = rs.any fun p => decide (p.1 = k) := by
  unfold tmap; rw [List.any_map]; rfl
theorem tmap_get (g : α → β) (k : Int) (rs : Tab α) : tget (tmap g rs) k = (tget rs k).map g := by
  unfold tget tmap
  rw [List.find?_map, Option.map_map, Option.map_map]
  rfl
theorem tmap_put (g : α → β) (k : Int) (a : α) (rs : Tab α) : tmap g (tput rs k a) = tput (tmap g rs) k (g a) := by
  unfold tput
  rw [tmap_any]
  split
  · unfold tmap
    rw [List.map_map, List.map_map]
    apply List.map_congr_left
    rintro ⟨i, b⟩ _
    by_cases e : i = k <;> simp [e]
  · unfold tmap; rw [List.map_append]; rfl
theorem tmap_drop (g : α → β) (k : Int) (rs : Tab α) : tmap g (tdrop rs k) = tdrop (tmap g rs) k := by
  unfold tmap tdrop
  rw [List.filter_map]
  rfl
theorem tmap_keys (g : α → β) (rs : Tab α) : (tmap g rs).map (·.1) = rs.map (·.1) := by unfold tmap; rw [List.map_map]; rfl
theorem tmap_tmap {γ : Type} (g : α → β) (h : β → γ) (rs : Tab α) : tmap h (tmap g rs) = tmap (fun a => h (g a)) rs := by unfold tmap; rw [List.map_map]; rfl
theorem tabD_tmap (g : α → β) (F : β → D) (rs : Tab α) : tabD F (tmap g rs) = tabD (fun a => F (g a)) rs := by unfold tabD tmap; rw [List.map_map]; rfl
theorem tget_cons {i k : Int} {a : α} {rs : Tab α} : tget ((i, a) :: rs) k = if i = k then some a else tget rs k := by
  unfold tget
  rw [List.find?_cons]
  by_cases e : i = k
  · simp [e]
  · simp [e]
theorem tget_none {k : Int} : ∀ {rs : Tab α}, tget rs k = none ↔ k ∉ rs.map (·.1)
  | [] => by simp [tget]
  | (i, a) :: rs => by
    rw [tget_cons]
    by_cases e : i = k
    · simp [e]
    · rw [if_neg e, tget_none (rs := rs)]
      have e2 : ¬ k = i := fun z => e z.symm
      simp [e2]
theorem any_iff {k : Int} {rs : Tab α} : (rs.any fun p => decide (p.1 = k)) = true ↔ k ∈ rs.map (·.1) := by
  rw [List.any_eq_true]
  constructor
  · rintro ⟨p, hp, e⟩
    exact List.mem_map.mpr ⟨p, hp, by simpa using e⟩
  · intro h
    obtain ⟨p, hp, e⟩ := List.mem_map.mp h
    exact ⟨p, hp, by simpa using e⟩
theorem tput_keys {k : Int} {a : α} {rs : Tab α} : (tput rs k a).map (·.1) = if k ∈ rs.map (·.1) then rs.map (·.1) else rs.map (·.1) ++ [k] := by
  unfold tput
  by_cases h : k ∈ rs.map (·.1)
  · rw [if_pos (any_iff.mpr h), if_pos h, List.map_map]
    apply List.map_congr_left
    rintro ⟨i, b⟩ _
    by_cases e : i = k <;> simp [e]
  · rw [if_neg (fun z => h (any_iff.mp z)), if_neg h, List.map_append]
    rfl
theorem tget_app {k l : Int} {a : α} : ∀ {rs : Tab α}, k ∉ rs.map (·.1) → tget (rs ++ [(k, a)]) l = if l = k then some a else tget rs l
  | [], _ => by
    rw [List.nil_append, tget_cons]
    by_cases e : k = l
    · rw [if_pos e, if_pos e.symm]
    · rw [if_neg e, if_neg (fun z => e z.symm)]
  | (i, b) :: rs, h => by
    simp only [List.map_cons, List.mem_cons, not_or] at h
    rw [List.cons_append, tget_cons, tget_cons, tget_app h.2]
    by_cases e : i = l
    · have e2 : ¬ l = k := fun z => h.1 (by rw [← z, e])
      rw [if_pos e, if_neg e2, if_pos e]
    · rw [if_neg e, if_neg e]
theorem tget_rep {k l : Int} {a : α} : ∀ {rs : Tab α}, tget (rs.map fun p => if p.1 = k then (k, a) else p) l = if l = k then (if k ∈ rs.map (·.1) then some a else none) else tget rs l
  | [] => by simp [tget]
  | (i, b) :: rs => by
    rw [List.map_cons]
    by_cases e : i = k
    · subst e
      rw [if_pos rfl, tget_cons, tget_cons, tget_rep]
      by_cases e2 : i = l
      · rw [if_pos e2, if_pos e2.symm, if_pos (by simp)]
      · have e3 : ¬ l = i := fun z => e2 z.symm
        rw [if_neg e2, if_neg e3, if_neg e3, if_neg e2]
    · rw [if_neg e, tget_cons, tget_cons, tget_rep]
      have ek : ¬ k = i := fun z => e z.symm
      by_cases e2 : i = l
      · have e3 : ¬ l = k := fun z => e (e2.trans z)
        rw [if_pos e2, if_neg e3, if_pos e2]
      · rw [if_neg e2, if_neg e2]
        by_cases e3 : l = k
        · rw [if_pos e3, if_pos e3, List.map_cons]
          simp only [List.mem_cons, ek, false_or]
        · rw [if_neg e3, if_neg e3]
theorem tget_put {k l : Int} {a : α} {rs : Tab α} : tget (tput rs k a) l = if l = k then some a else tget rs l := by
  unfold tput
  by_cases h : k ∈ rs.map (·.1)
  · rw [if_pos (any_iff.mpr h), tget_rep, if_pos h]
  · rw [if_neg (fun z => h (any_iff.mp z)), tget_app h]
theorem tget_drop {k l : Int} : ∀ {rs : Tab α}, tget (tdrop rs k) l = if l = k then none else tget rs l
  | [] => by simp [tget, tdrop]
  | (i, b) :: rs => by
    unfold tdrop
    by_cases e : i = k
    · subst e
      rw [List.filter_cons_of_neg (by simp), tget_cons]
      have ih := tget_drop (k := i) (l := l) (rs := rs)
      unfold tdrop at ih
      rw [ih]
      by_cases e2 : l = i
      · rw [if_pos e2, if_pos e2]
      · rw [if_neg e2, if_neg e2, if_neg (fun z => e2 z.symm)]
    · rw [List.filter_cons_of_pos (by simpa using e), tget_cons, tget_cons]
      have ih := tget_drop (k := k) (l := l) (rs := rs)
      unfold tdrop at ih
      rw [ih]
      by_cases e2 : i = l
      · have e3 : ¬ l = k := fun z => e (e2.trans z)
        rw [if_pos e2, if_neg e3, if_pos e2]
      · rw [if_neg e2, if_neg e2]
theorem tdrop_keys {k : Int} {rs : Tab α} : (tdrop rs k).map (·.1) = (rs.map (·.1)).filter fun i => decide (i ≠ k) := by
  unfold tdrop
  rw [List.filter_map]
  rfl
theorem tget_mem {k : Int} {a : α} {rs : Tab α} (h : tget rs k = some a) : (k, a) ∈ rs := by
  unfold tget at h
  cases e : rs.find? fun p => decide (p.1 = k) with
  | none => rw [e] at h; cases h
  | some p =>
    rw [e] at h
    have e1 : p.1 = k := by have := List.find?_some e; simpa using this
    have e2 : p.2 = a := by simpa using h
    have := List.mem_of_find?_eq_some e
    rw [← e1, ← e2]
    exact this
theorem mem_tget {k : Int} {a : α} : ∀ {rs : Tab α}, (rs.map (·.1)).Nodup → (k, a) ∈ rs → tget rs k = some a
  | [], _, h => by simp at h
  | (i, b) :: rs, nd, h => by
    rw [List.map_cons, List.nodup_cons] at nd
    rw [tget_cons]
    rcases List.mem_cons.mp h with z | z
    · cases z; rw [if_pos rfl]
    · have e : ¬ i = k := fun w => nd.1 (List.mem_map.mpr ⟨(k, a), z, w.symm⟩)
      rw [if_neg e]
      exact mem_tget nd.2 z
theorem tget_key {k : Int} {rs : Tab α} (h : k ∈ rs.map (·.1)) : ∃ a, tget rs k = some a := by
  cases e : tget rs k with
  | none => exact absurd h (tget_none.mp e)
  | some a => exact ⟨a, rfl⟩
theorem tput_nodup {k : Int} {a : α} {rs : Tab α} (h : (rs.map (·.1)).Nodup) : ((tput rs k a).map (·.1)).Nodup := by
  rw [tput_keys]
  split
  · exact h
  · rename_i z
    rw [List.nodup_append]
    exact ⟨h, by simp, fun x hx y hy e => by
      have : y = k := by simpa using hy
      exact z (by rw [← this, ← e]; exact hx)⟩
theorem tdrop_nodup {k : Int} {rs : Tab α} (h : (rs.map (·.1)).Nodup) : ((tdrop rs k).map (·.1)).Nodup := by
  rw [tdrop_keys]
  exact h.filter _
theorem tput_len {k : Int} {a : α} {rs : Tab α} (h : k ∈ rs.map (·.1)) : (tput rs k a).length = rs.length := by
  unfold tput
  rw [if_pos (any_iff.mpr h), List.length_map]
theorem tput_len1 {k : Int} {a : α} {rs : Tab α} : (tput rs k a).length ≤ rs.length + 1 := by
  unfold tput
  split <;> simp
theorem tdrop_len {k : Int} {rs : Tab α} : (tdrop rs k).length ≤ rs.length := List.length_filter_le _ _
end
theorem hsD_tab (C : Addr) (hs : HS) : hsD C hs = tabD (fun p : Own × Told => stD C p.1 p.2) hs := rfl
theorem hsGet_tab (hs : HS) (k : Int) : hsGet hs k = tget hs k := rfl
theorem hsPut_tab (hs : HS) (k : Int) (o : Own) (t : Told) : hsPut hs k o t = tput hs k (o, t) := rfl
theorem hsDrop_tab (hs : HS) (k : Int) : hsDrop hs k = tdrop hs k := rfl
end DL

set_option maxRecDepth 100000
set_option maxHeartbeats 4000000
namespace DL
open PySem PySem.Spec L2
/-! ### own parts by places without end -/
abbrev Path := Nat → Bool
def Own.has : Own → Path → Bool
  | .lf b, _ => b
  | .nd l r, p => if p 0 = true then r.has (fun n => p (n + 1)) else l.has (fun n => p (n + 1))
def goL (p : Path) : Path := fun n => match n with | 0 => false | n + 1 => p n
def goR (p : Path) : Path := fun n => match n with | 0 => true | n + 1 => p n
theorem has_goL (l r : Own) (p : Path) : (Own.nd l r).has (goL p) = l.has p := by simp only [Own.has, goL]; rfl
theorem has_goR (l r : Own) (p : Path) : (Own.nd l r).has (goR p) = r.has p := by simp only [Own.has, goR]; rfl
theorem pair_has (l r : Own) (p : Path) : (Own.pair l r).has p = (Own.nd l r).has p := by
  by_cases h : ∃ b, l = .lf b ∧ r = .lf b
  · obtain ⟨b, rfl, rfl⟩ := h
    rw [Own.pair_lf.mpr ⟨rfl, rfl⟩]
    simp [Own.has]
  · rw [Own.pair_nd fun b z => h ⟨b, z⟩]
theorem some_has : ∀ {o : Own}, o.isLeast = true → o ≠ .lf false → ∃ p, o.has p = true
  | .lf b, _, h => by cases b; exact absurd rfl h; exact ⟨fun _ => true, rfl⟩
  | .nd l r, hl, _ => by
    simp only [Own.isLeast, Bool.and_eq_true, Bool.not_eq_true'] at hl
    by_cases e : l = .lf false
    · have e2 : r ≠ .lf false := by rintro rfl; rw [e] at hl; simp at hl
      obtain ⟨p, hp⟩ := some_has hl.2 e2
      exact ⟨goR p, by rw [has_goR, hp]⟩
    · obtain ⟨p, hp⟩ := some_has hl.1.2 e
      exact ⟨goL p, by rw [has_goL, hp]⟩
theorem all_has : ∀ {o : Own}, o.isLeast = true → (∀ p, o.has p = true) → o = .lf true
  | .lf b, _, h => by have := h fun _ => true; simp only [Own.has] at this; rw [this]
  | .nd l r, hl, h => by
    simp only [Own.isLeast, Bool.and_eq_true, Bool.not_eq_true'] at hl
    have e1 := all_has hl.1.2 fun p => by rw [← has_goL l r p]; exact h _
    have e2 := all_has hl.2 fun p => by rw [← has_goR l r p]; exact h _
    subst e1 e2
    simp at hl
theorem tog_has : ∀ {a b c : Own}, Own.togO a b = some c → ∀ p, c.has p = (a.has p || b.has p) ∧ ¬ (a.has p = true ∧ b.has p = true)
  | .lf x, b, c, h, p => by
    cases x
    · simp [Own.togO] at h; subst h; simp [Own.has]
    · by_cases z : b = .lf false
      · subst z; simp [Own.togO] at h; subst h; simp [Own.has]
      · simp [Own.togO, z] at h
  | .nd l r, .lf x, c, h, p => by
    cases x
    · simp [Own.togO] at h; subst h; simp [Own.has]
    · simp [Own.togO] at h
  | .nd l r, .nd l' r', c, h, p => by
    rw [Own.togO] at h
    cases h1 : Own.togO l l' with
    | none => rw [h1] at h; simp [Own.both2] at h
    | some u =>
      cases h2 : Own.togO r r' with
      | none => rw [h1, h2] at h; simp [Own.both2] at h
      | some v =>
        rw [h1, h2] at h
        simp [Own.both2] at h
        subst h
        rw [pair_has]
        simp only [Own.has]
        split
        · exact tog_has h2 _
        · exact tog_has h1 _
theorem tog_some : ∀ {a b : Own}, a.isLeast = true → b.isLeast = true → (∀ p, ¬ (a.has p = true ∧ b.has p = true)) → ∃ c, Own.togO a b = some c
  | .lf x, b, ha, hb, h => by
    cases x
    · exact ⟨b, by simp [Own.togO]⟩
    · by_cases z : b = .lf false
      · subst z; exact ⟨_, Own.togO_zero _⟩
      · obtain ⟨p, hp⟩ := some_has hb z
        exact absurd ⟨rfl, hp⟩ (h p)
  | .nd l r, .lf x, ha, hb, h => by
    cases x
    · exact ⟨_, Own.togO_zero _⟩
    · obtain ⟨p, hp⟩ := some_has ha (by simp)
      exact absurd ⟨hp, rfl⟩ (h p)
  | .nd l r, .nd l' r', ha, hb, h => by
    simp only [Own.isLeast, Bool.and_eq_true] at ha hb
    obtain ⟨u, hu⟩ := tog_some ha.1.2 hb.1.2 fun p z => h (goL p) (by rw [has_goL, has_goL]; exact z)
    obtain ⟨v, hv⟩ := tog_some ha.2 hb.2 fun p z => h (goR p) (by rw [has_goR, has_goR]; exact z)
    exact ⟨Own.pair u v, by rw [Own.togO, hu, hv]; rfl⟩
theorem shares_has : ∀ {a b : Own}, a.isLeast = true → b.isLeast = true → (∀ p, ¬ (a.has p = true ∧ b.has p = true)) → Own.sharesO a b = false
  | .lf x, b, ha, hb, h => by
    cases x
    · simp [Own.sharesO]
    · by_cases z : b = .lf false
      · subst z; simp [Own.sharesO]
      · obtain ⟨p, hp⟩ := some_has hb z
        exact absurd ⟨rfl, hp⟩ (h p)
  | .nd l r, .lf x, ha, hb, h => by
    cases x
    · simp [Own.sharesO]
    · obtain ⟨p, hp⟩ := some_has ha (by simp)
      exact absurd ⟨hp, rfl⟩ (h p)
  | .nd l r, .nd l' r', ha, hb, h => by
    simp only [Own.isLeast, Bool.and_eq_true] at ha hb
    have e1 := shares_has ha.1.2 hb.1.2 fun p z => h (goL p) (by rw [has_goL, has_goL]; exact z)
    have e2 := shares_has ha.2 hb.2 fun p z => h (goR p) (by rw [has_goR, has_goR]; exact z)
    rw [Own.sharesO, e1, e2]; rfl
theorem part_has {a : Own} (h : a.isLeast = true) (p : Path) : a.has p = ((Own.partO a).1.has p || (Own.partO a).2.has p) ∧ ¬ ((Own.partO a).1.has p = true ∧ (Own.partO a).2.has p = true) := tog_has (Own.partO_tog a h) p
end DL

set_option maxRecDepth 100000
set_option maxHeartbeats 4000000
namespace DL
open PySem PySem.Spec L2
/-! ### hands, as the laws lead them -/
theorem tput_same {α : Type} {k : Int} {a : α} {rs : Tab α} (nd : (rs.map (·.1)).Nodup) (h : tget rs k = some a) : tput rs k a = rs := by
  have m : k ∈ rs.map (·.1) := by
    by_cases z : k ∈ rs.map (·.1)
    · exact z
    · rw [tget_none.mpr z] at h; cases h
  unfold tput
  rw [if_pos (any_iff.mpr m)]
  conv => rhs; rw [← List.map_id rs]
  apply List.map_congr_left
  rintro ⟨i, b⟩ hp
  by_cases e : i = k
  · subst e
    have := mem_tget nd hp
    rw [h] at this
    cases this
    simp
  · simp [e]
theorem sorted_one {xs ys zs : List Int} (h1 : xs.Perm zs) (h2 : ys.Perm zs) (s1 : xs.Pairwise (· ≤ ·)) (s2 : ys.Pairwise (· ≤ ·)) : xs = ys :=
  List.Perm.eq_of_pairwise (fun a b _ _ h h' => Int.le_antisymm h h') s1 s2 (h1.trans h2.symm)
structure HI (hs : HS) (n : Int) (rs : Tab Int) : Prop where
  kk : hs.map (·.1) = rs.map (·.1)
  nd : (hs.map (·.1)).Nodup
  lt : ∀ k ∈ hs.map (·.1), 0 ≤ k ∧ k < n
  n0 : 0 ≤ n
  ln : 0 < hs.length ∧ hs.length ≤ 8
  wf : ∀ k o t, tget hs k = some (o, t) → t.depth ≤ 37 ∧ o.isLeast = true ∧ t.ok ∧ t.isLeast = true ∧ o ≠ .lf false
  dp : ∀ k o t, tget hs k = some (o, t) → ∃ d, tget rs k = some d ∧ (o.depth : Int) ≤ d ∧ d ≤ 12
  dj : ∀ k l o t o' t', k ≠ l → tget hs k = some (o, t) → tget hs l = some (o', t') → ∀ p, ¬ (o.has p = true ∧ o'.has p = true)
  wh : ∀ p, ∃ k o t, tget hs k = some (o, t) ∧ o.has p = true
theorem HI.begun : HI [(0, .lf true, .n 0)] 1 [(0, 0)] := by
  have g : ∀ k o t, tget ([(0, .lf true, .n 0)] : HS) k = some (o, t) → k = 0 ∧ o = .lf true ∧ t = .n 0 := by
    intro k o t h
    rw [tget_cons] at h
    split at h
    · cases h; exact ⟨Eq.symm ‹_›, rfl, rfl⟩
    · cases h
  refine ⟨rfl, by simp, by simp, by decide, by simp, fun k o t h => ?_, fun k o t h => ?_, fun k l o t o' t' ne h h' => ?_, fun p => ⟨0, _, _, rfl, rfl⟩⟩
  · obtain ⟨rfl, rfl, rfl⟩ := g _ _ _ h
    exact ⟨by decide, rfl, by show (0 : Int) ≤ 0; decide, rfl, by simp⟩
  · obtain ⟨rfl, rfl, rfl⟩ := g _ _ _ h
    exact ⟨0, rfl, by decide, by decide⟩
  · exact absurd ((g _ _ _ h).1.trans (g _ _ _ h').1.symm) ne
section
variable {hs : HS} {n : Int} {rs : Tab Int} {k l : Int} {o o' c : Own} {t t' : Told}
theorem HI.has (H : HI hs n rs) (h : k ∈ hs.map (·.1)) : ∃ o t, tget hs k = some (o, t) := by
  obtain ⟨⟨o, t⟩, e⟩ := tget_key h
  exact ⟨o, t, e⟩
theorem HI.mem (h : tget hs k = some (o, t)) : k ∈ hs.map (·.1) := by
  by_cases z : k ∈ hs.map (·.1)
  · exact z
  · rw [tget_none.mpr z] at h; cases h
theorem HI.d12 (H : HI hs n rs) (h : tget hs k = some (o, t)) : o.depth ≤ 12 := by
  obtain ⟨d, _, a, b⟩ := H.dp _ _ _ h
  omega
theorem HI.hwf (H : HI hs n rs) : HWF hs := by
  rintro ⟨k, o, t⟩ hp
  have g := mem_tget H.nd hp
  obtain ⟨a1, a2, a3, a4, _⟩ := H.wf _ _ _ g
  exact ⟨by have := H.d12 g; show o.depth ≤ 37; omega, a1, a2, a3, a4⟩
theorem HI.tell (H : HI hs n rs) (hk : tget hs k = some (o, t)) (hl : tget hs l = some (o', t')) : HI (tput hs l (o', joinT 37 t' t)) n rs := by
  have m := HI.mem hl
  have ek : (tput hs l (o', joinT 37 t' t)).map (·.1) = hs.map (·.1) := by rw [tput_keys, if_pos m]
  have g : ∀ j x y, tget (tput hs l (o', joinT 37 t' t)) j = some (x, y) → ∃ y', tget hs j = some (x, y') ∧ (y = y' ∨ y = joinT 37 t' t) := by
    intro j x y h
    rw [tget_put] at h
    split at h
    · rename_i e; subst e; cases h; exact ⟨_, hl, .inr rfl⟩
    · exact ⟨y, h, .inl rfl⟩
  have hT := joinT_all (k := 37) (u := t) (H.wf _ _ _ hl).2.2.1
  refine ⟨ek.trans H.kk, ek ▸ H.nd, ek ▸ H.lt, H.n0, by rw [tput_len m]; exact H.ln, fun j x y h => ?_, fun j x y h => ?_, fun i j x y x' y' ne h h' => ?_, fun p => ?_⟩
  · obtain ⟨y', h1, rfl | rfl⟩ := g _ _ _ h
    · exact H.wf _ _ _ h1
    · obtain ⟨_, a, _, _, b⟩ := H.wf _ _ _ h1
      exact ⟨hT.1, a, hT.2.1, hT.2.2.1, b⟩
  · obtain ⟨y', h1, _⟩ := g _ _ _ h
    exact H.dp _ _ _ h1
  · obtain ⟨y1, h1, _⟩ := g _ _ _ h
    obtain ⟨y2, h2, _⟩ := g _ _ _ h'
    exact H.dj _ _ _ _ _ _ ne h1 h2
  · obtain ⟨j, x, y, h1, h2⟩ := H.wh p
    by_cases e : j = l
    · subst e
      rw [hl] at h1
      cases h1
      exact ⟨j, _, _, by rw [tget_put, if_pos rfl], h2⟩
    · exact ⟨j, _, _, by rw [tget_put, if_neg e]; exact h1, h2⟩
theorem HI.deed (H : HI hs n rs) (hl : tget hs l = some (o', t')) : HI (tput hs l (o', raiseT o' t')) n rs := by
  have m := HI.mem hl
  have ek : (tput hs l (o', raiseT o' t')).map (·.1) = hs.map (·.1) := by rw [tput_keys, if_pos m]
  have g : ∀ j x y, tget (tput hs l (o', raiseT o' t')) j = some (x, y) → ∃ y', tget hs j = some (x, y') ∧ (y = y' ∨ y = raiseT o' t') := by
    intro j x y h
    rw [tget_put] at h
    split at h
    · rename_i e; subst e; cases h; exact ⟨_, hl, .inr rfl⟩
    · exact ⟨y, h, .inl rfl⟩
  obtain ⟨w1, w2, w3, w4, w5⟩ := H.wf _ _ _ hl
  have hT := raiseT_all (k := 37) (by have := H.d12 hl; omega) w2 w5 w1 w3 w4
  refine ⟨ek.trans H.kk, ek ▸ H.nd, ek ▸ H.lt, H.n0, by rw [tput_len m]; exact H.ln, fun j x y h => ?_, fun j x y h => ?_, fun i j x y x' y' ne h h' => ?_, fun p => ?_⟩
  · obtain ⟨y', h1, rfl | rfl⟩ := g _ _ _ h
    · exact H.wf _ _ _ h1
    · obtain ⟨_, a, _, _, b⟩ := H.wf _ _ _ h1
      exact ⟨hT.1, a, hT.2.1, hT.2.2.1, b⟩
  · obtain ⟨y', h1, _⟩ := g _ _ _ h
    exact H.dp _ _ _ h1
  · obtain ⟨y1, h1, _⟩ := g _ _ _ h
    obtain ⟨y2, h2, _⟩ := g _ _ _ h'
    exact H.dj _ _ _ _ _ _ ne h1 h2
  · obtain ⟨j, x, y, h1, h2⟩ := H.wh p
    by_cases e : j = l
    · subst e
      rw [hl] at h1
      cases h1
      exact ⟨j, _, _, by rw [tget_put, if_pos rfl], h2⟩
    · exact ⟨j, _, _, by rw [tget_put, if_neg e]; exact h1, h2⟩
theorem HI.tog (H : HI hs n rs) (ne : k ≠ l) (hk : tget hs k = some (o, t)) (hl : tget hs l = some (o', t')) : ∃ c, Own.togO o o' = some c :=
  tog_some (H.wf _ _ _ hk).2.1 (H.wf _ _ _ hl).2.1 (H.dj _ _ _ _ _ _ ne hk hl)
theorem HI.join (H : HI hs n rs) (ne : k ≠ l) (hk : tget hs k = some (o, t)) (hl : tget hs l = some (o', t')) (hc : Own.togO o o' = some c) {d e : Int} (hd : tget rs k = some d) (he : tget rs l = some e) :
    HI (tdrop (tput hs k (c, joinT 37 t t')) l) n (tput (tdrop rs l) k (max d e)) := by
  have mk := HI.mem hk
  have ml := HI.mem hl
  obtain ⟨w1, w2, w3, w4, w5⟩ := H.wf _ _ _ hk
  obtain ⟨v1, v2, v3, v4, v5⟩ := H.wf _ _ _ hl
  have th := tog_has hc
  have hT := joinT_all (k := 37) (u := t') w3
  have cl := Own.togO_least w2 v2 hc
  have gg : ∀ j, tget (tdrop (tput hs k (c, joinT 37 t t')) l) j = if j = l then none else if j = k then some (c, joinT 37 t t') else tget hs j := fun j => by rw [tget_drop, tget_put]
  have gr : ∀ j, tget (tput (tdrop rs l) k (max d e)) j = if j = k then some (max d e) else if j = l then none else tget rs j := fun j => by rw [tget_put, tget_drop]
  have ek1 : (tdrop (tput hs k (c, joinT 37 t t')) l).map (·.1) = (hs.map (·.1)).filter fun i => decide (i ≠ l) := by rw [tdrop_keys, tput_keys, if_pos mk]
  have mk2 : k ∈ (tdrop rs l).map (·.1) := by
    rw [tdrop_keys, ← H.kk]
    exact List.mem_filter.mpr ⟨mk, by simpa using ne⟩
  have ek2 : (tput (tdrop rs l) k (max d e)).map (·.1) = (hs.map (·.1)).filter fun i => decide (i ≠ l) := by rw [tput_keys, if_pos mk2, tdrop_keys, ← H.kk]
  refine ⟨ek1.trans ek2.symm, by rw [ek1]; exact H.nd.filter _, fun j hj => ?_, H.n0, ⟨?_, ?_⟩, fun j x y h => ?_, fun j x y h => ?_, fun i j x y x' y' nij h h' => ?_, fun p => ?_⟩
  · rw [ek1] at hj
    exact H.lt j (List.mem_filter.mp hj).1
  · have : k ∈ (tdrop (tput hs k (c, joinT 37 t t')) l).map (·.1) := by rw [ek1]; exact List.mem_filter.mpr ⟨mk, by simpa using ne⟩
    obtain ⟨z, hz, _⟩ := List.mem_map.mp this
    exact List.length_pos_of_mem hz
  · refine Nat.le_trans tdrop_len ?_
    rw [tput_len mk]
    exact H.ln.2
  · rw [gg] at h
    split at h
    · cases h
    · split at h
      · cases h
        refine ⟨hT.1, cl, hT.2.1, hT.2.2.1, fun z => ?_⟩
        obtain ⟨p, hp⟩ := some_has w2 w5
        have := (th p).1
        rw [z, hp] at this
        simp [Own.has] at this
      · exact H.wf _ _ _ h
  · rw [gg] at h
    split at h
    · cases h
    · split at h
      · rename_i e1 e2
        subst e2
        cases h
        refine ⟨max d e, by rw [gr, if_pos rfl], ?_⟩
        have td := Own.togO_depth hc
        obtain ⟨d', a1, a2, a3⟩ := H.dp _ _ _ hk
        obtain ⟨e', b1, b2, b3⟩ := H.dp _ _ _ hl
        rw [hd] at a1; cases a1
        rw [he] at b1; cases b1
        omega
      · rename_i e1 e2
        obtain ⟨d', a1, a2⟩ := H.dp _ _ _ h
        exact ⟨d', by rw [gr, if_neg e2, if_neg e1]; exact a1, a2⟩
  · rw [gg] at h h'
    split at h
    · cases h
    · split at h'
      · cases h'
      · rename_i e1 e2
        split at h
        · rename_i e3
          subst e3
          cases h
          rw [if_neg (fun z => nij z.symm)] at h'
          intro p ⟨z1, z2⟩
          rw [(th p).1] at z1
          simp only [Bool.or_eq_true] at z1
          rcases z1 with z1 | z1
          · exact H.dj _ _ _ _ _ _ nij hk h' p ⟨z1, z2⟩
          · exact H.dj _ _ _ _ _ _ (fun z => e2 z.symm) hl h' p ⟨z1, z2⟩
        · split at h'
          · rename_i e3 e4
            subst e4
            cases h'
            intro p ⟨z1, z2⟩
            rw [(th p).1] at z2
            simp only [Bool.or_eq_true] at z2
            rcases z2 with z2 | z2
            · exact H.dj _ _ _ _ _ _ nij h hk p ⟨z1, z2⟩
            · exact H.dj _ _ _ _ _ _ e1 h hl p ⟨z1, z2⟩
          · exact H.dj _ _ _ _ _ _ nij h h'
  · obtain ⟨j, x, y, h1, h2⟩ := H.wh p
    have kc : x.has p = true → (j = k ∨ j = l) → ∃ k_1 o_1 t_1, tget (tdrop (tput hs k (c, joinT 37 t t')) l) k_1 = some (o_1, t_1) ∧ o_1.has p = true := by
      intro hx hj
      refine ⟨k, c, _, by rw [gg, if_neg ne, if_pos rfl], ?_⟩
      rw [(th p).1]
      rcases hj with rfl | rfl
      · rw [hk] at h1; cases h1; rw [hx]; rfl
      · rw [hl] at h1; cases h1; rw [hx]; simp
    by_cases e1 : j = k
    · exact kc h2 (.inl e1)
    · by_cases e2 : j = l
      · exact kc h2 (.inr e2)
      · exact ⟨j, x, y, by rw [gg, if_neg e2, if_neg e1]; exact h1, h2⟩
theorem HI.fork (H : HI hs n rs) (hk : tget hs k = some (o, t)) {d : Int} (hd : tget rs k = some d) (d12 : d < 12) (ln : hs.length < 8) :
    HI (tput (tput hs k ((Own.partO o).1, t)) n ((Own.partO o).2, t)) (n + 1) (tput (tput rs k (d + 1)) n (d + 1)) := by
  have mk := HI.mem hk
  obtain ⟨w1, w2, w3, w4, w5⟩ := H.wf _ _ _ hk
  have nk : n ∉ hs.map (·.1) := fun z => by have := (H.lt n z).2; omega
  have ne : k ≠ n := fun z => nk (z ▸ mk)
  have ph := part_has w2
  have pd := Own.partO_depth o
  have pl := Own.partO_least o w2
  have pn := Own.partO_ne o w5
  have mr : k ∈ rs.map (·.1) := H.kk ▸ mk
  have nr : n ∉ rs.map (·.1) := H.kk ▸ nk
  have gg : ∀ j, tget (tput (tput hs k ((Own.partO o).1, t)) n ((Own.partO o).2, t)) j = if j = n then some ((Own.partO o).2, t) else if j = k then some ((Own.partO o).1, t) else tget hs j := fun j => by rw [tget_put, tget_put]
  have gr : ∀ j, tget (tput (tput rs k (d + 1)) n (d + 1)) j = if j = n then some (d + 1) else if j = k then some (d + 1) else tget rs j := fun j => by rw [tget_put, tget_put]
  have ek1 : (tput (tput hs k ((Own.partO o).1, t)) n ((Own.partO o).2, t)).map (·.1) = hs.map (·.1) ++ [n] := by rw [tput_keys, tput_keys, if_pos mk, if_neg nk]
  have ek2 : (tput (tput rs k (d + 1)) n (d + 1)).map (·.1) = hs.map (·.1) ++ [n] := by rw [tput_keys, tput_keys, if_pos mr, if_neg nr, H.kk]
  obtain ⟨d', a1, a2, a3⟩ := H.dp _ _ _ hk
  rw [hd] at a1
  cases a1
  refine ⟨ek1.trans ek2.symm, tput_nodup (tput_nodup H.nd), fun j hj => ?_, by have := H.n0; omega, ⟨?_, ?_⟩, fun j x y h => ?_, fun j x y h => ?_, fun i j x y x' y' nij h h' => ?_, fun p => ?_⟩
  · rw [ek1] at hj
    rcases List.mem_append.mp hj with z | z
    · have := H.lt j z; omega
    · have z : j = n := by simpa using z
      have := H.n0
      omega
  · have e := congrArg List.length ek1
    simp only [List.length_map, List.length_append, List.length_cons] at e
    omega
  · have e := congrArg List.length ek1
    simp only [List.length_map, List.length_append, List.length_cons, List.length_nil] at e
    omega
  · rw [gg] at h
    split at h
    · cases h; exact ⟨w1, pl.2, w3, w4, pn.2⟩
    · split at h
      · cases h; exact ⟨w1, pl.1, w3, w4, pn.1⟩
      · exact H.wf _ _ _ h
  · rw [gg] at h
    rw [gr]
    split at h
    · rename_i e1; rw [if_pos e1]; cases h; exact ⟨_, rfl, by omega, by omega⟩
    · rename_i e1
      rw [if_neg e1]
      split at h
      · rename_i e2; rw [if_pos e2]; cases h; exact ⟨_, rfl, by omega, by omega⟩
      · rename_i e2; rw [if_neg e2]; exact H.dp _ _ _ h
  · have nn : ∀ {a x y}, a ≠ n → tget hs n = some (x, y) → False := fun _ z => nk (HI.mem z)
    rw [gg] at h h'
    intro p ⟨z1, z2⟩
    have hor : ((Own.partO o).1.has p = true → o.has p = true) ∧ ((Own.partO o).2.has p = true → o.has p = true) := by
      rw [(ph p).1]
      exact ⟨fun z => by rw [z]; rfl, fun z => by rw [z]; simp⟩
    by_cases ia : i = n
    · rw [if_pos ia] at h
      have jn : j ≠ n := fun z => nij (ia.trans z.symm)
      rw [if_neg jn] at h'
      cases h
      by_cases jk : j = k
      · rw [if_pos jk] at h'
        cases h'
        exact (ph p).2 ⟨z2, z1⟩
      · rw [if_neg jk] at h'
        exact H.dj _ _ _ _ _ _ (fun z => jk z.symm) hk h' p ⟨hor.2 z1, z2⟩
    · rw [if_neg ia] at h
      by_cases ja : j = n
      · rw [if_pos ja] at h'
        cases h'
        by_cases ik : i = k
        · rw [if_pos ik] at h
          cases h
          exact (ph p).2 ⟨z1, z2⟩
        · rw [if_neg ik] at h
          exact H.dj _ _ _ _ _ _ ik h hk p ⟨z1, hor.2 z2⟩
      · rw [if_neg ja] at h'
        by_cases ik : i = k
        · rw [if_pos ik] at h
          cases h
          have jk : j ≠ k := fun z => nij (ik.trans z.symm)
          rw [if_neg jk] at h'
          exact H.dj _ _ _ _ _ _ (fun z => jk z.symm) hk h' p ⟨hor.1 z1, z2⟩
        · rw [if_neg ik] at h
          by_cases jk : j = k
          · rw [if_pos jk] at h'
            cases h'
            exact H.dj _ _ _ _ _ _ ik h hk p ⟨z1, hor.1 z2⟩
          · rw [if_neg jk] at h'
            exact H.dj _ _ _ _ _ _ nij h h' p ⟨z1, z2⟩
  · obtain ⟨j, x, y, h1, h2⟩ := H.wh p
    by_cases e : j = k
    · subst e
      rw [hk] at h1
      cases h1
      have e2 := (ph p).1
      rw [h2] at e2
      cases q : (Own.partO o).1.has p with
      | true => exact ⟨j, _, _, by rw [gg, if_neg ne, if_pos rfl], q⟩
      | false =>
        rw [q] at e2
        exact ⟨n, _, _, by rw [gg, if_pos rfl], by simpa using e2.symm⟩
    · have jn : j ≠ n := fun z => nk (z ▸ HI.mem h1)
      exact ⟨j, x, y, by rw [gg, if_neg jn, if_neg e]; exact h1, h2⟩
end
theorem raise_whole (t : Told) : ∃ i, raiseT (.lf true) t = .n i := by
  unfold raiseT
  split
  · rename_i z
    cases t with
    | n i => exact ⟨i + 1, rfl⟩
    | t i l r => rw [fillT] at z; cases z
  · cases t with
    | n i => exact ⟨i, rfl⟩
    | t i l r => exact ⟨_, rfl⟩
/-- hands and a law's own table -/
structure LM (CS CH : Addr) (g : Store) (w : Bool) (h : Addr) (i j : Nat) (s : Addr) (hs : HS) (n : Int) (a : Addr) (i3 : Nat) (kvs : KD) (b : Addr) (i4 : Nat) (rs : Tab Int) : Prop where
  ha : HAt CS CH g w h i j s hs n
  om : g[i3]? = some (En.mk a w (.dk kvs))
  dv : valD kvs (.inr "deep") = some (.cls b)
  od : g[i4]? = some (En.mk b w (.dk (tabD D.int rs)))
  n1 : i4 ≠ i
  n2 : i4 ≠ j
  n3 : i3 ≠ i
  n4 : i3 ≠ j
  n5 : i3 ≠ i4
section
variable {CS CH : Addr} {g : Store} {w : Bool} {h : Addr} {i j : Nat} {s : Addr} {hs : HS} {n : Int} {a : Addr} {i3 : Nat} {kvs : KD} {b : Addr} {i4 : Nat} {rs : Tab Int}
theorem LM.hput (z : LM CS CH g w h i j s hs n a i3 kvs b i4 rs) (hs' : HS) : LM CS CH (gset g j (.dk (hsD CS hs'))) w h i j s hs' n a i3 kvs b i4 rs :=
  ⟨z.ha.put hs', by rw [gset_get z.ha.dk, if_neg z.n4]; exact z.om, z.dv, by rw [gset_get z.ha.dk, if_neg z.n2]; exact z.od, z.n1, z.n2, z.n3, z.n4, z.n5⟩
theorem LM.hnext (z : LM CS CH g w h i j s hs n a i3 kvs b i4 rs) (n' : Int) : LM CS CH (gset g i (.ob CH (obH s n'))) w h i j s hs n' a i3 kvs b i4 rs :=
  ⟨z.ha.next n', by rw [gset_get z.ha.ob, if_neg z.n3]; exact z.om, z.dv, by rw [gset_get z.ha.ob, if_neg z.n1]; exact z.od, z.n1, z.n2, z.n3, z.n4, z.n5⟩
theorem LM.dput (z : LM CS CH g w h i j s hs n a i3 kvs b i4 rs) (rs' : Tab Int) : LM CS CH (gset g i4 (.dk (tabD D.int rs'))) w h i j s hs n a i3 kvs b i4 rs' :=
  ⟨⟨by rw [gset_get z.od, if_neg z.n1.symm]; exact z.ha.ob, by rw [gset_get z.od, if_neg z.n2.symm]; exact z.ha.dk⟩, by rw [gset_get z.od, if_neg z.n5]; exact z.om, z.dv, by rw [gset_get z.od, if_pos rfl], z.n1, z.n2, z.n3, z.n4, z.n5⟩
end
/-- a step that a law may do -/
def StepOk (rs : Tab Int) (what : Str) (one other : Int) : Prop := one ∈ rs.map (·.1) ∧ other ∈ rs.map (·.1) ∧
  ((what = "fork" ∧ (∃ d, tget rs one = some d ∧ d < 12) ∧ rs.length < 8) ∨ what = "deed" ∨ (what = "join" ∧ one ≠ other) ∨ (what = "tell" ∧ one ≠ other))
abbrev hsOw (hs : HS) : Tab Own := tmap (·.1) hs
/-- own parts by hand -/
def ownAt (os : Tab Own) (k : Int) : Own := (tget os k).getD (.lf false)
def ownsD (ys : List Int) (os : Tab Own) : List D := ys.map fun k => .tup [.int k, (ownAt os k).d]
theorem ownAt_get {hs : HS} {k : Int} {o : Own} {t : Told} (h : tget hs k = some (o, t)) : ownAt (tmap (·.1) hs) k = o := by
  unfold ownAt
  rw [tmap_get, h]
  rfl
theorem HI.owns {hs : HS} {n : Int} {rs : Tab Int} (H : HI hs n rs) {ys : List Int} (p1 : ys.Perm (hs.map (·.1))) :
    (∀ u ∈ ys.map (ownAt (tmap (·.1) hs)), u ≠ .lf false ∧ u.isLeast = true ∧ u.depth ≤ 12) ∧
    (ys.map (ownAt (tmap (·.1) hs))).Pairwise (fun a b => ∀ p, ¬ (a.has p = true ∧ b.has p = true)) ∧
    ∀ p, ∃ u ∈ ys.map (ownAt (tmap (·.1) hs)), u.has p = true := by
  refine ⟨fun u hu => ?_, ?_, fun p => ?_⟩
  · obtain ⟨k, hk, rfl⟩ := List.mem_map.mp hu
    obtain ⟨o, t, e⟩ := H.has (p1.mem_iff.mp hk)
    rw [ownAt_get e]
    have w := H.wf _ _ _ e
    exact ⟨w.2.2.2.2, w.2.1, H.d12 e⟩
  · rw [List.pairwise_map]
    have nd : ys.Nodup := p1.nodup_iff.mpr H.nd
    refine List.Pairwise.imp_of_mem (fun {a b} ha hb ne => ?_) nd
    obtain ⟨o, t, e⟩ := H.has (p1.mem_iff.mp ha)
    obtain ⟨o', t', e'⟩ := H.has (p1.mem_iff.mp hb)
    rw [ownAt_get e, ownAt_get e']
    exact H.dj _ _ _ _ _ _ ne e e'
  · obtain ⟨k, o, t, e, hp⟩ := H.wh p
    exact ⟨o, List.mem_map.mpr ⟨k, p1.mem_iff.mpr (HI.mem e), ownAt_get e⟩, hp⟩
/-- one own part more, by those ahead -/
theorem owns_next {us : List Own} (h1 : ∀ u ∈ us, u ≠ .lf false ∧ u.isLeast = true ∧ u.depth ≤ 12) (h2 : us.Pairwise (fun a b => ∀ p, ¬ (a.has p = true ∧ b.has p = true))) {i : Nat} {u W : Own} (hu : us[i]? = some u)
    (w1 : W.isLeast = true) (w2 : W.depth ≤ 12) (w3 : ∀ p, W.has p = true ↔ ∃ v ∈ us.take i, v.has p = true) :
    (∀ v ∈ us.take i, Own.sharesO u v = false) ∧ ∃ c, Own.togO W u = some c ∧ c.isLeast = true ∧ c.depth ≤ 12 ∧ ∀ p, c.has p = true ↔ ∃ v ∈ us.take (i + 1), v.has p = true := by
  have hi := (List.getElem?_eq_some_iff.mp hu).1
  have eu := (List.getElem?_eq_some_iff.mp hu).2
  have mu := List.mem_of_getElem? hu
  have ap : ∀ v ∈ us.take i, ∀ p, ¬ (v.has p = true ∧ u.has p = true) := by
    intro v hv
    obtain ⟨j, hj, rfl⟩ := List.mem_iff_getElem.mp hv
    have hj' : j < i := by have := hj; rw [List.length_take] at this; omega
    have := List.pairwise_iff_getElem.mp h2 j i (by omega) hi hj'
    rw [List.getElem_take, ← eu]
    exact this
  have dis : ∀ p, ¬ (W.has p = true ∧ u.has p = true) := fun p ⟨a, b⟩ => by
    obtain ⟨v, hv, hp⟩ := (w3 p).mp a
    exact ap v hv p ⟨hp, b⟩
  obtain ⟨c, hc⟩ := tog_some w1 (h1 u mu).2.1 dis
  refine ⟨fun v hv => shares_has (h1 u mu).2.1 (h1 v (List.mem_of_mem_take hv)).2.1 fun p z => ap v hv p ⟨z.2, z.1⟩, c, hc, Own.togO_least w1 (h1 u mu).2.1 hc, ?_, fun p => ?_⟩
  · have := Own.togO_depth hc
    have := (h1 u mu).2.2
    omega
  · rw [(tog_has hc p).1, Bool.or_eq_true, w3 p]
    have et : us.take (i + 1) = us.take i ++ [u] := by rw [List.take_add_one, hu]; rfl
    rw [et]
    simp only [List.mem_append, List.mem_singleton]
    constructor
    · rintro (⟨v, hv, hp⟩ | hp)
      · exact ⟨v, .inl hv, hp⟩
      · exact ⟨u, .inr rfl, hp⟩
    · rintro ⟨v, hv | rfl, hp⟩
      · exact .inl ⟨v, hv, hp⟩
      · exact .inr hp
theorem owns_eqv (os : Tab Own) : ∀ ys : List Int, (D.lst (ownsD ys os)).eqv (.lst (ownsD ys os)) = true
  | [] => rfl
  | k :: ys => by
    have ih := owns_eqv os ys
    have e := Own.eqv_d (ownAt os k) (ownAt os k)
    rw [decide_eq_true rfl] at e
    simp only [ownsD, D.eqv, D.py, PyData.eqv] at ih e ⊢
    simp only [List.map_cons, pys, D.py, PyData.eqvAll, PyData.eqv, ih, e, Bool.and_true, decide_true, beq_self_eq_true]
theorem owns_sh (os : Tab Own) {ys : List Int} (h : ∀ k ∈ ys, (ownAt os k).depth ≤ 60) : (D.lst (ownsD ys os)).Sh := by
  have g : ∀ ys : List Int, (∀ k ∈ ys, (ownAt os k).depth ≤ 60) → PyData.canLayAll0 (pys (ownsD ys os)) = true ∧ PyData.depthAll (pys (ownsD ys os)) ≤ 61 := by
    intro zs
    induction zs with
    | nil => intro _; exact ⟨rfl, by simp [ownsD, pys, PyData.depthAll]⟩
    | cons z zs ih =>
      intro h
      obtain ⟨i1, i2⟩ := ih fun w hw => h w (by simp [hw])
      have hz := h z (by simp)
      unfold ownsD at i1 i2 ⊢
      refine ⟨by simp only [List.map_cons, pys, PyData.canLayAll0, i1, D.py, PyData.canLay0, Own.lay, Bool.and_true], ?_⟩
      simp only [List.map_cons, pys, PyData.depthAll, D.py, PyData.depth, Own.pdepth]
      omega
  obtain ⟨h1, h2⟩ := g ys h
  show ((D.lst (ownsD ys os)).py.canLay0 && decide ((D.lst (ownsD ys os)).py.depth ≤ 64)) = true
  rw [Bool.and_eq_true]
  refine ⟨by simpa only [D.py, PyData.canLay0] using h1, decide_eq_true ?_⟩
  simp only [D.py, PyData.depth]
  omega
/-- one hand gone, as it is joined -/
theorem keys_joined {hs : HS} {y z : Int} {rest : List Int} {v : Own × Told} (p : (hs.map (·.1)).Perm (y :: z :: rest)) (nd : (hs.map (·.1)).Nodup) : ((tdrop (tput hs y v) z).map (·.1)).Perm (y :: rest) := by
  have my : y ∈ hs.map (·.1) := p.mem_iff.mpr (by simp)
  rw [tdrop_keys, tput_keys, if_pos my]
  have n2 := p.nodup_iff.mp nd
  have p2 := p.filter fun i => decide (i ≠ z)
  refine p2.trans ?_
  rw [List.nodup_cons, List.nodup_cons] at n2
  have yz : y ≠ z := fun e => n2.1 (by rw [e]; simp)
  rw [List.filter_cons_of_pos (by simpa using yz), List.filter_cons_of_neg (by simp), List.filter_eq_self.mpr fun a ha => ?_]
  simp only [decide_eq_true_eq]
  rintro rfl
  exact n2.2.1 ha
end DL

set_option maxRecDepth 100000
set_option maxHeartbeats 4000000
/-! set(xs) of a list of ints, as a set whose order the run tells; sorted(set(xs)). -/
namespace DL
open PySem PySem.Spec L2 PyProof.Rows
/-- an empty set, as it is made -/
abbrev set0 (w : World) : Obj := { cls := .type "set", dict := none, data := .set #[] 0 (.fresh 0 0 (!w.params.followText "set-order")) }
section
variable {P : Program} {w : World} {A : Around} {E : Value → Shared → Prop} {s : Shared}
/-- behind __init__: the members, and what stood stands -/
abbrev Filled (w : World) (s : Shared) (ns : List Int) (s2 : Shared) : Prop :=
  ∃ (h' : Heap) (tk c : Nat), s2 = { s with heap := h', toks := tk } ∧ SetR w h' s.heap.objs.size (fun j => decide (j ∈ ns)) c ∧ c ≤ ns.length ∧ ∀ b o, s.heap.get? b = some o → h'.get? b = some o
/-- the members go in, one by one -/
theorem fill_list {l : Addr} {items : Array Value} (ns : List Int) {Q2 : Shared → Prop} (hh : A.handled = none) (hl : s.heap.IsList l items) (hit : IntsAre items.toList ns) (hb : ns.length + 1 < scanBound) (q : ∀ s2, Filled w s ns s2 → Q2 s2) :
    wpAny (model P w) A (pyIter (.ref l)) (fun a s' => wpAny (model P w) A (do let _ ← runValue (Code.builtin "set.update.loop" ⟨[.ref s.heap.objs.size, a], []⟩); pure ()) (fun _ s' => Q2 s') E s') E { s with heap := s.heap.push (set0 w) } := by
  have hisz : items.size = ns.length := by
    have q := IntsAre.length hit
    rw [Array.length_toList] at q
    exact q
  have hS : (s.heap.push (set0 w)).get? s.heap.objs.size = some (set0 w) := Heap.get?_push_size _ rfl
  have hl1 : (s.heap.push (set0 w)).IsList l items := hl.push _
  have lS : l < s.heap.objs.size := by obtain ⟨o, ho, _⟩ := hl; exact Heap.lt_size ho
  have z1 : (s.heap.push (set0 w)).objs.size = s.heap.objs.size + 1 := Heap.size_push ..
  refine wpAny_pyIter_list hl1 ?_
  refine wpAny_bind (wpAny_runValue ?_)
  have hneI : l ≠ (s.heap.push (set0 w)).objs.size := by rw [z1]; exact Nat.ne_of_lt (Nat.lt_succ_of_lt lS)
  have hSf : s.heap.objs.size ∉ [(s.heap.push (set0 w)).objs.size, l] := by
    rw [z1]
    simp only [List.mem_cons, List.mem_singleton, List.not_mem_nil, or_false, not_or]
    exact ⟨Nat.ne_of_lt (Nat.lt_succ_self _), Nat.ne_of_gt lS⟩
  have hval : ∀ (i : Nat) (v : Value), items[i]? = some v → ∃ k t, ns[i]? = some k ∧ v = .int k t := fun i v hv => by
    have hi : i < ns.length := by rw [← hisz]; exact (Array.getElem?_eq_some_iff.mp hv).1
    obtain ⟨t, e⟩ := PyProof.Rows.IntsAre.int_at hit i v (by rw [Array.getElem?_toList]; exact hv)
    refine ⟨ns[i], t, List.getElem?_eq_getElem hi, ?_⟩
    rw [e, List.getD_eq_getElem?_getD, List.getElem?_eq_getElem hi]; rfl
  refine set_update_ints ((Walks.list (by simp [hh]) _ l hneI items).toS) s.heap.objs.size hSf ns hisz hb hval (items.size - 0) 0 _ (by omega) (Nat.zero_le _) ⟨⟨_, Heap.get?_push_size _ rfl, rfl, rfl⟩, hl1.push _⟩ ⟨0, Nat.le_refl 0, setR_new_at (Heap.get?_push_of_some _ hS)⟩ ?_
  intro s2 c hm hc hS2
  obtain ⟨h', g2, d2, tk, os2⟩ := s2
  have eg : g2 = s.gens := hm.gens
  have ed : d2 = s.drawn := hm.drawn
  have eo : os2 = s.os := hm.os
  subst eg ed eo
  show wpAny _ _ (pure ()) _ _ _
  refine wpAny_pure (q _ ⟨h', tk, c, rfl, hS2, by omega, fun b o e => ?_⟩)
  have b0 : b < s.heap.objs.size := Heap.lt_size e
  refine hm.heap b o ?_ (Heap.get?_push_of_some _ (Heap.get?_push_of_some _ e))
  rw [z1]
  simp only [List.mem_cons, List.mem_singleton, List.not_mem_nil, or_false, not_or]
  exact ⟨Nat.ne_of_lt b0, Nat.ne_of_lt (Nat.lt_succ_of_lt b0)⟩
set_option maxHeartbeats 3200000 in
theorem set_of_list {l : Addr} {items : Array Value} (ns : List Int) {Q : Value → Shared → Prop} (hh : A.handled = none) (hl : s.heap.IsList l items) (hit : IntsAre items.toList ns) (hb : ns.length + 1 < scanBound)
    (q : ∀ s2, Filled w s ns s2 → Q (.ref s.heap.objs.size) s2) : wpAny (model P w) A (call (.type "set") [.ref l]) Q E s := by
  obtain ⟨c, tl, hmro⟩ := F.called_set.mro
  have hmade := F.called_set.made
  have hsub := F.called_set.sub
  have h1 := F.called_set.notType
  have h2 := F.called_set.canCreate
  have hct := F.typeCall_set_1 (.ref l)
  have hli := F.called_set.init.lookup
  have hbi := F.called_set.init.bind (.ref s.heap.objs.size)
  refine wpAny_call (codeAny_of_tree ?_)
  show wpAny _ _ (callAny (.type "set") _) _ _ _
  refine wpAny_pure ⟨Code.quiet_builtin _ (by decide +kernel), codeAny_builtin F.entry_type_call ?_⟩
  rw [Around.under_plain (weight_type_call_type "set" [.ref l] []) rfl]
  repeat (any_goals (first | assumption | wp_step))
  refine codeAny_mono (code_set_led1 (.ref l) (E := E) (Q₁ := fun obj s1 => obj = .ref s.heap.objs.size ∧ s1 = { s with heap := s.heap.push (set0 w) }) ⟨rfl, rfl⟩) fun r s1 hr => ?_
  cases r with
  | error e => exact hr
  | ok fl =>
    cases fl with
    | ret obj =>
      obtain ⟨rfl, rfl⟩ := hr
      have hS : (s.heap.push (set0 w)).get? s.heap.objs.size = some (set0 w) := Heap.get?_push_size _ rfl
      have hT : Shared.TypeIs { s with heap := s.heap.push (set0 w) } (.ref s.heap.objs.size) "set" := ⟨_, hS, rfl⟩
      repeat (any_goals (first | assumption | wp_step))
      refine codeAny_mono (codeAny_call_builtin (R := wants (fun r s2 => r = .none ∧ Filled w s ns s2) E) F.called_set.init.plain F.entry_set_init (check_set_init_1 hT ?_)) fun r2 s2 hr2 => ?_
      · have hl0 := hl
        obtain ⟨ol, hol, hcl, nl, hdl⟩ := hl
        obtain ⟨ocls, odict, odata, oslots⟩ := ol
        simp only at hcl hdl
        subst hcl; subst hdl
        have hol' := Heap.get?_push_of_some (set0 w) hol
        have hsls := F.sub_list_set
        have hslf := F.sub_list_frozenset
        have hne : (Value.type "list" == Value.type "dict") = false := by decide
        unfold Builtin.«set.__init__» noKeywords Builtin.Frozenset.updateFrom
        generalize hPI : pyIter = PI
        wp_walk
        subst hPI
        refine fill_list (Q2 := fun s' => wpAny (model P w) A.in1.in1 (ret Value.none) _ _ s') ns (by simp [hh]) hl0 hit hb fun s2 z => ?_
        exact wpAny_pure ⟨rfl, z⟩
      · cases r2 with
        | error e => exact hr2
        | ok fl2 =>
          cases fl2 with
          | ret r =>
            obtain ⟨rfl, z⟩ := hr2
            repeat (any_goals (first | assumption | wp_step))
            exact q _ z
          | _ => exact hr2.elim
    | _ => exact hr.elim
end
theorem nodup_sub : ∀ {xs zs : List Int}, xs.Nodup → (∀ k ∈ xs, k ∈ zs) → xs.length ≤ zs.length
  | [], _, _, _ => Nat.zero_le _
  | x :: xs, zs, nd, h => by
    rw [List.nodup_cons] at nd
    have m := h x (by simp)
    have ih := nodup_sub (zs := zs.erase x) nd.2 fun k hk => (List.mem_erase_of_ne (show k ≠ x by rintro rfl; exact nd.1 hk)).mpr (h k (by simp [hk]))
    have := List.length_erase_of_mem m
    have := List.length_pos_of_mem m
    simp only [List.length_cons]
    omega
section
variable {X : Cx}
def rSetL (K : PySem.W.Frag) (w : World) : List V → Hp → VK → Prop := fun xs H Q => ∃ (l : Addr) (ns : List Int), xs = [V.ref l] ∧ SqL K H l (ns.map V.int) ∧ ns.length ≤ 1000 ∧
  ∀ p c, H p = none → (∀ zs : List Int, (∀ k ∈ ns, k ∈ zs) → c ≤ zs.length) → Q (.ref p) (upd H p (SetO w p (fun j => decide (j ∈ ns)) c))
theorem cr_setL (hc : X.calm = true) : CallR X (.type "set") (rSetL X.K X.w) := by
  intro pins s σ H vs us Q I r h
  obtain ⟨l, ns, rfl, hs, hb, q⟩ := h
  obtain ⟨its, rv, ⟨o, n, ho, hcl, hdn, hd⟩, hlen⟩ := I.list hs
  rw [Vals.ref1 r]
  refine set_of_list ns (I.ok.hd hc) ⟨o, ho, hcl, n, hd⟩ (ints_of_vals rv) (by unfold scanBound; omega) fun s2 z => ?_
  obtain ⟨h', tk, c, rfl, R, cn, k⟩ := z
  have R0 := R
  obtain ⟨ob, es, ep, t, hob, hex, hda, g, nd, hm, hb2, hf, hn, hr, hl⟩ := R0
  refine ⟨.ref _, upd H s.heap.objs.size (SetO X.w s.heap.objs.size (fun j => decide (j ∈ ns)) c), I.laid (t' := tk) k (Nat.le_refl _) (setO_new R), rfl, q _ c (I.hok.fresh (Nat.le_refl _)) fun zs hz => ?_⟩
  rw [← hn, ← Array.length_toList, ← List.length_map (f := keyOf)]
  exact nodup_sub nd fun k hk => hz k (by simpa using (hm k).mpr hk)
end
end DL

set_option maxRecDepth 100000
set_option maxHeartbeats 4000000
/-! The data layer: sorted(set(xs)), list(xs), len of a dict, of a list that the frame owns; operators whose right side changes things. -/
namespace DL
open PySem PySem.Spec L2
section
variable {X : Cx} {W : WX} {E1 : E1T} {a b c o e : Expr} {es rest : List Expr} {pos p p2 pos' tpos apos : Pos} {t u : TE1} {tf uf : TF1} {taf : TAF1} {K : PySem.W.Frag}
/-- a op b, b changes things -/
@[simp] abbrev uOpR (f : F2) (t : TE1) (u : TF1) : TF1 := fun ρ Q => t ρ fun d => u ρ fun e ρ' => f d e fun z => Q z ρ'
theorem qf_opR {op : Operator} {r : R2} {f : F2} (ho : OpR X (binaryOp op) r) (hi : OpI X.K r f) (ha : QE X W E1 a t) (hb : QF X W E1 b uf) : QF X W E1 (.BinOp a op b pos) (uOpR f t uf) := by
  obtain ⟨te, h1, i1⟩ := ha
  obtain ⟨tr, h2, i2⟩ := hb
  refine ⟨_, pe_op ho h1 h2, fun F M H σ ρ Q1 Q S hx t q => ?_⟩
  refine i1 F M H σ ρ _ _ S hx t fun v H1 d e1 r1 t1 => ?_
  refine i2 F M H1 σ ρ _ _ (S.same e1) hx t1 fun w H2 M' ρ' d2 S' kp r2 t2 => ?_
  exact hi H2 (M' ++ F.L0) d d2 v w _ _ S'.all (kp _ _ r1) r2 t2 fun x H3 d3 e3 r3 t3 => q x H3 M' ρ' d3 (S'.same e3) (fun d0 v0 r0 => same_rp e3 (kp d0 v0 (same_rp e1 r0))) r3 t3
theorem ints_rp {H : Hp} {L : List Addr} : ∀ {ns : List Int} {vs : List V}, RpAll K H L (iL ns) vs → vs = ns.map V.int
  | [], _, h => h
  | n :: ns, _, ⟨x, r, h1, h2, h3⟩ => by
    cases h2
    rw [h1, ints_rp h3]; rfl
/-- sorted(set(e)), e a list of ints, or what changes things and gives one -/
@[simp] abbrev uSortSet (t : TF1) : TF1 := fun ρ Q => t ρ fun d ρ' => ∃ ns : List Int, d = .lst (iL ns) ∧ ns.length ≤ 1000 ∧ (∃ zs : List Int, (∀ k ∈ ns, k ∈ zs) ∧ zs.length < 64) ∧ ∀ ys : List Int, ys.Pairwise (· < ·) → (∀ k : Int, k ∈ ys ↔ k ∈ ns) → Q (.lst (iL ys)) ρ'
theorem qf_sortSet (hc : X.calm = true) (hg : Gl X "sorted") (hm : X.mg "sorted" = none) (hg2 : Gl X "set") (hm2 : X.mg "set" = none) (h : QF X W E1 e tf)
    (hst : starEach [e] X.env = [(false, eval e X.env)] := by rfl) (hst2 : starEach [.Call (.Name "set" p2) [e] [] pos'] X.env = [(false, eval (.Call (.Name "set" p2) [e] [] pos') X.env)] := by rfl) :
    QF X W E1 (.Call (.Name "sorted" p) [.Call (.Name "set" p2) [e] [] pos'] [] pos) (uSortSet tf) := by
  obtain ⟨te, h1, i1⟩ := h
  have pset := pe_callTy (pos := pos') (p := p2) (cr_setL hc) hg2 hm2 (by decide +kernel) (pa_cons h1 pa_nil (by rw [hst]; rfl)) (by decide) (by decide) (by rw [hst]; rfl) (by rfl)
  refine ⟨_, pe_callB (cr_sortedSet hc) hg hm (by decide +kernel) (pa_cons pset pa_nil (by rw [hst2]; rfl)) (by decide) (by decide) (by rw [hst2]; rfl) (by rfl), fun F M H σ ρ Q1 Q S hx t q => ?_⟩
  refine i1 F M H σ ρ _ _ S hx t fun v H1 M' ρ' d S' kp r1 ⟨ns, ed, hl, ⟨zs, hz, z64⟩, t1⟩ => ?_
  subst ed
  obtain ⟨l, vs, rfl, h2, g2⟩ := r1
  have ev := ints_rp g2
  subst ev
  refine ⟨l, ns, rfl, h2.sq, hl, fun s c hs cn => ?_⟩
  have e1 := same_new hs (SetO X.w s (fun j => decide (j ∈ ns)) c)
  refine ⟨s, _, c, rfl, upd_same, Nat.lt_of_le_of_lt (cn zs hz) z64, fun ys y srt mem len hy => ?_⟩
  have e2 := same_new hy (.lst (ys.map V.int))
  have ee := e1.trans e2
  exact q _ _ M' ρ' (.lst (iL ys)) (S'.same ee) (fun d0 v0 r0 => same_rp ee (kp d0 v0 r0)) ⟨y, _, rfl, .inl ⟨fun w => (S'.same e1).all y w hy, .inl upd_same⟩, rp_of_ints ys⟩ (t1 ys srt fun k => by rw [mem k]; simp)
/-- list(xs) of a list, of a tuple -/
@[simp] abbrev fList : List D → (D → Prop) → Prop := fun ds Q => ∃ xs, (ds = [.lst xs] ∨ ds = [.tup xs]) ∧ Q (.lst xs)
theorem i_listOf : CallI K (fun xs H Q => ∃ p ys, xs = [.ref p] ∧ (SqL K H p ys ∨ SqT K H p ys) ∧ ∀ l, H l = none → Q (.ref l) (upd H l (.lst ys))) fList := by
  rintro H L ds vs Q1 Q hL r ⟨xs, hd, t⟩ q
  have go : ∀ (a : Addr) (ys : List V), RpAll K H L xs ys → ∀ l, H l = none → Q (.ref l) (upd H l (.lst ys)) := fun a ys g l hl => by
    have en := same_new hl (.lst ys)
    exact q _ _ (.lst xs) en ⟨l, ys, rfl, .inl ⟨fun z => hL l z hl, .inl upd_same⟩, RpAll.same en (fun _ _ z => z) _ _ g⟩ t
  rcases hd with rfl | rfl
  · obtain ⟨v, r', rfl, ⟨a, ys, ea, h1, g1⟩, h2⟩ := r
    cases h2
    subst ea
    exact ⟨a, ys, rfl, .inl h1.sq, go a ys g1⟩
  · obtain ⟨v, r', rfl, ⟨a, ys, ea, h1, g1⟩, h2⟩ := r
    cases h2
    subst ea
    exact ⟨a, ys, rfl, .inr h1, go a ys g1⟩
/-- len(d) -/
@[simp] abbrev uLenD (t : TE1) : TE1 := fun ρ Q => t ρ fun d => ∃ (a : Addr) (n : Nat) (w : Bool) (kvs : KD), d = .cls a ∧ ρ.mu[n]? = some (En.mk a w (.dk kvs)) ∧ Q (.int ((kvs.length : Nat) : Int))
theorem q_lenD (hg : Gl X "len") (hm : X.mg "len" = none) (ho : QE X W E1 o t) (hst : starEach [o] X.env = [(false, eval o X.env)] := by rfl) : QE X W E1 (.Call (.Name "len" p) [o] [] pos) (uLenD t) := by
  obtain ⟨te, h1, i1⟩ := ho
  refine ⟨_, pe_callB call_lenD hg hm PySem.boot_len (pa_cons h1 pa_nil (by rw [hst]; rfl)) (by decide) (by decide) (by rw [hst]; rfl) (by rfl), fun F M H σ ρ Q1 Q S hx t q => ?_⟩
  refine i1 F M H σ ρ _ _ S hx t fun x H1 d e1 rx ⟨a, n, w, kvs, ed, em, t1⟩ => ?_
  subst ed
  cases rx
  obtain ⟨hm, vs, ha, kp⟩ := (S.same e1).dk em
  exact ⟨a, vs, rfl, ha, q _ _ (.int ((kvs.length : Nat) : Int)) e1 (by rw [← kp.len]; rfl) t1⟩
/-- len(xs), xs a list that the frame owns -/
@[simp] abbrev uLenO (i : Nat) : TE1 := fun ρ Q => ∃ ds, ρ[i]? = some (.own ds) ∧ Q (.int ((ds.length : Nat) : Int))
theorem q_lenO (i : Nat) {lx : Expr} (hg : Gl X "len") (hm : X.mg "len" = none) (hl : PE X lx (tVar i)) (hst : starEach [lx] X.env = [(false, eval lx X.env)] := by rfl) : QE X W E1 (.Call (.Name "len" p) [lx] [] pos) (uLenO i) := by
  refine ⟨_, pe_callB call_len_seq hg hm PySem.boot_len (pa_cons hl pa_nil (by rw [hst]; rfl)) (by decide) (by decide) (by rw [hst]; rfl) (by rfl), fun F M H σ ρ Q1 Q S hx ⟨ds, e, t⟩ q => ?_⟩
  obtain ⟨a, xs, h1, h2, h3, h4⟩ := S.getOwn e
  refine ⟨_, h1, a, xs, rfl, .inl (SqL.of h3), ?_⟩
  rw [h4.length]
  exact q _ H (.int ((ds.length : Nat) : Int)) (Same.refl H) rfl t
end
end DL

set_option maxRecDepth 100000
set_option maxHeartbeats 4000000
/-! The data layer: x is None, of anything. -/
namespace DL
open PySem PySem.Spec L2
@[simp] abbrev fIsN : F2 := fun d e Q => e = .non ∧ Q (.bl d.isNon)
theorem i_isN {K : PySem.W.Frag} : OpI K (fun x y H Q => y = .non ∧ Q (.bl (decide (x = .non))) H) fIsN := by
  rintro H L d1 d2 v1 v2 Q1 Q hL r1 r2 ⟨rfl, t⟩ q
  cases r2
  refine ⟨rfl, ?_⟩
  rw [rp_non r1]
  exact q _ H (.bl _) (Same.refl H) rfl t
/-! targets that change what stands at some places: d[k], f[l] = pair -/
abbrev TGF1 := D → Rho → (Rho → Prop) → Prop
abbrev TGsF1 := List D → Rho → (Rho → Prop) → Prop
def ImpGF (K : PySem.W.Frag) (W : WX) (E1 : E1T) (g : TG) (t : TGF1) : Prop := ∀ (F : Fm) (M : List Addr) (H : Hp) (σ : St) (ρ : Rho) (d : D) (v : V) (Q1 : Rho → Prop) (Q : St → Hp → Prop), StR K F M H σ ρ → Xok K F W E1 → Rp K H (M ++ F.L0) d v → t d ρ Q1 →
  (∀ σ' H' M' ρ', StR K F M' H' σ' ρ' → (∀ d0 v0, Rp K H (M ++ F.L0) d0 v0 → Rp K H' (M' ++ F.L0) d0 v0) → Q1 ρ' → Q σ' H') → g v σ H Q
def ImpGsF (K : PySem.W.Frag) (W : WX) (E1 : E1T) (g : TGs) (t : TGsF1) : Prop := ∀ (F : Fm) (M : List Addr) (H : Hp) (σ : St) (ρ : Rho) (ds : List D) (vs : List V) (Q1 : Rho → Prop) (Q : St → Hp → Prop), StR K F M H σ ρ → Xok K F W E1 → RpAll K H (M ++ F.L0) ds vs → t ds ρ Q1 →
  (∀ σ' H' M' ρ', StR K F M' H' σ' ρ' → (∀ d0 v0, Rp K H (M ++ F.L0) d0 v0 → Rp K H' (M' ++ F.L0) d0 v0) → Q1 ρ' → Q σ' H') → g vs σ H Q
def QGF (X : Cx) (W : WX) (E1 : E1T) (e : Expr) (t : TGF1) : Prop := ∃ g, PG X e g ∧ ImpGF X.K W E1 g t
def QGsF (X : Cx) (W : WX) (E1 : E1T) (es : List Expr) (t : TGsF1) : Prop := ∃ g, PGs X es g ∧ ImpGsF X.K W E1 g t
theorem all_keep {K : PySem.W.Frag} {H H' : Hp} {L L' : List Addr} (h : ∀ d0 v0, Rp K H L d0 v0 → Rp K H' L' d0 v0) : ∀ {ds : List D} {vs : List V}, RpAll K H L ds vs → RpAll K H' L' ds vs
  | [], _, r => r
  | _ :: _, _, ⟨x, r, e, a, b⟩ => ⟨x, r, e, h _ _ a, all_keep h b⟩
section
variable {X : Cx} {W : WX} {E1 : E1T} {a b o e i : Expr} {es : List Expr} {pos pos' : Pos} {t u : TE1}
@[simp] abbrev gDPutF (t u : TE1) : TGF1 := fun z ρ Q => t ρ fun d => u ρ fun e => ∃ (a : Addr) (n : Nat) (kvs : KD) (k : Key), d = .cls a ∧ ρ.mu[n]? = some (En.mk a true (.dk kvs)) ∧ e = keyD k ∧ kvs.length ≤ 1000 ∧ Q (ρ.setMu n (.dk (putKD kvs k z)))
theorem qgf_dput (hu : X.A.units + 1 < cLine) (ho : QE X W E1 o t) (hi : QE X W E1 i u)
    (ha : ∀ (v : Value), assign (.Subscript o i pos) X.env v = (do
      let ov ← holding [v] (eval o X.env)
      let iv ← holding [v, ov] (eval i X.env)
      standAt pos
      holding [v, ov, iv] (setItem ov iv v)
      release [v, ov, iv] []) := by intro _; rfl) : QGF X W E1 (.Subscript o i pos) (gDPutF t u) := by
  obtain ⟨te, h1, i1⟩ := ho
  obtain ⟨tr, h2, i2⟩ := hi
  refine ⟨_, pg_sub h1 h2 (set_dict hu) ha, fun F M H σ ρ z y Q1 Q S hx ry t q => ?_⟩
  refine i1 F M H σ ρ _ _ S hx t fun x H2 d e2 rx t2 => ?_
  refine i2 F M H2 σ ρ _ _ (S.same e2) hx t2 fun w H3 d2 e3 rw' ⟨a, n, kvs, kk, ed, em, ek, hl, t3⟩ => ?_
  subst ed ek
  cases rx
  rw [rp_key rw']
  have S3 := (S.same e2).same e3
  obtain ⟨hm, vs, ha, kp⟩ := S3.dk em
  have kp2 := (kp.put (k := kk) (same_rp (e2.trans e3) ry)).updM (u := .dK (putK vs kk y)) hm ha rfl
  refine ⟨a, _, rfl, DPut.k ha (small1000 (by rw [kp.len]; exact hl)), q σ _ M _ (S3.chgMu (m' := .dk (putKD kvs kk z)) em rfl ⟨_, upd_same, kp2.ks, kp2.rp⟩) (fun d0 v0 r0 => ?_) t3⟩
  exact Rp.updM hm ha rfl _ _ (same_rp (e2.trans e3) r0)
@[simp] abbrev gsNilF : TGsF1 := fun ds ρ Q => ds = [] ∧ Q ρ
@[simp] abbrev gsConsF (t : TGF1) (u : TGsF1) : TGsF1 := fun ds ρ Q => ∃ d r, ds = d :: r ∧ t d ρ fun ρ' => u r ρ' Q
theorem qgsf_nil : QGsF X W E1 [] gsNilF := ⟨_, pgs_nil, fun F M H σ ρ d v Q1 Q S hx r ⟨e, t⟩ q => by
  subst e
  cases r
  exact ⟨rfl, q _ _ M ρ S (fun _ _ z => z) t⟩⟩
theorem qgsf_cons {t : TGF1} {u : TGsF1} (h1 : QGF X W E1 e t) (h2 : QGsF X W E1 es u) (hs : (assignEach (e :: es) X.env).map (·.2) = assign e X.env :: (assignEach es X.env).map (·.2) := by rfl) : QGsF X W E1 (e :: es) (gsConsF t u) := by
  obtain ⟨g, p1, i1⟩ := h1
  obtain ⟨g2, p2, i2⟩ := h2
  refine ⟨_, pgs_cons p1 p2 hs, fun F M H σ ρ ds vs Q1 Q S hx r ⟨d0, dr, ed, t⟩ q => ?_⟩
  subst ed
  obtain ⟨x, vr, e, r1, r2⟩ := r
  subst e
  exact ⟨x, vr, rfl, i1 F M H σ ρ d0 x _ _ S hx r1 t fun σ' H' M' ρ' S' kp t' => i2 F M' H' σ' ρ' dr vr _ _ S' hx (all_keep kp r2) t' fun σ2 H2 M2 ρ2 S2 kp2 t2 => q σ2 H2 M2 ρ2 S2 (fun d v z => kp2 d v (kp d v z)) t2⟩
@[simp] abbrev gTpF (n : Nat) (t : TGsF1) : TGF1 := fun d ρ Q => ∃ ds, d = .tup ds ∧ ds.length = n ∧ t ds ρ Q
theorem qgf_tup {k : Nat} {t : TGsF1} {n : Nat} (hc : X.calm = true) (h : QGsF X W E1 es t) (hn : (assignEach es X.env).length = n := by rfl) (hst : (assignEach es X.env).findIdx? (·.1) = none := by rfl) : QGF X W E1 (.Tuple es k pos) (gTpF n t) := by
  obtain ⟨g, p1, i1⟩ := h
  refine ⟨_, pg_tup hc p1 hn hst, fun F M H σ ρ d v Q1 Q S hx r ⟨ds, ed, hl, t⟩ q => ?_⟩
  subst ed
  obtain ⟨a, xs, ev, h1, h2⟩ := r
  exact ⟨a, xs, ev, h1, by rw [h2.length]; exact hl, i1 F M H σ ρ ds xs _ _ S hx h2 t q⟩
@[simp] abbrev uAsgF (t : TE1) (g : TGF1) : TS1 := fun D ρ => t ρ fun d => g d ρ D.nx
theorem qs_asgF {tg : Expr} {t : TE1} {g : TGF1} (he : QE X W E1 e t) (hg : QGF X W E1 tg g) (hs : swapsWithSole [tg] e pos.line X.env = pure false := by rfl) (hw : swappedStores [tg] e X.env = pure none := by rfl)
    (h1 : (assignEach [tg] X.env).map (·.2) = [assign tg X.env] := by rfl) : QS X W E1 (.Assign [tg] e pos) (uAsgF t g) := by
  obtain ⟨te, p1, i1⟩ := he
  obtain ⟨g2, p2, i2⟩ := hg
  refine ⟨_, ps_asg p1 p2 hs hw h1, fun F M H σ ρ D1 D S hx t k => ?_⟩
  exact i1 F M H σ ρ _ _ S hx t fun v H1 d e1 r1 t1 => i2 F M H1 σ ρ d v _ _ (S.same e1) hx r1 t1 fun σ' H' M' ρ' S' _ t' => k.nx M' H' σ' ρ' S' t'
end
end DL

set_option maxRecDepth 100000
set_option maxHeartbeats 4000000
/-! The data layer: xs[k] = e, xs a list that the frame owns. -/
namespace DL
open PySem PySem.Spec L2
theorem rpAll_set {K : PySem.W.Frag} {H : Hp} {L : List Addr} {z : D} {v : V} (h : Rp K H L z v) : ∀ {ds : List D} {vs : List V} (j : Nat), RpAll K H L ds vs → RpAll K H L (ds.set j z) (vs.set j v)
  | [], _, _, r => by cases r; exact rfl
  | _ :: _, _, 0, ⟨x, r, e, a, b⟩ => by subst e; exact ⟨v, r, rfl, h, b⟩
  | _ :: _, _, j + 1, ⟨x, r, e, a, b⟩ => by subst e; exact ⟨x, r.set j v, rfl, a, rpAll_set h j b⟩
section
variable {X : Cx} {W : WX} {E1 : E1T} {e i : Expr} {pos pos' : Pos} {u tv : TE1}
@[simp] abbrev uSetO (n : Nat) (u tv : TE1) : TS1 := fun D ρ => tv ρ fun z => ∃ ds, ρ[n]? = some (.own ds) ∧ u ρ fun e => ∃ (k : Int) (j : Nat), e = .int k ∧ ixN ds.length k = some j ∧ D.nx (ρ.set n (.own (ds.set j z)))
theorem qs_setO (n : Nat) {lx : Expr} (hl : PE X lx (tVar n)) (hi : QE X W E1 i u) (hv : QE X W E1 e tv)
    (ha : ∀ (v : Value), assign (.Subscript lx i pos') X.env v = (do
      let ov ← holding [v] (eval lx X.env)
      let iv ← holding [v, ov] (eval i X.env)
      standAt pos'
      holding [v, ov, iv] (setItem ov iv v)
      release [v, ov, iv] []) := by intro _; rfl)
    (hs : swapsWithSole [.Subscript lx i pos'] e pos.line X.env = pure false := by rfl) (hw : swappedStores [.Subscript lx i pos'] e X.env = pure none := by rfl)
    (h1 : (assignEach [.Subscript lx i pos'] X.env).map (·.2) = [assign (.Subscript lx i pos') X.env] := by rfl) : QS X W E1 (.Assign [.Subscript lx i pos'] e pos) (uSetO n u tv) := by
  obtain ⟨te, p1, i1⟩ := hv
  obtain ⟨tr, p2, i2⟩ := hi
  refine ⟨_, ps_asg p1 (pg_sub hl p2 set_list ha) hs hw h1, fun F M H σ ρ D1 D S hx t k => ?_⟩
  refine i1 F M H σ ρ _ _ S hx t fun y H1 z e1 ry ⟨ds, e, t1⟩ => ?_
  have S1 := S.same e1
  obtain ⟨a, xs, g1, g2, g3, g4⟩ := S1.getOwn e
  refine ⟨_, g1, ?_⟩
  refine i2 F M H1 σ ρ _ _ S1 hx t1 fun w H2 d e2 rw' ⟨kk, j, ed, hj, t2⟩ => ?_
  subst ed
  cases rw'
  refine ⟨a, xs, kk, j, rfl, rfl, e2 _ _ g3, by rw [g4.length]; exact hj, ?_⟩
  exact k.nx M _ _ _ ((S1.same e2).chg e g1 g2 (e2 _ _ g3) (ds' := ds.set j z) (rpAll_set (same_rp e2 ry) j (same_all e2 g4))) t2
end
end DL

set_option maxRecDepth 100000
set_option maxHeartbeats 4000000
/-! The data layer: a comprehension's new list, as a list that the frame owns (as DL4's setOwn and DL7's lc_imp, told anew). -/
namespace DL
open PySem PySem.Spec L2
section
variable {K : PySem.W.Frag} {F : Fm} {H H' : Hp} {M : List Addr} {σ : St} {ρ : Rho}
theorem StR.setOwnAt {H2 : Hp} (h : StR K F M H σ ρ) {i : Nat} {ds : List D} {p : Addr} {xs : List V} (hi : i < ρ.length) (hp : H p = none) (e : Same H H2) (at_ : H2 p = some (.lst xs)) (r : RpAll K H2 ((p :: M) ++ F.L0) ds xs) :
    StR K F (p :: M) H2 (σ.set i (some (V.ref p))) (ρ.set i (.own ds)) := by
  have hi : i < ρ.sl.length := hi
  have hL : ∀ a, H a ≠ none → a ∈ (p :: M) ++ F.L0 → a ∈ M ++ F.L0 := fun a ha hm => mem_out hp ha hm
  have S' := h.sl i _ (List.getElem?_eq_getElem hi)
  obtain ⟨v0, hv0, _⟩ := S'
  have hs : i < σ.length := (List.getElem?_eq_some_iff.mp hv0).1
  have hp0 : F.H0 p = none := by
    cases q : F.H0 p with
    | none => rfl
    | some o => exact absurd hp (h.ext _ _ q).2
  refine ⟨h.ext.trans (.of _ e), h.al, fun a ha => ?_, fun j x q => ?_, fun j k us ws b p1 p2 p3 p4 => ?_, fun q hq => Rp.same e hL _ _ (h.pn q hq), h.gl,
    fun q hq => ⟨List.mem_cons_of_mem _ (h.mu q hq).1, fun w => ((h.mu q hq).2.1 w).imp (List.mem_cons_of_mem _) id, (h.mu q hq).2.2.same e hL⟩, h.nd, fun q hq => (h.ma q hq).imp (List.mem_cons_of_mem _) id⟩
  · rcases List.mem_cons.mp ha with z | z
    · subst z; exact ⟨hp0, by rw [at_]; simp⟩
    · exact ⟨(h.fr a z).1, same_ne e (h.fr a z).2⟩
  · replace q : (ρ.sl.set i (.own ds))[j]? = some x := q
    by_cases z : i = j
    · subst z
      rw [List.getElem?_set_self hi] at q
      cases q
      exact ⟨_, List.getElem?_set_self hs, p, xs, rfl, List.mem_cons_self, at_, r⟩
    · rw [List.getElem?_set_ne z] at q
      rw [List.getElem?_set_ne z]
      obtain ⟨v, h1, h2⟩ := h.sl j x q
      refine ⟨v, h1, ?_⟩
      cases x with
      | un => trivial
      | dat d => obtain ⟨y, h3, h4⟩ := h2; exact ⟨y, h3, Rp.same e hL _ _ h4⟩
      | own us => obtain ⟨b, ys, h3, h4, h5, h6⟩ := h2; exact ⟨b, ys, h3, List.mem_cons_of_mem _ h4, e _ _ h5, RpAll.same e hL _ _ h6⟩
  · have two : ∀ {n : Nat} {vs : List D}, (ρ.sl.set i (.own ds))[n]? = some (.own vs) → (σ.set i (some (V.ref p)))[n]? = some (some (V.ref b)) → (n = i ∧ b = p) ∨ (n ≠ i ∧ b ≠ p ∧ ρ.sl[n]? = some (.own vs) ∧ σ[n]? = some (some (V.ref b))) := fun {n vs} q1 q2 => by
      by_cases z : i = n
      · subst z
        rw [List.getElem?_set_self hs] at q2
        cases q2
        exact .inl ⟨rfl, rfl⟩
      · rw [List.getElem?_set_ne z] at q1 q2
        refine .inr ⟨fun w => z w.symm, fun w => ?_, q1, q2⟩
        obtain ⟨a, ys, h1, h2, h3, _⟩ := h.getOwn q1
        rw [q2] at h1
        cases h1
        rw [w, hp] at h3
        cases h3
    rcases two p1 p3 with ⟨a1, a2⟩ | ⟨a1, a2, a3, a4⟩
    · rcases two p2 p4 with ⟨b1, b2⟩ | ⟨b1, b2, b3, b4⟩
      · rw [a1, b1]
      · exact absurd a2 b2
    · rcases two p2 p4 with ⟨b1, b2⟩ | ⟨b1, b2, b3, b4⟩
      · exact absurd b2 a2
      · exact h.uq j k _ _ _ a3 b3 a4 b4

end
theorem lc_impO {K : PySem.W.Frag} {W : WX} {E1 : E1T} {vs : List Nat} {wi : TI} {u : TA1} {g : TG1} {tt : TT1} {te : TE1}
    (hi : ∀ (F : Fm) (M : List Addr) (H : Hp) (σ : St) (ρ : Rho) (Q1 : List D → Prop) (R : It → Hp → Prop), StR K F M H σ ρ → Xok K F W E1 → u ρ Q1 →
      (∀ J H' P' ds, Same H H' → (∀ p ∈ P', Rp K H' (M ++ F.L0) p.1 p.2) → ItOk K { F with P := P' ++ F.P } J ds → Q1 ds → R J H') → wi σ H R) :
    ∀ (F : Fm) (M : List Addr) (H : Hp) (σ : St) (ρ : Rho) (Q1 : D → Prop) (Q : VK), StR K F M H σ ρ → Xok K F W E1 → uLc vs u g tt te ρ Q1 →
      (∀ D H2 acc xs, Same H H2 → H D = none → H2 D = some (.lst xs) → RpAll K H2 ((D :: M) ++ F.L0) acc xs → Q1 (.lst acc) → Q (V.ref D) H2) → tLc wi (gS K vs g) (ttS K tt) (teS K te) vs σ H Q := by
  intro F M H σ ρ Q1 Q S hx t q
  refine hi F M H σ ρ _ _ S hx t fun J H1 P' ds e1 hP hJ ⟨hlen, go⟩ => fun D hD => ?_
  have S0 := S.same e1
  have S1 : StR K { F with P := P' ++ F.P } M H1 σ ρ := ⟨S0.ext, S0.al, S0.fr, S0.sl, S0.uq, fun p hp => (List.mem_append.mp hp).elim (hP p) (S0.pn p), S0.gl, S0.mu, S0.nd, S0.ma⟩
  obtain ⟨S2, lo2⟩ := (S1.wipe vs).newLoose hD []
  have hDL : D ∉ M ++ F.L0 := fun z => S0.all D z hD
  refine ⟨fun i m H => m = ds.length - i ∧ i ≤ ds.length ∧ Same H1 H ∧ ∃ acc xs, H D = some (.lst xs) ∧ RpAll K H ((D :: M) ++ F.L0) acc xs ∧ acc.length ≤ i ∧ StR K { F with P := P' ++ F.P } (D :: M) H (L2.wipe σ vs) (wipeR ρ vs) ∧ lcGo g tt te (wipeR ρ vs) (ds.drop i) fun es => Q1 (.lst (acc ++ es)),
    ⟨ds.length, by simp, Nat.zero_le _, same_new hD _, [], [], upd_same, rfl, Nat.le_refl _, S2, by simpa using go⟩, ?_⟩
  rintro i m H2 ⟨rfl, hi', eH, acc, xs, hDx, hacc, hal, S3, go3⟩
  have j := hJ (D :: M) H2 _ _ S3 i
  by_cases hlt : i < ds.length
  · obtain ⟨goJ, yl⟩ := j.1 _ (List.getElem?_eq_getElem hlt)
    rw [List.drop_eq_getElem_cons hlt] at go3
    refine .inr ⟨goJ, fun H' => i + 1 ≤ ds.length ∧ Same H1 H' ∧ ∃ acc xs, H' D = some (.lst xs) ∧ RpAll K H' ((D :: M) ++ F.L0) acc xs ∧ acc.length ≤ i + 1 ∧ StR K { F with P := P' ++ F.P } (D :: M) H' (L2.wipe σ vs) (wipeR ρ vs) ∧ lcGo g tt te (wipeR ρ vs) (ds.drop (i + 1)) fun es => Q1 (.lst (acc ++ es)),
      fun H' ⟨a1, a2, a3⟩ => ⟨ds.length - (i + 1), by omega, rfl, a1, a2, a3⟩, fun x H' y => ?_⟩
    obtain ⟨e2, r2⟩ := yl x H' y
    have S4 := S3.same e2
    refine ⟨{ F with P := P' ++ F.P }, D :: M, wipeR ρ vs, _, _, S4, r2, go3, fun σ' ρ' w' S5 go5 => ⟨by rw [w', wipe_wipe], ?_⟩⟩
    refine ⟨_, _, ρ', _, S5, go5, fun b H5 e5 go6 => ?_⟩
    have S6 : StR K { F with P := P' ++ F.P } (D :: M) H5 (L2.wipe σ vs) (wipeR ρ vs) := S4.same e5
    have lo : Loose (wipeR ρ vs) (L2.wipe σ vs) D := lo2
    have hD5 := e5 _ _ (e2 _ _ hDx)
    have acc5 := same_all e5 (same_all e2 hacc)
    cases b with
    | false => exact ⟨hlt, eH.trans (e2.trans e5), acc, xs, hD5, acc5, by omega, S6, by simpa using go6⟩
    | true =>
      refine ⟨{ F with P := P' ++ F.P }, D :: M, ρ', _, S5.same e5, by simpa using go6, fun v H7 d e7 r7 go7 => ?_⟩
      have hD7 := e7 _ _ hD5
      have acc7 := same_all e7 acc5
      have S7 := S6.same e7
      refine ⟨xs, hD7, small5 (by rw [acc7.length]; omega), hlt, fun b o hb => ?_, acc ++ [d], xs ++ [v], upd_same, ?_, by simp; omega, S7.chgLoose List.mem_cons_self hD7 lo, by simpa [List.append_assoc] using go7⟩
      · have ne : b ≠ D := fun z => by subst z; rw [hD] at hb; cases hb
        rw [upd_ne ne]
        exact e7 _ _ (e5 _ _ (e2 _ _ (eH _ _ hb)))
      · exact RpAll.append (RpAll.upd List.mem_cons_self hD7 _ _ acc7) ⟨v, [], rfl, Rp.upd List.mem_cons_self hD7 _ _ r7, rfl⟩
  · have e : i = ds.length := by omega
    subst e
    refine .inl ⟨j.2 (Nat.le_refl _), ?_⟩
    rw [List.drop_length] at go3
    refine q D H2 acc xs (e1.trans eH) ?_ hDx hacc (by simpa [lcGo] using go3)
    cases z : H D with
    | none => rfl
    | some o => rw [e1 _ _ z] at hD; cases hD

section
variable {X : Cx} {W : WX} {E1 : E1T}
theorem qs_ownLc (i : Nat) {y : Str} {py : Pos} {elt tg iter : Expr} {ifs : List Expr} {scope : Scope} (own : List (Str × Nat)) {pos spos : Pos} {u : TA1} {g : TG1} {tt : TT1} {te : TE1} (hc : X.calm = true) (hN : X.N.Nodup) (hy : X.N[i]? = some y) (hyl : X.env.scope.names.lookup y = some .local)
    (hsw : swapsWith (.ListComp elt [⟨tg, iter, ifs, 0⟩] scope pos) (some (.Name y py)) spos.line X.env = pure true) (hi : QI X W E1 tg iter u) (ok : BlkOk X.N X.env.scope scope own)
    (hg : ∀ (s : Shared) (H : Hp) (C : Addr) (cl : List (Str × Addr)) (fp : List Addr), QGw (X.blk s H scope (compEnvC scope cl C X.env) fp) (own.map (·.2)) tg g) (ht : ∀ (s : Shared) (H : Hp) (C : Addr) (cl : List (Str × Addr)) (fp : List Addr), QTs (X.blk s H scope (compEnvC scope cl C X.env) fp) ifs tt)
    (he : ∀ (s : Shared) (H : Hp) (C : Addr) (cl : List (Str × Addr)) (fp : List Addr), QE (X.blk s H scope (compEnvC scope cl C X.env) fp) noW noE elt te) (hs : ∀ x, foldedSetIterable iter X.env x = pure x := by intro _; rfl) :
    QS X W E1 (.Assign [.Name y py] (.ListComp elt [⟨tg, iter, ifs, 0⟩] scope pos) spos) (fun D ρ => uLc (own.map (·.2)) u g tt te ρ fun d => ∃ ds, d = .lst ds ∧ i < ρ.length ∧ D.nx (ρ.set i (.own ds))) := by
  obtain ⟨wi, p, k⟩ := hi
  refine ⟨_, ps_setLc (g := gS X.K (own.map (·.2)) g) (tt := ttS X.K tt) (te := teS X.K te) hc hN hy hyl hsw p ok (fun s H C cl fp => pg_S (hg s H C cl fp)) (fun s H C cl fp => pts_S (ht s H C cl fp)) (fun s H C cl fp => pe_S (he s H C cl fp)) hs, fun F M H σ ρ D1 D S hx t kk => ?_⟩
  exact lc_impO k F M H σ ρ _ _ S hx t fun p H2 acc xs e hp at_ r ⟨ds, ed, hl, t1⟩ => by
    cases ed
    exact kk.nx (p :: M) H2 _ _ (S.setOwnAt hl hp e at_ r) t1
end
end DL

set_option maxRecDepth 100000
set_option maxHeartbeats 4000000
/-! The data layer: a list that the frame owns, lent to an expression that gives no list; a def that hands back a new list. -/
namespace DL
open PySem PySem.Spec L2
mutual
/-- no list, no dict in it -/
def D.noL : D → Bool
  | .lst _ => false
  | .dct => false
  | .tup ds => noLs ds
  | .ob _ _ ds => noLs ds
  | _ => true
def noLs : List D → Bool
  | [] => true
  | d :: ds => d.noL && noLs ds
end
mutual
theorem Rp.grow {K : PySem.W.Frag} {H : Hp} {L L' : List Addr} {a : Addr} {xs : List V} (hH : H a = some (.lst xs)) (hL : ∀ b ∈ L, b = a ∨ b ∈ L') : ∀ (d : D) (v : V), d.noL = true → Rp K H L' d v → Rp K H L d v
  | .non, _, _, h => h
  | .bl _, _, _, h => h
  | .int _, _, _, h => h
  | .str _, _, _, h => h
  | .ty _, _, _, h => h
  | .tup ds, _, n, ⟨b, ys, h1, h2, h3⟩ => ⟨b, ys, h1, h2, RpAll.grow hH hL ds ys n h3⟩
  | .lst _, _, n, _ => by simp [D.noL] at n
  | .dct, _, n, _ => by simp [D.noL] at n
  | .ob C ns ds, _, n, ⟨b, dx, fs, h1, h2, h3, h4, h5⟩ => ⟨b, dx, fs, h1, h2, h3, RpAll.grow hH hL ds _ n h4, fun z => by
      rcases hL b z with w | w
      · subst w; rw [hH] at h2; cases h2
      · exact h5 w⟩
  | .exc C, _, _, h => h
  | .cls C, _, _, h => h
theorem RpAll.grow {K : PySem.W.Frag} {H : Hp} {L L' : List Addr} {a : Addr} {xs : List V} (hH : H a = some (.lst xs)) (hL : ∀ b ∈ L, b = a ∨ b ∈ L') : ∀ (ds : List D) (vs : List V), noLs ds = true → RpAll K H L' ds vs → RpAll K H L ds vs
  | [], _, _, h => h
  | d :: ds, _, n, ⟨x, r, h1, h2, h3⟩ => by
      have n' : d.noL = true ∧ noLs ds = true := by simpa [noLs] using n
      exact ⟨x, r, h1, Rp.grow hH hL d x n'.1 h2, RpAll.grow hH hL ds r n'.2 h3⟩
end
section
variable {K : PySem.W.Frag} {F : Fm} {H H' : Hp} {M : List Addr} {σ : St} {ρ : Rho}
/-- an own list as a datum, and where it stands -/
theorem StR.lend (h : StR K F M H σ ρ) {i : Nat} {ds : List D} (e : ρ[i]? = some (.own ds)) : ∃ (a : Addr) (xs : List V) (M' : List Addr), H a = some (.lst xs) ∧ (∀ b ∈ M ++ F.L0, b = a ∨ b ∈ M' ++ F.L0) ∧ StR K F M' H σ (ρ.set i (.dat (.lst ds))) := by
  obtain ⟨a, xs, h1, h2, h3, h4⟩ := h.getOwn e
  replace e : ρ.sl[i]? = some (.own ds) := e
  have hi : i < ρ.sl.length := (List.getElem?_eq_some_iff.mp e).1
  have hL : ∀ b, H b ≠ none → b ∈ M.filter (fun b => b ≠ a) ++ F.L0 → b ∈ M ++ F.L0 := fun b _ hb => by
    rcases List.mem_append.mp hb with z | z
    · exact List.mem_append_left _ (List.mem_filter.mp z).1
    · exact List.mem_append_right _ z
  have keep : ∀ q ∈ ρ.mu, ∀ b, b = q.a → b ∈ M → b ∈ M.filter (fun b => b ≠ a) := fun q hq b hb hM => by
    refine List.mem_filter.mpr ⟨hM, ?_⟩
    have := (h.mu q hq).2.2.neL h3
    simpa [hb] using this
  refine ⟨a, xs, M.filter (fun b => b ≠ a), h3, fun b hb => ?_, h.ext, h.al, fun b hb => h.fr b (List.mem_filter.mp hb).1, fun j x q => ?_, fun j k us ws b p1 p2 p3 p4 => ?_, fun p hp => ?_, h.gl, fun q hq => ⟨?_, fun w => ?_, (h.mu q hq).2.2.same (Same.refl H) hL⟩, h.nd, fun q hq => (h.ma q hq).imp (keep q hq _ rfl) id⟩
  · by_cases z : b = a
    · exact .inl z
    · rcases List.mem_append.mp hb with w | w
      · exact .inr (List.mem_append_left _ (List.mem_filter.mpr ⟨w, by simpa using z⟩))
      · exact .inr (List.mem_append_right _ w)
  · have na : a ∉ M.filter (fun b => b ≠ a) ++ F.L0 := fun z => by
      rcases List.mem_append.mp z with z | z
      · have := (List.mem_filter.mp z).2
        simp at this
      · exact h.al a z (h.fr a h2).1
    replace q : (ρ.sl.set i (.dat (.lst ds)))[j]? = some x := q
    by_cases z : i = j
    · subst z
      rw [List.getElem?_set_self hi] at q
      cases q
      exact ⟨_, h1, V.ref a, rfl, a, xs, rfl, .inl ⟨na, .inl h3⟩, RpAll.same (Same.refl H) hL _ _ h4⟩
    · rw [List.getElem?_set_ne z] at q
      obtain ⟨v, g1, g2⟩ := h.sl j x q
      refine ⟨v, g1, ?_⟩
      cases x with
      | un => trivial
      | dat d => obtain ⟨y, g3, g4⟩ := g2; exact ⟨y, g3, Rp.same (Same.refl H) hL _ _ g4⟩
      | own us =>
        obtain ⟨b, ys, g3, g4, g5, g6⟩ := g2
        subst g3
        have nb : b ≠ a := fun w => by subst w; exact z (h.uq i j _ _ _ e q h1 g1)
        exact ⟨b, ys, rfl, List.mem_filter.mpr ⟨g4, by simpa using nb⟩, g5, RpAll.same (Same.refl H) hL _ _ g6⟩
  · have back : ∀ {n : Nat} {vs : List D}, (ρ.sl.set i (.dat (.lst ds)))[n]? = some (.own vs) → ρ.sl[n]? = some (.own vs) := fun {n vs} q => by
      by_cases z : i = n
      · subst z; rw [List.getElem?_set_self hi] at q; cases q
      · rw [List.getElem?_set_ne z] at q; exact q
    exact h.uq j k _ _ _ (back p1) (back p2) p3 p4
  · exact Rp.same (Same.refl H) hL _ _ (h.pn p hp)
  · rcases List.mem_append.mp (h.mu q hq).1 with z | z
    · exact List.mem_append_left _ (keep q hq _ rfl z)
    · exact List.mem_append_right _ z
  · exact ((h.mu q hq).2.1 w).imp (keep q hq _ rfl) id
end
section
variable {X : Cx} {W : WX} {E1 : E1T} {a b o e : Expr} {es : List Expr} {st : Stmt} {rest body : List Stmt} {pos p pos' apos : Pos} {CX : CXT} {C : Addr} {j k : Nat} {x m : Str} {ps : List Str} {t u : TE1} {ua : TA1}
/-- an expression that gives no list, an own list lent to it -/
@[simp] abbrev uBor (i : Nat) (t : TE1) : TE1 := fun ρ Q => ∃ ds, ρ[i]? = some (.own ds) ∧ t (ρ.set i (.dat (.lst ds))) fun d => d.noL = true ∧ Q d
theorem q_bor (i : Nat) (h : QE X W E1 e t) : QE X W E1 e (uBor i t) := by
  obtain ⟨te, p1, i1⟩ := h
  refine ⟨te, p1, fun F M H σ ρ Q1 Q S hx ⟨ds, e, t⟩ q => ?_⟩
  obtain ⟨a, xs, M', ha, hL, S'⟩ := S.lend e
  refine i1 F M' H σ _ _ _ S' hx t fun v H' d e1 r1 ⟨n, t1⟩ => q v H' d e1 (Rp.grow (e1 _ _ ha) hL d v n r1) t1
@[simp] abbrev uBorT (i : Nat) (t : TT1) : TT1 := fun ρ Q => ∃ ds, ρ[i]? = some (.own ds) ∧ t (ρ.set i (.dat (.lst ds))) Q
theorem qt_bor (i : Nat) {t : TT1} (h : QT X W E1 e t) : QT X W E1 e (uBorT i t) := by
  obtain ⟨te, p1, i1⟩ := h
  refine ⟨te, p1, fun F M H σ ρ Q1 Q S hx ⟨ds, e, t⟩ q => ?_⟩
  obtain ⟨a, xs, M', ha, hL, S'⟩ := S.lend e
  exact i1 F M' H σ _ _ _ S' hx t q
/-! ### what gives a new list -/
abbrev TL1 := Rho → (List D → Prop) → Prop
def ImpL (K : PySem.W.Frag) (W : WX) (E1 : E1T) (te : TE) (t : TL1) : Prop := ∀ (F : Fm) (M : List Addr) (H : Hp) (σ : St) (ρ : Rho) (Q1 : List D → Prop) (Q : VK), StR K F M H σ ρ → Xok K F W E1 → t ρ Q1 →
  (∀ q H' es xs, Same H H' → H q = none → H' q = some (.lst xs) → RpAll K H' ((q :: M) ++ F.L0) es xs → Q1 es → Q (.ref q) H') → te σ H Q
def QL (X : Cx) (W : WX) (E1 : E1T) (e : Expr) (t : TL1) : Prop := ∃ te, PE X e te ∧ ImpL X.K W E1 te t
/-- a body that ends so -/
def QSL (X : Cx) (W : WX) (E1 : E1T) (body : List Stmt) (t : TL1) : Prop := ∃ ts, PSs X body ts ∧ ∀ (F : Fm) (M : List Addr) (H : Hp) (σ : St) (ρ : Rho) (Q1 : List D → Prop) (D : Ends), StR X.K F M H σ ρ → Xok X.K F W E1 → t ρ Q1 →
  (∀ q H' es xs, SameX F.G F.H0 H' → F.H0 q = none → H' q = some (.lst xs) → RpAll X.K H' (q :: F.L0) es xs → Q1 es → D.rt (.ref q) H') → ts D σ H
theorem qsl_ret {t : TL1} (h : QL X W E1 e t) : QSL X W E1 [.Return (some e) pos] t := by
  obtain ⟨te, p1, i1⟩ := h
  refine ⟨_, pss_one (ps_ret p1), fun F M H σ ρ Q1 D S hx t k => ?_⟩
  refine i1 F M H σ ρ _ _ S hx t fun q H' es xs e1 hq hq' r t1 => k q H' es xs (S.ext.trans (.of _ e1)) ?_ hq' (RpAll.same (Same.refl _) (fun b _ hb => (List.mem_cons.mp hb).elim (fun z => List.mem_append_left _ (z ▸ List.mem_cons_self)) (List.mem_append_right _)) _ _ r) t1
  cases z : F.H0 q with
  | none => rfl
  | some o => exact absurd hq (S.ext _ _ z).2
@[simp] abbrev uSeqL (t : TS1) (u : TL1) : TL1 := fun ρ Q => t { nx := fun ρ' => u ρ' Q, rt := fun _ _ => False } ρ
theorem qsl_cons {t : TS1} {u : TL1} (h : QS X W E1 st t) (hr : QSL X W E1 rest u) : QSL X W E1 (st :: rest) (uSeqL t u) := by
  obtain ⟨ts, p1, i1⟩ := h
  obtain ⟨tr, p2, i2⟩ := hr
  refine ⟨_, pss_cons p1 p2, fun F M H σ ρ Q1 D S hx t k => ?_⟩
  exact i1 F M H σ ρ { nx := fun ρ' => u ρ' Q1, rt := fun _ _ => False } _ S hx t ⟨fun M' H' σ' ρ' S' t' => i2 F M' H' σ' ρ' Q1 D S' hx t' k, fun _ _ _ _ _ _ _ _ z => z.elim, fun _ _ _ _ _ z => z.elim, fun _ _ _ _ _ z => z.elim⟩
/-- x = e, e a new list: the frame's own from here on -/
@[simp] abbrev uSetL (i : Nat) (t : TL1) : TS1 := fun D ρ => t ρ fun ds => i < ρ.length ∧ D.nx (ρ.set i (.own ds))
theorem qs_setL (i : Nat) {t : TL1} (hN : X.N.Nodup) (hi : X.N[i]? = some x) (hx : Loc X.env.scope x) (h : QL X W E1 e t) (hs : swapsWith e (some (.Name x pos')) pos.line X.env = pure false := by rfl) (hf : X.fn x = true ∨ X.env.scope.names.lookup x = some .local := by first | exact .inl rfl | exact .inr rfl | assumption) :
    QS X W E1 (.Assign [.Name x pos'] e pos) (uSetL i t) := by
  obtain ⟨te, p1, i1⟩ := h
  refine ⟨_, ps_set hN hi hx p1 hs hf, fun F M H σ ρ D1 D S hx t k => ?_⟩
  refine i1 F M H σ ρ _ _ S hx t fun q H' es xs e1 hq hq' r ⟨hl, t1⟩ => ?_
  exact k.nx (q :: M) H' _ _ (S.setOwnAt hl hq e1 hq' r) t1
/-! ### what a def promises that hands back a new list, and reads alone -/
abbrev RL := List D → Store → (List D → Prop) → Prop
def spL (K : PySem.W.Frag) (R : RL) : Sp := fun vs H Q E => ∃ (L : List Addr) (ds : List D) (g : Store) (Q1 : List D → Prop), (∀ a ∈ L, H a ≠ none) ∧ RpAll K H L ds vs ∧ StoreR K H L g ∧ R ds g Q1 ∧
  ∀ q H' es xs, Same H H' → H q = none → H' q = some (.lst xs) → RpAll K H' (q :: L) es xs → Q1 es → Q (.ref q) H'
theorem okL {P : Program} {w : World} {K : PySem.W.Frag} {mg : Str → Option Value} {base : Heap} {x qual : Str} {st : Stmt} {f : Addr} {fd : FuncData} {N ps : List Str} {k : Nat} {R : RL} (Fn : Fun K x qual st f fd) (S : FnScope N ps (defScope st)) (len : ∀ ds g Q, R ds g Q → ds.length = ps.length)
    (body : ∀ (cdv : Value) (A : Around) (outer : List Env) (s : Shared) (H : Hp) (E : XK), Room k (A.deeper (PyProof.Rows.envOfC qual (defScope st) s.heap.objs.size f cdv)) →
      ∃ t, QSL (cxOf CX0 P w K mg base N qual (defScope st) f cdv A outer s H E).nox noW noE (defBody st) t ∧
        ∀ ds g Q1, R ds g Q1 → t (begunG N.length ds (ro g)) Q1) : FnOk P w K mg base CX0 (k + 1) f fd ps (spL K R) := by
  refine Fn.ok S (fun vs H Q E h => ?_) (fun cdv A outer s H vs Q E hr h => ?_)
  · obtain ⟨L, ds, g, Q1, hL, ra, sg, hR, _⟩ := h
    rw [ra.length]
    exact len ds g Q1 hR
  · obtain ⟨L, ds, g, Q1, hL, ra, sg, hR, qo⟩ := h
    obtain ⟨t, ⟨ts, p1, i1⟩, hw⟩ := body cdv A outer s H E hr
    refine ⟨ts, p1, i1 ⟨H, L, [], wrs (ro g), (ro g).map En.a⟩ [] H _ _ _ _ (str_startG hL ra sg.ro) (fun C M H σ ρ _ z => z.elim) (hw ds g Q1 hR) fun q H' es xs e hq hq' r t1 => ?_⟩
    have e' : SameX (wrs (ro g)) H H' := e
    rw [wrs_ro] at e'
    exact qo q H' es xs e'.nil hq hq' r t1
theorem Dfn.okL {P : Program} {w : World} {K : PySem.W.Frag} {mg : Str → Option Value} {base : Heap} {st : Stmt} {N : List Str} {R : RL} (Df : Dfn K mg x st ps) (S : FnScope N ps (defScope st)) (len : ∀ ds g Q, R ds g Q → ds.length = ps.length)
    (body : ∀ (y : Str) (f : Addr) (cdv : Value) (A : Around) (outer : List Env) (s : Shared) (H : Hp) (E : XK), Room k (A.deeper (PyProof.Rows.envOfC y (defScope st) s.heap.objs.size f cdv)) →
      ∃ t, QSL (cxOf CX0 P w K mg base N y (defScope st) f cdv A outer s H E).nox noW noE (defBody st) t ∧
        ∀ ds g Q1, R ds g Q1 → t (begunG N.length ds (ro g)) Q1) : CalS P w K mg base CX0 (k + 1) x ps (spL K R) := by
  obtain ⟨y, f, fd, Fn, b, hm⟩ := Df.ex
  exact ⟨f, fd, DL.okL Fn S len (body y f), b, Fn.kp, hm⟩
theorem MDf.okL {P : Program} {w : World} {K : PySem.W.Frag} {mg : Str → Option Value} {base : Heap} {qual : Str} {st : Stmt} {N : List Str} {R : RL} (Df : MDf K C m qual st ps) (S : FnScope N ps (defScope st)) (len : ∀ ds g Q, R ds g Q → ds.length = ps.length)
    (body : ∀ (f : Addr) (cdv : Value) (A : Around) (outer : List Env) (s : Shared) (H : Hp) (E : XK), Room k (A.deeper (PyProof.Rows.envOfC qual (defScope st) s.heap.objs.size f cdv)) →
      ∃ t, QSL (cxOf CX0 P w K mg base N qual (defScope st) f cdv A outer s H E).nox noW noE (defBody st) t ∧
        ∀ ds g Q1, R ds g Q1 → t (begunG N.length ds (ro g)) Q1) : MetS P w K mg base CX0 (k + 1) C m ps (spL K R) := by
  obtain ⟨f, fd, Fn, b, me, cl⟩ := Df.ex
  exact ⟨f, fd, DL.okL Fn S len (body f), b, me, cl⟩
/-- f(..), o.m() of such -/
@[simp] abbrev uCalL (R : RL) (u : TA1) : TL1 := fun ρ Q => u ρ fun ds => R ds ρ.mu Q
theorem ql_cal {R : RL} (G : CalS X.prog X.w X.K X.mg X.base CX j x ps (spL X.K R)) (hr : Room k X.A) (hj : j ≤ k) (hg : Gl X x) (hx : ∀ σ, PassesAt CX X σ (WE W σ)) (ha : QA X W E1 (e :: es) ua)
    (hdb : (x == ("__debug__" : Str)) = false := by decide) (hst : starEach (e :: es) X.env = (false, eval e X.env) :: starEach es X.env := by rfl) (hpl : (backTo pos (starEach es X.env)).any (·.1) = false := by rfl) :
    QL X W E1 (.Call (.Name x p) (e :: es) [] pos) (uCalL R ua) := by
  obtain ⟨f, fd, Fk, b, kp, hm⟩ := G.ex
  obtain ⟨tr, h2, i2⟩ := ha
  refine ⟨_, pe_def Fk (hr.mono hj) hg hm kp b .nil hx h2 hdb hst hpl, fun F M H σ ρ Q1 Q S hx t q => i2 F M H σ ρ _ _ S hx t fun vs H1 ds e1 r1 t1 => ?_⟩
  have S1 := S.same e1
  exact ⟨M ++ F.L0, ds, ρ.mu, _, S1.all, by simpa using r1, S1.store, t1, fun z H' es xs e2 hz hz' r t2 => q z H' es xs (e1.trans e2) (by
    cases y : H z with
    | none => rfl
    | some o => rw [e1 _ _ y] at hz; cases hz) hz' r t2⟩
@[simp] abbrev uMetL (C : Addr) (m : Str) (R : RL) (t : TE1) : TL1 := fun ρ Q => t ρ fun d => (∃ (a : Addr) (n : Nat) (w : Bool) (fs : List (Str × D)), d = .cls a ∧ ρ.mu[n]? = some (En.mk a w (.ob C fs)) ∧ m ∉ fs.map (·.1)) ∧ R [d] ρ.mu Q
theorem ql_met0 {R : RL} (G : MetS X.prog X.w X.K X.mg X.base CX j C m ps (spL X.K R)) (hr : Room k X.A) (hj : j ≤ k) (hx : ∀ σ, PassesAt CX X σ (WE W σ)) (ho : QE X W E1 o t) {pl : Sem Bool}
    (ht : eval (.Call (.Attribute o m apos) [] [] pos) X.env = (do let ov ← eval o X.env; standAt apos.atName; let (f, first) ← holding [ov] (getMethod ov m pl); callWith pos f first (backTo pos (starEach [] X.env)) (backToKw pos (keywordEach [] X.env))) := by rfl) :
    QL X W E1 (.Call (.Attribute o m apos) [] [] pos) (uMetL C m R t) := by
  obtain ⟨f, fd, Fk, b, me, cl⟩ := G.ex
  obtain ⟨te, h1, i1⟩ := ho
  refine ⟨_, pe_met0 h1 cl me Fk (hr.mono hj) b .nil hx ht, fun F M H σ ρ Q1 Q S hx t q => i1 F M H σ ρ _ _ S hx t fun v H1 d e1 r1 ⟨⟨a, n, w, fs, ed, em, hm⟩, t1⟩ => ?_⟩
  subst ed
  cases r1
  have S1 := S.same e1
  obtain ⟨_, _, dx, vs, ha, en, _⟩ := S1.mu _ (mu_at em)
  refine ⟨a, dx, vs, rfl, ha, no_lookup (by rw [en]; exact hm), ?_⟩
  exact ⟨M ++ F.L0, [.cls a], ρ.mu, _, S1.all, ⟨_, _, rfl, rfl, rfl⟩, S1.store, t1, fun z H' es xs e2 hz hz' r t2 => q z H' es xs (e1.trans e2) (by
    cases y : H z with
    | none => rfl
    | some o => rw [e1 _ _ y] at hz; cases hz) hz' r t2⟩
/-- sorted(d) -/
@[simp] abbrev uSortDL (t : TE1) : TL1 := fun ρ Q => t ρ fun d => ∃ (a : Addr) (n : Nat) (w : Bool) (kvs : KD) (ks : List Int), d = .cls a ∧ ρ.mu[n]? = some (En.mk a w (.dk kvs)) ∧ kvs.map (·.1) = ks.map Sum.inl ∧ ks.length < 64 ∧ ∀ ys : List Int, ys.Perm ks → ys.Pairwise (· ≤ ·) → Q (iL ys)
theorem ql_sortD (hc : X.calm = true) (hg : Gl X "sorted") (hm : X.mg "sorted" = none) (ho : QE X W E1 o t) (hst : starEach [o] X.env = [(false, eval o X.env)] := by rfl) : QL X W E1 (.Call (.Name "sorted" p) [o] [] pos) (uSortDL t) := by
  obtain ⟨te, h1, i1⟩ := ho
  refine ⟨_, pe_callB (call_sortedDI hc) hg hm (by decide +kernel) (pa_cons h1 pa_nil (by rw [hst]; rfl)) (by decide) (by decide) (by rw [hst]; rfl) (by rfl), fun F M H σ ρ Q1 Q S hx t q => ?_⟩
  refine i1 F M H σ ρ _ _ S hx t fun x H1 d e1 rx ⟨a, n, w, kvs, ks, ed, em, ek, hl, t1⟩ => ?_
  subst ed
  cases rx
  have S1 := S.same e1
  obtain ⟨hm, vs, ha, kp⟩ := S1.dk em
  refine ⟨a, vs, ks, rfl, .inl ha, kp.ks.trans ek, hl, fun ys z pm srt hz => ?_⟩
  have en := same_new hz (.lst (ys.map V.int))
  exact q z _ (iL ys) _ (e1.trans en) (by
    cases y : H z with
    | none => rfl
    | some o => rw [e1 _ _ y] at hz; cases hz) upd_same (rp_of_ints ys) (t1 ys pm srt)
end
end DL

set_option maxRecDepth 100000
set_option maxHeartbeats 4000000
/-! The data layer: {(True, False): v, ..}[pair of truths], read at once. -/
namespace DL
open PySem PySem.Spec L2
abbrev BB := Bool × Bool
def bLeaf (b : Bool) : Leaf := .num (if b then 1 else 0)
def bbL (k : BB) : List Leaf := [bLeaf k.1, bLeaf k.2]
theorem bbL_inj {a b : BB} (h : bbL a = bbL b) : a = b := by
  obtain ⟨a1, a2⟩ := a
  obtain ⟨b1, b2⟩ := b
  cases a1 <;> cases a2 <;> cases b1 <;> cases b2 <;> first | rfl | simp [bbL, bLeaf] at h
abbrev bbV (k : BB) : List V := [.bl k.1, .bl k.2]
abbrev LKd (P : Program) (w : World) := tupleKind (leafKind P w)
theorem bLeaf_is {P : Program} {w : World} (b : Bool) : (leafKind P w).is (bLeaf b) (.bool b) = true := by cases b <;> rfl
theorem bb_is {X : Cx} {pins : List (Addr × Obj)} {σ : St} {H : Hp} {s : Shared} (I : Inv X pins σ H s) {b : Addr} {k : BB} (h : SqT X.K H b (bbV k)) : (LKd X.prog X.w).is s.heap (bbL k) b := by
  obtain ⟨its, r, ⟨o, e, c, n, d⟩, _⟩ := I.tuple h
  refine ⟨o, its.toArray, n, e, c, d, ?_⟩
  cases r with
  | cons r1 r2 =>
    cases r2 with
    | cons r3 r4 =>
      cases r4
      cases r1
      cases r3
      exact .cons (bLeaf_is _) (.cons (bLeaf_is _) .nil)
/-- keys, where their tuples stand, values -/
abbrev XE := BB × Addr × V
def xeR (xs : List XE) (ys : List (List Leaf × Addr × Value)) : Prop := Paired (fun (p : XE) (q : List Leaf × Addr × Value) => q.1 = bbL p.1 ∧ q.2.1 = p.2.1 ∧ RelV p.2.2 q.2.2) xs ys
/-- the dict itself; that the keys' tuples stand is told elsewhere -/
def DTO (P : Program) (w : World) (a : Addr) (xs : List XE) : HO := .ext fun h => ∃ (o : Obj) (es : Array DictEntry) (ep : Nat) (ys : List (List Leaf × Addr × Value)), h.get? a = some o ∧ o.ExactDict ∧ o.data = .dict es ep ∧ es.toList = ys.map (entryOfKey (LKd P w)) ∧ (ys.map (·.1)).Nodup ∧ xeR xs ys
theorem dto_ok {P : Program} {w : World} {H : Hp} {h : Heap} {a : Addr} {xs : List XE} {ys : List (List Leaf × Addr × Value)} (d : h.DictOfH (LKd P w) a ys) (r : xeR xs ys) : ObjOk P w H h a (DTO P w a xs) := by
  obtain ⟨o, es, ep, ho, hx, hd, he, _, nd⟩ := d
  exact ⟨⟨o, es, ep, ys, ho, hx, hd, he, nd, r⟩, ⟨o, ho⟩, fun h1 h2 ⟨o, es, ep, ys, ho, z⟩ k => ⟨o, es, ep, ys, k o ho, z⟩⟩
def lkB {α : Type} (l : List (BB × α)) (k : BB) : Option α := (l.find? fun x => decide (x.1 = k)).map (·.2)
theorem xe_at {k : BB} {v : V} : ∀ {xs : List XE} {ys : List (List Leaf × Addr × Value)}, xeR xs ys → lkB (xs.map fun x => (x.1, x.2.2)) k = some v → ∃ p, atKey ys (bbL k) = some p ∧ RelV v p.2
  | [], _, _, h => by simp [lkB] at h
  | p :: ps, _, .cons (b := q) (l₂ := qs) ⟨h1, h2, h3⟩ t, h => by
    by_cases e : p.1 = k
    · have e' : q.1 = bbL k := by rw [h1, e]
      have ev : p.2.2 = v := by simpa [lkB, List.find?_cons, e] using h
      exact ⟨q.2, by simp [atKey, List.find?_cons, e'], by rw [← ev]; exact h3⟩
    · have e' : ¬ q.1 = bbL k := fun z => e (bbL_inj (h1.symm.trans z))
      have h' : lkB (ps.map fun x => (x.1, x.2.2)) k = some v := by simpa [lkB, List.find?_cons, e] using h
      obtain ⟨p', g1, g2⟩ := xe_at t h'
      exact ⟨p', by simpa [atKey, List.find?_cons, e'] using g1, g2⟩
theorem xe_is {X : Cx} {pins : List (Addr × Obj)} {σ : St} {H : Hp} {s : Shared} (I : Inv X pins σ H s) : ∀ {xs : List XE} {ys : List (List Leaf × Addr × Value)}, xeR xs ys → (∀ x ∈ xs, SqT X.K H x.2.1 (bbV x.1)) → ∀ y ∈ ys, (LKd X.prog X.w).is s.heap y.1 y.2.1
  | [], _, .nil, _, y, hy => nomatch hy
  | p :: ps, _, .cons (b := q) (l₂ := qs) ⟨h1, h2, h3⟩ t, h, y, hy => by
    rcases List.mem_cons.mp hy with e | e
    · subst e
      rw [h1, h2]
      exact bb_is I (h p (by simp))
    · exact xe_is I t (fun x hx => h x (by simp [hx])) y e
/-- d[pair] -/
def rIxBB (X : Cx) : R2 := fun x y H Q => ∃ (p b : Addr) (xs : List XE) (k : BB) (v : V), x = .ref p ∧ y = .ref b ∧ H p = some (DTO X.prog X.w p xs) ∧ SqT X.K H b (bbV k) ∧ (∀ x ∈ xs, SqT X.K H x.2.1 (bbV x.1)) ∧ lkB (xs.map fun x => (x.1, x.2.2)) k = some v ∧ Q v H
theorem ix_bb {X : Cx} (hu : X.A.units + 1 < cLine) : IxR X (rIxBB X) := by
  intro value slice pins s σ H x y v u Q I rx ry h hs
  obtain ⟨p, b, xs, k, z, rfl, rfl, hp, hb, hx, hz, q⟩ := h
  cases rx
  cases ry
  obtain ⟨⟨o, es, ep, ys, ho, hex, hd, he, nd, r⟩, _, _⟩ := I.hok p _ hp
  have dd : s.heap.DictOfH (LKd X.prog X.w) p ys := ⟨o, es, ep, ho, hex, hd, he, xe_is I r hx, nd⟩
  obtain ⟨w, g1, g2⟩ := xe_at r hz
  exact PyProof.Rows.subscriptTail_builtinR (x := w.2) dd.typeIs PySem.F.slot_dict_getitem.lookup
    (wpAny_getItem_heap (Q := fun r s' => r = w.2 ∧ EP X pins σ Q r s') (tupleKind_room_in1 hu) (bb_is I hb) dd g1 ⟨rfl, z, H, I.tok _, g2, q⟩) hs
theorem storedAllH_new {K : Type} [DecidableEq K] : ∀ (ps xs : List (K × Addr × Value)), ((xs ++ ps).map (·.1)).Nodup → storedAllH xs ps = xs ++ ps
  | [], xs, _ => by simp [storedAllH]
  | p :: ps, xs, h => by
    have hn : (atKey xs p.1).isSome = false := by
      unfold atKey
      rw [Option.isSome_map]
      cases z : xs.find? fun x => decide (x.1 = p.1) with
      | none => rfl
      | some y =>
        have hy := List.find?_some z
        have e : y.1 = p.1 := by simpa using hy
        rw [List.map_append, List.nodup_append] at h
        exact absurd e (h.2.2 y.1 (List.mem_map.mpr ⟨y, List.mem_of_find?_eq_some z, rfl⟩) p.1 (by simp))
    have e1 : storedAllH xs (p :: ps) = storedAllH (storedH xs p.1 p.2.1 p.2.2) ps := rfl
    have e2 : storedH xs p.1 p.2.1 p.2.2 = xs ++ [p] := by
      unfold storedH
      rw [hn]
      rfl
    rw [e1, e2, storedAllH_new ps _ (by simpa using h)]
    simp
theorem carriesH_of {X : Cx} {pins : List (Addr × Obj)} {σ : St} {H : Hp} {s : Shared} (I : Inv X pins σ H s) : ∀ {xs : List XE} {ws : List (Value × Value)}, VV (xs.map fun x => (V.ref x.2.1, x.2.2)) ws → (∀ x ∈ xs, SqT X.K H x.2.1 (bbV x.1)) →
    ∃ ys, CarriesH (LKd X.prog X.w) s.heap ws ys ∧ xeR xs ys
  | [], _, r, _ => by rw [List.map_nil] at r; cases r; exact ⟨[], trivial, .nil⟩
  | p :: xs, _, r, h => by
    rw [List.map_cons] at r
    cases r with
    | @cons a b as bs hh t =>
      obtain ⟨ys, c, q⟩ := carriesH_of I t fun x hx => h x (by simp [hx])
      obtain ⟨b1, b2⟩ := b
      have e1 : b1 = Value.ref p.2.1 := hh.1
      exact ⟨(bbL p.1, p.2.1, b2) :: ys, ⟨e1, rfl, bb_is I (h p (by simp)), c⟩, .cons ⟨rfl, rfl, hh.2⟩ q⟩
theorem xe_keys : ∀ {xs : List XE} {ys : List (List Leaf × Addr × Value)}, xeR xs ys → ys.map (·.1) = xs.map fun x => bbL x.1
  | _, _, .nil => rfl
  | _, _, .cons ⟨h1, _, _⟩ t => by simp [h1, xe_keys t]
theorem nodup_inj {α β : Type} {f : α → β} (hf : ∀ a b, f a = f b → a = b) : ∀ {l : List α}, l.Nodup → (l.map f).Nodup
  | [], _ => List.nodup_nil
  | a :: l, h => by
    rw [List.nodup_cons] at h
    rw [List.map_cons, List.nodup_cons]
    refine ⟨fun z => ?_, nodup_inj hf h.2⟩
    obtain ⟨b, hb, e⟩ := List.mem_map.mp z
    exact h.1 (hf _ _ e ▸ hb)
/-- {k: v, ..} with pairs of truths as keys -/
def tDispBB (X : Cx) (trs : List (TE × TE)) : TE := fun σ H Q => ∀ p, H p = none → tPairs trs σ (upd H p (.dT [])) fun ps H2 => H2 p = some (.dT []) ∧ ∃ xs : List XE, ps = xs.map (fun x => (V.ref x.2.1, x.2.2)) ∧ (∀ x ∈ xs, SqT X.K H2 x.2.1 (bbV x.1)) ∧ (xs.map (·.1)).Nodup ∧ Q (.ref p) (upd H2 p (DTO X.prog X.w p xs))
theorem pe_dispBB {X : Cx} {pos : Pos} {keys : List (Option Expr)} {values : List Expr} {trs : List (TE × TE)} (hu : X.A.units + 1 < cLine) (h : PPs X pos keys values trs) (hall : keys.all (·.isSome) = true) (hl : keys.length = values.length) (h0 : keys ≠ [])
    (h15 : keys.length ≤ 15) : PE X (.Dict keys values pos) (tDispBB X trs) := by
  refine ⟨fun pins s σ H Q I q => ?_⟩
  have hn := I.hok.fresh (Nat.le_refl s.heap.objs.size)
  have I1 := I.laid (a := s.heap.objs.size) (o := .dT []) (h' := s.heap.push { cls := .type "dict", data := .dict #[] }) (t' := s.toks) (fun _ _ q => Heap.get?_push_of_some _ q) (Nat.le_refl _) (dt_empty s.heap I.big)
  have hpl := pairTrees_length keys values X.env pos hall hl
  have hne : pairTrees keys values X.env pos ≠ [] := fun he => h0 (by rw [he] at hpl; exact List.length_eq_zero_iff.mp hpl.symm)
  rw [arm_eval_Dict, zip_pairTrees keys values X.env pos hall hl, dictDisplay_pairs _ hne (by omega)]
  refine wpAny_bind (wpAny_standAt (wpAny_bind (wpAny_subDictH (knd := LKd X.prog X.w) (Q := fun d s' => wpAny (model X.prog X.w) X.A (pure (Value.ref d)) (EP X pins σ Q) X.xe s') (by show X.A.units < cLine; omega) (by omega)
    (thn (h.run pins _ σ _ _ I1 (q _ hn)) fun ws s2 ⟨ps, H2, I2, rel, e, xs, ep, hk, nd, q2⟩ => ?_))))
  subst ep
  obtain ⟨ys, c, rx⟩ := carriesH_of I2 rel hk
  obtain ⟨z, hd, xs0, r0, dd⟩ := dt_of I2.hok e
  cases r0
  have ndy : (ys.map (·.1)).Nodup := by
    rw [xe_keys rx]
    have := nodup_inj (f := bbL) (fun a b => bbL_inj) nd
    simpa [List.map_map, Function.comp_def] using this
  obtain ⟨o, es, epp, ho, hx, hda, he, _⟩ := dd
  refine ⟨ys, c, ⟨o, es, epp, ho, hx, hda, by simpa using he, (fun x hx => nomatch hx), List.nodup_nil⟩, fun h' tk dd' hs => wpAny_pure ⟨.ref s.heap.objs.size, _, ?_, rfl, q2⟩⟩
  rw [storedAllH_new ys [] (by simpa using ndy), List.nil_append] at dd'
  have he' : ∃ q, h'.get? s.heap.objs.size = some q := let ⟨q, _, _, hq, _⟩ := dd'; ⟨q, hq⟩
  exact d_write I2 (by rw [e]; exact True.intro) hs he' (dto_ok dd' rx)
/-! ### over data -/
def uBBs : List (TE1 × TE1) → Rho → (List (BB × D) → Prop) → Prop
  | [], _, Q => Q []
  | (tk, tv) :: r, ρ, Q => tk ρ fun d => ∃ b c, d = .tup [.bl b, .bl c] ∧ tv ρ fun z => uBBs r ρ fun l => Q (((b, c), z) :: l)
/-- xs stands for l -/
structure BR (K : PySem.W.Frag) (H : Hp) (L : List Addr) (l : List (BB × D)) (xs : List XE) : Prop where
  ks : xs.map (·.1) = l.map (·.1)
  rp : RpAll K H L (l.map (·.2)) (xs.map (·.2.2))
  tp : ∀ x ∈ xs, SqT K H x.2.1 (bbV x.1)
theorem BR.same {K : PySem.W.Frag} {H H' : Hp} {L : List Addr} {l : List (BB × D)} {xs : List XE} (e : Same H H') (h : BR K H L l xs) : BR K H' L l xs := ⟨h.ks, same_all e h.rp, fun x hx => SqT.same (h.tp x hx) e⟩
theorem BR.lk {K : PySem.W.Frag} {H : Hp} {L : List Addr} {k : BB} {z : D} : ∀ {l : List (BB × D)} {xs : List XE}, BR K H L l xs → lkB l k = some z → ∃ v, lkB (xs.map fun x => (x.1, x.2.2)) k = some v ∧ Rp K H L z v
  | [], _, _, h => by simp [lkB] at h
  | (j, d) :: l, [], r, _ => by have := r.ks; simp at this
  | (j, d) :: l, (j', a, v) :: xs, r, h => by
    obtain ⟨x, r', e, r1, r2⟩ := r.rp
    have ks := r.ks
    simp only [List.map_cons, List.cons.injEq] at ks e
    obtain ⟨rfl, ks⟩ := ks
    obtain ⟨rfl, e⟩ := e
    by_cases q : j' = k
    · have : d = z := by simpa [lkB, List.find?_cons, q] using h
      subst this
      exact ⟨v, by simp [lkB, List.find?_cons, q], r1⟩
    · have h' : lkB l k = some z := by simpa [lkB, List.find?_cons, q] using h
      obtain ⟨v', g1, g2⟩ := BR.lk (xs := xs) ⟨ks, by rw [e]; exact r2, fun x hx => r.tp x (by simp [hx])⟩ h'
      exact ⟨v', by simpa [lkB, List.find?_cons, q] using g1, g2⟩
theorem neT {H : Hp} {a p : Addr} {o : HO} (h : H a = some o) (hp : H p = some (.dT [])) (n : o ≠ .dT []) : a ≠ p := by
  rintro rfl
  rw [hp] at h
  cases h
  exact n rfl
mutual
theorem Rp.offT {K : PySem.W.Frag} {H : Hp} {L : List Addr} {p : Addr} {u : HO} (hp : H p = some (.dT [])) : ∀ (d : D) (v : V), Rp K H L d v → Rp K (upd H p u) L d v
  | .non, _, h => h
  | .bl _, _, h => h
  | .int _, _, h => h
  | .str _, _, h => h
  | .ty _, _, h => h
  | .tup ds, _, ⟨a, xs, h1, h2, h3⟩ => by
    refine ⟨a, xs, h1, ?_, RpAll.offT hp ds xs h3⟩
    rcases h2 with (h | ⟨o', h⟩) | h
    · exact .inl (.inl (by rw [upd_ne (neT h hp fun w => nomatch w)]; exact h))
    · exact .inl (.inr ⟨o', by rw [upd_ne (neT h hp fun w => nomatch w)]; exact h⟩)
    · exact .inr h
  | .lst ds, _, ⟨a, xs, h1, h2, h4⟩ => by
    refine ⟨a, xs, h1, ?_, RpAll.offT hp ds xs h4⟩
    rcases h2 with ⟨h2, h3⟩ | h2
    · rcases h3 with h | ⟨o', h⟩
      · exact .inl ⟨h2, .inl (by rw [upd_ne (neT h hp fun w => nomatch w)]; exact h)⟩
      · exact .inl ⟨h2, .inr ⟨o', by rw [upd_ne (neT h hp fun w => nomatch w)]; exact h⟩⟩
    · exact .inr h2
  | .dct, _, ⟨a, h1, h2, h3⟩ => ⟨a, h1, by rw [upd_ne (neT h2 hp fun w => nomatch w)]; exact h2, h3⟩
  | .ob C ns ds, _, ⟨a, dx, fs, h1, h2, h3, h4, h5⟩ => ⟨a, dx, fs, h1, by rw [upd_ne (neT h2 hp fun w => nomatch w)]; exact h2, h3, RpAll.offT hp ds _ h4, h5⟩
  | .exc C, _, ⟨a, h1, h2⟩ => ⟨a, h1, by rw [upd_ne (neT h2 hp fun w => nomatch w)]; exact h2⟩
  | .cls C, _, h => h
theorem RpAll.offT {K : PySem.W.Frag} {H : Hp} {L : List Addr} {p : Addr} {u : HO} (hp : H p = some (.dT [])) : ∀ (ds : List D) (vs : List V), RpAll K H L ds vs → RpAll K (upd H p u) L ds vs
  | [], _, h => h
  | d :: ds, _, ⟨x, r, h1, h2, h3⟩ => ⟨x, r, h1, Rp.offT hp d x h2, RpAll.offT hp ds r h3⟩
end
structure QBs (X : Cx) (W : WX) (E1 : E1T) (pos : Pos) (keys : List (Option Expr)) (values : List Expr) (ts : List (TE1 × TE1)) : Prop where
  ex : ∃ trs, PPs X pos keys values trs ∧ ∀ (F : Fm) (M : List Addr) (H : Hp) (σ : St) (ρ : Rho) (Q1 : List (BB × D) → Prop) (Q : List (V × V) → Hp → Prop), StR X.K F M H σ ρ → Xok X.K F W E1 → uBBs ts ρ Q1 →
    (∀ xs H' l, Same H H' → BR X.K H' (M ++ F.L0) l xs → Q1 l → Q (xs.map fun x => (V.ref x.2.1, x.2.2)) H') → tPairs trs σ H Q
section
variable {X : Cx} {W : WX} {E1 : E1T} {e kx v i : Expr} {pos dpos : Pos} {ks : List (Option Expr)} {vs : List Expr} {ts : List (TE1 × TE1)} {tk tv u : TE1}
theorem qbs_nil : QBs X W E1 pos [] [] [] := ⟨_, pps_nil, fun F M H σ ρ Q1 Q S hx t q => q [] H [] (Same.refl H) ⟨rfl, rfl, fun x hx => nomatch hx⟩ t⟩
theorem qbs_cons (hk : QE X W E1 kx tk) (hv : QE X W E1 v tv) (hr : QBs X W E1 pos ks vs ts) : QBs X W E1 pos (some kx :: ks) (v :: vs) ((tk, tv) :: ts) := by
  obtain ⟨te, h1, i1⟩ := hk
  obtain ⟨tr, h2, i2⟩ := hv
  obtain ⟨trs, h3, i3⟩ := hr.ex
  refine ⟨_, pps_cons h1 h2 h3, fun F M H σ ρ Q1 Q S hx t q => ?_⟩
  refine i1 F M H σ ρ _ _ S hx t fun y H1 d e1 ry ⟨b, c, ed, t1⟩ => ?_
  subst ed
  refine i2 F M H1 σ ρ _ _ (S.same e1) hx t1 fun w H2 z e2 rw' t2 => ?_
  refine i3 F M H2 σ ρ _ _ ((S.same e1).same e2) hx t2 fun xs H3 l e3 r3 t3 => ?_
  obtain ⟨a, us, rfl, hT, hU⟩ := ry
  obtain ⟨_, _, rfl, rb, _, _, rfl, rc, rfl⟩ := hU
  cases rb
  cases rc
  exact q (((b, c), a, w) :: xs) H3 (((b, c), z) :: l) (e1.trans (e2.trans e3)) ⟨by simp [r3.ks], ⟨w, _, rfl, same_rp e3 rw', r3.rp⟩, fun x hx => by
    rcases List.mem_cons.mp hx with e | e
    · subst e; exact SqT.same hT (e2.trans e3)
    · exact r3.tp x e⟩ t3
@[simp] abbrev uBBi (ts : List (TE1 × TE1)) (u : TE1) : TE1 := fun ρ Q => uBBs ts ρ fun l => (l.map (·.1)).Nodup ∧ u ρ fun d => ∃ (k : BB) (z : D), d = .tup [.bl k.1, .bl k.2] ∧ lkB l k = some z ∧ Q z
theorem q_bb {keys : List (Option Expr)} {values : List Expr} (hu : X.A.units + 1 < cLine) (h : QBs X W E1 dpos keys values ts) (hi : QE X W E1 i u) (hall : keys.all (·.isSome) = true) (hl : keys.length = values.length) (h0 : keys ≠ []) (h15 : keys.length ≤ 15)
    (hs : PlainIx i := by exact fun _ _ => rfl) : QE X W E1 (.Subscript (.Dict keys values dpos) i pos) (uBBi ts u) := by
  obtain ⟨trs, h1, i1⟩ := h.ex
  obtain ⟨tr, h2, i2⟩ := hi
  refine ⟨_, pe_ix (ix_bb hu) (pe_dispBB hu h1 hall hl h0 h15) h2 hs, fun F M H σ ρ Q1 Q S hx t q => fun p hp => ?_⟩
  have e0 := same_new hp (.dT [])
  refine i1 F M _ σ ρ _ _ (S.same e0) hx t fun xs H2 l e1 r1 ⟨nd, t1⟩ => ⟨e1 _ _ upd_same, xs, rfl, r1.tp, by rw [r1.ks]; exact nd, ?_⟩
  have e2 : Same H (upd H2 p (DTO X.prog X.w p xs)) := fun b o hb => by rw [upd_ne (ne_of_none hb hp)]; exact e1 _ _ (e0 _ _ hb)
  have hp2 : H2 p = some (.dT []) := e1 _ _ upd_same
  have tp : ∀ {b : Addr} {ys : List V}, SqT X.K H2 b ys → SqT X.K (upd H2 p (DTO X.prog X.w p xs)) b ys := fun {b ys} z => by
    rcases z with (z | ⟨o', z⟩) | z
    · exact .inl (.inl (by rw [upd_ne (neT z hp2 fun w => nomatch w)]; exact z))
    · exact .inl (.inr ⟨o', by rw [upd_ne (neT z hp2 fun w => nomatch w)]; exact z⟩)
    · exact .inr z
  have rr : BR X.K (upd H2 p (DTO X.prog X.w p xs)) (M ++ F.L0) l xs := ⟨r1.ks, RpAll.offT hp2 _ _ r1.rp, fun x hx => tp (r1.tp x hx)⟩
  have S3 := S.same e2
  refine i2 F M _ σ ρ _ _ S3 hx t1 fun y H4 d e4 ry ⟨k, z, ed, hz, t2⟩ => ?_
  subst ed
  obtain ⟨b, us, rfl, hT, hU⟩ := ry
  obtain ⟨_, _, rfl, rb, _, _, rfl, rc, rfl⟩ := hU
  cases rb
  cases rc
  have r4 := rr.same e4
  obtain ⟨v, g1, g2⟩ := r4.lk hz
  exact ⟨p, b, xs, k, v, rfl, rfl, e4 _ _ upd_same, hT, r4.tp, g1, q v H4 z (e2.trans e4) g2 t2⟩
end
end DL

set_option maxRecDepth 100000
set_option maxHeartbeats 4000000
/-! The data layer: x is True, of anything; an item of a list that the frame owns. -/
namespace DL
open PySem PySem.Spec L2
theorem op_isBlA {X : Cx} : OpR X (compareOp .Is) (fun x y H Q => ∃ b, y = .bl b ∧ Q (.bl (decide (x = .bl b))) H) := by
  intro pins s σ H x y v u Q I rx ry h
  obtain ⟨b, rfl, q⟩ := h
  cases (show u = Value.bool b from ry)
  by_cases e : x = .bl b
  · subst e
    cases (show v = Value.bool b from rx)
    exact wpAny_is_self rfl ⟨.bl true, H, I, rfl, by simpa using q⟩
  · have ne : v ≠ Value.bool b := by
      rintro rfl
      cases x <;> first
        | (obtain ⟨t, z⟩ := rx; cases z; done)
        | (have z : _ = _ := rx; cases z <;> first | done | exact e rfl)
    refine wpAny_is_other ?_ ne ⟨.bl false, H, I, rfl, by simpa [e] using q⟩
    cases x <;> first
      | (obtain ⟨t, rfl⟩ := rx; rfl)
      | (cases rx; rfl)
def D.isB (b : Bool) : D → Bool
  | .bl a => decide (a = b)
  | _ => false
theorem rp_isB {K : PySem.W.Frag} {H : Hp} {L : List Addr} {b : Bool} {d : D} {v : V} (r : Rp K H L d v) : decide (v = .bl b) = d.isB b := by
  cases d with
  | non => cases r; simp [D.isB]
  | bl a => cases r; simp [D.isB]
  | int i => cases r; simp [D.isB]
  | str i => cases r; simp [D.isB]
  | ty i => cases r; simp [D.isB]
  | tup ds => obtain ⟨a, xs, rfl, _⟩ := r; simp [D.isB]
  | lst ds => obtain ⟨a, xs, rfl, _⟩ := r; simp [D.isB]
  | dct => obtain ⟨a, rfl, _⟩ := r; simp [D.isB]
  | ob C ns ds => obtain ⟨a, dx, fs, rfl, _⟩ := r; simp [D.isB]
  | exc C => obtain ⟨a, rfl, _⟩ := r; simp [D.isB]
  | cls C => cases r; simp [D.isB]
@[simp] abbrev fIsBlA : F2 := fun d e Q => ∃ b, e = .bl b ∧ Q (.bl (d.isB b))
theorem i_isBlA {K : PySem.W.Frag} : OpI K (fun x y H Q => ∃ b, y = .bl b ∧ Q (.bl (decide (x = .bl b))) H) fIsBlA := by
  rintro H L d1 d2 v1 v2 Q1 Q hL r1 r2 ⟨b, rfl, t⟩ q
  cases r2
  refine ⟨b, rfl, ?_⟩
  rw [rp_isB r1]
  exact q _ H (.bl _) (Same.refl H) rfl t
section
variable {X : Cx} {W : WX} {E1 : E1T} {e i : Expr} {pos : Pos} {u : TE1}
/-- xs[k], xs a list that the frame owns -/
@[simp] abbrev uIxO (n : Nat) (u : TE1) : TE1 := fun ρ Q => ∃ ds, ρ[n]? = some (.own ds) ∧ u ρ fun e => ∃ (k : Int) (d : D), e = .int k ∧ atI ds k = some d ∧ Q d
theorem q_ixO (n : Nat) {lx : Expr} (hl : PE X lx (tVar n)) (hi : QE X W E1 i u) (hs : PlainIx i := by exact fun _ _ => rfl) : QE X W E1 (.Subscript lx i pos) (uIxO n u) := by
  obtain ⟨tr, h2, i2⟩ := hi
  refine ⟨_, pe_ix ix_list hl h2 hs, fun F M H σ ρ Q1 Q S hx ⟨ds, e, t⟩ q => ?_⟩
  obtain ⟨a, xs, g1, g2, g3, g4⟩ := S.getOwn e
  refine ⟨_, g1, ?_⟩
  refine i2 F M H σ ρ _ _ S hx t fun w H2 d e2 rw' ⟨k, z, ed, hz, t2⟩ => ?_
  subst ed
  cases rw'
  have hz' : (ixN ds.length k).bind (fun j => ds[j]?) = some z := hz
  have g4' := same_all e2 g4
  obtain ⟨j, hj, hd⟩ := Option.bind_eq_some_iff.mp hz'
  obtain ⟨v, hv, rv⟩ := g4'.get hd
  refine ⟨a, xs, k, v, rfl, rfl, SqL.of (e2 _ _ g3), ?_, q v H2 z e2 rv t2⟩
  show (ixN xs.length k).bind (fun j => xs[j]?) = some v
  rw [g4.length, hj]
  exact hv
end
end DL

set_option maxRecDepth 100000
set_option maxHeartbeats 4000000
/-! list(zip(xs, ys)) of two lists. -/
namespace DL
open PySem PySem.Spec L2
theorem zip_no_len : typeLookup (.type "zip") "__len__" = pure none := by rw [typeLookup_type, builtinLookup_eq_fast]; kernel_rfl
theorem zip_no_hint : typeLookup (.type "zip") "__length_hint__" = pure none := by rw [typeLookup_type, builtinLookup_eq_fast]; kernel_rfl
theorem sqL_same {K : PySem.W.Frag} {H H' : Hp} {a : Addr} {xs : List V} (h : SqL K H a xs) (e : Same H H') : SqL K H' a xs := by
  rcases h with h | h
  · exact .inl (Rd.same h e)
  · exact .inr h
/-- the pairs that came so far stand -/
def ZPr (H : Hp) (xs ys : List V) (ts : List Addr) : Prop := ∀ (j : Nat) (T : Addr), ts[j]? = some T → ∃ x y, xs[j]? = some x ∧ ys[j]? = some y ∧ H T = some (.tup [x, y])
theorem ZPr.same {H H' : Hp} {xs ys : List V} {ts : List Addr} (h : ZPr H xs ys ts) (e : Same H H') : ZPr H' xs ys ts := fun j T q => by
  obtain ⟨x, y, h1, h2, h3⟩ := h j T q
  exact ⟨x, y, h1, h2, e _ _ h3⟩
theorem ZPr.snoc {H : Hp} {xs ys : List V} {ts : List Addr} {T : Addr} {x y : V} (h : ZPr H xs ys ts) (hx : xs[ts.length]? = some x) (hy : ys[ts.length]? = some y) (hT : H T = some (.tup [x, y])) : ZPr H xs ys (ts ++ [T]) := fun j U q => by
  by_cases e : j < ts.length
  · rw [List.getElem?_append_left e] at q
    exact h j U q
  · rw [List.getElem?_append_right (by omega)] at q
    have hj : j - ts.length = 0 := by
      cases z : j - ts.length with
      | zero => rfl
      | succ n => rw [z] at q; simp at q
    have : j = ts.length := by omega
    subst this
    rw [hj] at q
    cases q
    exact ⟨x, y, hx, hy, hT⟩
/-- something that stood untold of is told of -/
theorem inv_track {X : Cx} {pins : List (Addr × Obj)} {σ : L2.St} {H : Hp} {s : Shared} {a : Addr} {o : HO} {ob : Obj} (I : Inv X pins σ H s) (f : FpOk X pins H a) (h0 : X.s_0.heap.objs.size ≤ a) (new : ObjOk X.prog X.w (upd H a o) s.heap a o) (e : s.heap.get? a = some ob) (d : ∀ v, ob.data ≠ .cell v) : Inv X pins σ (upd H a o) s := by
  obtain ⟨na, nL, nf, _, nc, np⟩ := f
  have up : ∀ {b : Addr} {u : HO}, H b = some u → upd H a o b = some u := fun {b u} q => by rw [upd_ne (ne_of_none q na)]; exact q
  refine ⟨I.ok, I.os, I.bare, ⟨I.base.keep, I.base.slot, fun b ob q n hx => ?_, I.base.there, fun b xs q => up (I.base.tups b xs q), fun b o u q => up (I.base.frzs b o u q), fun b ps q => ?_⟩, I.loc, I.cell, ?_, fun x c q => ?_, fun p hp => ?_, fun b u q => ?_, I.len⟩
  · have nb : b ≠ a := by
      rintro rfl
      exact absurd (Nat.lt_of_lt_of_le (Heap.lt_size q) h0) (Nat.lt_irrefl _)
    rw [upd_ne nb]; exact I.base.free b ob q n hx
  · obtain ⟨more, w⟩ := I.base.tbls b ps q
    exact ⟨more, up w⟩
  · rw [upd_ne (Ne.symm nL)]; exact I.free
  · rw [upd_ne (nc x c q)]; exact I.freeC x c q
  · obtain ⟨p1, p2, p3⟩ := I.pin p hp
    exact ⟨p1, by rw [upd_ne (np p hp)]; exact p2, p3⟩
  · by_cases hb : b = a
    · subst hb; rw [upd_same] at q; cases q; exact new
    · rw [upd_ne hb] at q
      exact (I.hok b u q).stay (fun c v hc w => w) (fun c w => up w) fun c xs w => up w
theorem fp_new {X : Cx} {pins : List (Addr × Obj)} {H : Hp} {b T : Addr} {o : HO} (f : FpOk X pins H b) (ne : b ≠ T) : FpOk X pins (upd H T o) b := ⟨by rw [upd_ne ne]; exact f.1, f.2⟩
section
variable {X : Cx} {pins : List (Addr × Obj)} {σ : L2.St} {a b z TI TO i1 i2 S : Addr} {xs ys : List V} {H0 : Hp}
/-- how the zip stands behind k turns -/
abbrev ZAt (h : Heap) (z TI TO i1 i2 a b : Addr) (k : Nat) : Prop := ZSt h z TI TO ∧ IsPair h TI (.ref i1) (.ref i2) ∧ (∃ p q, IsPair h TO p q) ∧ h.IsListIter i1 a k ∧ h.IsListIter i2 b k
theorem zat_keep {h h' : Heap} {k : Nat} (st : ZAt h z TI TO i1 i2 a b k) (kp : ∀ c ∈ [z, TI, TO, i1, i2], ∀ o, h.get? c = some o → h'.get? c = some o) : ZAt h' z TI TO i1 i2 a b k := by
  obtain ⟨hz, pI, ⟨p, q, pO⟩, t1, t2⟩ := st
  refine ⟨?_, kp TI (by simp) _ pI, ⟨p, q, kp TO (by simp) _ pO⟩, t1.at fun o e => kp i1 (by simp) o e, t2.at fun o e => kp i2 (by simp) o e⟩
  rcases hz with hz | ⟨T, f, hz⟩
  · exact .inl (kp z (by simp) _ hz)
  · exact .inr ⟨T, f, kp z (by simp) _ hz⟩
theorem zat_lt {h : Heap} {k : Nat} (st : ZAt h z TI TO i1 i2 a b k) : ∀ c ∈ [z, TI, TO, i1, i2], c < h.objs.size := by
  obtain ⟨hz, pI, ⟨p, q, pO⟩, t1, t2⟩ := st
  intro c hc
  have cs : c = z ∨ c = TI ∨ c = TO ∨ c = i1 ∨ c = i2 := by simpa using hc
  rcases cs with rfl | rfl | rfl | rfl | rfl
  · rcases hz with hz | ⟨T, f, hz⟩ <;> exact Heap.lt_size hz
  · exact Heap.lt_size pI
  · exact Heap.lt_size pO
  · obtain ⟨_, e, _⟩ := t1; exact Heap.lt_size e
  · obtain ⟨_, e, _⟩ := t2; exact Heap.lt_size e
theorem drain_zip {A : Around} {R : Result → Shared → Prop} {res : Value} (hh : A.handled = none) (D : ZipApart z TI TO i1 i2 a b) (hqx : SqL X.K H0 a xs) (hqy : SqL X.K H0 b ys) (hl : xs.length ≤ 1000) (nS : S ∉ [z, TI, TO, i1, i2])
    (hend : ∀ s' H2 ts acc c, Inv X pins σ H2 s' → Same H0 H2 → FpOk X pins H2 S → s'.heap.get? S = some (lstObj acc c) → acc.toList = ts.map Value.ref → ZPr H2 xs ys ts → ts.length = min xs.length ys.length → R (.ok (.ret res)) s') :
    ∀ (m : Nat) (s : Shared) (H : Hp) (ts : List Addr) (acc : Array Value) (c : Nat), m + ts.length = min xs.length ys.length → Inv X pins σ H s → Same H0 H → ZAt s.heap z TI TO i1 i2 a b ts.length → (∀ c ∈ [z, TI, TO, i1, i2], FpOk X pins H c) → FpOk X pins H S →
      s.heap.get? S = some (lstObj acc c) → acc.toList = ts.map Value.ref → ZPr H xs ys ts → codeAny (model X.prog X.w) A (.builtin "list.extend.loop" ⟨[.ref S, .ref z, res], []⟩) R s := by
  intro m
  induction m with
  | zero =>
    intro s H ts acc c hm I e st hf fS hS ha hp
    obtain ⟨hz, pI, ⟨p, q, pO⟩, t1, t2⟩ := st
    refine codeAny_builtin PySem.F.entry_extend_loop ?_
    rw [Around.under_plainId PySem.F.plain_extend_loop _]
    show wpAny _ A.in1 (pyNext (.ref z) >>= _) _ _ s
    obtain ⟨its, rv, pl, _⟩ := I.list (sqL_same hqx e)
    obtain ⟨its2, rv2, pl2, _⟩ := I.list (sqL_same hqy e)
    have l1 := rv.length
    have l2 := rv2.length
    have he : its.toArray[ts.length]? = none ∨ its2.toArray[ts.length]? = none := by
      by_cases w : xs.length ≤ ys.length
      · exact .inl (by simp; omega)
      · exact .inr (by simp; omega)
    refine wpAny_bind (zn_end (A := A.in1) hh D hz pI pO t1 t2 pl.isList pl2.isList he fun g hk => ?_)
    have hS' : g.get? S = some (lstObj acc c) := hk S _ (fun w => nS (by simp [w])) (fun w => nS (by simp [w])) (fun w => nS (by simp [w])) (fun w => nS (by simp [w])) hS
    exact wpAny_pure (hend _ H ts acc c (I.turnedL (t' := s.toks) (ch := [z, TI, TO, i1, i2]) (fun c o hb e => hk c o (fun q' => hb (by simp [q'])) (fun q' => hb (by simp [q'])) (fun q' => hb (by simp [q'])) (fun q' => hb (by simp [q'])) e) hf) e fS hS' ha hp (by omega))
  | succ m ih =>
    intro s H ts acc c hm I e st hf fS hS ha hp
    have lt5 := zat_lt st
    obtain ⟨hz, pI, ⟨p, q, pO⟩, t1, t2⟩ := st
    refine codeAny_builtin PySem.F.entry_extend_loop ?_
    rw [Around.under_plainId PySem.F.plain_extend_loop _]
    show wpAny _ A.in1 (pyNext (.ref z) >>= _) _ _ s
    obtain ⟨its, rv, pl, _⟩ := I.list (sqL_same hqx e)
    obtain ⟨its2, rv2, pl2, _⟩ := I.list (sqL_same hqy e)
    have hx := List.getElem?_eq_getElem (l := xs) (i := ts.length) (by omega)
    have hy := List.getElem?_eq_getElem (l := ys) (i := ts.length) (by omega)
    generalize xs[ts.length] = x' at hx
    generalize ys[ts.length] = y' at hy
    obtain ⟨u, hu, ru⟩ := rv.get hx
    obtain ⟨u2, hu2, ru2⟩ := rv2.get hy
    have asz : acc.size = ts.length := by
      have := congrArg List.length ha
      simpa using this
    refine wpAny_bind (zn_item D hz pI pO t1 t2 pl.isList pl2.isList (x := u) (y := u2) (by simpa using hu) (by simpa using hu2) fun g hz' hO' t1' t2' hT hsz hk => ?_)
    have hS' : g.get? S = some (lstObj acc c) := hk S _ (fun w => nS (by simp [w])) (fun w => nS (by simp [w])) (fun w => nS (by simp [w])) (fun w => nS (by simp [w])) hS
    have new : ObjOk X.prog X.w (upd H s.heap.objs.size (.tup [x', y'])) g s.heap.objs.size (.tup [x', y']) :=
      ⟨by show 2 ≤ sizeLine; decide, [u, u2], .cons ru (.cons ru2 .nil), ⟨_, hT, rfl, _, rfl⟩⟩
    have I1 : Inv X pins σ (upd H s.heap.objs.size (.tup [x', y'])) { s with heap := g } :=
      I.turnedNew (t' := s.toks) (ch := [z, TI, TO, i1, i2]) (fun c o hb e => hk c o (fun q' => hb (by simp [q'])) (fun q' => hb (by simp [q'])) (fun q' => hb (by simp [q'])) (fun q' => hb (by simp [q'])) e) hf (Nat.le_refl _) new
    have pI' : IsPair g TI (.ref i1) (.ref i2) := hk _ _ D.TIz D.TITO D.TIi1 D.TIi2 pI
    have nT : H s.heap.objs.size = none := I.hok.fresh (Nat.le_refl _)
    have e1 := same_new nT (.tup [x', y'])
    have ltS : S < s.heap.objs.size := Heap.lt_size hS
    have fS1 := fp_new (T := s.heap.objs.size) (o := .tup [x', y']) fS (Nat.ne_of_lt ltS)
    show wpAny _ A.in1 (updateSeq S (·.push (.ref s.heap.objs.size)) >>= _) _ _ _
    refine wpAny_bind ?_
    refine wpAny_updateSeq hS' rfl (wpAny_pure ⟨plainId_quiet PySem.F.plain_extend_loop _, ?_⟩) (by rw [asz, sizeLine_eq]; omega) (by show (acc.push _).size ≤ sizeLine + 1; rw [Array.size_push, asz, sizeLine_eq]; omega)
    have oth : ∀ c o, c ∉ [S] → g.get? c = some o → (g.update S (Obj.mapSeq (·.push (.ref s.heap.objs.size)))).get? c = some o := fun c o hc w => (Heap.get?_update_other _ _ (fun h : S = c => hc (by simp [h]))).trans w
    have I2 := I1.turnedL (t' := s.toks) (ch := [S]) oth (fun c hc => by rw [List.mem_singleton.mp hc]; exact fS1)
    have len1 : (ts ++ [s.heap.objs.size]).length = ts.length + 1 := by simp
    refine ih _ _ (ts ++ [s.heap.objs.size]) (acc.push (.ref s.heap.objs.size)) _ (by rw [len1]; omega) I2 (e.trans e1) ?_ (fun c hc => fp_new (hf c hc) (Nat.ne_of_lt (lt5 c hc))) fS1 (Heap.get?_update_self _ hS' rfl) (by rw [Array.toList_push, ha]; simp) ((hp.same e1).snoc hx hy upd_same)
    rw [len1]
    exact zat_keep ⟨hz', pI', hO', t1', t2'⟩ fun c hc o w => oth c o (fun h => nS (by rw [← List.mem_singleton.mp h]; exact hc)) w
/-- list(z) -/
theorem list_zip {s : Shared} {Q : VK} (hc : X.calm = true) (I : Inv X pins σ H0 s) (D : ZipApart z TI TO i1 i2 a b) (hqx : SqL X.K H0 a xs) (hqy : SqL X.K H0 b ys) (hl : xs.length ≤ 1000) (st : ZAt s.heap z TI TO i1 i2 a b 0) (hf : ∀ c ∈ [z, TI, TO, i1, i2], FpOk X pins H0 c)
    (q : ∀ H2 ts l, Same H0 H2 → H2 l = none → ZPr H2 xs ys ts → ts.length = min xs.length ys.length → Q (.ref l) (upd H2 l (.lst (ts.map V.ref)))) : wpAny (model X.prog X.w) X.A (call (.type "list") [.ref z]) (EP X pins σ Q) X.xe s := by
  have lt5 := zat_lt st
  have nS : s.heap.objs.size ∉ [z, TI, TO, i1, i2] := fun h => Nat.lt_irrefl _ (lt5 _ h)
  have hSz : s.heap.objs.size ≠ z := fun h => nS (by simp [h])
  refine callType_codes (Q₁ := fun obj s₁ => obj = .ref s.heap.objs.size ∧ s₁ = { s with heap := s.heap.push { cls := .type "list", data := .seq #[] } }) PySem.F.called_list (PySem.F.typeCall_list_1 _) PySem.F.entry_list_init
    (code_list_new _ ⟨rfl, rfl⟩) fun obj s₁ h₁ => ?_
  obtain ⟨rfl, rfl⟩ := h₁
  have hS : (s.heap.push { cls := .type "list", data := .seq #[] }).get? s.heap.objs.size = some { cls := .type "list", data := .seq #[] } := Heap.get?_push_size _ rfl
  refine ⟨⟨_, hS, rfl⟩, PySem.F.args_list_init_2 _ _, ?_⟩
  show wpAny _ X.A.in1.in1 (do let old ← Builtin.List.listItems (.ref s.heap.objs.size); Builtin.List.listUpdate (.ref s.heap.objs.size) (fun _ => #[]); letGo old.toList.reverse; Builtin.List.listExtendWith (.ref s.heap.objs.size) (.ref z) .none) _ _ _
  refine wpAny_bind ?_
  unfold Builtin.List.listItems
  refine wpAny_bind (wpAny_seqItems hS rfl (wpAny_pure ?_))
  show wpAny _ X.A.in1.in1 (updateSeq s.heap.objs.size (fun _ => #[]) >>= fun _ => letGo (#[] : Array Value).toList.reverse >>= fun _ => Builtin.List.listExtendWith (.ref s.heap.objs.size) (.ref z) .none) _ _ _
  refine wpAny_bind (wpAny_updateSeq hS rfl ?_)
  have hS2 := Heap.get?_update_self (Obj.mapSeq (fun _ => (#[] : Array Value))) hS rfl
  refine wpAny_bind (wpAny_letGo ?_)
  unfold Builtin.List.listExtendWith
  have up : ∀ (h : Heap) (f : Obj → Obj), (∀ b o, s.heap.get? b = some o → h.get? b = some o) → ∀ b o, s.heap.get? b = some o → (h.update s.heap.objs.size f).get? b = some o := fun h f q b o e =>
    (Heap.get?_update_other _ _ (Ne.symm (Nat.ne_of_lt (Heap.lt_size e)))).trans (q b o e)
  have k1 : ∀ b o, s.heap.get? b = some o → (s.heap.push { cls := .type "list", data := .seq #[] }).get? b = some o := fun b o e => Heap.get?_push_of_some _ e
  have k2 := up _ (Obj.mapSeq (fun _ => (#[] : Array Value))) k1
  have ty : ∀ {h : Heap}, (∀ b o, s.heap.get? b = some o → h.get? b = some o) → Shared.TypeIs { s with heap := h } (.ref z) "zip" := fun {h} q => by
    rcases st.1 with hz | ⟨T, f, hz⟩ <;> exact ⟨_, q _ _ hz, rfl⟩
  refine wpAny_bind (wpAny_typeOf (ty k2) ?_)
  have h1 : Builtin.List.listSameRef (.ref s.heap.objs.size) (.ref z) = false := by simp [Builtin.List.listSameRef, hSz]
  have h2 : (Value.type "zip" == Value.type "list") = false := by decide
  have h3 : (Value.type "zip" == Value.type "tuple") = false := by decide
  simp only [h1, h2, h3, Bool.or_false, Bool.false_eq_true, if_false]
  have self : ∀ (A : Around) (s : Shared) (Q : Value → Shared → Prop) (E : Value → Shared → Prop), s.TypeIs (.ref z) "zip" → Q (.ref z) s → wpAny (model X.prog X.w) A (pyIter (.ref z)) Q E s := fun A s Q E ty h => by
    refine wpAny_pyIter_slot ty PySem.F.slot_zip_iter (wpAny_call_entry PySem.F.slot_zip_iter ty PySem.F.entry_zip_iter ?_ (PySem.F.args_zip_iter_1 _))
    show wpAny _ _ (ret (.ref z)) _ _ s
    exact wpAny_pure ⟨_, rfl, "zip", _, ty, PySem.F.slot_zip_next.lookup, h⟩
  refine wpAny_bind (self _ _ _ _ (ty k2) ?_)
  refine wpAny_bind (wpAny_holding ?_)
  unfold Builtin.List.listLengthHint
  refine wpAny_bind (wpAny_specialOf (ty k2) zip_no_len ?_)
  show wpAny _ X.A.in1.in1 (specialOf (Value.ref z) (Str.ofString "__length_hint__") >>= _) _ _ _
  refine wpAny_bind (wpAny_specialOf (ty k2) zip_no_hint ?_)
  refine wpAny_pure ?_
  show wpAny _ X.A.in1.in1 (rule "list.extend.makes-room" >>= fun _ => Builtin.List.listTouch (.ref s.heap.objs.size) >>= fun _ =>
    again (.builtin "list.extend.loop" ⟨[.ref s.heap.objs.size, .ref z, .none], []⟩)) _ _ _
  refine wpAny_bind (wpAny_rule ?_)
  refine wpAny_bind ?_
  show wpAny _ X.A.in1.in1 (updateSeq s.heap.objs.size (·.push .none) >>= fun _ => updateSeq s.heap.objs.size (·.pop)) _ _ _
  refine wpAny_bind (wpAny_updateSeq hS2 rfl ?_)
  have hS3 := Heap.get?_update_self (Obj.mapSeq (·.push Value.none)) hS2 rfl
  refine wpAny_updateSeq (hz := by seq_fits) hS3 rfl ?_
  have hS4 := Heap.get?_update_self (Obj.mapSeq (·.pop)) hS3 rfl
  have k4 := up _ (Obj.mapSeq (·.pop)) (up _ (Obj.mapSeq (·.push Value.none)) k2)
  refine wpAny_pure ⟨plainId_quiet PySem.F.plain_extend_loop _, ?_⟩
  have fS : FpOk X pins H0 s.heap.objs.size := I.fpOk (Nat.le_refl _) (I.hok.fresh (Nat.le_refl _))
  refine drain_zip (X := X) (pins := pins) (σ := σ) (A := X.A.in1) (H0 := H0) (I.ok.hd hc) D hqx hqy hl nS (fun s' H2 ts acc c I2 e2 f2 hS' ha hp hn => ⟨rfl, ?_⟩) (min xs.length ys.length) _ H0 [] #[] _ (by simp) (I.kept (t' := s.toks) k4) (Same.refl _) (zat_keep st fun c _ o w => k4 c o w) hf fS hS4 rfl (fun j T w => by simp at w)
  have vr : ∀ ts : List Addr, Vals (ts.map V.ref) (ts.map Value.ref) := fun ts => by
    induction ts with
    | nil => exact .nil
    | cons t ts ih => exact .cons rfl ih
  have I3 := inv_track (o := .lst (ts.map V.ref)) I2 f2 I.sz ⟨by rw [List.length_map, hn, sizeLine_eq]; omega, acc.toList, c, by rw [ha]; exact vr ts, by rw [hS']⟩ hS' (fun v w => nomatch w)
  exact ⟨.ref s.heap.objs.size, _, I3, rfl, q H2 ts _ e2 f2.1 hp hn⟩
end
end DL

set_option maxRecDepth 100000
set_option maxHeartbeats 4000000
/-! The data layer: list(zip(xs, ys)), tuple(xs), a comprehension over a list that the frame owns. -/
namespace DL
open PySem PySem.Spec L2
theorem rpAll_get {K : PySem.W.Frag} {H : Hp} {L : List Addr} : ∀ {ds : List D} {vs : List V}, vs.length = ds.length → (∀ (i : Nat) (d : D), ds[i]? = some d → ∃ v, vs[i]? = some v ∧ Rp K H L d v) → RpAll K H L ds vs
  | [], [], _, _ => rfl
  | d :: ds, [], h, _ => by simp at h
  | [], v :: vs, h, _ => by simp at h
  | d :: ds, v :: vs, h, g => by
    obtain ⟨w, e, r⟩ := g 0 d rfl
    have e : v = w := by simpa using e
    subst e
    exact ⟨v, vs, rfl, r, rpAll_get (by simpa using h) fun i d q => by simpa using g (i + 1) d (by simpa using q)⟩
section
variable {X : Cx} {W : WX} {E1 : E1T} {a b e : Expr} {es : List Expr} {pos pos2 p p2 : Pos} {t : TA1}
def tListZip (K : PySem.W.Frag) (ta : TA) : TE := fun σ H Q => ta σ H fun vs H1 => ∃ (a b : Addr) (xs ys : List V), vs = [.ref a, .ref b] ∧ SqL K H1 a xs ∧ SqL K H1 b ys ∧ xs.length ≤ 1000 ∧
  ∀ H2 ts l, Same H1 H2 → H2 l = none → ZPr H2 xs ys ts → ts.length = min xs.length ys.length → Q (.ref l) (upd H2 l (.lst (ts.map V.ref)))
theorem pe_listZip {ta : TA} (hc : X.calm = true) (hgl : Gl X "list") (hml : X.mg "list" = none) (hgz : Gl X "zip") (hmz : X.mg "zip" = none) (ha : PA X [a, b] ta)
    (hs : starEach [a, b] X.env = (false, eval a X.env) :: starEach [b] X.env := by rfl) (hpl : (backTo pos2 (starEach [b] X.env)).any (·.1) = false := by rfl)
    (he : starEach [.Call (.Name "zip" p2) [a, b] [] pos2] X.env = (false, eval (.Call (.Name "zip" p2) [a, b] [] pos2) X.env) :: starEach [] X.env := by rfl) : PE X (.Call (.Name "list" p) [.Call (.Name "zip" p2) [a, b] [] pos2] [] pos) (tListZip X.K ta) := by
  refine ⟨fun pins s σ H Q I h => ?_⟩
  refine wpAny_Call_Name_kw (ld_blt I hgl hml (by decide +kernel : bootBuiltins ("list" : Str) = some (.type "list")) ?_ (by decide) (by decide))
  refine PyProof.Rows.callWith_type1 ?_ he rfl
  rw [he]
  show wpAny _ _ (spliced ((false, eval _ X.env) :: backTo pos (starEach [] X.env))) _ _ s
  refine Calls.spliced_cons ?_
  refine PyProof.Rows.Call_ (ld_blt I hgz hmz PyProof.Rows.boot_zip (PyProof.Rows.callWith_type1 (thn (ha.run pos2 pins s σ H _ I h) fun us s1 ⟨vs, H1, I1, r1, a, b, xs, ys, ex, hqx, hqy, hl, q⟩ => ?_) hs hpl))
  subst ex
  obtain ⟨u, u', rfl, r, r'⟩ := vals2 r1
  cases r
  cases r'
  obtain ⟨its, rv, p1, _⟩ := I1.list hqx
  obtain ⟨its2, rv2, p2, _⟩ := I1.list hqy
  have la : a < s1.heap.objs.size := p1.lt
  have lb : b < s1.heap.objs.size := p2.lt
  refine call_zip_2 p1.isList p2.isList fun g hz pI pO t1 t2 hsz hk => ?_
  refine Calls.spliced_nil ?_
  have I2 : Inv X pins σ H1 { s1 with heap := g } := I1.kept (t' := s1.toks) hk
  refine list_zip hc I2 (PySem.W.ktu_apart s1.heap.objs.size a b la lb) hqx hqy hl ⟨.inl hz, pI, ⟨_, _, pO⟩, t1, t2⟩ (fun c hcm => ?_) q
  have hle : s1.heap.objs.size ≤ c := by
    have cs : c = s1.heap.objs.size + 4 ∨ c = s1.heap.objs.size + 2 ∨ c = s1.heap.objs.size + 3 ∨ c = s1.heap.objs.size ∨ c = s1.heap.objs.size + 1 := by simpa using hcm
    rcases cs with z | z | z | z | z
    · rw [z]; exact Nat.le_add_right _ 4
    · rw [z]; exact Nat.le_add_right _ 2
    · rw [z]; exact Nat.le_add_right _ 3
    · rw [z]; exact Nat.le_refl _
    · rw [z]; exact Nat.le_add_right _ 1
  exact I1.fpOk hle (I1.hok.fresh hle)
@[simp] abbrev uListZip (t : TA1) : TE1 := fun ρ Q => t ρ fun ds => ∃ as bs, ds = [.lst as, .lst bs] ∧ as.length ≤ 1000 ∧ Q (.lst (zipD as bs))
theorem q_listZip (hc : X.calm = true) (hgl : Gl X "list") (hml : X.mg "list" = none) (hgz : Gl X "zip") (hmz : X.mg "zip" = none) (ha : QA X W E1 [a, b] t)
    (hs : starEach [a, b] X.env = (false, eval a X.env) :: starEach [b] X.env := by rfl) (hpl : (backTo pos2 (starEach [b] X.env)).any (·.1) = false := by rfl)
    (he : starEach [.Call (.Name "zip" p2) [a, b] [] pos2] X.env = (false, eval (.Call (.Name "zip" p2) [a, b] [] pos2) X.env) :: starEach [] X.env := by rfl) : QE X W E1 (.Call (.Name "list" p) [.Call (.Name "zip" p2) [a, b] [] pos2] [] pos) (uListZip t) := by
  obtain ⟨te, h1, i1⟩ := ha
  refine ⟨_, pe_listZip hc hgl hml hgz hmz h1 hs hpl he, fun F M H σ ρ Q1 Q S hx t q => ?_⟩
  refine i1 F M H σ ρ _ _ S hx t fun vs H1 ds e1 r1 ⟨as, bs, ed, hl, t1⟩ => ?_
  subst ed
  obtain ⟨v, r, e2, g1, v', r', e3, g2, e4⟩ := r1
  subst e4 e3 e2
  obtain ⟨x, xs, ea, h1, g1⟩ := g1
  obtain ⟨y, ys, eb, h2, g2⟩ := g2
  subst ea eb
  have lx := g1.length
  have ly := g2.length
  refine ⟨x, y, xs, ys, rfl, h1.sq, h2.sq, by rw [lx]; exact hl, fun H2 ts l e2 hn hp hlen => ?_⟩
  have en := same_new hn (.lst (ts.map V.ref))
  have e12 := e2.trans en
  have S2 := (S.same e1).same e2
  refine q _ _ (.lst (zipD as bs)) (e1.trans e12) ⟨l, _, rfl, .inl ⟨fun w => S2.all l w hn, .inl upd_same⟩, rpAll_get (by rw [List.length_map, hlen, zipD_len, lx, ly]) fun i d hd => ?_⟩ t1
  obtain ⟨p, q, hp1, hq1, rfl⟩ := zipD_get _ _ _ _ hd
  obtain ⟨u, hu, ru⟩ := g1.get hp1
  obtain ⟨w, hw, rw'⟩ := g2.get hq1
  have hi : i < ts.length := by
    have a1 := (List.getElem?_eq_some_iff.mp hu).1
    have a2 := (List.getElem?_eq_some_iff.mp hw).1
    rw [hlen]; omega
  obtain ⟨x', y', k1, k2, k3⟩ := hp i _ (List.getElem?_eq_getElem hi)
  rw [hu] at k1
  cases k1
  rw [hw] at k2
  cases k2
  refine ⟨.ref ts[i], by rw [List.getElem?_map, List.getElem?_eq_getElem hi]; rfl, ts[i], _, rfl, SqT.of (en _ _ k3), _, _, rfl, same_rp e12 ru, _, _, rfl, same_rp e12 rw', rfl⟩
/-- tuple(xs) of a list -/
@[simp] abbrev fTupOf : List D → (D → Prop) → Prop := fun ds Q => ∃ xs, ds = [.lst xs] ∧ Q (.tup xs)
theorem i_tupOf {K : PySem.W.Frag} : CallI K (fun xs H Q => ∃ p ys, xs = [.ref p] ∧ ((SqL K H p ys ∧ ∀ l, H l = none → Q (.ref l) (upd H l (.tup ys))) ∨ (SqT K H p ys ∧ Q (.ref p) H))) fTupOf := by
  rintro H L ds vs Q1 Q hL r ⟨xs, rfl, t⟩ q
  obtain ⟨v, r', rfl, ⟨a, ys, ea, h1, g1⟩, h2⟩ := r
  cases h2
  subst ea
  refine ⟨a, ys, rfl, .inl ⟨h1.sq, fun l hl => ?_⟩⟩
  have en := same_new hl (.tup ys)
  exact q _ _ (.tup xs) en ⟨l, ys, rfl, SqT.of upd_same, same_all en g1⟩ t
end
/-- a comprehension whose items come while the frame stands as it stands -/
theorem lc_impW {K : PySem.W.Frag} {W : WX} {E1 : E1T} {vs : List Nat} {wi : TI} {u : TA1} {g : TG1} {tt : TT1} {te : TE1}
    (hi : ∀ (F : Fm) (M : List Addr) (H : Hp) (σ : St) (ρ : Rho) (Q1 : List D → Prop) (R : It → Hp → Prop), StR K F M H σ ρ → Xok K F W E1 → u ρ Q1 →
      (∀ J H' ds, Same H H' → (∀ M2 H2, StR K F M2 H2 (L2.wipe σ vs) (wipeR ρ vs) → ∀ i : Nat, (∀ d, ds[i]? = some d → J.go i H2 ∧ ∀ x H3, J.yld i H2 x H3 → Same H2 H3 ∧ Rp K H3 (M2 ++ F.L0) d x) ∧ (ds.length ≤ i → J.stop i H2)) → Q1 ds → R J H') → wi σ H R) :
    ∀ (F : Fm) (M : List Addr) (H : Hp) (σ : St) (ρ : Rho) (Q1 : D → Prop) (Q : VK), StR K F M H σ ρ → Xok K F W E1 → uLc vs u g tt te ρ Q1 →
      (∀ D H2 acc xs, Same H H2 → H D = none → H2 D = some (.lst xs) → RpAll K H2 ((D :: M) ++ F.L0) acc xs → Q1 (.lst acc) → Q (V.ref D) H2) → tLc wi (gS K vs g) (ttS K tt) (teS K te) vs σ H Q := by
  intro F M H σ ρ Q1 Q S hx t q
  refine hi F M H σ ρ _ _ S hx t fun J H1 ds e1 hJ ⟨hlen, go⟩ => fun D hD => ?_
  have S1 := S.same e1
  obtain ⟨S2, lo2⟩ := (S1.wipe vs).newLoose hD []
  have hDL : D ∉ M ++ F.L0 := fun z => S1.all D z hD
  refine ⟨fun i m H => m = ds.length - i ∧ i ≤ ds.length ∧ Same H1 H ∧ ∃ acc xs, H D = some (.lst xs) ∧ RpAll K H ((D :: M) ++ F.L0) acc xs ∧ acc.length ≤ i ∧ StR K F (D :: M) H (L2.wipe σ vs) (wipeR ρ vs) ∧ lcGo g tt te (wipeR ρ vs) (ds.drop i) fun es => Q1 (.lst (acc ++ es)),
    ⟨ds.length, by simp, Nat.zero_le _, same_new hD _, [], [], upd_same, rfl, Nat.le_refl _, S2, by simpa using go⟩, ?_⟩
  rintro i m H2 ⟨rfl, hi', eH, acc, xs, hDx, hacc, hal, S3, go3⟩
  have j := hJ (D :: M) H2 S3 i
  by_cases hlt : i < ds.length
  · obtain ⟨goJ, yl⟩ := j.1 _ (List.getElem?_eq_getElem hlt)
    rw [List.drop_eq_getElem_cons hlt] at go3
    refine .inr ⟨goJ, fun H' => i + 1 ≤ ds.length ∧ Same H1 H' ∧ ∃ acc xs, H' D = some (.lst xs) ∧ RpAll K H' ((D :: M) ++ F.L0) acc xs ∧ acc.length ≤ i + 1 ∧ StR K F (D :: M) H' (L2.wipe σ vs) (wipeR ρ vs) ∧ lcGo g tt te (wipeR ρ vs) (ds.drop (i + 1)) fun es => Q1 (.lst (acc ++ es)),
      fun H' ⟨a1, a2, a3⟩ => ⟨ds.length - (i + 1), by omega, rfl, a1, a2, a3⟩, fun x H' y => ?_⟩
    obtain ⟨e2, r2⟩ := yl x H' y
    have S4 := S3.same e2
    refine ⟨F, D :: M, wipeR ρ vs, _, _, S4, r2, go3, fun σ' ρ' w' S5 go5 => ⟨by rw [w', wipe_wipe], ?_⟩⟩
    refine ⟨_, _, ρ', _, S5, go5, fun b H5 e5 go6 => ?_⟩
    have S6 : StR K F (D :: M) H5 (L2.wipe σ vs) (wipeR ρ vs) := S4.same e5
    have lo : Loose (wipeR ρ vs) (L2.wipe σ vs) D := lo2
    have hD5 := e5 _ _ (e2 _ _ hDx)
    have acc5 := same_all e5 (same_all e2 hacc)
    cases b with
    | false => exact ⟨hlt, eH.trans (e2.trans e5), acc, xs, hD5, acc5, by omega, S6, by simpa using go6⟩
    | true =>
      refine ⟨F, D :: M, ρ', _, S5.same e5, by simpa using go6, fun v H7 d e7 r7 go7 => ?_⟩
      have hD7 := e7 _ _ hD5
      have acc7 := same_all e7 acc5
      have S7 := S6.same e7
      refine ⟨xs, hD7, small5 (by rw [acc7.length]; omega), hlt, fun b o hb => ?_, acc ++ [d], xs ++ [v], upd_same, ?_, by simp; omega, S7.chgLoose List.mem_cons_self hD7 lo, by simpa [List.append_assoc] using go7⟩
      · have ne : b ≠ D := fun z => by subst z; rw [hD] at hb; cases hb
        rw [upd_ne ne]
        exact e7 _ _ (e5 _ _ (e2 _ _ (eH _ _ hb)))
      · exact RpAll.append (RpAll.upd List.mem_cons_self hD7 _ _ acc7) ⟨v, [], rfl, Rp.upd List.mem_cons_self hD7 _ _ r7, rfl⟩
  · have e : i = ds.length := by omega
    subst e
    refine .inl ⟨j.2 (Nat.le_refl _), ?_⟩
    rw [List.drop_length] at go3
    refine q D H2 acc xs (e1.trans eH) ?_ hDx hacc (by simpa [lcGo] using go3)
    cases z : H D with
    | none => rfl
    | some o => rw [e1 _ _ z] at hD; cases hD
theorem wipeR_get (ρ : Rho) (j : Nat) : ∀ vs : List Nat, j ∉ vs → (wipeR ρ vs)[j]? = ρ[j]?
  | [], _ => rfl
  | v :: vs, h => by
    have h1 : v ≠ j := fun e => h (by simp [e])
    show ((wipeR ρ vs).sl.set v .un)[j]? = _
    rw [List.getElem?_set_ne h1]
    exact wipeR_get ρ j vs fun z => h (by simp [z])
section
variable {X : Cx} {W : WX} {E1 : E1T}
@[simp] abbrev uItOwn (n : Nat) : TA1 := fun ρ Q => ∃ ds, ρ[n]? = some (.own ds) ∧ Q ds
theorem own_items (n : Nat) {vs : List Nat} (hn : n ∉ vs) {lx tg : Expr} (hl : PE X lx (tVar n)) : ∃ wi, PI X tg lx wi ∧ ∀ (F : Fm) (M : List Addr) (H : Hp) (σ : St) (ρ : Rho) (Q1 : List D → Prop) (R : It → Hp → Prop), StR X.K F M H σ ρ → Xok X.K F W E1 → uItOwn n ρ Q1 →
      (∀ J H' ds, Same H H' → (∀ M2 H2, StR X.K F M2 H2 (L2.wipe σ vs) (wipeR ρ vs) → ∀ i : Nat, (∀ d, ds[i]? = some d → J.go i H2 ∧ ∀ x H3, J.yld i H2 x H3 → Same H2 H3 ∧ Rp X.K H3 (M2 ++ F.L0) d x) ∧ (ds.length ≤ i → J.stop i H2)) → Q1 ds → R J H') → wi σ H R := by
  refine ⟨_, pi_list hl, fun F M H σ ρ Q1 R S hx ⟨ds, e, t⟩ q => ?_⟩
  obtain ⟨a, xs, g1, g2, g3, g4⟩ := S.getOwn e
  refine ⟨_, g1, a, rfl, ⟨xs, SqL.of g3⟩, q _ H ds (Same.refl H) (fun M2 H2 S2 i => ?_) t⟩
  have e2 : (wipeR ρ vs)[n]? = some (.own ds) := by rw [wipeR_get ρ n vs hn]; exact e
  obtain ⟨a', ys, k1, k2, k3, k4⟩ := S2.getOwn e2
  have ea : a' = a := by
    rw [wipe_get, if_neg hn, g1] at k1
    cases k1; rfl
  subst ea
  refine ⟨fun d hd => ?_, fun hl => ⟨ys, SqL.of k3, by rw [k4.length]; exact hl⟩⟩
  obtain ⟨x, hx, rx⟩ := k4.get hd
  exact ⟨⟨ys, x, SqL.of k3, hx⟩, fun y H'' ⟨eH, hy⟩ => by
    subst eH
    have z := hy ys (SqL.of k3)
    rw [hx] at z
    cases z
    exact ⟨Same.refl _, rx⟩⟩
theorem qs_ownLcO (i n : Nat) {y : Str} {py : Pos} {elt tg iter : Expr} {ifs : List Expr} {scope : Scope} (own : List (Str × Nat)) {pos spos : Pos} {g : TG1} {tt : TT1} {te : TE1} (hl : PE X iter (tVar n)) (hn : n ∉ own.map (·.2)) (hc : X.calm = true) (hN : X.N.Nodup) (hy : X.N[i]? = some y) (hyl : X.env.scope.names.lookup y = some .local)
    (hsw : swapsWith (.ListComp elt [⟨tg, iter, ifs, 0⟩] scope pos) (some (.Name y py)) spos.line X.env = pure true) (ok : BlkOk X.N X.env.scope scope own)
    (hg : ∀ (s : Shared) (H : Hp) (C : Addr) (cl : List (Str × Addr)) (fp : List Addr), QGw (X.blk s H scope (compEnvC scope cl C X.env) fp) (own.map (·.2)) tg g) (ht : ∀ (s : Shared) (H : Hp) (C : Addr) (cl : List (Str × Addr)) (fp : List Addr), QTs (X.blk s H scope (compEnvC scope cl C X.env) fp) ifs tt)
    (he : ∀ (s : Shared) (H : Hp) (C : Addr) (cl : List (Str × Addr)) (fp : List Addr), QE (X.blk s H scope (compEnvC scope cl C X.env) fp) noW noE elt te) (hs : ∀ x, foldedSetIterable iter X.env x = pure x := by intro _; rfl) :
    QS X W E1 (.Assign [.Name y py] (.ListComp elt [⟨tg, iter, ifs, 0⟩] scope pos) spos) (fun D ρ => uLc (own.map (·.2)) (uItOwn n) g tt te ρ fun d => ∃ ds, d = .lst ds ∧ i < ρ.length ∧ D.nx (ρ.set i (.own ds))) := by
  obtain ⟨wi, p, k⟩ := own_items (W := W) (E1 := E1) n hn (tg := tg) hl
  refine ⟨_, ps_setLc (g := gS X.K (own.map (·.2)) g) (tt := ttS X.K tt) (te := teS X.K te) hc hN hy hyl hsw p ok (fun s H C cl fp => pg_S (hg s H C cl fp)) (fun s H C cl fp => pts_S (ht s H C cl fp)) (fun s H C cl fp => pe_S (he s H C cl fp)) hs, fun F M H σ ρ D1 D S hx t kk => ?_⟩
  exact lc_impW k F M H σ ρ _ _ S hx t fun p H2 acc xs e hp at_ r ⟨ds, ed, hl, t1⟩ => by
    cases ed
    exact kk.nx (p :: M) H2 _ _ (S.setOwnAt hl hp e at_ r) t1
end
end DL

set_option maxRecDepth 100000
set_option maxHeartbeats 4000000
/-! Texts of noughts and ones: f"{n:b}", f"{n:08b}", int(t, 2). -/
namespace DFm
open PySem PySem.Spec PyProof.Rows PySem.Builtin PySem.Builtin.Int PySem.Builtin.Float PySem.Builtin.Str
/-- the figures of n by twos -/
def two (n : Nat) : List Nat := (Nat.toDigits 2 n).map Char.toNat
def spB : Str := ⟨#[98]⟩
def sp8 : Str := ⟨#[48, 56, 98]⟩
def fmB : FormatSpec := { fill := 32, align := 62, type := some 98 }
def fm8 : FormatSpec := { fill := 48, align := 61, width := some 8, type := some 98 }
theorem parseB : parseFormatSpec spB.cps.toList "int" 62 = .ok fmB := by rfl
theorem parse8 : parseFormatSpec sp8.cps.toList "int" 62 = .ok fm8 := by rfl
theorem two_ne (n : Nat) : (two n).isEmpty = false := by
  have h := tDigits_len_ge 2 n
  unfold two
  cases e : Nat.toDigits 2 n with
  | nil => rw [e] at h; simp at h
  | cons _ _ => rfl
theorem ret_is {M : Model} {A : Around} {E : Value → Shared → Prop} {s : Shared} {X T : Str} {Q : Fin → Shared → Prop} (e : X = T) (hl : T.length ≤ sizeLine) (h : Q (.done (.ret (.str T s.toks))) { s with toks := s.toks + 1 }) : wpAny M A (retStr X) Q E s := by
  cases e
  exact wpAny_bind (wpAny_mkStr (wpAny_pure h) hl)
/-- a way of an if that is not gone -/
theorem no_way {M : Model} {A : Around} {E : Value → Shared → Prop} {s : Shared} {α : Type} {c : Prop} [Decidable c] {t u : Sem α} {Q : α → Shared → Prop} (n : ¬ c) (h : wpAny M A u Q E s) : wpAny M A (if c then t else u) Q E s := by rw [if_neg n]; exact h
theorem gives_two {a : Int} {t u : Tok} {spec y : Str} {f : FormatSpec} (hp : parseFormatSpec spec.cps.toList "int" 62 = .ok f) (h0 : 0 ≤ a) (hne : (spec.length == 0) = false)
    (ha : ((spec.cps.toList.drop 1).any (· ≥ 128) || (spec.cps.getD 0 0 ≥ 128 && !([60, 62, 61, 94] : List Nat).contains (spec.cps.getD 1 0))) = false) (ht : f.type = some 98) (hpr : f.precision = none) (hz : f.noNeg0 = false) (hal : f.alt = false) (hw : ¬ f.width.getD 0 > 100000) (hgr : f.grouping = none)
    (hy : intField' f false [] (two a.natAbs) [] 4 = y) (hl : y.length ≤ sizeLine) : Gives («int.__format__» ⟨[.int a t, .str spec u], []⟩) (.str y) := by
  intro prog w A R s hq
  have hs : (Value.str spec u == Value.none) = false := rfl
  unfold «int.__format__»
  simp only [pure_bind, bind_pure, bind_assoc, selfAndOne, noKeywords, intOfSelf, asInt?, asStr?, List.isEmpty_nil, if_true, if_false, Bool.false_eq_true, hne, ha, hs]
  refine wpAny_bind (wpAny_typeNameOf (typeIs_str s spec u) (by decide) fun _ => wpAny_bind (wpAny_typeNameOfCut_int ?_))
  simp only [hp, ht]
  rw [show (some 98 : Option Nat).getD (if (spec.cps.back? == some 0) = true then 0 else 100) = 98 from rfl, if_pos (by decide)]
  refine no_way (by simp [hpr]) (no_way (by simp [hz]) (no_way (by decide) (no_way (by decide) (no_way (by simpa using hw) ?_))))
  show wpAny _ _ (retStr _) _ _ _
  refine ret_is (T := y) ?_ hl hq.2
  rw [decide_eq_false (by omega : ¬ a < 0), hal]
  simp only [show ((98 : Nat) == 88) = false from rfl, show ((2 : Nat) == 10) = false from rfl, Bool.false_eq_true, if_false]
  refine Eq.trans ?_ hy
  obtain ⟨_, _, _, _, _, _, gr, _, _⟩ := f
  cases gr
  · rfl
  · cases hgr
end DFm

set_option maxRecDepth 100000
set_option maxHeartbeats 4000000
/-! Noughts and ones: lists of truths, the text of them, the number that they are. -/
namespace DFm
open PySem PySem.Spec PySem.Builtin
def sg (b : Bool) : Nat := if b then 49 else 48
def bS (l : List Bool) : Str := ⟨(l.map sg).toArray⟩
theorem bS_tl (l : List Bool) : (bS l).cps.toList = l.map sg := rfl
@[simp] theorem bS_len (l : List Bool) : (bS l).length = l.length := by simp [bS, Str.length]
theorem sg_inj {a b : Bool} (h : sg a = sg b) : a = b := by cases a <;> cases b <;> first | rfl | (simp [sg] at h)
theorem bS_inj {a b : List Bool} (h : bS a = bS b) : a = b := by
  have e : a.map sg = b.map sg := by
    have := congrArg (fun x : Str => x.cps.toList) h
    simpa [bS] using this
  exact List.map_inj_right (fun _ _ => sg_inj) |>.mp e
theorem ext_tl {x y : Str} (h : x.cps.toList = y.cps.toList) : x = y := TL.ext_tl h
theorem bS_app (a b : List Bool) : bS a ++ bS b = bS (a ++ b) := by
  have e := TL.tl_append (bS a) (bS b)
  refine ext_tl (e.trans ?_)
  show (bS a).cps.toList ++ (bS b).cps.toList = (bS (a ++ b)).cps.toList
  simp [bS]
/-- the number that the bits are, the highest first -/
def valB (l : List Bool) : Nat := l.foldl (fun a b => 2 * a + b.toNat) 0
theorem valB_go (l : List Bool) : ∀ a : Nat, l.foldl (fun a b => 2 * a + b.toNat) a = a * 2 ^ l.length + valB l := by
  induction l with
  | nil => intro a; simp [valB]
  | cons b l ih =>
    intro a
    unfold valB
    rw [List.foldl_cons, List.foldl_cons, ih, ih (2 * 0 + b.toNat), List.length_cons, Nat.pow_succ]
    rw [Nat.add_mul, Nat.add_mul]
    have e : 2 * a * 2 ^ l.length = a * (2 ^ l.length * 2) := by rw [Nat.mul_comm 2 a, Nat.mul_assoc, Nat.mul_comm 2]
    rw [e]
    omega
theorem valB_cons (b : Bool) (l : List Bool) : valB (b :: l) = b.toNat * 2 ^ l.length + valB l := by
  have := valB_go l b.toNat
  unfold valB at this ⊢
  rw [List.foldl_cons]
  simpa using this
theorem valB_snoc (l : List Bool) (b : Bool) : valB (l ++ [b]) = 2 * valB l + b.toNat := by
  unfold valB
  rw [List.foldl_append]
  rfl
theorem valB_app (l m : List Bool) : valB (l ++ m) = valB l * 2 ^ m.length + valB m := by
  unfold valB
  rw [List.foldl_append, valB_go m]
  rfl
theorem valB_lt : ∀ l : List Bool, valB l < 2 ^ l.length
  | [] => by simp [valB]
  | b :: l => by
    have := valB_lt l
    rw [valB_cons, List.length_cons, Nat.pow_succ]
    cases b <;> simp <;> omega
theorem valB_inj : ∀ {l m : List Bool}, l.length = m.length → valB l = valB m → l = m
  | [], [], _, _ => rfl
  | [], _ :: _, h, _ => by simp at h
  | _ :: _, [], h, _ => by simp at h
  | b :: l, c :: m, h, e => by
    have hl : l.length = m.length := by simpa using h
    rw [valB_cons, valB_cons, hl] at e
    have h1 := valB_lt l
    have h2 := valB_lt m
    rw [hl] at h1
    have eb : b = c := by cases b <;> cases c <;> simp at e ⊢ <;> omega
    subst eb
    rw [valB_inj hl (by omega)]
/-- n's bits, the highest first -/
def nB (n : Nat) : List Bool := if h : n < 2 then [n == 1] else nB (n / 2) ++ [n % 2 == 1]
termination_by n
theorem nB_small {n : Nat} (h : n < 2) : nB n = [n == 1] := by rw [nB, dif_pos h]
theorem nB_big {n : Nat} (h : ¬ n < 2) : nB n = nB (n / 2) ++ [n % 2 == 1] := by rw [nB, dif_neg h]
theorem nB_val (n : Nat) : valB (nB n) = n := by
  induction n using Nat.strongRecOn with
  | _ n ih =>
    by_cases h : n < 2
    · rw [nB_small h]
      have : n = 0 ∨ n = 1 := by omega
      rcases this with e | e <;> subst e <;> rfl
    · rw [nB_big h, valB_snoc, ih (n / 2) (by omega)]
      have : n % 2 = 0 ∨ n % 2 = 1 := by omega
      rcases this with e | e <;> rw [e] <;> simp <;> omega
theorem nB_pos (n : Nat) : 1 ≤ (nB n).length := by
  by_cases h : n < 2
  · rw [nB_small h]; simp
  · rw [nB_big h]; simp
theorem nB_head {n : Nat} (h : 1 ≤ n) : ∃ l, nB n = true :: l := by
  induction n using Nat.strongRecOn with
  | _ n ih =>
    by_cases h2 : n < 2
    · have e : n = 1 := by omega
      subst e
      exact ⟨[], by rw [nB_small (by omega)]; rfl⟩
    · obtain ⟨l, e⟩ := ih (n / 2) (by omega) (by omega)
      exact ⟨l ++ [n % 2 == 1], by rw [nB_big h2, e]; rfl⟩
theorem nB_len {n k : Nat} (hk : 1 ≤ k) (h : n < 2 ^ k) : (nB n).length ≤ k := by
  induction n using Nat.strongRecOn generalizing k with
  | _ n ih =>
    by_cases h2 : n < 2
    · rw [nB_small h2]; simpa using hk
    · have k2 : 2 ≤ k := by
        rcases Nat.lt_or_ge k 2 with z | z
        · have e : k = 1 := by omega
          subst e
          omega
        · exact z
      have hp : n / 2 < 2 ^ (k - 1) := by
        have e : 2 ^ k = 2 ^ (k - 1) * 2 := by rw [← Nat.pow_succ]; congr 1; omega
        omega
      have := ih (n / 2) (by omega) (by omega) hp
      rw [nB_big h2, List.length_append]
      simp
      omega
/-- the same number, the same bits -/
theorem nB_of (l : List Bool) : nB (valB (true :: l)) = true :: l := by
  have h1 : (nB (valB (true :: l))).length ≤ (true :: l).length := nB_len (by simp) (valB_lt _)
  have h0 : 1 ≤ valB (true :: l) := by
    rw [valB_cons]
    have := Nat.two_pow_pos l.length
    simp
    omega
  have h2 : 2 ^ l.length ≤ valB (true :: l) := by rw [valB_cons]; simp
  have h3 : valB (true :: l) < 2 ^ (nB (valB (true :: l))).length := by
    have := valB_lt (nB (valB (true :: l)))
    rwa [nB_val] at this
  have h4 : l.length < (nB (valB (true :: l))).length := (Nat.pow_lt_pow_iff_right (by omega : 1 < 2)).mp (Nat.lt_of_le_of_lt h2 h3)
  exact valB_inj (by simp at h1 ⊢; omega) (nB_val _)
theorem digit_sg (k : Nat) (h : k < 2) : (Nat.digitChar k).toNat = sg (k == 1) := by
  have : k = 0 ∨ k = 1 := by omega
  rcases this with e | e <;> subst e <;> rfl
theorem two_bits (n : Nat) : two n = (nB n).map sg := by
  induction n using Nat.strongRecOn with
  | _ n ih =>
    unfold two
    by_cases h : n < 2
    · rw [Nat.toDigits_of_lt_base h, nB_small h]
      simp only [List.map_cons, List.map_nil]
      rw [digit_sg n h]
    · rw [Nat.toDigits_of_base_le (by omega) (by omega), nB_big h, List.map_append, List.map_append]
      have e := ih (n / 2) (by omega)
      unfold two at e
      rw [e]
      simp only [List.map_cons, List.map_nil]
      rw [digit_sg (n % 2) (Nat.mod_lt _ (by omega))]
theorem textB (n : Nat) : PyProof.Rows.intField' fmB false [] (two n) [] 4 = bS (nB n) := by
  rw [two_bits]
  unfold PyProof.Rows.intField'
  have hd : ((nB n).map sg).isEmpty = false := by rw [← two_bits]; exact two_ne n
  rw [hd]
  refine ext_tl ?_
  simp [fmB, bS]
/-- eight bits of n, the highest first -/
def byteB (n : Nat) : List Bool := List.replicate (8 - (nB n).length) false ++ nB n
theorem text8 (n : Nat) : PyProof.Rows.intField' fm8 false [] (two n) [] 4 = bS (byteB n) := by
  rw [PyProof.Rows.intField'_zero_nonneg fm8 _ 4 rfl rfl (two_ne n) rfl rfl, two_bits]
  refine ext_tl ?_
  simp [fm8, bS, byteB, sg]
theorem valB_zeros (k : Nat) : valB (List.replicate k false) = 0 := by
  induction k with
  | zero => rfl
  | succ k ih => rw [List.replicate_succ, valB_cons, ih]; simp
theorem byteB_val (n : Nat) : valB (byteB n) = n := by
  unfold byteB
  rw [valB_app, valB_zeros, nB_val]
  simp
theorem byteB_len {n : Nat} (h : n < 256) : (byteB n).length = 8 := by
  have := nB_len (n := n) (k := 8) (by omega) (by simpa using h)
  unfold byteB
  simp
  omega
theorem byteB_of {l : List Bool} (h : l.length = 8) : byteB (valB l) = l := by
  have h1 := valB_lt l
  rw [h] at h1
  exact valB_inj (by rw [byteB_len h1, h]) (byteB_val _)
end DFm

set_option maxRecDepth 100000
set_option maxHeartbeats 4000000
/-! int(t, 2) of noughts and ones. -/
namespace DFm
open PySem PySem.Spec PySem.NumText PySem.Calls L2
theorem isH (l : List Bool) : ∀ c ∈ l.map sg, Hx.IsHex c := fun c hc => by
  obtain ⟨b, _, rfl⟩ := List.mem_map.mp hc
  cases b <;> exact .inl (by decide)
theorem step2 (ds : Array Nat) (b x : Bool) : NumText.step 2 (ds, b) (sg x) = some (ds.push x.toNat, true) := by cases x <;> rfl
theorem fold2 : ∀ (l : List Bool) (ds : Array Nat), (l.map sg).foldlM (NumText.step 2) (ds, true) = some (l.foldl (fun acc b => acc.push b.toNat) ds, true)
  | [], _ => rfl
  | b :: l, ds => by
    rw [List.map_cons, List.foldlM_cons, step2]
    exact fold2 l _
theorem digits2 : ∀ {l : List Bool}, l ≠ [] → digits? 2 (l.map sg) = some (l.foldl (fun acc b => acc.push b.toNat) #[])
  | [], h => absurd rfl h
  | b :: l, _ => by
    unfold digits?
    rw [List.map_cons, List.foldlM_cons, step2]
    show ((l.map sg).foldlM (NumText.step 2) (_, true)).bind _ = _
    rw [fold2]
    rfl
theorem worth2 : ∀ (l : List Bool) (ds : Array Nat), (l.foldl (fun acc b => acc.push b.toNat) ds).foldl (fun acc d => acc * 2 + d) 0 = l.foldl (fun a b => 2 * a + b.toNat) (ds.foldl (fun acc d => acc * 2 + d) 0)
  | [], _ => rfl
  | b :: l, ds => by
    rw [List.foldl_cons, worth2 l, List.foldl_cons, Array.foldl_push, Nat.mul_comm]
theorem based2 : ∀ l : List Bool, based 2 (l.map sg) = (2, false, l.map sg)
  | [] => rfl
  | [b] => by cases b <;> rfl
  | b :: c :: l => by cases b <;> cases c <;> rfl
theorem read2 {l : List Bool} (h : l ≠ []) : (int_private% "readNumeral") 0 2 (l.map sg) = (int_private% "Numeral.value") ((valB l : Nat) : Int) := by
  have hb := based2 l
  have hr : ∀ c ∈ (l.map sg).reverse, Hx.IsHex c := fun c hc => isH l c (List.mem_reverse.mp hc)
  rw [readNumeral_eq, Hx.dropB (isH l), Hx.signH (isH l)]
  simp only [hb]
  rw [Hx.dropB hr, List.reverse_reverse, digits2 h]
  show (int_private% "Numeral.value") (((l.foldl (fun acc b => acc.push b.toNat) (#[] : Array Nat)).foldl (fun acc d => acc * 2 + d) 0 : Nat) : Int) = _
  rw [worth2]
  rfl
theorem gives_bin {x : PySem.Str} {l : List Bool} {u t : Tok} (ex : x.cps.toList = l.map sg) (h : l ≠ []) (hl : l.length ≤ 640) : Gives (Builtin.«int.__new__» ⟨[.type "int", .str x u, .int 2 t], []⟩) (.int ((valB l : Nat) : Int)) :=
  .of_wp fun M A E s Q hQ => by
    obtain ⟨hp, g, d, tk, os⟩ := s
    have c1 := F.conv_sub_int
    have c2 := F.madeHere_int
    have c3 : typeOf (.str x u) = pure (.type "str") := rfl
    obtain ⟨n1, n2⟩ := Hx.seen_hex (x := x) (by rw [ex]; exact isH l)
    have k1 : (numSeenOf x).length ≤ 640 := by rw [n2, ex]; simpa using hl
    have k2 : (int_private% "readNumeral") 0 2 (numSeenOf x) = (int_private% "Numeral.value") ((valB l : Nat) : Int) := by rw [n2, ex]; exact read2 h
    have k3 : ((numSeenOf x).length == (numTextOf x).length) = true := by rw [n1, n2]; exact beq_self_eq_true _
    have kk := Hx.Hid.mk (And.intro k1 (And.intro k2 k3))
    clear k1 k2 k3 n1 n2 h hl ex
    repeat (any_goals (first | assumption | ((with_reducible show wpAny _ _ ((int_private% "intFromText") _ _ _) _ _ _); refine Hx.wp_textB kk.out.1 kk.out.2.1 kk.out.2.2 ?_) | wp_step))
    all_goals first | exact ⟨_, rfl, hQ⟩ | skip
/-- int(t, 2) -/
def rIntBin : List V → Hp → VK → Prop := fun xs H Q => ∃ l : List Bool, xs = [.str (bS l), .int 2] ∧ l ≠ [] ∧ l.length ≤ 640 ∧ Q (.int ((valB l : Nat) : Int)) H
theorem call_bin {X : Cx} : CallR X (.type "int") rIntBin := by
  intro pins s σ H xs us Q I r h
  obtain ⟨l, rfl, hne, hl, q⟩ := h
  obtain ⟨u, w', rfl, r1, r2⟩ := vals2 r
  obtain ⟨t1, rfl⟩ := r1
  obtain ⟨t2, rfl⟩ := r2
  exact callType_new F.called_int F.newNe_int (Hx.typeCall_int_2 _ _) (Hx.newCall_int_2 _ _) (fun obj => F.initArgs_range_2 obj _ _) F.entry_int_new (gives_bin (bS_tl l) hne hl).meets ⟨rfl, .int ((valB l : Nat) : Int), H, I.tok _, ⟨_, rfl⟩, q⟩
end DFm

set_option maxRecDepth 100000
set_option maxHeartbeats 4000000
/-! The data layer: texts of noughts and ones. -/
namespace DL
open PySem PySem.Spec L2 DFm
abbrev BD (l : List Bool) : D := .str (bS l)
theorem sh_bits (l : List Bool) : (BD l).Sh := by
  show SeqAt.shaped (.str (bS l)) = true
  unfold SeqAt.shaped
  have h : PyData.strOk (bS l) = true := by
    unfold PyData.strOk
    rw [← Array.all_toList, List.all_eq_true]
    intro c hc
    obtain ⟨b, _, rfl⟩ := List.mem_map.mp (show c ∈ l.map sg from hc)
    cases b <;> decide
  simp [PyData.canLay0, PyData.depth, h]
theorem eqv_bits (a b : List Bool) : (BD a).eqv (BD b) = decide (a = b) := by
  show PyData.eqv (.str (bS a)) (.str (bS b)) = _
  simp only [PyData.eqv]
  by_cases h : a = b
  · subst h; simp
  · rw [decide_eq_false h]
    exact beq_eq_false_iff_ne.mpr fun e => h (bS_inj e)
section
variable {K : PySem.W.Frag}
/-! operations -/
@[simp] abbrev fAddB : F2 := fun d e Q => ∃ a b, d = BD a ∧ e = BD b ∧ a.length + b.length ≤ 4000000 ∧ Q (BD (a ++ b))
theorem i_addB : OpI K (fun x y H Q => ∃ i j, x = .str i ∧ y = .str j ∧ i.length + j.length ≤ sizeLine ∧ Q (.str (i ++ j)) H) fAddB := by
  rintro H L d1 d2 v1 v2 Q1 Q _ r1 r2 ⟨a, b, rfl, rfl, c, t⟩ q
  cases r1
  cases r2
  exact ⟨_, _, rfl, rfl, by rw [bS_len, bS_len]; exact big5 c, by rw [bS_app]; exact q _ H (BD (a ++ b)) (Same.refl H) rfl t⟩
/-- a text times an int -/
def rRepS : R2 := fun x y H Q => ∃ (l : List Bool) (n : Int), x = .str (bS l) ∧ y = .int n ∧ -(2 ^ 62) ≤ n ∧ n < 2 ^ 62 ∧ l.length * n.toNat ≤ 4000000 ∧ Q (.str (bS (List.replicate n.toNat l).flatten)) H
theorem foldl_cps (l : List Bool) : ∀ (m : Nat) (acc : Array Nat), (List.foldl (fun x y => x ++ y) acc (List.replicate m (bS l).cps)).toList = acc.toList ++ (List.replicate m l).flatten.map sg
  | 0, acc => by simp
  | m + 1, acc => by
    rw [List.replicate_succ, List.foldl_cons, foldl_cps l m, List.replicate_succ, List.flatten_cons, List.map_append]
    simp [bS]
theorem op_repS {X : Cx} : OpR X (binaryOp .Mult) rRepS := by
  intro pins s σ H x y v u Q I rx ry h
  obtain ⟨l, n, rfl, rfl, n1, n2, hz, q⟩ := h
  obtain ⟨t, rfl⟩ := rx
  obtain ⟨t', rfl⟩ := ry
  have hr : (decide (n < -(2 ^ 63 : Int)) || decide (n ≥ 2 ^ 63)) = false := by
    rw [decide_eq_false (by omega), decide_eq_false (by omega)]
    rfl
  refine PySem.P.mul_str hr (fun c _ => ?_) (fun c _ => ?_) ?_
  · have h1 : (1 : Int) ≤ n := by omega
    have e : ((n.toNat : Nat) : Int) = n := Int.toNat_of_nonneg (by omega)
    have h2 : ((bS l).length : Int) * n ≤ 4000000 := by
      have h0 := Int.ofNat_le.mpr hz
      rw [Int.natCast_mul, e] at h0
      rw [bS_len]
      exact h0
    have h3 : ((bS l).length : Int) ≤ 4000000 := by
      refine Int.le_trans ?_ h2
      have h5 := Int.mul_le_mul_of_nonneg_left h1 (Int.natCast_nonneg (bS l).length)
      rwa [Int.mul_one] at h5
    intro w
    have h4 := (Int.ediv_lt_iff_lt_mul (by omega : 0 < n)).mp (show ((2 : Int) ^ 63 - 1) / n < (bS l).length from w)
    omega
  · unfold Builtin.Str.tooLong
    exact decide_eq_false (by rw [bS_len, sizeLine_eq]; omega)
  · by_cases c : n < 1
    · rw [if_pos c]
      have e : n.toNat = 0 := by omega
      rw [e] at q
      exact ⟨by decide, .str _, H, I.tok _, ⟨_, rfl⟩, q⟩
    · rw [if_neg c]
      by_cases c2 : (n == 1 || (bS l).length == 0) = true
      · rw [if_pos c2]
        have e : (List.replicate n.toNat l).flatten = l := by
          rcases Bool.or_eq_true_iff.mp c2 with z | z
          · have e1 : n = 1 := by simpa using z
            subst e1
            show (List.replicate 1 l).flatten = l
            simp
          · have e1 : l = [] := by simpa using z
            subst e1
            simp
        rw [e] at q
        exact ⟨.str _, H, I, ⟨_, rfl⟩, q⟩
      · rw [if_neg c2]
        have e : (⟨(List.replicate n.toNat (bS l).cps).foldl (fun x y => x ++ y) #[]⟩ : Str) = bS (List.replicate n.toNat l).flatten := by
          refine ext_tl ?_
          show (List.foldl (fun x y => x ++ y) #[] (List.replicate n.toNat (bS l).cps)).toList = _
          rw [foldl_cps]
          simp [bS]
        have hl : (bS (List.replicate n.toNat l).flatten).length ≤ sizeLine := by
          rw [bS_len]
          refine big5 ?_
          rw [List.length_flatten]
          simp
          rw [Nat.mul_comm]
          exact hz
        show Made.post (Made.str _) _ _
        rw [e]
        exact ⟨hl, .str _, H, I.tok _, ⟨_, rfl⟩, q⟩
@[simp] abbrev fRepB : F2 := fun d e Q => ∃ (a : List Bool) (n : Int), d = BD a ∧ e = .int n ∧ -(2 ^ 62) ≤ n ∧ n < 2 ^ 62 ∧ a.length * n.toNat ≤ 4000000 ∧ Q (BD (List.replicate n.toNat a).flatten)
theorem i_repB : OpI K rRepS fRepB := by
  rintro H L d1 d2 v1 v2 Q1 Q _ r1 r2 ⟨a, n, rfl, rfl, c1, c2, c3, t⟩ q
  cases r1
  cases r2
  exact ⟨_, _, rfl, rfl, c1, c2, c3, q _ H (BD _) (Same.refl H) rfl t⟩
/-! built-ins -/
@[simp] abbrev fLenB : List D → (D → Prop) → Prop := fun ds Q => ∃ a : List Bool, ds = [BD a] ∧ a.length ≤ 4000000 ∧ Q (.int (a.length : Nat))
theorem i_lenB : CallI K (fun xs H Q => ∃ z, xs = [.str z] ∧ z.length ≤ sizeLine ∧ Q (.int z.length) H) fLenB := by
  rintro H L ds vs Q1 Q hL r ⟨a, rfl, c, t⟩ q
  obtain ⟨x, r', rfl, h1, h2⟩ := r
  cases h2; cases h1
  exact ⟨_, rfl, by rw [bS_len]; exact big5 c, by rw [bS_len]; exact q _ H (.int _) (Same.refl H) rfl t⟩
@[simp] abbrev fStrB : List D → (D → Prop) → Prop := fun ds Q => ∃ b : Bool, ds = [.int (b.toNat : Nat)] ∧ Q (BD [b])
theorem str_bit (b : Bool) : Str.ofString (toString ((b.toNat : Nat) : Int)) = bS [b] := by cases b <;> decide +kernel
theorem i_strB : CallI K (fun xs H Q => ∃ i : Int, xs = [.int i] ∧ i.natAbs.log2 < 1920 ∧ Q (.str (toString i)) H) fStrB := by
  rintro H L ds vs Q1 Q hL r ⟨b, rfl, t⟩ q
  obtain ⟨x, r', rfl, h1, h2⟩ := r
  cases h2; cases h1
  refine ⟨_, rfl, by cases b <;> decide, ?_⟩
  have e := str_bit b
  rw [e]
  exact q _ H (BD [b]) (Same.refl H) rfl t
@[simp] abbrev fIntB : List D → (D → Prop) → Prop := fun ds Q => ∃ l : List Bool, ds = [BD l, .int 2] ∧ l ≠ [] ∧ l.length ≤ 640 ∧ Q (.int (valB l : Nat))
theorem i_intB : CallI K rIntBin fIntB := by
  rintro H L ds vs Q1 Q hL r ⟨l, rfl, c1, c2, t⟩ q
  obtain ⟨x, r', rfl, h1, y, r2, rfl, h2, h3⟩ := r
  cases h3; cases h2; cases h1
  exact ⟨l, rfl, c1, c2, q _ H (.int _) (Same.refl H) rfl t⟩
theorem glued_bits (ls : List (List Bool)) : Txt.join (bS []) (ls.map bS) = bS ls.flatten := by
  have go : ∀ (ls : List (List Bool)) (acc : Array Nat), ((ls.map bS).foldl (fun acc p => acc ++ (bS []).cps ++ p.cps) acc).toList = acc.toList ++ ls.flatten.map sg := by
    intro ls
    induction ls with
    | nil => intro acc; simp
    | cons l ls ih =>
      intro acc
      rw [List.map_cons, List.foldl_cons, ih]
      simp [bS]
  cases ls with
  | nil => rfl
  | cons l ls =>
    refine ext_tl ?_
    show (((ls.map bS)).foldl (fun acc p => acc ++ (bS []).cps ++ p.cps) (bS l).cps).toList = _
    rw [go]
    simp [bS]
@[simp] abbrev fJoinB : D → List D → (D → Prop) → Prop := fun d es Q => ∃ ls : List (List Bool), d = BD [] ∧ es = [.lst (ls.map BD)] ∧ (ls.map (·.length)).sum ≤ 4000000 ∧ Q (BD ls.flatten)
theorem i_joinB : MetI K "str" (fun x xs H Q => ∃ a p, ∃ ys : List Str, x = .str a ∧ xs = [.ref p] ∧ (SqL K H p (ys.map V.str) ∨ SqT K H p (ys.map V.str)) ∧ (ys.map (·.length)).sum + ys.length * a.length ≤ 16777216 ∧ Q (.str (Txt.join a ys)) H) fJoinB := by
  rintro H L d ds v vs Q1 Q hL r1 r2 ⟨ls, rfl, rfl, hz, t⟩ q
  refine i_join H L (BD []) [.lst (ls.map BD)] v vs Q1 Q hL r1 r2 ⟨bS [], ls.map bS, rfl, by simp, ?_, by rw [glued_bits]; exact t⟩ q
  have e : ((ls.map bS).map (·.length)).sum = (ls.map (·.length)).sum := by simp [List.map_map, Function.comp_def]
  rw [e, bS_len]
  simp
  omega
/-- s.find("1", n) -/
@[simp] abbrev fFindB : D → List D → (D → Prop) → Prop := fun d es Q => ∃ (a : List Bool) (n : Nat), d = BD a ∧ es = [BD [true], .int (n : Nat)] ∧ n ≤ a.length ∧ ((∃ (k : Nat) (r : List Bool), a.drop n = List.replicate k false ++ true :: r ∧ Q (.int ((n + k : Nat)))) ∨ ((∀ b ∈ a.drop n, b = false) ∧ Q (.int (-1))))
theorem getD_bits (a : List Bool) (v : Nat) : (bS a).cps.getD v 0 = match a[v]? with | some b => sg b | none => 0 := by
  rw [Array.getD_eq_getD_getElem?]
  simp only [bS, List.getElem?_toArray, List.getElem?_map]
  cases a[v]? <;> rfl
theorem find_bits {a : List Bool} {n k : Nat} {r : List Bool} (e : a.drop n = List.replicate k false ++ true :: r) : Txt.find3 (bS a) (bS [true]) (n : Int) = ((n + k : Nat) : Int) := by
  have hl : n + k < a.length := by
    have := congrArg List.length e
    simp at this
    omega
  have at_ : ∀ j, a[n + j]? = (List.replicate k false ++ true :: r)[j]? := fun j => by rw [← e, List.getElem?_drop]
  have f0 : PySem.fromIndex (bS a).length (n : Int) = n := by unfold PySem.fromIndex; split <;> omega
  have hk : (bS a).cps.getD (n + k) 0 = 49 := by
    rw [getD_bits, at_ k, List.getElem?_append_right (by simp)]
    simp [sg]
  have hno : ∀ v, n ≤ v → v < n + k → (bS a).cps.getD v 0 ≠ 49 := fun v h1 h2 => by
    obtain ⟨j, rfl⟩ := Nat.exists_eq_add_of_le h1
    rw [getD_bits, at_ j, List.getElem?_append_left (by simp; omega), List.getElem?_replicate, if_pos (by omega)]
    simp [sg]
  have h := StrLaws.find3_spec (bS a) 49 (n : Int)
  rw [f0] at h
  show Txt.find3 (bS a) ⟨#[49]⟩ (n : Int) = _
  rcases h with ⟨_, no⟩ | ⟨j, e1, j1, j2, j3, j4⟩
  · exact absurd hk (no (n + k) (by omega) (by rw [bS_len]; omega))
  · rw [e1]
    have hj : j = n + k := by
      rcases Nat.lt_trichotomy j (n + k) with z | z | z
      · exact absurd j3 (hno j j1 z)
      · exact z
      · exact absurd hk (j4 (n + k) (by omega) z)
    rw [hj]
theorem find_none {a : List Bool} {n : Nat} (hn : n ≤ a.length) (e : ∀ b ∈ a.drop n, b = false) : Txt.find3 (bS a) (bS [true]) (n : Int) = -1 := by
  have f0 : PySem.fromIndex (bS a).length (n : Int) = n := by unfold PySem.fromIndex; split <;> omega
  have h := StrLaws.find3_spec (bS a) 49 (n : Int)
  rw [f0] at h
  show Txt.find3 (bS a) ⟨#[49]⟩ (n : Int) = _
  rcases h with ⟨z, _⟩ | ⟨j, e1, j1, j2, j3, j4⟩
  · exact z
  · exfalso
    rw [bS_len] at j2
    obtain ⟨i, rfl⟩ := Nat.exists_eq_add_of_le j1
    rw [getD_bits] at j3
    have hm : a[n + i] = false := e _ (by
      have : (a.drop n)[i]? = some a[n + i] := by rw [List.getElem?_drop]; exact List.getElem?_eq_getElem j2
      exact List.mem_of_getElem? this)
    rw [List.getElem?_eq_getElem j2, hm] at j3
    simp [sg] at j3
theorem i_findB : MetI K "str" (fun x xs H Q => ∃ (a b : Str) (i : Int), x = .str a ∧ xs = [.str b, .int i] ∧ Q (.int (Txt.find3 a b i)) H) fFindB := by
  rintro H L d ds v vs Q1 Q hL r1 r2 ⟨a, n, rfl, rfl, hn, t⟩ q
  cases r1
  obtain ⟨x, r', rfl, h1, y, r2', rfl, h2, h3⟩ := r2
  cases h3; cases h2; cases h1
  refine ⟨_, _, _, rfl, rfl, ?_⟩
  rcases t with ⟨k, r, e, t⟩ | ⟨e, t⟩
  · rw [find_bits e]; exact q _ H (.int _) (Same.refl H) rfl t
  · rw [find_none hn e]; exact q _ H (.int _) (Same.refl H) rfl t
/-- s[i] -/
@[simp] abbrev fIxB : F2 := fun d e Q => ∃ (a : List Bool) (i : Int) (b : Bool), d = BD a ∧ e = .int i ∧ a.length ≤ 4000000 ∧ atI a i = some b ∧ Q (BD [b])
theorem i_ixB : OpI K rIxS fIxB := by
  rintro H L d1 d2 v1 v2 Q1 Q _ r1 r2 ⟨a, i, b, rfl, rfl, c, h, t⟩ q
  cases r1
  cases r2
  refine ⟨_, i, sg b, rfl, rfl, by rw [bS_len]; exact big5 c, ?_, q _ H (BD [b]) (Same.refl H) rfl t⟩
  show atI (a.map sg) i = _
  unfold atI at h ⊢
  rw [List.length_map]
  cases e : ixN a.length i with
  | none => rw [e] at h; cases h
  | some j =>
    rw [e] at h
    show (a.map sg)[j]? = some (sg b)
    rw [List.getElem?_map, show a[j]? = some b from h]
    rfl
end
section
variable {X : Cx} {W : WX} {E1 : E1T} {a b c e : Expr} {es : List Expr} {pos : Pos}
/-- s[lo:hi] -/
def cutB (a : List Bool) (lo hi : Option Int) : List Bool := (a.drop (HT.sIx a.length 0 lo)).take (HT.sIx a.length a.length hi - HT.sIx a.length 0 lo)
theorem cut_bits (a : List Bool) (lo hi : Option Int) : cutS (bS a) lo hi = bS (cutB a lo hi) := by
  unfold cutS cutB
  rw [bS_len]
  refine ext_tl ?_
  simp [bS, List.map_take, List.map_drop]
theorem cutB_nn (a : List Bool) (i j : Nat) : cutB a (some (i : Int)) (some (j : Int)) = (a.drop i).take (j - i) := by
  unfold cutB
  rw [HT.sIx_nat, HT.sIx_nat]
  by_cases h : i ≤ a.length
  · rw [Nat.min_eq_left h]
    by_cases h2 : j ≤ a.length
    · rw [Nat.min_eq_left h2]
    · rw [Nat.min_eq_right (by omega)]
      rw [List.take_of_length_le (by simp), List.take_of_length_le (by simp; omega)]
  · have e1 : min i a.length = a.length := by omega
    rw [e1, List.drop_length, List.drop_eq_nil_of_le (by omega : a.length ≤ i)]
    simp
@[simp] abbrev fSlB : D → Option Int → Option Int → (D → Prop) → Prop := fun d lo hi Q => ∃ a, d = BD a ∧ a.length ≤ 4000000 ∧ Q (BD (cutB a lo hi))
theorem q_sliceB {o : Expr} {lo hi : Option Expr} {t : TE1} {tl th : TO1} {p2 : Pos} (ho : QE X W E1 o t) (hl : QO X W E1 lo tl) (hh : QO X W E1 hi th) : QE X W E1 (.Subscript o (.Slice lo hi none p2) pos) (fun ρ Q => t ρ fun d => tl ρ fun i => th ρ fun j => fSlB d i j Q) := by
  obtain ⟨te, h1, i1⟩ := ho
  obtain ⟨t2, h2, i2⟩ := hl
  obtain ⟨t3, h3, i3⟩ := hh
  refine ⟨_, pe_slice sl_str h1 h2 h3, fun F M H σ ρ Q1 Q S hx t q => ?_⟩
  refine i1 F M H σ ρ _ _ S hx t fun v H1 d e1 r1 t1 => ?_
  refine i2 F M H1 σ ρ _ _ (S.same e1) hx t1 fun i H2 e2 t2 => ?_
  refine i3 F M H2 σ ρ _ _ ((S.same e1).same e2) hx t2 fun j H3 e3 ⟨a, ed, hl, t3⟩ => ?_
  subst ed
  cases r1
  exact ⟨_, rfl, by rw [bS_len]; exact big5 hl, by rw [cut_bits]; exact q _ H3 (BD _) (e1.trans (e2.trans e3)) rfl t3⟩
/-- f"{e:b}", f"{e:08b}" -/
def tFmtN (sp : Str) (y : Nat → Str) (te : TE) : TE := fun σ H Q => te σ H fun x H1 => ∃ n : Nat, x = .int (n : Int) ∧ (y n).length ≤ sizeLine ∧ Q (.str (y n)) H1
theorem pe_fmtN {spec : Str} {f : Builtin.Float.FormatSpec} {y : Nat → Str} {te : TE} {p1 p2 p3 : Pos} {kk : Nat} (hp : Builtin.Float.parseFormatSpec spec.cps.toList "int" 62 = .ok f) (hne : (spec.length == 0) = false) (hs : spec.length ≤ sizeLine)
    (ha : ((spec.cps.toList.drop 1).any (· ≥ 128) || (spec.cps.getD 0 0 ≥ 128 && !([60, 62, 61, 94] : List Nat).contains (spec.cps.getD 1 0))) = false) (ht : f.type = some 98) (hpr : f.precision = none) (hz : f.noNeg0 = false) (hal : f.alt = false) (hw : ¬ f.width.getD 0 > 100000) (hgr : f.grouping = none)
    (hy : ∀ n : Nat, PyProof.Rows.intField' f false [] (two n) [] 4 = y n) (he : PE X e te) : PE X (.JoinedStr [.FormattedValue e (-1) (some (.JoinedStr [.Constant (.str spec) kk p1] p2)) pos] p3) (tFmtN spec y te) := by
  refine pe_joined1 ⟨fun pins s σ H Q I h => ?_⟩
  refine wpAny_FormattedValue_spec (thn (he.run pins s σ H _ I h) fun v s1 ⟨x, H1, I1, r1, n, ex, hl, q⟩ => ?_)
  subst ex
  obtain ⟨t, rfl⟩ := r1
  refine thn ((pe_joined1 (pos := p2) (pe_str (x := spec) (j := kk) (pos := p1))).run pins s1 σ H1 (fun v H2 => v = .str spec ∧ H2 = H1) I1 ⟨rfl, rfl⟩) fun r s2 ⟨z, H2, I2, r2, ez, eh⟩ => ?_
  subst ez eh
  obtain ⟨t2, rfl⟩ := r2
  refine ⟨spec, t2, rfl, ?_⟩
  exact wpAny_formatField_spec hne (fun s' => typeIs_int s' _ t) F.slot_int_format F.entry_int_format F.args_int_format_2 (fun u => gives_two hp (Int.natCast_nonneg n) hne ha ht hpr hz hal hw hgr (hy n) hl) ⟨.str (y n), H2, I2.tok _, ⟨_, rfl⟩, q⟩ hs hl
theorem spB_eq : (("b" : Str)) = spB := by decide +kernel
theorem sp8_eq : (("08b" : Str)) = sp8 := by decide +kernel
theorem q_fmtB {t : TE1} {p1 p2 p3 p4 : Pos} {kk : Nat} (h : QE X W E1 e t) : QE X W E1 (.JoinedStr [.FormattedValue e (-1) (some (.JoinedStr [.Constant (.str "b") kk p1] p2)) p3] p4) (fun ρ Q => t ρ fun d => ∃ n : Nat, d = .int (n : Nat) ∧ (nB n).length ≤ 4000000 ∧ Q (BD (nB n))) := by
  obtain ⟨te, h1, i1⟩ := h
  rw [spB_eq]
  refine ⟨_, pe_fmtN (f := fmB) (y := fun n => bS (nB n)) parseB rfl (by decide) (by decide) rfl rfl rfl rfl (by decide) rfl textB h1, fun F M H σ ρ Q1 Q S hx t q => ?_⟩
  refine i1 F M H σ ρ _ _ S hx t fun v H1 d e1 r1 ⟨n, ed, hl, t1⟩ => ?_
  subst ed
  cases r1
  exact ⟨n, rfl, by rw [bS_len]; exact big5 hl, q _ H1 (BD (nB n)) e1 rfl t1⟩
theorem q_fmt8 {t : TE1} {p1 p2 p3 p4 : Pos} {kk : Nat} (h : QE X W E1 e t) : QE X W E1 (.JoinedStr [.FormattedValue e (-1) (some (.JoinedStr [.Constant (.str "08b") kk p1] p2)) p3] p4) (fun ρ Q => t ρ fun d => ∃ n : Nat, d = .int (n : Nat) ∧ n < 256 ∧ Q (BD (byteB n))) := by
  obtain ⟨te, h1, i1⟩ := h
  rw [sp8_eq]
  refine ⟨_, pe_fmtN (f := fm8) (y := fun n => bS (byteB n)) parse8 rfl (by decide) (by decide) rfl rfl rfl rfl (by decide) rfl text8 h1, fun F M H σ ρ Q1 Q S hx t q => ?_⟩
  refine i1 F M H σ ρ _ _ S hx t fun v H1 d e1 r1 ⟨n, ed, hl, t1⟩ => ?_
  subst ed
  cases r1
  exact ⟨n, rfl, by rw [bS_len, byteB_len hl]; decide, q _ H1 (BD (byteB n)) e1 rfl t1⟩
/-! iterations -/
/-- for c in s -/
@[simp] abbrev uItB (t : TE1) : TA1 := fun ρ Q => t ρ fun d => ∃ a : List Bool, d = BD a ∧ Q (a.map fun b => BD [b])
theorem qi_str {tg : Expr} {t : TE1} (h : QE X W E1 e t) : QI X W E1 tg e (uItB t) := by
  obtain ⟨te, p1, i1⟩ := h
  refine ⟨_, pi_str p1, fun F M H σ ρ Q1 R S hx t q => ?_⟩
  refine i1 F M H σ ρ _ _ S hx t fun v H1 d e1 r1 ⟨a, ed, t1⟩ => ?_
  subst ed
  cases r1
  refine ⟨_, rfl, q _ H1 [] _ e1 (fun p hp => by simp at hp) (fun M' H' σ' ρ' S' i => ?_) t1⟩
  refine ⟨fun d hd => ?_, fun hl => by show (bS a).cps.size ≤ i; simpa [bS] using hl⟩
  rw [List.getElem?_map] at hd
  cases hq : a[i]? with
  | none => rw [hq] at hd; cases hd
  | some b =>
    rw [hq] at hd
    cases hd
    have hi := (List.getElem?_eq_some_iff.mp hq).1
    refine ⟨by show i < (bS a).cps.size; simpa [bS] using hi, fun y H'' ⟨eH, c, hc, ey⟩ => ?_⟩
    subst eH ey
    refine ⟨Same.refl _, ?_⟩
    have : c = sg b := by
      simp only [bS, List.getElem?_toArray, List.getElem?_map, hq] at hc
      exact (Option.some.inj hc).symm
    subst this
    rfl
/-- range(lo, hi, c) -/
abbrev rngC (lo c : Int) (n : Nat) : List D := (List.range n).map fun (i : Nat) => .int (lo + (i : Nat) * c)
theorem qi_range3 {tg a b c : Expr} {p : Pos} {t : TA1} (hg : Gl X "range") (hm : X.mg "range" = none) (h : QA X W E1 [a, b, c] t) (hs : starEach [a, b, c] X.env = (false, eval a X.env) :: starEach [b, c] X.env := by rfl) (hpl : (backTo pos (starEach [b, c] X.env)).any (·.1) = false := by rfl) :
    QI X W E1 tg (.Call (.Name "range" p) [a, b, c] [] pos) (fun ρ Q => t ρ fun ds => ∃ (i j k : Int) (n : Nat), ds = [.int i, .int j, .int k] ∧ RgC i j k n ∧ Q (rngC i k n)) := by
  obtain ⟨te, p1, i1⟩ := h
  refine ⟨_, pi_range3 hg hm p1 hs hpl, fun F M H σ ρ Q1 R S hx t q => ?_⟩
  refine i1 F M H σ ρ _ _ S hx t fun vs H1 ds e1 r1 ⟨i, j, k, n, ed, hr, t1⟩ => ?_
  subst ed
  obtain ⟨x1, r2, rfl, h1, x2, r3, rfl, h2, x3, r4, rfl, h3, h4⟩ := r1
  cases h4; cases h3; cases h2; cases h1
  refine ⟨i, j, k, n, rfl, hr, q _ H1 [] _ e1 (fun p hp => by simp at hp) (fun M' H' σ' ρ' S' m => ?_) t1⟩
  refine ⟨fun d hd => ?_, fun hl => by show n ≤ m; simpa using hl⟩
  obtain ⟨hi, hd⟩ := List.getElem?_eq_some_iff.mp hd
  simp at hi hd
  subst hd
  exact ⟨hi, fun y H'' ⟨eH, ey⟩ => by subst eH ey; exact ⟨Same.refl _, rfl⟩⟩
end
end DL

set_option maxRecDepth 100000
set_option maxHeartbeats 4000000
/-! Rows of bits, in the abstract: what a stamp is packed into, what is read of a row. -/
namespace DL
open PySem PySem.Spec L2 DFm
theorem Told.top_up (a : Told) (m : Int) : (a.lift m).top = a.top + m := by cases a <;> simp [Told.lift, Told.top] <;> omega
theorem Told.top_ok : ∀ {o : Told}, o.ok → 0 ≤ o.top ∧ o.low ≤ o.top
  | .n i, h => ⟨h, Int.le_refl _⟩
  | .t i l r, ⟨h, hl, hr⟩ => by
    have := (Told.top_ok hl).1
    simp only [Told.top, Told.low]
    omega
theorem Told.over_top (l r : Told) : (Told.over l r).top = max l.top r.top := by
  cases h : Told.twin l r with
  | true =>
    obtain ⟨a, h1, h2⟩ := Told.twin_iff.mp h
    rw [Told.over_twin h1 h2]
    subst h1 h2
    simp [Told.top]
  | false =>
    rw [Told.over_else h]
    simp only [Told.top, Told.top_up]
    omega
theorem Told.least_top : ∀ o : Told, o.least.top = o.top
  | .n i => rfl
  | .t i l r => by
    rw [Told.least, Told.top_up, Told.over_top, Told.least_top l, Told.least_top r]
    simp only [Told.top]
    omega
/-! ### bits -/
def Own.bits : Own → List Bool
  | .lf b => [false, false, b]
  | .nd l r => if l = .lf false then [false, true] ++ r.bits else if r = .lf false then [true, false] ++ l.bits else [true, true] ++ l.bits ++ r.bits
def nmB (n : Int) : List Bool := List.replicate ((nB (n.toNat + 1)).length - 1) false ++ nB (n.toNat + 1)
def Told.bits : Told → List Bool
  | .n i => [true] ++ nmB i
  | .t i l r => [false] ++ nmB i ++ l.bits ++ r.bits
theorem nmB_len (n : Int) : (nmB n).length = 2 * (nB (n.toNat + 1)).length - 1 := by
  have := nB_pos (n.toNat + 1)
  unfold nmB
  simp
  omega
theorem own_len : ∀ o : Own, o.bits.length ≤ 3 * o.size
  | .lf b => by simp [Own.bits, Own.size]
  | .nd l r => by
    have h1 := own_len l
    have h2 := own_len r
    rw [Own.bits, Own.size]
    split
    · simp; omega
    · split <;> simp <;> omega
theorem told_len {k : Nat} : ∀ {o : Told}, o.ok → o.top + 1 < 2 ^ k → o.bits.length ≤ 2 * k * o.size
  | .n i, h, hk => by
    have h1 : i.toNat + 1 < 2 ^ k := by
      have : (0 : Int) ≤ i := h
      simp only [Told.top] at hk
      have e : ((i.toNat + 1 : Nat) : Int) < ((2 ^ k : Nat) : Int) := by push_cast; omega
      exact_mod_cast e
    have k1 : 1 ≤ k := by
      rcases Nat.eq_zero_or_pos k with z | z
      · subst z; omega
      · exact z
    have h2 := nB_len k1 h1
    have h3 := nB_pos (i.toNat + 1)
    simp only [Told.bits, Told.size, List.length_append, nmB_len, List.length_cons, List.length_nil]
    omega
  | .t i l r, ⟨h, hl, hr⟩, hk => by
    have a1 := (Told.top_ok hl).1
    have a2 := (Told.top_ok hr).1
    simp only [Told.top] at hk
    have h1 : i.toNat + 1 < 2 ^ k := by
      have e : ((i.toNat + 1 : Nat) : Int) < ((2 ^ k : Nat) : Int) := by push_cast; omega
      exact_mod_cast e
    have k1 : 1 ≤ k := by
      rcases Nat.eq_zero_or_pos k with z | z
      · subst z; omega
      · exact z
    have h2 := nB_len k1 h1
    have h3 := nB_pos (i.toNat + 1)
    have h4 := told_len (k := k) hl (by omega)
    have h5 := told_len (k := k) hr (by omega)
    simp only [Told.bits, Told.size, List.length_append, nmB_len, List.length_cons, List.length_nil]
    have e : 2 * k * (l.size + r.size + 1) = 2 * k * l.size + 2 * k * r.size + 2 * k := by rw [Nat.mul_add, Nat.mul_add, Nat.mul_one]
    omega
/-! ### bytes -/
/-- noughts behind, up to whole rows of eight -/
def pad8 (l : List Bool) : List Bool := l ++ List.replicate ((8 - l.length % 8) % 8) false
theorem pad8_len (l : List Bool) : (pad8 l).length % 8 = 0 ∧ (pad8 l).length ≤ l.length + 7 := by
  unfold pad8
  simp
  omega
/-- the i-th eight bits -/
def eight (l : List Bool) (i : Nat) : List Bool := (l.drop (8 * i)).take 8
def rowOf (l : List Bool) : List Nat := (List.range (l.length / 8)).map fun i => valB (eight l i)
def packN (o : Own) (t : Told) : List Nat := rowOf (pad8 (o.bits ++ t.bits))
theorem eight_len {l : List Bool} {i : Nat} (h : i < l.length / 8) : (eight l i).length = 8 := by
  unfold eight
  simp
  omega
theorem rowOf_lt (l : List Bool) : ∀ n ∈ rowOf l, n < 256 := by
  intro n hn
  obtain ⟨i, hi, rfl⟩ := List.mem_map.mp hn
  have := valB_lt (eight l i)
  rw [eight_len (by simpa using hi)] at this
  simpa using this
theorem rowOf_len (l : List Bool) : (rowOf l).length = l.length / 8 := by simp [rowOf]
/-- the bits that a row is -/
def bitsOf (row : List Nat) : List Bool := (row.map byteB).flatten
theorem eights : ∀ (n : Nat) (l : List Bool), l.length = 8 * n → ((List.range n).map fun i => eight l i).flatten = l
  | 0, l, h => by
    have : l = [] := List.eq_nil_of_length_eq_zero (by omega)
    subst this
    rfl
  | n + 1, l, h => by
    rw [List.range_succ_eq_map, List.map_cons, List.map_map, List.flatten_cons]
    have ih := eights n (l.drop 8) (by simp; omega)
    have e : ((fun i => eight l i) ∘ Nat.succ) = fun i => eight (l.drop 8) i := by
      funext i
      show (l.drop (8 * (i + 1))).take 8 = ((l.drop 8).drop (8 * i)).take 8
      rw [List.drop_drop]
      congr 2
      omega
    rw [e, ih]
    unfold eight
    simp
theorem bitsOf_rowOf {l : List Bool} (h : l.length % 8 = 0) : bitsOf (rowOf l) = l := by
  unfold bitsOf rowOf
  rw [List.map_map]
  have e : (List.range (l.length / 8)).map (byteB ∘ fun i => valB (eight l i)) = (List.range (l.length / 8)).map fun i => eight l i := by
    apply List.map_congr_left
    intro i hi
    exact byteB_of (eight_len (by simpa using hi))
  rw [e]
  exact eights _ l (by omega)
theorem bitsOf_len {row : List Nat} (h : ∀ n ∈ row, n < 256) : (bitsOf row).length = 8 * row.length := by
  unfold bitsOf
  induction row with
  | nil => rfl
  | cons n row ih =>
    rw [List.map_cons, List.flatten_cons, List.length_append, byteB_len (h n (by simp)), ih fun m hm => h m (by simp [hm]), List.length_cons]
    omega
theorem packN_bits (o : Own) (t : Told) : ∃ k, bitsOf (packN o t) = o.bits ++ t.bits ++ List.replicate k false := ⟨_, bitsOf_rowOf (pad8_len _).1⟩
/-! ### reading -/
def readO : Nat → List Bool → Option (Own × List Bool)
  | 0, _ => none
  | f + 1, a :: b :: r => if a = false ∧ b = false then (match r with | c :: r' => some (.lf c, r') | [] => none)
    else (if a = true then readO f r else some (.lf false, r)).bind fun p => (if b = true then readO f p.2 else some (.lf false, p.2)).bind fun q => some (.nd p.1 q.1, q.2)
  | _ + 1, _ => none
theorem readO_step (f : Nat) (a b : Bool) (r : List Bool) : readO (f + 1) (a :: b :: r) = if a = false ∧ b = false then (match r with | c :: r' => some (.lf c, r') | [] => none)
    else (if a = true then readO f r else some (.lf false, r)).bind fun p => (if b = true then readO f p.2 else some (.lf false, p.2)).bind fun q => some (.nd p.1 q.1, q.2) := rfl
def zrs (l : List Bool) : Nat := (l.takeWhile (fun b => !b)).length
def readN (l : List Bool) : Option (Int × List Bool) := if l.length < 2 * zrs l + 1 then none else some ((valB ((l.drop (zrs l)).take (zrs l + 1)) : Int) - 1, l.drop (2 * zrs l + 1))
def readT : Nat → List Bool → Option (Told × List Bool)
  | 0, _ => none
  | f + 1, a :: r => (readN r).bind fun p => if a = true then some (.n p.1, p.2) else (readT f p.2).bind fun q => (readT f q.2).bind fun s => some (.t p.1 q.1 s.1, s.2)
  | _ + 1, [] => none
theorem zrs_split (l : List Bool) : (∃ r, l = List.replicate (zrs l) false ++ true :: r) ∨ (l = List.replicate (zrs l) false) := by
  induction l with
  | nil => exact .inr rfl
  | cons b l ih =>
    cases b with
    | true => exact .inl ⟨l, by simp [zrs]⟩
    | false =>
      have e : zrs (false :: l) = zrs l + 1 := by simp [zrs]
      rw [e, List.replicate_succ]
      rcases ih with ⟨r, h⟩ | h
      · exact .inl ⟨r, by rw [List.cons_append, ← h]⟩
      · exact .inr (by rw [← h])
theorem zrs_rep (k : Nat) (r : List Bool) : zrs (List.replicate k false ++ true :: r) = k := by
  induction k with
  | zero => simp [zrs]
  | succ k ih =>
    have e : zrs (false :: (List.replicate k false ++ true :: r)) = zrs (List.replicate k false ++ true :: r) + 1 := by simp [zrs]
    rw [List.replicate_succ, List.cons_append, e, ih]
theorem readN_nmB {n : Int} (h : 0 ≤ n) (rest : List Bool) : readN (nmB n ++ rest) = some (n, rest) := by
  obtain ⟨l, e⟩ := nB_head (n := n.toNat + 1) (by omega)
  have hz : zrs (nmB n ++ rest) = l.length := by
    have : nmB n ++ rest = List.replicate l.length false ++ true :: (l ++ rest) := by unfold nmB; rw [e]; simp
    rw [this, zrs_rep]
  have hd : nmB n ++ rest = List.replicate l.length false ++ (nB (n.toNat + 1) ++ rest) := by unfold nmB; rw [e]; simp
  have hl : (nB (n.toNat + 1)).length = l.length + 1 := by rw [e]; rfl
  unfold readN
  rw [hz, if_neg (by rw [hd]; simp; omega)]
  have d1 : (nmB n ++ rest).drop l.length = nB (n.toNat + 1) ++ rest := by rw [hd, List.drop_append_of_le_length (by simp)]; simp
  have d2 : (nmB n ++ rest).drop (2 * l.length + 1) = rest := by
    have : 2 * l.length + 1 = l.length + (l.length + 1) := by omega
    rw [this, ← List.drop_drop, d1, ← hl, List.drop_left]
  rw [d1, d2, ← hl, List.take_left, nB_val]
  simp
  omega
theorem readO_bits : ∀ (f : Nat) (o : Own) (rest : List Bool), o.depth < f → readO f (o.bits ++ rest) = some (o, rest)
  | 0, o, _, h => by omega
  | f + 1, .lf b, rest, _ => by simp [Own.bits, readO]
  | f + 1, .nd l r, rest, h => by
    simp only [Own.depth] at h
    have h1 := fun rest => readO_bits f l rest (by omega)
    have h2 := fun rest => readO_bits f r rest (by omega)
    rw [Own.bits]
    by_cases e1 : l = .lf false
    · rw [if_pos e1]
      simp [readO, h2, e1]
    · rw [if_neg e1]
      by_cases e2 : r = .lf false
      · rw [if_pos e2]
        simp [readO, h1, e2]
      · rw [if_neg e2]
        simp [readO, h1, h2, List.append_assoc]
theorem readT_bits : ∀ (f : Nat) (t : Told) (rest : List Bool), t.ok → t.depth < f → readT f (t.bits ++ rest) = some (t, rest)
  | 0, t, _, _, h => by omega
  | f + 1, .n i, rest, ok, _ => by
    have h := readN_nmB (n := i) ok rest
    simp [Told.bits, readT, h]
  | f + 1, .t i l r, rest, ⟨ok, hl, hr⟩, h => by
    simp only [Told.depth] at h
    have h0 := fun rest => readN_nmB (n := i) ok rest
    have h1 := fun rest => readT_bits f l rest hl (by omega)
    have h2 := fun rest => readT_bits f r rest hr (by omega)
    simp [Told.bits, readT, h0, h1, h2, List.append_assoc]
theorem readO_depth : ∀ {f : Nat} {l : List Bool} {p : Own × List Bool}, readO f l = some p → p.1.depth < f ∧ p.2.length ≤ l.length ∧ ∃ k, p.2 = l.drop k
  | 0, _, _, h => by simp [readO] at h
  | f + 1, [], _, h => by simp [readO] at h
  | f + 1, [_], _, h => by simp [readO] at h
  | f + 1, a :: b :: r, p, h => by
    rw [readO_step] at h
    split at h
    · cases r with
      | nil => cases h
      | cons c r' => cases h; exact ⟨by simp [Own.depth], by simp; omega, 3, by simp⟩
    · rename_i nn
      obtain ⟨x, h1, h⟩ := Option.bind_eq_some_iff.mp h
      obtain ⟨y, h2, h⟩ := Option.bind_eq_some_iff.mp h
      cases h
      have g1 : x.1.depth < f + 1 ∧ x.1.depth < max 1 f ∧ ∃ k, x.2 = r.drop k := by
        split at h1
        · obtain ⟨q1, q2, q3⟩ := readO_depth h1
          exact ⟨by omega, by omega, q3⟩
        · cases h1; exact ⟨by simp [Own.depth], by simp [Own.depth]; omega, 0, by simp⟩
      obtain ⟨k1, e1⟩ := g1.2.2
      have g2 : y.1.depth < f + 1 ∧ y.1.depth < max 1 f ∧ ∃ k, y.2 = x.2.drop k := by
        split at h2
        · obtain ⟨q1, q2, q3⟩ := readO_depth h2
          exact ⟨by omega, by omega, q3⟩
        · cases h2; exact ⟨by simp [Own.depth], by simp [Own.depth]; omega, 0, by simp⟩
      obtain ⟨k2, e2⟩ := g2.2.2
      have e3 : y.2 = (a :: b :: r).drop (2 + k1 + k2) := by rw [e2, e1, List.drop_drop]; rw [show 2 + k1 + k2 = (k1 + k2) + 2 by omega]; rfl
      have hf : 1 ≤ f := by
        cases f with
        | succ f => omega
        | zero =>
          exfalso
          cases a <;> cases b <;> first | exact nn ⟨rfl, rfl⟩ | (simp [readO] at h1; done) | (simp [readO] at h2; done)
      exact ⟨by simp only [Own.depth]; omega, by rw [e3]; simp, _, e3⟩
theorem readN_nn {l : List Bool} {p : Int × List Bool} (h : readN l = some p) : 0 ≤ p.1 ∧ ∃ k, 0 < k ∧ p.2 = l.drop k := by
  unfold readN at h
  split at h
  · cases h
  · rename_i c
    cases h
    refine ⟨?_, _, by omega, rfl⟩
    rcases zrs_split l with ⟨r, e⟩ | e
    · have d : l.drop (zrs l) = true :: r := by
        conv => lhs; rw [e]
        rw [zrs_rep, List.drop_append_of_le_length (by simp)]
        simp
      rw [d, List.take_succ_cons, valB_cons]
      have h2 := Nat.two_pow_pos (List.take (zrs l) r).length
      generalize 2 ^ (List.take (zrs l) r).length = w at h2
      show (0 : Int) ≤ ((Bool.toNat true * w + valB (List.take (zrs l) r) : Nat) : Int) - 1
      have h3 : Bool.toNat true * w = w := by simp
      rw [h3]
      omega
    · have := congrArg List.length e
      simp at this
      omega
theorem readT_ok : ∀ {f : Nat} {l : List Bool} {p : Told × List Bool}, readT f l = some p → p.1.ok ∧ p.1.depth < f ∧ ∃ k, p.2 = l.drop k
  | 0, _, _, h => by simp [readT] at h
  | f + 1, [], _, h => by simp [readT] at h
  | f + 1, a :: r, p, h => by
    rw [readT] at h
    obtain ⟨x, h1, h⟩ := Option.bind_eq_some_iff.mp h
    obtain ⟨n1, k1, _, e1⟩ := readN_nn h1
    split at h
    · cases h
      exact ⟨n1, by simp [Told.depth], k1 + 1, by rw [e1]; rfl⟩
    · obtain ⟨y, h2, h⟩ := Option.bind_eq_some_iff.mp h
      obtain ⟨z, h3, h⟩ := Option.bind_eq_some_iff.mp h
      cases h
      obtain ⟨a1, a2, k2, e2⟩ := readT_ok h2
      obtain ⟨b1, b2, k3, e3⟩ := readT_ok h3
      exact ⟨⟨n1, a1, b1⟩, by simp only [Told.depth]; omega, k1 + (k2 + k3) + 1, by rw [e3, e2, e1, List.drop_drop, List.drop_drop]; rfl⟩
/-- a number that is read is short where the row is, or where it is small -/
theorem readN_short {l : List Bool} {p : Int × List Bool} (h : readN l = some p) (s : l.length ≤ 1200 ∨ p.1 + 1 < 2 ^ 250) : zrs l ≤ 600 ∧ ∃ r, l = List.replicate (zrs l) false ++ true :: r ∧ p.1 = (valB ((true :: r).take (zrs l + 1)) : Int) - 1 ∧ p.2 = l.drop (2 * zrs l + 1) ∧ 2 * zrs l + 1 ≤ l.length := by
  unfold readN at h
  split at h
  · cases h
  · rename_i c
    cases h
    rcases zrs_split l with ⟨r, e⟩ | e
    · have d : l.drop (zrs l) = true :: r := by
        conv => lhs; rw [e]
        rw [zrs_rep, List.drop_append_of_le_length (by simp)]
        simp
      refine ⟨?_, r, e, by rw [d], rfl, by omega⟩
      rcases s with s | s
      · omega
      · rw [d, List.take_succ_cons, valB_cons] at s
        have hl : (r.take (zrs l)).length = zrs l := by
          have := congrArg List.length e
          simp at this
          rw [List.length_take]
          omega
        rw [hl] at s
        have h1 : 2 ^ zrs l < 2 ^ 250 := by
          have : ((2 ^ zrs l : Nat) : Int) < ((2 ^ 250 : Nat) : Int) := by
            simp only [Bool.toNat_true, Nat.one_mul] at s
            have e1 : ((2 ^ 250 : Nat) : Int) = (2 : Int) ^ 250 := by norm_cast
            rw [e1]
            omega
          exact Int.ofNat_lt.mp this
        have := (Nat.pow_lt_pow_iff_right (by omega : 1 < 2)).mp h1
        omega
    · have := congrArg List.length e
      simp at this
      omega
theorem readO_size : ∀ {f : Nat} {l : List Bool} {p : Own × List Bool}, readO f l = some p → p.1.size + p.2.length ≤ l.length
  | 0, _, _, h => by simp [readO] at h
  | f + 1, [], _, h => by simp [readO] at h
  | f + 1, [_], _, h => by simp [readO] at h
  | f + 1, a :: b :: r, p, h => by
    rw [readO_step] at h
    split at h
    · cases r with
      | nil => cases h
      | cons c r' => cases h; simp [Own.size]; omega
    · rename_i nn
      obtain ⟨x, h1, h⟩ := Option.bind_eq_some_iff.mp h
      obtain ⟨y, h2, h⟩ := Option.bind_eq_some_iff.mp h
      cases h
      simp only [Own.size, List.length_cons]
      cases a <;> cases b
      · exact absurd ⟨rfl, rfl⟩ nn
      · cases h1
        have g2 := readO_size (f := f) (by simpa using h2)
        simp only [Own.size]
        omega
      · have g1 := readO_size (f := f) (by simpa using h1)
        cases h2
        simp only [Own.size]
        omega
      · have g1 := readO_size (f := f) (by simpa using h1)
        have g2 := readO_size (f := f) (by simpa using h2)
        omega
theorem readN_size {l : List Bool} {p : Int × List Bool} (h : readN l = some p) : ∃ k, l.length = p.2.length + (2 * k + 1) ∧ p.1 + 1 ≤ 2 ^ (k + 1) := by
  unfold readN at h
  split at h
  · cases h
  · rename_i c
    cases h
    refine ⟨zrs l, by simp; omega, ?_⟩
    have h1 := valB_lt ((l.drop (zrs l)).take (zrs l + 1))
    have h2 : ((l.drop (zrs l)).take (zrs l + 1)).length ≤ zrs l + 1 := by rw [List.length_take]; omega
    have h3 := Nat.pow_le_pow_right (by omega : 0 < 2) h2
    have h4 : valB ((l.drop (zrs l)).take (zrs l + 1)) ≤ 2 ^ (zrs l + 1) := by omega
    have h5 : ((valB ((l.drop (zrs l)).take (zrs l + 1)) : Nat) : Int) ≤ ((2 ^ (zrs l + 1) : Nat) : Int) := Int.ofNat_le.mpr h4
    have e1 : ((2 ^ (zrs l + 1) : Nat) : Int) = (2 : Int) ^ (zrs l + 1) := by norm_cast
    rw [e1] at h5
    show ((valB ((l.drop (zrs l)).take (zrs l + 1)) : Nat) : Int) - 1 + 1 ≤ _
    omega
theorem two_pows {a b c : Nat} (ha : 1 ≤ a) (hb : 1 ≤ b) (hc : a + b ≤ c) : (2 : Int) ^ a + 2 ^ b ≤ 2 ^ c := by
  have h1 : (2 : Int) ^ (a + b) ≤ 2 ^ c := by
    have := Nat.pow_le_pow_right (by omega : 0 < 2) hc
    have e : ((2 ^ (a + b) : Nat) : Int) ≤ ((2 ^ c : Nat) : Int) := Int.ofNat_le.mpr this
    simpa using e
  refine Int.le_trans ?_ h1
  have pa : 2 ≤ 2 ^ a := Nat.le_self_pow (by omega) 2
  have pb : 2 ≤ 2 ^ b := Nat.le_self_pow (by omega) 2
  have e : 2 ^ a + 2 ^ b ≤ 2 ^ (a + b) := by
    rw [Nat.pow_add]
    generalize 2 ^ a = u at pa
    generalize 2 ^ b = v at pb
    have h2 : 2 * v ≤ u * v := Nat.mul_le_mul_right v pa
    have h3 : u * 2 ≤ u * v := Nat.mul_le_mul_left u pb
    omega
  have e2 : ((2 ^ a + 2 ^ b : Nat) : Int) ≤ ((2 ^ (a + b) : Nat) : Int) := Int.ofNat_le.mpr e
  simpa using e2
theorem readT_size : ∀ {f : Nat} {l : List Bool} {p : Told × List Bool}, readT f l = some p → ∃ c, l.length = p.2.length + 2 * c ∧ p.1.size ≤ c ∧ p.1.top + 1 ≤ 2 ^ c
  | 0, _, _, h => by simp [readT] at h
  | f + 1, [], _, h => by simp [readT] at h
  | f + 1, a :: r, p, h => by
    rw [readT] at h
    obtain ⟨x, h1, h⟩ := Option.bind_eq_some_iff.mp h
    obtain ⟨k, n1, n2⟩ := readN_size h1
    split at h
    · cases h
      exact ⟨k + 1, by simp only [List.length_cons]; omega, by simp only [Told.size]; omega, n2⟩
    · obtain ⟨y, h2, h⟩ := Option.bind_eq_some_iff.mp h
      obtain ⟨z, h3, h⟩ := Option.bind_eq_some_iff.mp h
      cases h
      obtain ⟨c1, a1, a2, a3⟩ := readT_size h2
      obtain ⟨c2, b1, b2, b3⟩ := readT_size h3
      have s1 := Told.size_pos y.1
      have s2 := Told.size_pos z.1
      refine ⟨k + 1 + c1 + c2, by simp only [List.length_cons]; omega, by simp only [Told.size]; omega, ?_⟩
      have p1 := two_pows (a := k + 1) (b := c1) (c := k + 1 + c1 + c2) (by omega) (by omega) (by omega)
      have p2 := two_pows (a := k + 1) (b := c2) (c := k + 1 + c1 + c2) (by omega) (by omega) (by omega)
      simp only [Told.top]
      omega
/-- what a row tells: the parts in their least form, if they are packed into it -/
def unpackN (row : List Nat) : Option (Own × Told) := (readO 40 (bitsOf row)).bind fun p => (readT 40 p.2).bind fun q => if packN p.1.least q.1.least = row then some (p.1.least, q.1.least) else none
theorem unpack_pack {o : Own} {t : Told} (ho : o.depth < 40) (ht : t.depth < 40) (ol : o.isLeast = true) (tok : t.ok) (tl : t.isLeast = true) : unpackN (packN o t) = some (o, t) := by
  obtain ⟨k, e⟩ := packN_bits o t
  unfold unpackN
  rw [e, List.append_assoc, readO_bits 40 o _ ho]
  show (readT 40 (t.bits ++ List.replicate k false)).bind _ = _
  rw [readT_bits 40 t _ tok ht]
  show (if packN o.least t.least = packN o t then some (o.least, t.least) else none) = _
  rw [Own.least_id o ol, Told.least_id tok tl, if_pos rfl]
theorem pack_inj {o o' : Own} {t t' : Told} (ho : o.depth < 40) (ht : t.depth < 40) (ol : o.isLeast = true) (tok : t.ok) (tl : t.isLeast = true) (ho' : o'.depth < 40) (ht' : t'.depth < 40) (ol' : o'.isLeast = true) (tok' : t'.ok) (tl' : t'.isLeast = true) (h : packN o t = packN o' t') : o = o' ∧ t = t' := by
  have h1 := unpack_pack ho ht ol tok tl
  rw [h, unpack_pack ho' ht' ol' tok' tl'] at h1
  cases h1
  exact ⟨rfl, rfl⟩
end DL

set_option maxRecDepth 100000
set_option maxHeartbeats 4000000
/-! The data layer: comprehensions that hand back a new list, new lists as data, a table with tuples of ints as keys, repr of a list of bytes. -/
namespace DL
open PySem PySem.Spec L2 DFm
section
variable {X : Cx} {W : WX} {E1 : E1T} {a b c o e f : Expr} {es rest : List Expr} {pos p p2 pos' apos cpos : Pos} {t u tv : TE1} {tf uf : TF1} {taf : TAF1} {K : PySem.W.Frag}
theorem q_bits {s : Str} {l : List Bool} {k : Nat} (h : s = bS l) : QE X W E1 (.Constant (.str s) k pos) (uC (BD l)) := by
  subst h
  exact q_c (d := BD l) pe_str (fun _ _ => rfl)
theorem ql_lc {elt tg iter : Expr} {ifs : List Expr} {scope : Scope} (own : List (Str × Nat)) {u : TA1} {g : TG1} {tt : TT1} {te : TE1} (hc : X.calm = true) (hN : X.N.Nodup) (hi : QI X W E1 tg iter u) (ok : BlkOk X.N X.env.scope scope own)
    (hg : ∀ (s : Shared) (H : Hp) (C : Addr) (cl : List (Str × Addr)) (fp : List Addr), QGw (X.blk s H scope (compEnvC scope cl C X.env) fp) (own.map (·.2)) tg g) (ht : ∀ (s : Shared) (H : Hp) (C : Addr) (cl : List (Str × Addr)) (fp : List Addr), QTs (X.blk s H scope (compEnvC scope cl C X.env) fp) ifs tt)
    (he : ∀ (s : Shared) (H : Hp) (C : Addr) (cl : List (Str × Addr)) (fp : List Addr), QE (X.blk s H scope (compEnvC scope cl C X.env) fp) noW noE elt te) (hs : ∀ x, foldedSetIterable iter X.env x = pure x := by intro _; rfl) :
    QL X W E1 (.ListComp elt [⟨tg, iter, ifs, 0⟩] scope pos) (fun ρ Q => uLc (own.map (·.2)) u g tt te ρ fun d => ∃ ds, d = .lst ds ∧ Q ds) := by
  obtain ⟨wi, p, i⟩ := hi
  refine ⟨_, pe_lc (g := gS X.K (own.map (·.2)) g) (tt := ttS X.K tt) (te := teS X.K te) hc hN p ok (fun s H C cl fp => pg_S (hg s H C cl fp)) (fun s H C cl fp => pts_S (ht s H C cl fp)) (fun s H C cl fp => pe_S (he s H C cl fp)) hs, fun F M H σ ρ Q1 Q S hx t q => ?_⟩
  exact lc_impO i F M H σ ρ _ _ S hx t fun p H2 acc xs e hp at_ r ⟨ds, ed, t1⟩ => by cases ed; exact q p H2 acc xs e hp at_ r t1
/-- a new list as a datum -/
@[simp] abbrev uOfL (t : TL1) : TE1 := fun ρ Q => t ρ fun ds => Q (.lst ds)
theorem q_ofL {t : TL1} (h : QL X W E1 e t) : QE X W E1 e (uOfL t) := by
  obtain ⟨te, p1, i1⟩ := h
  refine ⟨te, p1, fun F M H σ ρ Q1 Q S hx t q => i1 F M H σ ρ _ _ S hx t fun a H' es xs e1 ha ha' r t1 => ?_⟩
  exact q (.ref a) H' (.lst es) e1 ⟨a, xs, rfl, .inl ⟨fun z => S.all a z ha, .inl ha'⟩, RpAll.same (Same.refl _) (fun b _ hb => List.mem_cons_of_mem _ hb) _ _ r⟩ t1
theorem qf_callTy {x : Str} {n : String} {r : List V → Hp → VK → Prop} {f : List D → (D → Prop) → Prop} (hc : CallR X (.type n) r) (hi : CallI X.K r f) (hg : Gl X x) (hm : X.mg x = none) (hv : bootBuiltins x = some (.type n)) (ha : QAF X W E1 (a :: es) taf)
    (hn : x ≠ "__name__" := by decide) (hdb : (x == ("__debug__" : Str)) = false := by decide)
    (he : starEach (a :: es) X.env = (false, eval a X.env) :: starEach es X.env := by rfl) (hpl : (backTo pos (starEach es X.env)).any (·.1) = false := by rfl) : QF X W E1 (.Call (.Name x p) (a :: es) [] pos) (uCallF f taf) := by
  obtain ⟨te, h1, i1⟩ := ha
  refine ⟨_, pe_callTy hc hg hm hv h1 hn hdb he hpl, fun F M H σ ρ Q1 Q S hx t q => ?_⟩
  refine i1 F M H σ ρ _ _ S hx t fun vs H1 M' ρ' ds S' kp r1 t1 => ?_
  exact hi H1 (M' ++ F.L0) ds vs _ _ S'.all r1 t1 fun x H3 d3 e3 r3 t3 => q x H3 M' ρ' d3 (S'.same e3) (fun d0 v0 r0 => same_rp e3 (kp d0 v0 r0)) r3 t3
/-- a op b, a changes things -/
@[simp] abbrev uOpL (f : F2) (t : TF1) (u : TE1) : TF1 := fun ρ Q => t ρ fun d ρ' => u ρ' fun e => f d e fun z => Q z ρ'
theorem qf_opL {op : Operator} {r : R2} {f : F2} (ho : OpR X (binaryOp op) r) (hi : OpI X.K r f) (ha : QF X W E1 a tf) (hb : QE X W E1 b u) : QF X W E1 (.BinOp a op b pos) (uOpL f tf u) := by
  obtain ⟨te, h1, i1⟩ := ha
  obtain ⟨tr, h2, i2⟩ := hb
  refine ⟨_, pe_op ho h1 h2, fun F M H σ ρ Q1 Q S hx t q => ?_⟩
  refine i1 F M H σ ρ _ _ S hx t fun v H1 M' ρ' d S' kp r1 t1 => ?_
  refine i2 F M' H1 σ ρ' _ _ S' hx t1 fun w H2 d2 e2 r2 t2 => ?_
  exact hi H2 (M' ++ F.L0) d d2 v w _ _ (S'.same e2).all (same_rp e2 r1) r2 t2 fun x H3 d3 e3 r3 t3 => q x H3 M' ρ' d3 ((S'.same e2).same e3) (fun d0 v0 r0 => same_rp (e2.trans e3) (kp d0 v0 r0)) r3 t3
/-! ### a table with tuples of ints as keys -/
abbrev TD := List (List Key × D)
def valT (kvs : TD) (k : List Key) : Option D := (kvs.find? fun kv => decide (kv.1 = k)).map (·.2)
def putT (kvs : TD) (k : List Key) (v : D) : TD := if (kvs.any fun kv => decide (kv.1 = k)) = true then kvs.map (fun kv => if kv.1 = k then (kv.1, v) else kv) else kvs ++ [(k, v)]
inductive KT (K : PySem.W.Frag) (H : Hp) (L : List Addr) : TD → List (List Key × V) → Prop where
  | nil : KT K H L [] []
  | cons {k : List Key} {d : D} {v : V} {kvs : TD} {vs : List (List Key × V)} (r : Rp K H L d v) (h : KT K H L kvs vs) : KT K H L ((k, d) :: kvs) ((k, v) :: vs)
theorem KT.of {H : Hp} {L : List Addr} : ∀ {kvs : TD} {vs : List (List Key × V)}, vs.map (·.1) = kvs.map (·.1) → RpAll K H L (kvs.map (·.2)) (vs.map (·.2)) → KT K H L kvs vs
  | [], [], _, _ => .nil
  | [], _ :: _, h, _ => by simp at h
  | (k, d) :: kvs, [], h, _ => by simp at h
  | (k, d) :: kvs, (k', v) :: vs, h, r => by
    obtain ⟨x, r', e, r1, r2⟩ := r
    simp only [List.map_cons, List.cons.injEq] at h e
    obtain ⟨rfl, h⟩ := h
    obtain ⟨rfl, e⟩ := e
    exact .cons r1 (KT.of h (by rw [e]; exact r2))
theorem KT.ks {H : Hp} {L : List Addr} {kvs : TD} {vs : List (List Key × V)} (h : KT K H L kvs vs) : vs.map (·.1) = kvs.map (·.1) := by
  induction h with
  | nil => rfl
  | cons r h ih => simp [ih]
theorem KT.rp {H : Hp} {L : List Addr} {kvs : TD} {vs : List (List Key × V)} (h : KT K H L kvs vs) : RpAll K H L (kvs.map (·.2)) (vs.map (·.2)) := by
  induction h with
  | nil => rfl
  | cons r h ih => exact ⟨_, _, rfl, r, ih⟩
theorem KT.val {H : Hp} {L : List Addr} {k : List Key} {kvs : TD} {vs : List (List Key × V)} (h : KT K H L kvs vs) : (∃ z v, valT kvs k = some z ∧ valV vs k = some v ∧ Rp K H L z v) ∨ (valT kvs k = none ∧ valV vs k = none) := by
  induction h with
  | nil => exact .inr ⟨rfl, rfl⟩
  | @cons j d v kvs vs r h ih =>
    by_cases e : j = k
    · exact .inl ⟨d, v, by simp [valT, List.find?_cons, e], valV_pos e, r⟩
    · rw [valV_neg (p := (j, v)) e, show valT ((j, d) :: kvs) k = valT kvs k by simp [valT, List.find?_cons, e]]
      exact ih
theorem KT.put {H : Hp} {L : List Addr} {k : List Key} {z : D} {y : V} (rz : Rp K H L z y) {kvs : TD} {vs : List (List Key × V)} (h : KT K H L kvs vs) : KT K H L (putT kvs k z) (putK vs k y) := by
  have ha : (vs.any fun kv => decide (kv.1 = k)) = kvs.any fun kv => decide (kv.1 = k) := by
    induction h with
    | nil => rfl
    | cons r h ih => simp only [List.any_cons, ih]
  unfold putT putK
  rw [ha]
  split
  · clear ha
    rename_i w
    clear w
    induction h with
    | nil => exact .nil
    | @cons j d v kvs vs r h ih =>
      rw [List.map_cons, List.map_cons]
      by_cases e : j = k
      · rw [if_pos e, if_pos e]; exact .cons rz ih
      · rw [if_neg e, if_neg e]; exact .cons r ih
  · clear ha
    rename_i w
    clear w
    induction h with
    | nil => exact .cons rz .nil
    | cons r h ih => exact .cons r ih
theorem KT.updM {H : Hp} {L : List Addr} {l : Addr} {o u : HO} (hl : l ∈ L) (ho : H l = some o) (m : mutB o = true) {kvs : TD} {vs : List (List Key × V)} (h : KT K H L kvs vs) : KT K (upd H l u) L kvs vs := KT.of h.ks (RpAll.updM hl ho m _ _ h.rp)
theorem KT.len {H : Hp} {L : List Addr} {kvs : TD} {vs : List (List Key × V)} (h : KT K H L kvs vs) : vs.length = kvs.length := by have := congrArg List.length h.ks; simpa using this
theorem StR.dt {F : Fm} {M : List Addr} {H : Hp} {σ : St} {ρ : Rho} (S : StR K F M H σ ρ) {n : Nat} {a : Addr} {w : Bool} {kvs : TD} (e : ρ.mu[n]? = some (En.mk a w (.dt kvs))) : a ∈ M ++ F.L0 ∧ ∃ vs, H a = some (.dT vs) ∧ KT K H (M ++ F.L0) kvs vs := by
  obtain ⟨hm, _, vs, h1, h2, h3⟩ := S.mu _ (mu_at e)
  exact ⟨hm, vs, h1, KT.of h2 h3⟩
/-- {} of such -/
@[simp] abbrev uDNewT : TF1 := fun ρ Q => ∀ p, Q (.cls p) ⟨ρ.sl, ρ.mu ++ [⟨p, true, .dt []⟩]⟩
theorem qf_dnewT : QF X W E1 (.Dict [] [] pos) uDNewT := ⟨_, pe_dnewT, fun F M H σ ρ Q1 Q S hx t q p hp =>
  q (.ref p) _ (p :: M) _ (.cls p) (S.newMu (m := .dt []) hp ⟨[], upd_same, rfl, rfl⟩) (fun d0 v0 r0 => Rp.same (same_new hp _) (fun a ha hm => mem_out hp ha hm) _ _ r0) rfl (t p)⟩
def tupK (ns : List Int) : List Key := ns.map .inl
theorem tupK_V (ns : List Int) : ns.map V.int = (tupK ns).map kV := by simp [tupK, kV, List.map_map, Function.comp_def]
/-- d.get(tuple(xs), z) -/
@[simp] abbrev uDGet2T (t u v : TE1) : TE1 := fun ρ Q => t ρ fun d => ∃ (a : Addr) (n : Nat) (w : Bool) (kvs : TD), d = .cls a ∧ ρ.mu[n]? = some (En.mk a w (.dt kvs)) ∧ u ρ fun e => ∃ ns : List Int, e = .lst (iL ns) ∧ v ρ fun z => Q ((valT kvs (tupK ns)).getD z)
theorem q_dget2T (hu : X.A.units + 1 < cLine) (hg : Gl X "tuple") (hm : X.mg "tuple" = none) (ho : QE X W E1 o t) (he : QE X W E1 e u) (hf : QE X W E1 f tv) (mm : M2 X o "get" apos (.Call (.Name "tuple" p) [e] [] p2) f cpos) (hst : starEach [e] X.env = [(false, eval e X.env)] := by rfl) :
    QE X W E1 (.Call (.Attribute o "get" apos) [.Call (.Name "tuple" p) [e] [] p2, f] [] cpos) (uDGet2T t u tv) := by
  obtain ⟨te, h1, i1⟩ := ho
  obtain ⟨tr, h2, i2⟩ := he
  obtain ⟨t3, h3, i3⟩ := hf
  refine ⟨_, pe_dget2 hu h1 (pe_callTy (pos := p2) (p := p) call_tuple_of hg hm (by decide +kernel) (pa_cons h2 pa_nil (by rw [hst]; rfl)) (by decide) (by decide) (by rw [hst]; rfl) (by rfl)) h3 mm, fun F M H σ ρ Q1 Q S hx t q => ?_⟩
  refine i1 F M H σ ρ _ _ S hx t fun v H1 d e1 r1 ⟨a, n, w, kvs, ed, em, t1⟩ => ?_
  subst ed
  cases r1
  obtain ⟨_, vs0, ha0, _⟩ := (S.same e1).dt em
  refine ⟨a, rfl, .inr ⟨vs0, .inl ha0⟩, ?_⟩
  refine i2 F M H1 σ ρ _ _ (S.same e1) hx t1 fun y H2 d2 e2 r2 ⟨ns, ed, t2⟩ => ?_
  subst ed
  obtain ⟨l, ys, rfl, hl, g2⟩ := r2
  have ey := ints_rp g2
  subst ey
  refine ⟨l, _, rfl, .inl ⟨hl.sq, fun b hb => ?_⟩⟩
  have e3 := same_new hb (.tup (ns.map V.int))
  refine i3 F M _ σ ρ _ _ (((S.same e1).same e2).same e3) hx t2 fun z H4 d4 e4 r4 t4 => ?_
  have S4 := (((S.same e1).same e2).same e3).same e4
  obtain ⟨_, vs, ha, kt⟩ := S4.dt em
  have hb4 : H4 b = some (.tup ((tupK ns).map kV)) := by rw [← tupK_V]; exact e4 _ _ upd_same
  refine ⟨_, DGet.t ha hb4, ?_⟩
  have ee := e1.trans (e2.trans (e3.trans e4))
  rcases kt.val (k := tupK ns) with ⟨z', v', g1, g2, g3⟩ | ⟨g1, g2⟩
  · rw [g1] at t4; rw [g2]
    exact q _ H4 z' ee g3 t4
  · rw [g1] at t4; rw [g2]
    exact q _ H4 d4 ee r4 t4
/-- d[tuple(xs)] = z -/
@[simp] abbrev uDPutT (t u tv : TE1) : TS1 := fun D1 ρ => tv ρ fun z => t ρ fun d => u ρ fun e => ∃ (a : Addr) (n : Nat) (kvs : TD) (ns : List Int), d = .cls a ∧ ρ.mu[n]? = some (En.mk a true (.dt kvs)) ∧ e = .lst (iL ns) ∧ kvs.length ≤ 1000 ∧ D1.nx (ρ.setMu n (.dt (putT kvs (tupK ns) z)))
theorem qs_dputT (hu : X.A.units + 1 < cLine) (hg : Gl X "tuple") (hm : X.mg "tuple" = none) (ho : QE X W E1 o t) (hi : QE X W E1 e u) (hv : QE X W E1 f tv) (hst : starEach [e] X.env = [(false, eval e X.env)] := by rfl) (hs : swapsWith f (some (.Subscript o (.Call (.Name "tuple" p) [e] [] p2) pos')) pos.line X.env = pure false := by rfl) :
    QS X W E1 (.Assign [.Subscript o (.Call (.Name "tuple" p) [e] [] p2) pos'] f pos) (uDPutT t u tv) := by
  obtain ⟨te, h1, i1⟩ := ho
  obtain ⟨tr, h2, i2⟩ := hi
  obtain ⟨t3, h3, i3⟩ := hv
  refine ⟨_, ps_dput hu h1 (pe_callTy (pos := p2) (p := p) call_tuple_of hg hm (by decide +kernel) (pa_cons h2 pa_nil (by rw [hst]; rfl)) (by decide) (by decide) (by rw [hst]; rfl) (by rfl)) h3 hs, fun F M H σ ρ D1 D S hx t k => ?_⟩
  refine i3 F M H σ ρ _ _ S hx t fun y H1 z e1 ry t1 => ?_
  refine i1 F M H1 σ ρ _ _ (S.same e1) hx t1 fun x H2 d e2 rx t2 => ?_
  refine i2 F M H2 σ ρ _ _ ((S.same e1).same e2) hx t2 fun w H3 d2 e3 r2 ⟨a, n, kvs, ns, ed, em, ek, hl, t3⟩ => ?_
  subst ed ek
  cases rx
  obtain ⟨l, ys, rfl, hl2, g2⟩ := r2
  have ey := ints_rp g2
  subst ey
  refine ⟨l, _, rfl, .inl ⟨hl2.sq, fun b hb => ?_⟩⟩
  have e4 := same_new hb (.tup (ns.map V.int))
  have S4 := (((S.same e1).same e2).same e3).same e4
  obtain ⟨hmm, vs, ha, kt⟩ := S4.dt em
  have hb4 : (upd H3 b (.tup (ns.map V.int))) b = some (.tup ((tupK ns).map kV)) := by rw [← tupK_V]; exact upd_same
  refine ⟨a, _, rfl, DPut.t ha hb4 (small1000 (by rw [kt.len]; exact hl)), k.nx M _ σ _ (S4.chgMu (m' := .dt (putT kvs (tupK ns) z)) em rfl ?_) t3⟩
  have kt2 := (kt.put (k := tupK ns) (same_rp (e2.trans (e3.trans e4)) ry)).updM (u := .dT (putK vs (tupK ns) y)) hmm ha rfl
  exact ⟨_, upd_same, kt2.ks, kt2.rp⟩
end
end DL

set_option maxRecDepth 100000
set_option maxHeartbeats 4000000
/-! The data layer: type(x) is not T, isinstance of an own class, repr of a list of bytes. -/
namespace DL
open PySem PySem.Spec L2 DFm
section
variable {K : PySem.W.Frag}
@[simp] abbrev fNotTy : F2 := fun d e Q => ∃ a b, d = .ty a ∧ e = .ty b ∧ Q (.bl (!decide (a = b)))
theorem i_notTy : OpI K rNT fNotTy := by
  rintro H L d1 d2 v1 v2 Q1 Q hL r1 r2 ⟨a, b, rfl, rfl, t⟩ q
  cases r1; cases r2
  exact ⟨a, b, rfl, rfl, q _ H (.bl _) (Same.refl H) rfl t⟩
@[simp] abbrev fIsC (C : Addr) : List D → (D → Prop) → Prop := fun ds Q => ∃ ns fs, ds = [.ob C ns fs, .cls C] ∧ Q (.bl true)
theorem i_isC {C : Addr} : CallI K (fun xs H Q => ∃ a dx fs, xs = [.ref a, .ref C] ∧ H a = some (.ins C dx fs) ∧ Q (.bl true) H) (fIsC C) := by
  rintro H L ds vs Q1 Q hL r ⟨ns, fs, rfl, t⟩ q
  obtain ⟨x, r', rfl, h1, y, r2, rfl, h2, h3⟩ := r
  cases h3; cases h2
  obtain ⟨a, dx, vs, rfl, ha, _⟩ := h1
  exact ⟨a, dx, vs, rfl, ha, q _ H (.bl true) (Same.refl H) rfl t⟩
end
/-! repr -/
def byteD (ns : List Nat) : List D := ns.map fun n => .int (n : Nat)
def reprB (ns : List Nat) : Str := (D.lst (byteD ns)).py.shown
theorem pys_bytes : ∀ ns : List Nat, pys (byteD ns) = ns.map fun n => PyData.int (n : Nat)
  | [] => rfl
  | n :: ns => by
    have := pys_bytes ns
    simp [byteD, pys, D.py] at this ⊢
    exact this
theorem figs (n : Nat) (h : n < 256) : ((toString ((n : Nat) : Int) : String) : Str).length ≤ 3 := by
  have : ∀ m : Fin 256, ((toString ((m.val : Nat) : Int) : String) : Str).length ≤ 3 := by decide +kernel
  exact this ⟨n, h⟩
theorem textFrom_le : ∀ (ts : List Str) (k : Nat) (acc : Str), (textFrom k acc ts).length ≤ acc.length + piled ts
  | [], k, acc => by show acc.length ≤ _; simp [piled]
  | t :: r, k, acc => by
    have h := textFrom_le r (k + 1) (acc ++ (if k > 0 then ", " else "" : String) ++ t)
    have e : (((if k > 0 then ", " else "" : String) : Str)).length ≤ 2 := by split <;> decide +kernel
    rw [piled_cons]
    rw [strLen_append, strLen_append] at h
    show (textFrom (k + 1) (acc ++ (if k > 0 then ", " else "" : String) ++ t) r).length ≤ _
    omega
theorem shownAll_bytes : ∀ ns : List Nat, PyData.shownAll (ns.map fun n => PyData.int (n : Nat)) = ns.map fun n => ((toString ((n : Nat) : Int) : String) : Str)
  | [] => by simp [PyData.shownAll]
  | n :: ns => by simp [PyData.shownAll, PyData.shown, shownAll_bytes ns]
theorem reprB_eq (ns : List Nat) : reprB ns = listText (ns.map fun n => ((toString ((n : Nat) : Int) : String) : Str)) := by
  show PyData.shown (.list (pys (byteD ns))) = _
  rw [PyData.shown, pys_bytes, shownAll_bytes]
theorem reprB_len {ns : List Nat} (h : ∀ n ∈ ns, n < 256) : (reprB ns).length ≤ 5 * ns.length + 2 := by
  rw [reprB_eq]
  unfold listText
  rw [strLen_append]
  have h1 := textFrom_le (ns.map fun n => ((toString ((n : Nat) : Int) : String) : Str)) 0 "["
  have h2 : piled (ns.map fun n => ((toString ((n : Nat) : Int) : String) : Str)) ≤ 5 * ns.length := by
    clear h1
    induction ns with
    | nil => simp [piled]
    | cons n ns ih =>
      have := figs n (h n (by simp))
      have := ih fun m hm => h m (by simp [hm])
      rw [List.map_cons, piled_cons, List.length_cons]
      omega
  have e1 : (("[" : String) : Str).length = 1 := by decide +kernel
  have e2 : (("]" : String) : Str).length = 1 := by decide +kernel
  omega
theorem ok_app {a b : Str} (ha : PyData.strOk a = true) (hb : PyData.strOk b = true) : PyData.strOk (a ++ b) = true := by
  unfold PyData.strOk at *
  rw [Str.cps_append, Array.all_append, ha, hb]
  rfl
theorem ok_lit (s : String) : PyData.strOk (Str.ofString s) = true := by
  unfold PyData.strOk
  rw [← Array.all_toList, List.all_eq_true]
  intro c hc
  have e := TL.tl_ofString s
  have e' : (Str.ofString s).cps.toList = s.toList.map Char.toNat := e
  rw [e'] at hc
  obtain ⟨x, _, rfl⟩ := List.mem_map.mp hc
  have h := x.valid
  simp only [UInt32.isValidChar, Nat.isValidChar] at h
  have : x.toNat = x.val.toNat := rfl
  exact decide_eq_true (by omega)
theorem ok_from : ∀ (ts : List Str) (k : Nat) (acc : Str), (∀ t ∈ ts, PyData.strOk t = true) → PyData.strOk acc = true → PyData.strOk (textFrom k acc ts) = true
  | [], _, _, _, h => h
  | t :: r, k, acc, ht, h => ok_from r (k + 1) _ (fun x hx => ht x (by simp [hx])) (ok_app (ok_app h (ok_lit _)) (ht t (by simp)))
theorem reprB_sh (ns : List Nat) : (D.str (reprB ns)).Sh := by
  have h : PyData.strOk (reprB ns) = true := by
    rw [reprB_eq]
    unfold listText
    refine ok_app (ok_from _ _ _ (fun t ht => ?_) (ok_lit _)) (ok_lit _)
    obtain ⟨n, _, rfl⟩ := List.mem_map.mp ht
    exact ok_lit _
  show SeqAt.shaped (.str (reprB ns)) = true
  unfold SeqAt.shaped
  simp [PyData.canLay0, PyData.depth, h]
theorem eqv_str (a : Str) : (D.str a).eqv (.str a) = true := by
  show PyData.eqv (.str a) (.str a) = true
  simp [PyData.eqv]
/-- comparable with little room -/
theorem sh_bytes (ns : List Nat) : (D.lst (byteD ns)).Sh := by
  have h1 : ∀ ns : List Nat, PyData.canLayAll0 (pys (byteD ns)) = true ∧ PyData.depthAll (pys (byteD ns)) = 0 := by
    intro ns
    induction ns with
    | nil => simp [byteD, pys, PyData.canLayAll0, PyData.depthAll]
    | cons n ns ih =>
      obtain ⟨a, b⟩ := ih
      simp [byteD, pys, D.py, PyData.canLayAll0, PyData.depthAll, PyData.canLay0, PyData.depth] at a b ⊢
      exact ⟨a, b⟩
  obtain ⟨a, b⟩ := h1 ns
  show SeqAt.shaped (.list (pys (byteD ns))) = true
  unfold SeqAt.shaped
  simp [PyData.canLay0, PyData.depth, a, b]
def rReprL (K : PySem.W.Frag) : List V → Hp → VK → Prop := fun xs H Q => ∃ (x : V) (ns : List Nat), xs = [x] ∧ (∃ a, x = .ref a) ∧ Dp K H x (D.lst (byteD ns)).py ∧ (∀ n ∈ ns, n < 256) ∧ ns.length ≤ 1000000 ∧ Q (.str (reprB ns)) H
theorem call_reprL {X : Cx} (hg : X.A.guards = some []) (hu : X.A.units + 65 < cLine) : CallR X (.builtin "repr") (rReprL X.K) := by
  intro pins s σ H xs us Q I r h
  obtain ⟨x, ns, rfl, ⟨a, rfl⟩, hd, hb, hl, q⟩ := h
  obtain ⟨u, rfl, ru⟩ := vals1 r
  obtain ⟨as, rd⟩ := Dp.reads I _ _ _ hd ru
  cases (show u = Value.ref a from ru)
  have sh := sh_bytes ns
  have hdep := SeqAt.depth_of_shaped sh
  have hs : (D.lst (byteD ns)).py.showable = true := by
    show PyData.showable (.list (pys (byteD ns))) = true
    rw [PyData.showable, pys_bytes]
    clear rd hd q sh hdep hl
    induction ns with
    | nil => simp [PyData.showableAll]
    | cons n ns ih =>
      have h1 := hb n (by simp)
      have h2 : n.log2 < 1920 := by
        have : ∀ m : Fin 256, m.val.log2 < 1920 := by decide +kernel
        exact this ⟨n, h1⟩
      simp [PyData.showableAll, PyData.showable, h2, ih fun m hm => hb m (by simp [hm])]
  have hn : (D.lst (byteD ns)).py.hasDict = false := PyData.hasDict_of_canLay _ (SeqAt.canLay_of_shaped sh)
  have hz : (reprB ns).length ≤ sizeLine := by
    have := reprB_len hb
    rw [sizeLine_eq]
    omega
  exact repr_of_reads' rd hs (fun z => by rw [hn] at z; cases z) hg (by omega) (fun _ _ e => e) (fun h' u' tk kp => ⟨.str (reprB ns), H, I.kept (t' := tk) kp, ⟨u', rfl⟩, q⟩) hz
@[simp] abbrev fReprL : List D → (D → Prop) → Prop := fun ds Q => ∃ ns : List Nat, ds = [.lst (byteD ns)] ∧ (∀ n ∈ ns, n < 256) ∧ ns.length ≤ 1000000 ∧ Q (.str (reprB ns))
theorem i_reprL {K : PySem.W.Frag} : CallI K (rReprL K) fReprL := by
  rintro H L ds vs Q1 Q hL r ⟨ns, rfl, hb, hl, t⟩ q
  obtain ⟨x, r', rfl, h1, h2⟩ := r
  cases h2
  have hd := Rp.dpS (sh_bytes ns) h1
  obtain ⟨a, xs, rfl, _⟩ := h1
  exact ⟨_, ns, rfl, ⟨a, rfl⟩, hd, hb, hl, q _ H (.str _) (Same.refl H) rfl t⟩
end DL

set_option maxRecDepth 100000
set_option maxHeartbeats 4000000
/-! The end for a law that shows a list: the law's def is asked where nothing is being shown, not wherever. -/
namespace DL
open PySem PySem.Spec L2 PyProof.Rows
/-- what the law's def does when the outermost caller asks it -/
def AtTop (P : Program) (w : World) (K : PySem.W.Frag) (mg : Str → Option Value) (base : Heap) (f : Addr) (n : Nat) : Prop := ∀ (s : Shared) (H : Hp) (a : Addr) (ns : List Int), Env0 P w K mg base callerA [] s H → ns.length ≤ n → SqL K H a (ns.map V.int) →
  codeAny (model P w) callerA (.call (.ref f) ⟨[.ref a], []⟩) (CR CX0 [] P w H s (fun v _ => v = .bl true) E0) s
theorem atTop {P : Program} {w : World} {K : PySem.W.Frag} {mg : Str → Option Value} {base : Heap} {y qual x : Str} {st : Stmt} {f : Addr} {fd : FuncData} {N : List Str} {k n : Nat} (Fn : Fun K y qual st f fd) (S : FnScope N [x] (defScope st)) (room : Room (k + 1) callerA) (bind : ∀ (s : Shared) (u : Value), BindsTo s fd ⟨[u], []⟩ [(x, u)])
    (body : ∀ (cdv : Value) (s : Shared) (H : Hp), Room k (callerA.deeper (PyProof.Rows.envOfC qual (defScope st) s.heap.objs.size f cdv)) →
      ∃ t, QSs (cxOf CX0 P w K mg base N qual (defScope st) f cdv callerA [] s H E0).nox noW noE (defBody st) t ∧ ∀ ns : List Int, ns.length ≤ n → t { nx := fun _ => False, rt := fun z _ => z = .bl true } (begun N.length [.lst (iL ns)])) : AtTop P w K mg base f n := by
  obtain ⟨oc, od, kV, doc, pm, an, cdv, ct, osl, rfl, lk, rec⟩ := Fn.ex
  intro s H a ns env short script
  obtain ⟨t, ⟨ts, run, imp⟩, wish⟩ := body cdv s H (room.deeper _)
  have data : RpAll K H [] [.lst (iL ns)] [V.ref a] := ⟨_, _, rfl, ⟨a, ns.map V.int, rfl, script.elim (fun z => .inl ⟨by simp, z⟩) .inr, rp_of_ints ns⟩, rfl⟩
  have goal := imp ⟨H, [], [], [], []⟩ [] H (start N [V.ref a]) _ _ { nx := fun _ _ => False, rt := fun v _ => v = V.bl true } (str_start (fun _ z => by simp at z) data) (fun _ _ _ _ _ _ z => z.elim) (wish ns short)
    ⟨fun _ _ _ _ _ z => z, fun _ _ _ _ v d _ r e => by subst e; exact r, fun _ _ _ _ _ z => z.elim, fun _ _ _ _ _ z => z.elim⟩
  have inK : K.In s.heap := env.mod.kin.keeps fun b o e => (env.bs b o e).1
  have far : s.heap.NoLimit := env.mod.nolimit.keeps fun b o e => (env.bs b o e).1
  have kinds : ∀ z ∈ [x].zip [Value.ref a], (defScope st).names.lookup z.1 = some .local ∨ ((defScope st).names.lookup z.1 = some .cell ∧ ((cellsFrom (s.heap.objs.size + 1) (defScope st).names []).lookup z.1).isSome = true) := fun z hz =>
    (S.par z.1 (List.of_mem_zip hz).1).imp id fun c => ⟨c, PySem.W.cellsFrom_some _ _ _ (.inl c)⟩
  refine codeAny_call_function room.depth (inK _ _ lk) rfl S.co S.gen rfl (PySem.W.codeRec_of inK rec) (bind s (.ref a) _ _ _ _ (wpAny_newFunctionEnv_cells S.kind kinds fun en ee s1 ic => ?_))
  subst ee
  refine ⟨far.keeps ic.toInCall.keep, codeAny_func (wpAny_mono (run.nox.run [] s1 (start N [V.ref a]) H _ (inv_start S room.hd env rfl (show Vals [V.ref a] [Value.ref a] from .cons rfl .nil) ic) goal) (fun fl s2 h => ?_) fun _ _ h => h)⟩
  cases fl with
  | ret u =>
    obtain ⟨v, σ, H2, J, rv, q⟩ := h
    exact ⟨v, H2, J.os, J.bare, J.base, J.hok, rv, q⟩
  | next => obtain ⟨_, _, _, q⟩ := h; exact q.elim
  | brk => obtain ⟨_, _, _, q⟩ := h; exact q.elim
  | cont => obtain ⟨_, _, _, q⟩ := h; exact q.elim
/-- the heap as it is told when the law is asked: the script alone, which nobody changes -/
structure Alone (P : Program) (w : World) (K : PySem.W.Frag) (h : Heap) (a : Addr) (vs : List Value) (ns : List Int) (H : Hp) : Prop where
  ok : HOk P w H h
  own : ∀ b, H b ≠ none → b = a ∧ K.lookup a = none
  seq : SqL K H a (ns.map V.int)
  frz : ∀ b u, H b = some u → ∃ o xs, u = .frz o (.lst xs)
theorem alone {P : Program} {w : World} {K : PySem.W.Frag} {h : Heap} {a : Addr} {vs : List Value} {ns : List Int} (KX : K.In h) (ha : h.get? a = some { cls := .type "list", data := .seq vs.toArray }) (hi : IntsAre vs ns) (hl : ns.length ≤ sizeLine) : ∃ H, Alone P w K h a vs ns H := by
  have rv := vals_ints hi
  cases hk : K.lookup a with
  | some o =>
    have e := ha.symm.trans (KX a o hk)
    cases e
    have no : ∀ {u : HO}, (none : Option HO) = some u → False := fun z => by cases z
    exact ⟨fun _ => none, fun b u z => (no z).elim, fun b z => absurd rfl z, .inr ⟨_, vs.toArray, _, hk, rfl, rfl, rfl, by rw [List.size_toArray, hi.length]; exact hl, by simpa using rv⟩, fun b u z => (no z).elim⟩
  | none =>
    have one : ∀ {b : Addr} {u : HO}, (if b = a then some (HO.frz { cls := .type "list", data := .seq vs.toArray } (.lst (ns.map V.int))) else none) = some u → b = a ∧ u = HO.frz { cls := .type "list", data := .seq vs.toArray } (.lst (ns.map V.int)) := fun {b u} z => by
      by_cases e : b = a
      · rw [if_pos e] at z; exact ⟨e, (Option.some.inj z).symm⟩
      · rw [if_neg e] at z; cases z
    refine ⟨fun b => if b = a then some (HO.frz { cls := .type "list", data := .seq vs.toArray } (.lst (ns.map V.int))) else none, fun b u z => ?_, fun b z => ?_, .inl (.inr ⟨_, if_pos rfl⟩), fun b u z => ⟨_, _, (one z).2⟩⟩
    · obtain ⟨rfl, rfl⟩ := one z
      exact ⟨ha, by rw [List.length_map]; exact hl, vs, _, rv, ha⟩
    · by_cases e : b = a
      · exact ⟨e, hk⟩
      · exact absurd (if_neg e) z
theorem top_end {P : Program} {w : World} {K : PySem.W.Frag} {mg mb : Str → Option Value} {fa a : Addr} {s : Shared} {vs : List Value} {ns : List Int} {n : Nat} (KX : K.In s.heap) (gl : s.heap.Ns mainGlobals mg) (bt : s.heap.Ns builtinsNs mb) (boot : ∀ x : Str, x ≠ "__name__" → mb x = bootBuiltins x) (lim : s.heap.NoLimit) (gens : s.gens = #[])
    (ha : s.heap.get? a = some { cls := .type "list", data := .seq vs.toArray }) (hi : IntsAre vs ns) (hl : ns.length ≤ n) (hn : n ≤ sizeLine) (F : ∀ base : Heap, K.In base → base.Ns mainGlobals mg → AtTop P w K mg base fa n) :
    codeAny (model P w) callerA (.call (.ref fa) ⟨[.ref a], []⟩) (fun r s' => r = .ok (.ret (.bool true)) ∧ OldK s.heap s'.heap ∧ s'.os = s.os ∧ AllBare s'.gens) s := by
  obtain ⟨H, A⟩ := alone (P := P) (w := w) KX ha hi (Nat.le_trans hl hn)
  -- what is no list of ints is not the script
  have bare : ∀ {b : Addr} {o : Obj}, s.heap.get? b = some o → (b = a → K.lookup a = none → False) → H b = none := fun {b o} e z => by
    cases q : H b with
    | none => rfl
    | some u => exact (z (A.own b (by rw [q]; simp)).1 (A.own b (by rw [q]; simp)).2).elim
  have hid : ∀ {b : Addr} {m : Str → Option Value}, s.heap.Ns b m → (hidT s.heap H).Ns b m := fun {b m} ⟨o, es, ep, e, d, r⟩ => ⟨o, es, ep, hidT_get e (bare e fun z _ => by
    subst z
    have e' := ha.symm.trans e
    cases e'
    exact nomatch (show Data.seq vs.toArray _ = Data.dict es ep from d)), d, r⟩
  have inK : K.In (hidT s.heap H) := fun b o e => hidT_get (KX b o e) (bare (KX b o e) fun z c => by subst z; rw [c] at e; cases e)
  obtain ⟨ml, l1, l2⟩ := lim
  have mod : Mod K mg (hidT s.heap H) := ⟨inK, hid gl, ⟨mb, hid bt, boot⟩, ml, hid l1, l2⟩
  have env : Env0 P w K mg (hidT s.heap H) callerA [] s H := ⟨rfl, mod, fun b o e => of_hidT e, Nat.le_of_eq (hidT_size _ _), trivial, fun b hb => absurd (show b ∈ ([] : List Addr) from hb) (by simp), A.ok, .of_eq gens⟩
  refine codeAny_mono (F _ inK (hid gl) s H a ns env hl A.seq) fun r s' h => ?_
  match r, h with
  | .ok (.ret u), ⟨v, H', e1, e2, un, ok', rv, q⟩ =>
    have q' : v = V.bl true := q
    subst q'
    cases (show u = Value.bool true from rv)
    refine ⟨rfl, OldK.of_keep fun b o e => ?_, e1, e2⟩
    cases z : H b with
    | none => exact un.keep b o e z (fun y => absurd (show b ∈ ([] : List Addr) from y) (by simp)) (by simp)
    | some u =>
      obtain ⟨ob, xs, rfl⟩ := A.frz b u z
      have k1 := (A.ok b _ z).1
      have k2 := (ok' b _ (un.frzs b ob _ z)).1
      cases e.symm.trans k1
      exact k2
theorem endG {l : PySem.W.OpenLaw} {n : Nat} {q : Program} {loose : List Str} {XP : (Str → Option Value) → Heap → Prop} {YP : World → Heap → Prop} {d : DefRec} {K : Params → PySem.W.Frag} (hn : l.most = some n) (hz : n ≤ sizeLine) (hdf : d.params.defaults = []) (hY : ∀ (w : World) (h : Heap), YP w h → (K w.params).In h)
    (F : ∀ (w : World) (mg : Str → Option Value) (fa : Addr) (h : Heap), (K w.params).In h → h.Ns mainGlobals mg → mg d.name = some (.ref fa) → ∀ base : Heap, (K w.params).In base → base.Ns mainGlobals mg → AtTop l.prog w (K w.params) mg base fa n) : PySem.W.WalkO q loose XP YP l.row.toRowW d [] (fun f vs => PySem.call f vs) :=
  Att.attach_callB hn hdf fun w s0 s1 mg mb fa o pm cd doc a vs ns G Y ho hd hcd hmg hobj hints hlen hbits hg =>
    top_end (hY w _ Y) G.T.g G.T.b G.T.builtins G.T.nolimit hg hobj hints hlen hz (F w mg fa _ (hY w _ Y) G.T.g hmg)
end DL

set_option maxRecDepth 100000
set_option maxHeartbeats 4000000
/-! Defs that call themselves many hundred deep: one frame a call, and no more. -/
namespace DL
open PySem PySem.Spec L2 PyProof.Rows
structure RoomD (d : Nat) (A : Around) : Prop where
  hd : A.handled = none
  dp : A.depth + d + 45 < recursionLimit
  un : A.units + 3 * d + 500 < cLine
theorem RoomD.deeper {d : Nat} {A : Around} (r : RoomD (d + 1) A) (env : Env) : RoomD d (A.deeper env) := ⟨r.hd, by have := r.dp; show A.depth + 1 + d + 45 < _; omega, by have := r.un; show A.units + 3 + 3 * d + 500 < _; omega⟩
theorem RoomD.room {d : Nat} {A : Around} (r : RoomD d A) : Room 10 A := ⟨r.hd, by have := r.dp; omega, by have := r.un; omega⟩
theorem roomD_of {d k : Nat} {A : Around} (r : Room k A) (h1 : d + 45 ≤ 3 * k + 5) (h2 : 3 * d + 500 ≤ 16 * k + 200) : RoomD d A := ⟨r.hd, by have := r.dp; omega, by have := r.un; omega⟩
/-- what a def does that may be asked where so many calls are left -/
def FnD (P : Program) (w : World) (K : PySem.W.Frag) (mg : Str → Option Value) (base : Heap) (d : Nat) (f : Addr) (fd : FuncData) (ps : List Str) (R : List D → Re → Prop) : Prop := ∀ (A : Around) (outer : List Env) (s : Shared) (H : Hp) (args : Args) (us : List Value) (vs : List V) (Q : VK), RoomD d A → Env0 P w K mg base A outer s H → BindsTo s fd args (ps.zip us) → Vals vs us → spD K R vs H Q E0 →
  codeAny (model P w) A (.call (.ref f) args) (CR CX0 outer P w H s Q E0) s
structure CalD (P : Program) (w : World) (K : PySem.W.Frag) (mg : Str → Option Value) (base : Heap) (d : Nat) (x : Str) (ps : List Str) (R : List D → Re → Prop) : Prop where
  len : ∀ ds r, R ds r → ds.length = ps.length ∧ ∃ z, r = .ok z
  ex : ∃ (f : Addr) (fd : FuncData), FnD P w K mg base d f fd ps R ∧ Binds K fd ps [] ∧ PySem.W.keepIn K (.ref f) = true ∧ mg x = some (.ref f)
section
variable {P : Program} {w : World} {K : PySem.W.Frag} {mg : Str → Option Value} {base : Heap} {X : Cx} {W : WX} {E1 : E1T} {a : Expr} {es : List Expr} {pos p : Pos}
/-- as a def that is asked with room enough -/
theorem CalD.cal {d k : Nat} {x : Str} {ps : List Str} {R : List D → Re → Prop} (G : CalD P w K mg base d x ps R) (h1 : d + 45 ≤ 3 * k + 5) (h2 : 3 * d + 500 ≤ 16 * k + 200) : Cal P w K mg base CX0 k x ps R := by
  obtain ⟨f, fd, F, b, kp, m⟩ := G.ex
  refine ⟨f, fd, ⟨fun vs H Q E h => ?_, fun A outer s H args us vs Q E hr e0 hb rv h => ?_⟩, b, kp, m⟩
  · obtain ⟨L, ds, r, hL, ra, hR, _⟩ := h
    rw [ra.length]
    exact (G.len ds r hR).1
  · obtain ⟨L, ds, r, hL, ra, hR, qo, qe⟩ := h
    obtain ⟨_, z, rfl⟩ := G.len ds r hR
    refine codeAny_mono (F A outer s H args us vs Q (roomD_of hr h1 h2) e0 hb rv ⟨L, ds, .ok z, hL, ra, hR, qo, fun C H' e => nomatch e⟩) fun r' s' q => ?_
    match r', q with
    | .ok (.ret u), q => exact q
theorem q_calD {d : Nat} {x : Str} {ps : List Str} {R : List D → Re → Prop} {t : TA1} (G : CalD X.prog X.w X.K X.mg X.base d x ps R) (hd : RoomD d X.A) (hg : Gl X x) (ha : QA X W E1 (a :: es) t)
    (hdb : (x == ("__debug__" : Str)) = false := by decide) (he : starEach (a :: es) X.env = (false, eval a X.env) :: starEach es X.env := by rfl) (hpl : (backTo pos (starEach es X.env)).any (·.1) = false := by rfl) :
    QE X W E1 (.Call (.Name x p) (a :: es) [] pos) (uDef0 (fun ds d => R ds (.ok d)) t) := by
  obtain ⟨f, fd, F, b, kp, m⟩ := G.ex
  obtain ⟨te, h1, i1⟩ := ha
  have call : PE X (.Call (.Name x p) (a :: es) [] pos) (fun σ H Q => te σ H fun vs H1 => spD X.K R vs H1 Q E0) := by
    refine ⟨fun pins s σ H Q I h => wpAny_Call_Name_kw (ld_glob I hg m ?_ hdb)⟩
    refine PySem.W.callWith_K (h₀ := X.base) I.ok.mod.kin kp (thn (h1.run pos pins s σ H _ I h) fun us s1 ⟨vs, H1, I1, r, q⟩ => ⟨I1.kIn, ?_⟩) he hpl
    have hl : (us ++ []).length = ps.length := by
      obtain ⟨L, ds, z, _, ra, hR, _⟩ := q
      rw [List.append_nil, ← r.length, ra.length]
      exact (G.len ds z hR).1
    have bd := b s1 us I1.kIn hl
    rw [List.append_nil] at bd
    refine wpAny_call (codeAny_mono (F X.A X.stack s1 H1 ⟨us, []⟩ us vs Q hd I1.env0 (by simpa using bd) r q) fun r' s' hq => ?_)
    match r', hq with
    | .ok (.ret u), hq => exact I1.after hq
  refine ⟨_, call, fun F M H σ ρ Q1 Q S hx t q => ?_⟩
  refine i1 F M H σ ρ _ _ S hx t fun v H1 d e1 r1 ⟨z, hz, t1⟩ => ?_
  exact ⟨M ++ F.L0, d, .ok z, (S.same e1).all, r1, hz, fun d' v' H' e0 e2 r2 => by cases e0; exact q v' H' z (e1.trans e2) r2 t1, fun C H' e0 => nomatch e0⟩
theorem Dfn.okDD {d : Nat} {x : Str} {st : Stmt} {N ps : List Str} {R : List D → Re → Prop} (Df : Dfn K mg x st ps) (S : FnScope N ps (defScope st)) (len : ∀ ds r, R ds r → ds.length = ps.length ∧ ∃ z, r = .ok z)
    (body : ∀ (y : Str) (f : Addr) (cdv : Value) (A : Around) (outer : List Env) (s : Shared) (H : Hp) (E : XK), Room 10 (A.deeper (PyProof.Rows.envOfC y (defScope st) s.heap.objs.size f cdv)) → RoomD d (A.deeper (PyProof.Rows.envOfC y (defScope st) s.heap.objs.size f cdv)) →
      ∃ t, QSs (cxOf CX0 P w K mg base N y (defScope st) f cdv A outer s H E).nox noW noE (defBody st) t ∧
        ∀ ds r, R ds r → ∃ z, r = .ok z ∧ t { nx := fun _ => D.non = z, rt := fun u _ => u = z } (begun N.length ds)) : CalD P w K mg base (d + 1) x ps R := by
  obtain ⟨y, f, fd, Fn, b, m⟩ := Df.ex
  refine ⟨len, f, fd, ?_, b, Fn.kp, m⟩
  obtain ⟨oc, od, kV, doc, pm, an, cdv, ct, osl, rfl, lk, rec⟩ := Fn.ex
  intro A outer s H args us vs Q room env bind rv want
  obtain ⟨L, ds, r, hL, ra, hR, qo, _⟩ := want
  obtain ⟨hlen, z, rfl⟩ := len ds r hR
  obtain ⟨t, ⟨ts, run, imp⟩, wish⟩ := body y f cdv A outer s H E0 (room.deeper _).room (room.deeper _)
  obtain ⟨z', ez, t1⟩ := wish ds (.ok z) hR
  cases ez
  have lv : vs.length = ps.length := by rw [ra.length]; exact hlen
  have goal := imp ⟨H, L, [], [], []⟩ [] H (start N vs) _ _ { nx := fun _ H' => Q .non H', rt := Q } (str_start hL ra) (fun _ _ _ _ _ _ y => y.elim) t1
    ⟨fun _ H' _ _ S' e => qo z .non H' rfl S'.ext.nil (by rw [← show D.non = z from e]; rfl), fun _ H' _ _ v u S' r1 e => by cases (show u = z from e); exact qo z v H' rfl S'.ext.nil (same_no r1), fun _ _ _ _ _ y => y.elim, fun _ _ _ _ _ y => y.elim⟩
  have inK : K.In s.heap := env.mod.kin.keeps fun b o e => (env.bs b o e).1
  have far : s.heap.NoLimit := env.mod.nolimit.keeps fun b o e => (env.bs b o e).1
  have kinds : ∀ z ∈ ps.zip us, (defScope st).names.lookup z.1 = some .local ∨ ((defScope st).names.lookup z.1 = some .cell ∧ ((cellsFrom (s.heap.objs.size + 1) (defScope st).names []).lookup z.1).isSome = true) := fun z hz =>
    (S.par z.1 (List.of_mem_zip (show (z.1, z.2) ∈ ps.zip us from hz)).1).imp id fun c => ⟨c, PySem.W.cellsFrom_some _ _ _ (.inl c)⟩
  refine codeAny_call_function (room.room.depth) (inK _ _ lk) rfl S.co S.gen rfl (PySem.W.codeRec_of inK rec) (bind _ _ _ _ (wpAny_newFunctionEnv_cells S.kind kinds fun en ee s1 ic => ?_))
  subst ee
  refine ⟨far.keeps ic.toInCall.keep, codeAny_func (wpAny_mono (run.nox.run [] s1 (start N vs) H _ (inv_start S room.hd env lv rv ic) goal) (fun fl s2 h => ?_) fun _ _ h => h)⟩
  cases fl with
  | ret u =>
    obtain ⟨v, σ, H2, J, rv2, q⟩ := h
    exact ⟨v, H2, J.os, J.bare, J.base, J.hok, rv2, q⟩
  | next =>
    obtain ⟨σ, H2, J, q⟩ := h
    exact ⟨V.non, H2, J.os, J.bare, J.base, J.hok, rfl, q⟩
  | brk => obtain ⟨_, _, _, q⟩ := h; exact q.elim
  | cont => obtain ⟨_, _, _, q⟩ := h; exact q.elim
theorem Dfn.noneD {x : Str} {st : Stmt} {ps : List Str} {R : List D → Re → Prop} (Df : Dfn K mg x st ps) (no : ∀ ds r, ¬ R ds r) : CalD P w K mg base 0 x ps R := by
  obtain ⟨y, f, fd, Fn, b, m⟩ := Df.ex
  exact ⟨fun ds r h => absurd h (no ds r), f, fd, fun A outer s H args us vs Q _ _ _ _ ⟨L, ds, r, _, _, h, _⟩ => absurd h (no ds r), b, Fn.kp, m⟩
end
end DL

set_option maxRecDepth 100000
set_option maxHeartbeats 4000000
/-! What the law reads of a row by itself is what the program reads. -/
namespace DL
open PySem PySem.Spec L2 DFm
theorem readO_more : ∀ {f g : Nat} {l : List Bool} {p : Own × List Bool}, f ≤ g → readO f l = some p → readO g l = some p
  | 0, _, _, _, _, h => by simp [readO] at h
  | f + 1, 0, _, _, hg, _ => by omega
  | f + 1, g + 1, [], _, _, h => by simp [readO] at h
  | f + 1, g + 1, [_], _, _, h => by simp [readO] at h
  | f + 1, g + 1, a :: b :: r, p, hg, h => by
    rw [readO_step] at h ⊢
    split
    · rename_i c
      rw [if_pos c] at h
      exact h
    · rename_i c
      rw [if_neg c] at h
      obtain ⟨x, h1, h⟩ := Option.bind_eq_some_iff.mp h
      obtain ⟨y, h2, h⟩ := Option.bind_eq_some_iff.mp h
      have g1 : (if a = true then readO g r else some (.lf false, r)) = some x := by
        cases a
        · exact h1
        · exact readO_more (f := f) (by omega) (by simpa using h1)
      have g2 : (if b = true then readO g x.2 else some (.lf false, x.2)) = some y := by
        cases b
        · exact h2
        · exact readO_more (f := f) (by omega) (by simpa using h2)
      rw [g1]
      show (if b = true then readO g x.2 else some (.lf false, x.2)).bind _ = _
      rw [g2]
      exact h
theorem readO_low : ∀ {f g : Nat} {l : List Bool} {p : Own × List Bool}, p.1.depth < g → readO f l = some p → readO g l = some p
  | 0, _, _, _, _, h => by simp [readO] at h
  | f + 1, 0, _, _, hg, _ => by omega
  | f + 1, g + 1, [], _, _, h => by simp [readO] at h
  | f + 1, g + 1, [_], _, _, h => by simp [readO] at h
  | f + 1, g + 1, a :: b :: r, p, hg, h => by
    rw [readO_step] at h ⊢
    split
    · rename_i c
      rw [if_pos c] at h
      exact h
    · rename_i c
      rw [if_neg c] at h
      obtain ⟨x, h1, h⟩ := Option.bind_eq_some_iff.mp h
      obtain ⟨y, h2, h⟩ := Option.bind_eq_some_iff.mp h
      cases h
      simp only [Own.depth] at hg
      have g1 : (if a = true then readO g r else some (.lf false, r)) = some x := by
        cases a
        · exact h1
        · exact readO_low (f := f) (by omega) (by simpa using h1)
      have g2 : (if b = true then readO g x.2 else some (.lf false, x.2)) = some y := by
        cases b
        · exact h2
        · exact readO_low (f := f) (by omega) (by simpa using h2)
      rw [g1]
      show (if b = true then readO g x.2 else some (.lf false, x.2)).bind _ = _
      rw [g2]
      rfl
theorem readT_step' (f : Nat) (a : Bool) (r : List Bool) : readT (f + 1) (a :: r) = (readN r).bind fun p => if a = true then some (.n p.1, p.2) else (readT f p.2).bind fun q => (readT f q.2).bind fun s => some (.t p.1 q.1 s.1, s.2) := rfl
theorem readT_more : ∀ {f g : Nat} {l : List Bool} {p : Told × List Bool}, f ≤ g → readT f l = some p → readT g l = some p
  | 0, _, _, _, _, h => by simp [readT] at h
  | f + 1, 0, _, _, hg, _ => by omega
  | f + 1, g + 1, [], _, _, h => by simp [readT] at h
  | f + 1, g + 1, a :: r, p, hg, h => by
    rw [readT_step'] at h ⊢
    obtain ⟨x, h1, h⟩ := Option.bind_eq_some_iff.mp h
    rw [h1]
    show (if a = true then some (Told.n x.1, x.2) else (readT g x.2).bind fun q => (readT g q.2).bind fun s => some (Told.t x.1 q.1 s.1, s.2)) = _
    cases a
    · obtain ⟨y, h2, h⟩ := Option.bind_eq_some_iff.mp (by simpa using h)
      obtain ⟨z, h3, h⟩ := Option.bind_eq_some_iff.mp h
      show (readT g x.2).bind _ = _
      rw [readT_more (g := g) (by omega) h2]
      show (readT g y.2).bind _ = _
      rw [readT_more (g := g) (by omega) h3]
      exact h
    · exact h
theorem readT_low : ∀ {f g : Nat} {l : List Bool} {p : Told × List Bool}, p.1.depth < g → readT f l = some p → readT g l = some p
  | 0, _, _, _, _, h => by simp [readT] at h
  | f + 1, 0, _, _, hg, _ => by omega
  | f + 1, g + 1, [], _, _, h => by simp [readT] at h
  | f + 1, g + 1, a :: r, p, hg, h => by
    rw [readT_step'] at h ⊢
    obtain ⟨x, h1, h⟩ := Option.bind_eq_some_iff.mp h
    rw [h1]
    show (if a = true then some (Told.n x.1, x.2) else (readT g x.2).bind fun q => (readT g q.2).bind fun s => some (Told.t x.1 q.1 s.1, s.2)) = _
    cases a
    · obtain ⟨y, h2, h⟩ := Option.bind_eq_some_iff.mp (by simpa using h)
      obtain ⟨z, h3, h⟩ := Option.bind_eq_some_iff.mp h
      cases h
      simp only [Told.depth] at hg
      show (readT g x.2).bind _ = _
      rw [readT_low (g := g) (by omega) h2]
      show (readT g y.2).bind _ = _
      rw [readT_low (g := g) (by omega) h3]
      rfl
    · exact h
/-- what the law tells of a row, by its own going -/
def dueN (ns : List Nat) : Option (Own × Told) := match readO 400 (bitsOf ns) with
  | none => none
  | some p => match readT 400 p.2 with
    | none => none
    | some q => if 40 ≤ p.1.depth ∨ 40 ≤ q.1.depth then none else if (p.1.isLeast && q.1.isLeast) = false then none else if packN p.1 q.1 = ns then some (p.1, q.1) else none
theorem due_is (ns : List Nat) : dueN ns = unpackN ns := by
  unfold dueN unpackN
  cases hO : readO 400 (bitsOf ns) with
  | none =>
    cases h : readO 40 (bitsOf ns) with
    | none => rfl
    | some p => rw [readO_more (by omega) h] at hO; cases hO
  | some p =>
    by_cases hd : 40 ≤ p.1.depth
    · have h40 : readO 40 (bitsOf ns) = none := by
        cases h : readO 40 (bitsOf ns) with
        | none => rfl
        | some p' =>
          have e := readO_more (g := 400) (by omega) h
          rw [hO] at e
          cases e
          have := (readO_depth h).1
          omega
      rw [h40]
      show (match readT 400 p.2 with | none => none | some q => _) = none
      cases readT 400 p.2 with
      | none => rfl
      | some q => show (if _ then none else _) = none; rw [if_pos (.inl hd)]
    · rw [readO_low (g := 40) (by omega) hO]
      show _ = (readT 40 p.2).bind _
      cases hT : readT 400 p.2 with
      | none =>
        cases h : readT 40 p.2 with
        | none => simp [hT]
        | some q => rw [readT_more (by omega) h] at hT; cases hT
      | some q =>
        by_cases ht : 40 ≤ q.1.depth
        · have h40 : readT 40 p.2 = none := by
            cases h : readT 40 p.2 with
            | none => rfl
            | some q' =>
              have e := readT_more (g := 400) (by omega) h
              rw [hT] at e
              cases e
              have := (readT_ok h).2.1
              omega
          rw [h40]
          simp [hT, ht]
        · have hT40 := readT_low (g := 40) (by omega) hT
          rw [hT40]
          show (match readT 400 p.2 with | none => none | some q => _) = _
          rw [hT]
          show (if 40 ≤ p.1.depth ∨ 40 ≤ q.1.depth then none else if (p.1.isLeast && q.1.isLeast) = false then none else if packN p.1 q.1 = ns then some (p.1, q.1) else none) = if packN p.1.least q.1.least = ns then some (p.1.least, q.1.least) else none
          rw [if_neg (by omega)]
          have tok := (readT_ok hT).1
          cases hl : p.1.isLeast && q.1.isLeast with
          | true =>
            rw [Bool.and_eq_true] at hl
            rw [if_neg (by decide), Own.least_id _ hl.1, Told.least_id tok hl.2]
          | false =>
            rw [if_pos rfl]
            by_cases he : packN p.1.least q.1.least = ns
            · exfalso
              obtain ⟨k, ek⟩ := packN_bits p.1.least q.1.least
              rw [he] at ek
              have d1 := Own.least_depth p.1
              have d2 := Told.least_depth q.1
              have e1 := readO_bits 400 p.1.least (q.1.least.bits ++ List.replicate k false) (by omega)
              rw [← List.append_assoc, ← ek, hO] at e1
              have e2 := readT_bits 400 q.1.least (List.replicate k false) (Told.least_ok tok) (by omega)
              have e3 : p = (p.1.least, q.1.least.bits ++ List.replicate k false) := Option.some.inj e1
              have e4 : p.2 = q.1.least.bits ++ List.replicate k false := congrArg Prod.snd e3
              rw [← e4, hT] at e2
              have e5 : q.1 = q.1.least := congrArg Prod.fst (Option.some.inj e2)
              have e6 : p.1 = p.1.least := congrArg Prod.fst e3
              have i1 := Own.least_isLeast p.1
              have i2 := Told.least_isLeast q.1
              rw [← e6] at i1
              rw [← e5] at i2
              rw [i1, i2] at hl
              cases hl
            · rw [if_neg he]
/-! ### chains -/
def cR : Nat → Own
  | 0 => .lf true
  | k + 1 => .nd (.lf false) (cR k)
def cL : Nat → Own
  | 0 => .lf true
  | k + 1 => .nd (cL k) (.lf false)
def cB : Nat → Own
  | 0 => .nd (.lf true) (.lf false)
  | k + 1 => .nd (.lf true) (cB k)
def tR : Nat → Told
  | 0 => .n 1
  | k + 1 => .t 0 (.n 0) (tR k)
def tL : Nat → Told
  | 0 => .n 1
  | k + 1 => .t 0 (tL k) (.n 0)
def reps (k : Nat) (l : List Bool) : List Bool := (List.replicate k l).flatten
theorem reps_succ (k : Nat) (l : List Bool) : reps (k + 1) l = l ++ reps k l := by simp [reps, List.replicate_succ]
theorem reps_comm (k : Nat) (l : List Bool) : reps k l ++ l = l ++ reps k l := by
  induction k with
  | zero => simp [reps]
  | succ k ih => rw [reps_succ, List.append_assoc, ih]
theorem reps_len (k : Nat) (l : List Bool) : (reps k l).length = k * l.length := by
  induction k with
  | zero => simp [reps]
  | succ k ih => rw [reps_succ, List.length_append, ih, Nat.succ_mul]; omega
theorem nm0 : nmB 0 = [true] := by
  have e : nB (Int.toNat 0 + 1) = [true] := by rw [nB_small (by decide)]; rfl
  unfold nmB
  rw [e]
  rfl
theorem nm1 : nmB 1 = [false, true, false] := by
  have e : nB (Int.toNat 1 + 1) = [true, false] := by
    rw [nB_big (by decide), nB_small (by decide)]
    rfl
  unfold nmB
  rw [e]
  rfl
theorem cR_ne (k : Nat) : cR k ≠ .lf false := by cases k <;> simp [cR]
theorem cL_ne (k : Nat) : cL k ≠ .lf false := by cases k <;> simp [cL]
theorem cB_ne (k : Nat) : cB k ≠ .lf false := by cases k <;> simp [cB]
theorem cR_bits : ∀ k, (cR k).bits = reps k [false, true] ++ [false, false, true]
  | 0 => rfl
  | k + 1 => by rw [cR, Own.bits, if_pos rfl, cR_bits k, reps_succ, List.append_assoc]
theorem cL_bits : ∀ k, (cL k).bits = reps k [true, false] ++ [false, false, true]
  | 0 => rfl
  | k + 1 => by rw [cL, Own.bits, if_neg (cL_ne k), if_pos rfl, cL_bits k, reps_succ, List.append_assoc]
theorem cB_bits : ∀ k, (cB k).bits = reps k [true, true, false, false, true] ++ [true, false, false, false, true]
  | 0 => rfl
  | k + 1 => by
    rw [cB, Own.bits, if_neg (by decide), if_neg (cB_ne k), cB_bits k, reps_succ, List.append_assoc]
    rfl
theorem tR_bits : ∀ k, (tR k).bits = reps k [false, true, true, true] ++ [true, false, true, false]
  | 0 => by rw [tR, Told.bits, nm1]; rfl
  | k + 1 => by
    rw [tR, Told.bits, Told.bits, nm0, tR_bits k, reps_succ]
    rfl
theorem tL_bits : ∀ k, (tL k).bits = reps k [false, true] ++ [true, false, true, false] ++ reps k [true, true]
  | 0 => by rw [tL, Told.bits, nm1]; rfl
  | k + 1 => by
    rw [tL, Told.bits, Told.bits, nm0, tL_bits k, reps_succ k [false, true], reps_succ k [true, true]]
    have e := reps_comm k [true, true]
    simp only [List.append_assoc] at e ⊢
    rw [← e]
    rfl
theorem cR_depth : ∀ k, (cR k).depth = k ∧ (cR k).isLeast = true
  | 0 => ⟨rfl, rfl⟩
  | k + 1 => by
    obtain ⟨h1, h2⟩ := cR_depth k
    have := cR_ne k
    simp [cR, Own.depth, Own.isLeast, h1, h2, this]
theorem cL_depth : ∀ k, (cL k).depth = k ∧ (cL k).isLeast = true
  | 0 => ⟨rfl, rfl⟩
  | k + 1 => by
    obtain ⟨h1, h2⟩ := cL_depth k
    have := cL_ne k
    simp [cL, Own.depth, Own.isLeast, h1, h2, this]
theorem cB_depth : ∀ k, (cB k).depth = k + 1 ∧ (cB k).isLeast = true
  | 0 => ⟨rfl, rfl⟩
  | k + 1 => by
    obtain ⟨h1, h2⟩ := cB_depth k
    have : cB k ≠ .lf true := by cases k <;> simp [cB]
    simp [cB, Own.depth, Own.isLeast, h1, h2, this]
theorem tR_ok : ∀ k, (tR k).depth = k ∧ (tR k).isLeast = true ∧ (tR k).ok
  | 0 => ⟨rfl, rfl, by show (0 : Int) ≤ 1; decide⟩
  | k + 1 => by
    obtain ⟨h1, h2, h3⟩ := tR_ok k
    refine ⟨by simp [tR, Told.depth, h1], ?_, ⟨by decide, by show (0 : Int) ≤ 0; decide, h3⟩⟩
    have e : Told.twin (.n 0) (tR k) = false := by cases k <;> simp [tR, Told.twin]
    simp [tR, Told.isLeast, Told.above, Told.low, e, h2]
theorem tL_ok : ∀ k, (tL k).depth = k ∧ (tL k).isLeast = true ∧ (tL k).ok
  | 0 => ⟨rfl, rfl, by show (0 : Int) ≤ 1; decide⟩
  | k + 1 => by
    obtain ⟨h1, h2, h3⟩ := tL_ok k
    refine ⟨by simp [tL, Told.depth, h1], ?_, ⟨by decide, h3, by show (0 : Int) ≤ 0; decide⟩⟩
    have e : Told.twin (tL k) (.n 0) = false := by cases k <;> simp [tL, Told.twin]
    simp [tL, Told.isLeast, Told.above, Told.low, e, h2]
/-- too deep a part is refused -/
theorem unpack_deep {o : Own} {t : Told} (ok : t.ok) (h : 40 ≤ o.depth ∨ 40 ≤ t.depth) (h2 : o.depth < 400 ∧ t.depth < 400) : unpackN (packN o t) = none := by
  rw [← due_is]
  obtain ⟨k, ek⟩ := packN_bits o t
  unfold dueN
  rw [ek, List.append_assoc, readO_bits 400 o _ h2.1]
  show (match readT 400 (t.bits ++ List.replicate k false) with | none => none | some q => _) = none
  rw [readT_bits 400 t _ ok h2.2]
  show (if 40 ≤ o.depth ∨ 40 ≤ t.depth then none else _) = none
  rw [if_pos h]
end DL

set_option maxRecDepth 100000
set_option maxHeartbeats 4000000
/-! The data layer: int(s) of one sign. -/
namespace DL
open PySem PySem.Spec L2 DFm
@[simp] abbrev fIntS : List D → (D → Prop) → Prop := fun ds Q => ∃ b : Bool, ds = [BD [b]] ∧ Q (.int (b.toNat : Nat))
theorem int_sign (b : Bool) : PySem.intText? (bS [b]) = some ((b.toNat : Nat) : Int) := by cases b <;> decide +kernel
theorem i_intS {K : PySem.W.Frag} : CallI K (fun xs H Q => ∃ (a : Str) (n : Int), xs = [.str a] ∧ PySem.intText? a = some n ∧ a.length ≤ 640 ∧ Q (.int n) H) fIntS := by
  rintro H L ds vs Q1 Q hL r ⟨b, rfl, t⟩ q
  obtain ⟨x, r', rfl, h1, h2⟩ := r
  cases h2; cases h1
  exact ⟨_, _, rfl, int_sign b, by rw [bS_len]; simp, q _ H (.int _) (Same.refl H) rfl t⟩
end DL

set_option maxRecDepth 100000
set_option maxHeartbeats 4000000
namespace Fks
open PySem PySem.Spec L2 DL
def top (i : Nat) : Stmt := PySem.Challenge.pw_forkstamp_k12_rows_refused.main.body.getD i (.Pass ⟨0, 0, 0, 0⟩)
section
variable {P : Program} {w : World} {K : PySem.W.Frag} {mg : Str → Option Value} {base : Heap}


/-! ### the program: whole numbers -/
def rWhole : List D → Re → Prop := fun ds r => ∃ d T, ds = [d] ∧ d.tyS = some T ∧ r = .ok (.bl (decide (T = "int")))
theorem ok_is_whole (Df : Dfn K mg "is_whole" (top 10) ["thing"]) (m_int : mg "int" = none) (m_type : mg "type" = none) :
    Cal P w K mg base CX0 1 "is_whole" ["thing"] rWhole := by
  have sc : FnScope ["thing"] ["thing"] (defScope (top 10)) := ⟨rfl, rfl, rfl, by decide +kernel, rfl, by decide +kernel, by decide +kernel⟩
  refine Df.ok sc ?len (fun y f cdv A outer s H E hr => ⟨_, (qss_one (qs_ret (q_cmp op_isTyB i_isTy (nomark _) (q_callTy call_type1 i_type (by rfl) m_type (by decide +kernel) (qa_cons (q_var 0 (pv 0)) qa_nil)) (q_ty "int" (by rfl) m_int (by decide +kernel))))), ?body⟩)
  case len =>
    rintro ds r ⟨d, T, rfl, _⟩
    rfl
  case body =>
    rintro ds r ⟨d, T, rfl, h, rfl⟩
    refine ⟨_, rfl, ?_⟩
    simp [begun, h]

/-! ### the program: own parts -/
def rAll : List D → Re → Prop := fun ds r => ∃ d T, ds = [d] ∧ d.tyS = some T ∧ r = .ok (.bl (match d with | .int i => i == 0 || i == 1 | _ => false))
theorem ok_is_all_or_none (Df : Dfn K mg "is_all_or_none" (top 30) ["thing"]) (c_is_whole : Cal P w K mg base CX0 1 "is_whole" ["thing"] rWhole) :
    Cal P w K mg base CX0 2 "is_all_or_none" ["thing"] rAll := by
  have sc : FnScope ["thing"] ["thing"] (defScope (top 30)) := ⟨rfl, rfl, rfl, by decide +kernel, rfl, by decide +kernel, by decide +kernel⟩
  refine Df.ok sc ?len (fun y f cdv A outer s H E hr => ⟨_, (qss_one (qs_ret (q_and (q_cal c_is_whole hr (by omega) (by rfl) (qa_cons (q_var 0 (pv 0)) qa_nil)) (q_one (q_cmp (op_inX (room65 hr)) i_in (by rfl) (q_var 0 (pv 0)) (q_tup (qa_cons (q_c (d := .int 0) pe_int (fun _ _ => rfl)) (qa_cons (q_c (d := .int 1) pe_int (fun _ _ => rfl)) qa_nil)))))))), ?body⟩)
  case len =>
    rintro ds r ⟨d, T, rfl, _⟩
    rfl
  case body =>
    rintro ds r ⟨d, T, rfl, h, rfl⟩
    refine ⟨_, rfl, ?_⟩
    cases d <;> simp only [D.tyS, Option.some.injEq, reduceCtorEq] at h <;> subst h
    case int i =>
      simp [begun, rWhole, D.tyS, D.its, sh_int, eqv_int]
      exact ⟨rfl, by rw [show (0 == i) = (i == 0) from Bool.beq_comm, show (1 == i) = (i == 1) from Bool.beq_comm]⟩
    all_goals simp [begun, rWhole, D.tyS, D.its, sh_int, eqv_int]
def rIsOwn : List D → Re → Prop := fun ds r => ∃ d, ds = [d] ∧ plainD d = true ∧ dep d ≤ 900 ∧ r = .ok (.bl (isOwnD d))
theorem ok_is_own (Df : Dfn K mg "is_own" (top 29) ["thing"]) (m_len : mg "len" = none) (m_tuple : mg "tuple" = none) (m_type : mg "type" = none) (c_is_all_or_none : Cal P w K mg base CX0 2 "is_all_or_none" ["thing"] rAll) :
    Cal P w K mg base CX0 3 "is_own" ["thing"] rIsOwn := by
  have sc : FnScope ["thing", "waiting", "part"] ["thing"] (defScope (top 29)) := ⟨rfl, rfl, rfl, by decide +kernel, rfl, by decide +kernel, by decide +kernel⟩
  refine Df.ok sc ?len (fun y f cdv A outer s H E hr => ⟨_, (qss_cons (qs_own 1 sc.nd rfl (Or.inl rfl) (qa_cons (q_var 0 (pv 0)) qa_nil))
      (qss_cons (qs_while PassesOwn.never (qt_own 1 (pv 1))
        (qss_cons (qs_pop 1 2 (pv 1) sc.nd rfl (Or.inl rfl))
        (qss_one (qs_if (qt_w (qw_and (qt_cmp op_isTyB i_isTy (nomark _) (q_callTy call_type1 i_type (by rfl) m_type (by decide +kernel) (qa_cons (q_var 2 (pv 2)) qa_nil)) (q_ty "tuple" (by rfl) m_tuple (by decide +kernel))) (qw_and1 (qt_cmp (op_eqD hr.units) i_eq (nomark _) (q_callB call_len_seq i_len (by rfl) m_len PySem.boot_len (qa_cons (q_var 2 (pv 2)) qa_nil)) (q_c (d := .int 2) pe_int (fun _ _ => rfl))))))
          (qss_one (qs_extend 1 (pv 1) (q_var 2 (pv 2))))
          (qss_one (qs_if (qt_not (qt_val (q_cal c_is_all_or_none hr (by omega) (by rfl) (qa_cons (q_var 2 (pv 2)) qa_nil))))
            (qss_one (qs_ret (q_c (d := .bl false) pe_bl (fun _ _ => rfl))))
            qss_nil))))))
      (qss_one (qs_ret (q_c (d := .bl true) pe_bl (fun _ _ => rfl)))))), ?body⟩)
  case len =>
    rintro ds r ⟨d, rfl, _⟩
    rfl
  case body =>
    rintro ds r ⟨d, rfl, hp, hn, rfl⟩
    refine ⟨_, rfl, ?_⟩
    refine ⟨d, rfl, by simp, by simp [begun], ?_⟩
    refine ⟨fun m ρ => ∃ ws x y, m = nodesL ws ∧ Stk dep 900 ws ∧ plainL ws = true ∧ isOwnD d = ws.all isOwnD ∧ ρ = ⟨[x, .own ws, y], []⟩, ⟨_, [d], _, _, rfl, .one hn, by simp [plainL, hp], by simp, rfl⟩, ?_⟩
    rintro m ρ ⟨ws, x, y, rfl, hw, pw, ew, rfl⟩
    refine ⟨ws, rfl, ?_⟩
    rcases List.eq_nil_or_concat ws with rfl | ⟨as, b, rfl⟩
    · simp [ew]
    · rw [List.concat_eq_append] at *
      rw [plainL_append, Bool.and_eq_true] at pw
      have pb : plainD b = true := by simpa [plainL] using pw.2
      have nb : nodesL [b] = nodes b := by simp [nodesL]
      have hb := nodes_pos b
      have ha := nodesL_len as
      obtain ⟨T, hT⟩ := plain_ty pb
      have hz := hw.last
      rw [nodesL_append, nb]
      rw [if_pos (by simp)]
      refine ⟨as, b, rfl, by decide, by simp, ?_⟩
      by_cases two : ∃ u v, b = .tup [u, v]
      · obtain ⟨u, v, rfl⟩ := two
        have hu := nodes_pos u
        have hv := nodes_pos v
        have e2 : nodes (.tup [u, v]) = nodes u + nodes v + 1 := by simp [nodes, nodesL]
        have e3 : nodesL (as ++ [u, v]) = nodesL as + (nodes u + nodes v) := by rw [nodesL_append]; simp [nodesL]
        have e4 : plainL (as ++ [u, v]) = true := by rw [plainL_append]; simpa [plainL, plainD, pw.1] using pb
        simp [D.tyS, D.its, sh_int, eqv_int]
        have ed := dep_two u v
        refine ⟨by omega, nodesL (as ++ [u, v]), by omega, as ++ [u, v], rfl, hw.two (by omega) (by omega), e4, by simp [ew, isOwnD, and_assoc], rfl⟩
      · have hb2 : ∀ ds, b = .tup ds → ds.length ≠ 2 := by
          intro ds e l
          match ds, l with
          | [u, v], _ => exact two ⟨u, v, e⟩
        cases b
        case tup ds =>
          have l2 := hb2 ds rfl
          have l3 : ((ds.length : Int) == 2) = false := by simp; omega
          simp [rAll, D.tyS, D.its, sh_int, eqv_int, l3]
          rw [ew]
          match ds, l2 with
          | [], _ => simp [isOwnD]
          | [u], _ => simp [isOwnD]
          | u :: v :: x :: r, _ =>
            simp [isOwnD]
            omega
        case int i =>
          simp [rAll, D.tyS, D.its, sh_int, eqv_int]
          by_cases hi : i = 0 ∨ i = 1
          · refine .inr ⟨hi, nodesL as, by omega, as, rfl, hw.left, pw.1, ?_, rfl⟩
            rw [ew, List.all_append]
            rcases hi with rfl | rfl <;> simp [isOwnD]
          · refine .inl ⟨by omega, ?_⟩
            rw [ew, List.all_append]
            have z : isOwnD (.int i) = false := by simp only [isOwnD, Bool.or_eq_false_iff, beq_eq_false_iff_ne]; omega
            simp [z]
        all_goals first | (cases pb; done) | (simp [rAll, D.tyS, D.its, sh_int, eqv_int, ew, isOwnD]; done)
/-- the sizes of some parts together -/
def szs (os : List Own) : Nat := (os.map Own.size).sum
theorem szs_len : ∀ os : List Own, os.length ≤ szs os
  | [] => Nat.le_refl _
  | o :: os => by
    have h1 := o.size_pos
    have h2 := szs_len os
    simp only [szs, List.map_cons, List.sum_cons, List.length_cons] at *
    omega
theorem szs_append (as bs : List Own) : szs (as ++ bs) = szs as + szs bs := by simp [szs]
def rIsLeast : List D → Re → Prop := fun ds r => (∃ d, ds = [d] ∧ plainD d = true ∧ dep d ≤ 900 ∧ isOwnD d = false ∧ r = .ok (.bl false)) ∨ ∃ o : Own, ds = [o.d] ∧ o.depth ≤ 60 ∧ r = .ok (.bl o.isLeast)
theorem eqv00 (o : Own) : (D.tup [.int 0, .int 0]).eqv o.d = decide (o = .nd (.lf false) (.lf false)) := by
  have h := Own.eqv_d (.nd (.lf false) (.lf false)) o
  rw [show (Own.nd (.lf false) (.lf false)).d = .tup [.int 0, .int 0] from rfl] at h
  rw [h]
  simp only [eq_comm]
theorem eqv11 (o : Own) : (D.tup [.int 1, .int 1]).eqv o.d = decide (o = .nd (.lf true) (.lf true)) := by
  have h := Own.eqv_d (.nd (.lf true) (.lf true)) o
  rw [show (Own.nd (.lf true) (.lf true)).d = .tup [.int 1, .int 1] from rfl] at h
  rw [h]
  simp only [eq_comm]
/-! least_pair, least_own -/
def rPair : List D → Re → Prop := fun ds r => ∃ a b : Own, ds = [a.d, b.d] ∧ a.depth ≤ 60 ∧ b.depth ≤ 60 ∧ r = .ok (Own.pair a b).d
theorem ok_least_pair (Df : Dfn K mg "least_pair" (top 32) ["left", "right"]) (c_is_whole : Cal P w K mg base CX0 1 "is_whole" ["thing"] rWhole) :
    Cal P w K mg base CX0 2 "least_pair" ["left", "right"] rPair := by
  have sc : FnScope ["left", "right"] ["left", "right"] (defScope (top 32)) := ⟨rfl, rfl, rfl, by decide +kernel, rfl, by decide +kernel, by decide +kernel⟩
  refine Df.ok sc ?len (fun y f cdv A outer s H E hr => ⟨_, (qss_cons (qs_if (qt_w (qw_and (qt_val (q_cal c_is_whole hr (by omega) (by rfl) (qa_cons (q_var 0 (pv 0)) qa_nil))) (qw_and1 (qt_cmp (op_eqD hr.units) i_eq (nomark _) (q_var 0 (pv 0)) (q_var 1 (pv 1))))))
        (qss_one (qs_ret (q_var 0 (pv 0))))
        qss_nil)
      (qss_one (qs_ret (q_tup (qa_cons (q_var 0 (pv 0)) (qa_cons (q_var 1 (pv 1)) qa_nil)))))), ?body⟩)
  case len =>
    rintro ds r ⟨a, b, rfl, _⟩
    rfl
  case body =>
    rintro ds r ⟨a, b, rfl, ha, hb, rfl⟩
    refine ⟨_, rfl, ?_⟩
    have sa := Own.sh (o := a) (by omega)
    have sb := Own.sh (o := b) (by omega)
    cases a with
    | nd l r =>
      rw [Own.pair_nd (by rintro c ⟨z, _⟩; cases z)]
      simp [begun, rWhole, Own.d, D.tyS]
    | lf c =>
      have e := Own.eqv_d (.lf c) b
      have ty : (Own.lf c).d.tyS = some "int" := rfl
      by_cases z : b = .lf c
      · subst z
        have e2 : Own.pair (.lf c) (.lf c) = .lf c := by simp [Own.pair]
        rw [e2]
        simp [begun, rWhole, ty, sa, e]
      · rw [Own.pair_nd (by rintro c' ⟨z1, z2⟩; cases z1; exact z z2)]
        have z' : ¬ (Own.lf c = b) := fun w => z w.symm
        simp [begun, rWhole, ty, sa, sb, e, z']
        rfl
def rLeast (n : Nat) : List D → Re → Prop := fun ds r => ∃ o : Own, ds = [o.d] ∧ o.depth < n ∧ o.depth ≤ 60 ∧ r = .ok o.least.d
theorem step_least_own {n : Nat} (Df : Dfn K mg "least_own" (top 31) ["own"]) (c_least_pair : Cal P w K mg base CX0 2 "least_pair" ["left", "right"] rPair) (c_is_whole : Cal P w K mg base CX0 1 "is_whole" ["thing"] rWhole) (c_least_own : Cal P w K mg base CX0 (2 + n) "least_own" ["own"] (rLeast n)) :
    Cal P w K mg base CX0 (2 + n + 1) "least_own" ["own"] (rLeast (n + 1)) := by
  have sc : FnScope ["own", "left", "right"] ["own"] (defScope (top 31)) := ⟨rfl, rfl, rfl, by decide +kernel, rfl, by decide +kernel, by decide +kernel⟩
  refine Df.ok sc ?len (fun y f cdv A outer s H E hr => ⟨_, (qss_cons (qs_if (qt_val (q_cal c_is_whole hr (by omega) (by rfl) (qa_cons (q_var 0 (pv 0)) qa_nil)))
        (qss_one (qs_ret (q_var 0 (pv 0))))
        qss_nil)
      (qss_cons (qs_asg (q_var 0 (pv 0)) (qg_tup (n := 2) rfl (qgs_cons (qg_name 1 sc.nd rfl (Or.inl rfl)) (qgs_cons (qg_name 2 sc.nd rfl (Or.inl rfl)) qgs_nil))))
      (qss_one (qs_ret (q_cal c_least_pair hr (by omega) (by rfl) (qa_cons (q_cal c_least_own hr (by omega) (by rfl) (qa_cons (q_var 1 (pv 1)) qa_nil)) (qa_cons (q_cal c_least_own hr (by omega) (by rfl) (qa_cons (q_var 2 (pv 2)) qa_nil)) qa_nil))))))), ?body⟩)
  case len =>
    rintro ds r ⟨o, rfl, _⟩
    rfl
  case body =>
    rintro ds r ⟨o, rfl, ho, h60, rfl⟩
    refine ⟨_, rfl, ?_⟩
    cases o with
    | lf b => simp [begun, rWhole, Own.d, D.tyS, Own.least]
    | nd l r =>
      have e6 : (Own.nd l r).depth = max l.depth r.depth + 1 := rfl
      have g1 := Own.least_depth l
      have g2 := Own.least_depth r
      simp [begun, rWhole, Own.d, D.tyS, Own.least]
      exact ⟨l.least.d, ⟨l, rfl, by omega, by omega, rfl⟩, r.least.d, ⟨r, rfl, by omega, by omega, rfl⟩, ⟨l.least, r.least, rfl, by omega, by omega, rfl⟩⟩
theorem no_least_own : ∀ ds r, ¬ rLeast 0 ds r := by
  rintro ds r ⟨o, _, h, _⟩
  omega
theorem ok_least_own (Df : Dfn K mg "least_own" (top 31) ["own"]) (c_least_pair : Cal P w K mg base CX0 2 "least_pair" ["left", "right"] rPair) (c_is_whole : Cal P w K mg base CX0 1 "is_whole" ["thing"] rWhole) :
    ∀ n : Nat, Cal P w K mg base CX0 (2 + n) "least_own" ["own"] (rLeast n)
  | 0 => (Df.none no_least_own).mono (Nat.zero_le _)
  | n + 1 => step_least_own Df c_least_pair c_is_whole (ok_least_own Df c_least_pair c_is_whole n)

/-! ### the program: told parts -/
def numB : D → Bool
  | .int i => decide (0 ≤ i)
  | _ => false
def rNumber : List D → Re → Prop := fun ds r => ∃ d T, ds = [d] ∧ d.tyS = some T ∧ r = .ok (.bl (numB d))
theorem ok_is_number (Df : Dfn K mg "is_number" (top 14) ["thing"]) (c_is_whole : Cal P w K mg base CX0 1 "is_whole" ["thing"] rWhole) :
    Cal P w K mg base CX0 2 "is_number" ["thing"] rNumber := by
  have sc : FnScope ["thing"] ["thing"] (defScope (top 14)) := ⟨rfl, rfl, rfl, by decide +kernel, rfl, by decide +kernel, by decide +kernel⟩
  refine Df.ok sc ?len (fun y f cdv A outer s H E hr => ⟨_, (qss_one (qs_ret (q_and (q_cal c_is_whole hr (by omega) (by rfl) (qa_cons (q_var 0 (pv 0)) qa_nil)) (q_one (q_cmp op_ge (i_int0 (g' := fun i j => .bl (decide (j ≤ i))) fun _ _ _ _ => rfl) (nomark _) (q_var 0 (pv 0)) (q_c (d := .int 0) pe_int (fun _ _ => rfl))))))), ?body⟩)
  case len =>
    rintro ds r ⟨d, T, rfl, _⟩
    rfl
  case body =>
    rintro ds r ⟨d, T, rfl, h, rfl⟩
    refine ⟨_, rfl, ?_⟩
    cases d <;> simp only [D.tyS, Option.some.injEq, reduceCtorEq] at h <;> subst h
    all_goals simp [begun, rWhole, D.tyS, numB]
def partB : D → Bool
  | .tup [.int i, _, _] => decide (0 ≤ i)
  | _ => false
def rParting : List D → Re → Prop := fun ds r => ∃ d, ds = [d] ∧ plainD d = true ∧ r = .ok (.bl (partB d))
theorem ok_is_parting (Df : Dfn K mg "is_parting" (top 13) ["thing"]) (m_len : mg "len" = none) (m_tuple : mg "tuple" = none) (m_type : mg "type" = none) (c_is_number : Cal P w K mg base CX0 2 "is_number" ["thing"] rNumber) :
    Cal P w K mg base CX0 3 "is_parting" ["thing"] rParting := by
  have sc : FnScope ["thing"] ["thing"] (defScope (top 13)) := ⟨rfl, rfl, rfl, by decide +kernel, rfl, by decide +kernel, by decide +kernel⟩
  refine Df.ok sc ?len (fun y f cdv A outer s H E hr => ⟨_, (qss_one (qs_ret (q_and (q_cmp op_isTyB i_isTy (nomark _) (q_callTy call_type1 i_type (by rfl) m_type (by decide +kernel) (qa_cons (q_var 0 (pv 0)) qa_nil)) (q_ty "tuple" (by rfl) m_tuple (by decide +kernel))) (q_and (q_cmp (op_eqD hr.units) i_eq (nomark _) (q_callB call_len_seq i_len (by rfl) m_len PySem.boot_len (qa_cons (q_var 0 (pv 0)) qa_nil)) (q_c (d := .int 3) pe_int (fun _ _ => rfl))) (q_one (q_cal c_is_number hr (by omega) (by rfl) (qa_cons (q_ix (IxR.or ix_list ix_tup) i_ix (fun _ _ => rfl) (q_var 0 (pv 0)) (q_c (d := .int 0) pe_int (fun _ _ => rfl))) qa_nil))))))), ?body⟩)
  case len =>
    rintro ds r ⟨d, rfl, _⟩
    rfl
  case body =>
    rintro ds r ⟨d, rfl, hp, rfl⟩
    refine ⟨_, rfl, ?_⟩
    obtain ⟨T, hT⟩ := plain_ty hp
    cases d
    case tup ds =>
      match ds, hp with
      | [], _ => simp [begun, D.tyS, its_tup, sh_int, eqv_int, partB]
      | [_], _ => simp [begun, D.tyS, its_tup, sh_int, eqv_int, partB]
      | [_, _], _ => simp [begun, D.tyS, its_tup, sh_int, eqv_int, partB]
      | [x, a, b], hp =>
        have px : plainD x = true := by
          simp only [plainD, plainL, Bool.and_eq_true] at hp
          exact hp.1
        obtain ⟨S, hS⟩ := plain_ty px
        simp [begun, D.tyS, its_tup, sh_int, eqv_int, at0, rNumber, hS]
        cases x <;> first | (cases px; done) | simp [partB, numB]
      | _ :: _ :: _ :: _ :: r, _ =>
        have l3 : ((((r.length + 1 + 1 + 1 + 1 : Nat) : Int)) == 3) = false := by rw [beq_eq_false_iff_ne]; omega
        simp [begun, D.tyS, its_tup, sh_int, eqv_int, partB]
        omega
    all_goals first | (cases hp; done) | (simp [begun, D.tyS, partB]; done)
def rIsTold : List D → Re → Prop := fun ds r => ∃ d, ds = [d] ∧ plainD d = true ∧ dep d ≤ 900 ∧ r = .ok (.bl (isToldD d))
theorem isTold_part {x a b : D} : isToldD (.tup [x, a, b]) = (partB (.tup [x, a, b]) && isToldD a && isToldD b) := by
  cases x <;> simp [isToldD, partB]
theorem isTold_else {d : D} (h : partB d = false) (h2 : ∀ i, d ≠ .int i) : isToldD d = false := by
  unfold isToldD
  split
  · rename_i i
    exact absurd rfl (h2 i)
  · rename_i i a b
    simp only [partB] at h
    rw [h]
    rfl
  · rfl
theorem part_three {d : D} (h : partB d = true) : ∃ i a b, d = .tup [.int i, a, b] := by
  unfold partB at h
  split at h
  · exact ⟨_, _, _, rfl⟩
  · cases h
theorem ok_is_told (Df : Dfn K mg "is_told" (top 12) ["thing"]) (c_is_parting : Cal P w K mg base CX0 3 "is_parting" ["thing"] rParting) (c_is_number : Cal P w K mg base CX0 2 "is_number" ["thing"] rNumber) :
    Cal P w K mg base CX0 4 "is_told" ["thing"] rIsTold := by
  have sc : FnScope ["thing", "waiting", "part"] ["thing"] (defScope (top 12)) := ⟨rfl, rfl, rfl, by decide +kernel, rfl, by decide +kernel, by decide +kernel⟩
  refine Df.ok sc ?len (fun y f cdv A outer s H E hr => ⟨_, (qss_cons (qs_own 1 sc.nd rfl (Or.inl rfl) (qa_cons (q_var 0 (pv 0)) qa_nil))
      (qss_cons (qs_while PassesOwn.never (qt_own 1 (pv 1))
        (qss_cons (qs_pop 1 2 (pv 1) sc.nd rfl (Or.inl rfl))
        (qss_one (qs_if (qt_val (q_cal c_is_parting hr (by omega) (by rfl) (qa_cons (q_var 2 (pv 2)) qa_nil)))
          (qss_one (qs_extend 1 (pv 1) (q_slice (q_var 2 (pv 2)) (qo_some (q_c (d := .int 1) pe_int (fun _ _ => rfl))) qo_none)))
          (qss_one (qs_if (qt_not (qt_val (q_cal c_is_number hr (by omega) (by rfl) (qa_cons (q_var 2 (pv 2)) qa_nil))))
            (qss_one (qs_ret (q_c (d := .bl false) pe_bl (fun _ _ => rfl))))
            qss_nil))))))
      (qss_one (qs_ret (q_c (d := .bl true) pe_bl (fun _ _ => rfl)))))), ?body⟩)
  case len =>
    rintro ds r ⟨d, rfl, _⟩
    rfl
  case body =>
    rintro ds r ⟨d, rfl, hp, hn, rfl⟩
    refine ⟨_, rfl, ?_⟩
    refine ⟨d, rfl, by simp, by simp [begun], ?_⟩
    refine ⟨fun m ρ => ∃ ws x y, m = nodesL ws ∧ Stk dep 900 ws ∧ plainL ws = true ∧ isToldD d = ws.all isToldD ∧ ρ = ⟨[x, .own ws, y], []⟩, ⟨_, [d], _, _, rfl, .one hn, by simp [plainL, hp], by simp, rfl⟩, ?_⟩
    rintro m ρ ⟨ws, x, y, rfl, hw, pw, ew, rfl⟩
    refine ⟨ws, rfl, ?_⟩
    rcases List.eq_nil_or_concat ws with rfl | ⟨as, b, rfl⟩
    · simp [ew]
    · rw [List.concat_eq_append] at *
      rw [plainL_append, Bool.and_eq_true] at pw
      have pb : plainD b = true := by simpa [plainL] using pw.2
      have nb : nodesL [b] = nodes b := by simp [nodesL]
      have hb := nodes_pos b
      have ha := nodesL_len as
      obtain ⟨T, hT⟩ := plain_ty pb
      have hz := hw.last
      rw [nodesL_append, nb]
      rw [if_pos (by simp)]
      refine ⟨as, b, rfl, by decide, by simp, ?_⟩
      have qp : rParting [b] (.ok (.bl (partB b))) := ⟨b, rfl, pb, rfl⟩
      refine ⟨b, rfl, _, qp, _, rfl, ?_⟩
      by_cases pt : partB b = true
      · obtain ⟨i, u, v, rfl⟩ := part_three pt
        rw [if_pos pt]
        have ed := dep_three (.int i) u v
        have hu := nodes_pos u
        have hv := nodes_pos v
        have e2 : nodes (.tup [.int i, u, v]) = nodes u + nodes v + 2 := by simp [nodes, nodesL]; omega
        have e3 : nodesL (as ++ [u, v]) = nodesL as + (nodes u + nodes v) := by rw [nodesL_append]; simp [nodesL]
        have e4 : plainL (as ++ [u, v]) = true := by rw [plainL_append]; simpa [plainL, plainD, pw.1] using pb
        refine ⟨as, rfl, _, rfl, _, rfl, .inr ⟨_, rfl, (by rintro ⟨z, _⟩; exact absurd z (by show ¬ (HT.sIx 3 0 (some 1) = 0); decide)), [u, v], rfl, by simp; omega, nodesL (as ++ [u, v]), by omega, as ++ [u, v], _, _, rfl, hw.two (by omega) (by omega), e4, ?_, rfl⟩⟩
        rw [ew, List.all_append, List.all_append]
        simp [isTold_part, pt]
      · rw [Bool.not_eq_true] at pt
        rw [pt]
        refine iteF ?_
        have qn : rNumber [b] (.ok (.bl (numB b))) := ⟨b, T, rfl, hT, rfl⟩
        refine ⟨_, rfl, _, qn, _, rfl, ?_⟩
        cases b
        case int i =>
          by_cases hi : 0 ≤ i
          · simp [hi, numB]
            exact ⟨nodesL as, by omega, as, rfl, hw.left, pw.1, by rw [ew, List.all_append]; simp [isToldD, hi], rfl⟩
          · simp [hi, numB]
            rw [ew, List.all_append]
            simp [isToldD, hi]
        all_goals
          simp [numB]
          rw [ew, List.all_append]
          simp [isTold_else pt (fun i z => nomatch z)]
def rLow : List D → Re → Prop := fun ds r => ∃ o : Told, ds = [o.d] ∧ r = .ok (.int o.low)
theorem ok_told_least (Df : Dfn K mg "told_least" (top 19) ["told"]) (c_is_whole : Cal P w K mg base CX0 1 "is_whole" ["thing"] rWhole) :
    Cal P w K mg base CX0 2 "told_least" ["told"] rLow := by
  have sc : FnScope ["told"] ["told"] (defScope (top 19)) := ⟨rfl, rfl, rfl, by decide +kernel, rfl, by decide +kernel, by decide +kernel⟩
  refine Df.ok sc ?len (fun y f cdv A outer s H E hr => ⟨_, (qss_cons (qs_if (qt_val (q_cal c_is_whole hr (by omega) (by rfl) (qa_cons (q_var 0 (pv 0)) qa_nil)))
        (qss_one (qs_ret (q_var 0 (pv 0))))
        qss_nil)
      (qss_one (qs_ret (q_ix (IxR.or ix_list ix_tup) i_ix (fun _ _ => rfl) (q_var 0 (pv 0)) (q_c (d := .int 0) pe_int (fun _ _ => rfl)))))), ?body⟩)
  case len =>
    rintro ds r ⟨o, rfl, _⟩
    rfl
  case body =>
    rintro ds r ⟨o, rfl, rfl⟩
    refine ⟨_, rfl, ?_⟩
    cases o <;> simp [begun, rWhole, Told.d, Told.low, D.tyS, its_tup, at0]
def rAbove : List D → Re → Prop := fun ds r => ∃ a b : Told, ds = [a.d, b.d] ∧ a.depth ≤ 60 ∧ b.depth ≤ 60 ∧ r = .ok (.bl (Told.above a b))
theorem told_ty (o : Told) : o.d.tyS = some (match o with | .n _ => "int" | .t _ _ _ => "tuple") := by cases o <;> rfl
/-- the sizes of some told parts together -/
def tszs (os : List Told) : Nat := (os.map Told.size).sum
theorem tszs_len : ∀ os : List Told, os.length ≤ tszs os
  | [] => Nat.le_refl _
  | o :: os => by
    have h1 := o.size_pos
    have h2 := tszs_len os
    simp only [tszs, List.map_cons, List.sum_cons, List.length_cons] at *
    omega
theorem tszs_append (as bs : List Told) : tszs (as ++ bs) = tszs as + tszs bs := by simp [tszs]
def rIsLeastT : List D → Re → Prop := fun ds r => (∃ d, ds = [d] ∧ plainD d = true ∧ dep d ≤ 900 ∧ isToldD d = false ∧ r = .ok (.bl false)) ∨ ∃ o : Told, ds = [o.d] ∧ o.ok ∧ o.depth ≤ 60 ∧ r = .ok (.bl o.isLeast)
def rLifted : List D → Re → Prop := fun ds r => ∃ (o : Told) (m : Int), ds = [o.d, .int m] ∧ r = .ok (o.lift m).d
theorem ok_lifted (Df : Dfn K mg "lifted" (top 17) ["told", "more"]) (c_is_whole : Cal P w K mg base CX0 1 "is_whole" ["thing"] rWhole) :
    Cal P w K mg base CX0 2 "lifted" ["told", "more"] rLifted := by
  have sc : FnScope ["told", "more", "number", "left", "right"] ["told", "more"] (defScope (top 17)) := ⟨rfl, rfl, rfl, by decide +kernel, rfl, by decide +kernel, by decide +kernel⟩
  refine Df.ok sc ?len (fun y f cdv A outer s H E hr => ⟨_, (qss_cons (qs_if (qt_val (q_cal c_is_whole hr (by omega) (by rfl) (qa_cons (q_var 0 (pv 0)) qa_nil)))
        (qss_one (qs_ret (q_op op_add (i_int0 (g' := fun i j => .int (i + j)) fun _ _ _ _ => rfl) (q_var 0 (pv 0)) (q_var 1 (pv 1)))))
        qss_nil)
      (qss_cons (qs_asg (q_var 0 (pv 0)) (qg_tup (n := 3) rfl (qgs_cons (qg_name 2 sc.nd rfl (Or.inl rfl)) (qgs_cons (qg_name 3 sc.nd rfl (Or.inl rfl)) (qgs_cons (qg_name 4 sc.nd rfl (Or.inl rfl)) qgs_nil)))))
      (qss_one (qs_ret (q_tup (qa_cons (q_op op_add (i_int0 (g' := fun i j => .int (i + j)) fun _ _ _ _ => rfl) (q_var 2 (pv 2)) (q_var 1 (pv 1))) (qa_cons (q_var 3 (pv 3)) (qa_cons (q_var 4 (pv 4)) qa_nil)))))))), ?body⟩)
  case len =>
    rintro ds r ⟨o, m, rfl, _⟩
    rfl
  case body =>
    rintro ds r ⟨o, m, rfl, rfl⟩
    refine ⟨_, rfl, ?_⟩
    cases o <;> simp [begun, rWhole, Told.d, Told.lift, D.tyS]
def rOver : List D → Re → Prop := fun ds r => ∃ a b : Told, ds = [a.d, b.d] ∧ a.depth ≤ 60 ∧ b.depth ≤ 60 ∧ r = .ok (Told.over a b).d
theorem ok_least_over (Df : Dfn K mg "least_over" (top 16) ["left", "right"]) (m_min : mg "min" = none) (c_lifted : Cal P w K mg base CX0 2 "lifted" ["told", "more"] rLifted) (c_told_least : Cal P w K mg base CX0 2 "told_least" ["told"] rLow) (c_is_whole : Cal P w K mg base CX0 1 "is_whole" ["thing"] rWhole) :
    Cal P w K mg base CX0 3 "least_over" ["left", "right"] rOver := by
  have sc : FnScope ["left", "right", "number"] ["left", "right"] (defScope (top 16)) := ⟨rfl, rfl, rfl, by decide +kernel, rfl, by decide +kernel, by decide +kernel⟩
  refine Df.ok sc ?len (fun y f cdv A outer s H E hr => ⟨_, (qss_cons (qs_if (qt_w (qw_and (qt_val (q_cal c_is_whole hr (by omega) (by rfl) (qa_cons (q_var 0 (pv 0)) qa_nil))) (qw_and1 (qt_cmp (op_eqD hr.units) i_eq (nomark _) (q_var 0 (pv 0)) (q_var 1 (pv 1))))))
        (qss_one (qs_ret (q_var 0 (pv 0))))
        qss_nil)
      (qss_cons (qs_set 2 sc.nd rfl (by first | exact Or.inl rfl | exact Or.inr rfl) (q_callB (call_min2 rfl) i_min2 (by rfl) m_min (by decide +kernel) (qa_cons (q_cal c_told_least hr (by omega) (by rfl) (qa_cons (q_var 0 (pv 0)) qa_nil)) (qa_cons (q_cal c_told_least hr (by omega) (by rfl) (qa_cons (q_var 1 (pv 1)) qa_nil)) qa_nil))))
      (qss_one (qs_ret (q_tup (qa_cons (q_var 2 (pv 2)) (qa_cons (q_cal c_lifted hr (by omega) (by rfl) (qa_cons (q_var 0 (pv 0)) (qa_cons (q_neg (q_var 2 (pv 2))) qa_nil))) (qa_cons (q_cal c_lifted hr (by omega) (by rfl) (qa_cons (q_var 1 (pv 1)) (qa_cons (q_neg (q_var 2 (pv 2))) qa_nil))) qa_nil)))))))), ?body⟩)
  case len =>
    rintro ds r ⟨a, b, rfl, _⟩
    rfl
  case body =>
    rintro ds r ⟨a, b, rfl, ha, hb, rfl⟩
    refine ⟨_, rfl, ?_⟩
    have sa := Told.sh (o := a) (by omega)
    have sb := Told.sh (o := b) (by omega)
    have la : rLow [a.d] (.ok (.int a.low)) := ⟨a, rfl, rfl⟩
    have lb : rLow [b.d] (.ok (.int b.low)) := ⟨b, rfl, rfl⟩
    have fa : rLifted [a.d, .int (-(min a.low b.low))] (.ok (a.lift (-(min a.low b.low))).d) := ⟨a, _, rfl, rfl⟩
    have fb : rLifted [b.d, .int (-(min a.low b.low))] (.ok (b.lift (-(min a.low b.low))).d) := ⟨b, _, rfl, rfl⟩
    by_cases tw : Told.twin a b = true
    · obtain ⟨c, rfl, rfl⟩ := Told.twin_iff.mp tw
      rw [Told.over_twin rfl rfl]
      have eq := Told.eqv_d (.n c) (.n c)
      refine ⟨_, rfl, _, ⟨_, "int", rfl, rfl, rfl⟩, _, rfl, ?_⟩
      refine iteT ?_
      refine ⟨_, rfl, _, rfl, sa, sb, _, rfl, ?_⟩
      rw [eq, decide_eq_true rfl]
      refine iteT ?_
      exact ⟨_, rfl, rfl⟩
    · rw [Bool.not_eq_true] at tw
      rw [Told.over_else tw]
      have go : ∀ D1 : Ends1, (∀ g, D1.rt (Told.t (min a.low b.low) (a.lift (-(min a.low b.low))) (b.lift (-(min a.low b.low)))).d g) → uSeq (uSet 2 (uCall fMin2 (uCons (uDef0 (fun ds d => rLow ds (.ok d)) (uCons (uVar 0) uNil)) (uCons (uDef0 (fun ds d => rLow ds (.ok d)) (uCons (uVar 1) uNil)) uNil))))
          (uRet (uTup (uCons (uVar 2) (uCons (uDef0 (fun ds d => rLifted ds (.ok d)) (uCons (uVar 0) (uCons (fun ρ Q => uVar 2 ρ fun d => ∃ i, d = .int i ∧ Q (.int (-i))) uNil))) (uCons (uDef0 (fun ds d => rLifted ds (.ok d)) (uCons (uVar 1) (uCons (fun ρ Q => uVar 2 ρ fun d => ∃ i, d = .int i ∧ Q (.int (-i))) uNil))) uNil))))) D1 (begun 3 [a.d, b.d]) := by
        intro D1 q
        refine ⟨_, rfl, _, la, _, rfl, _, lb, _, _, rfl, by simp [begun], ?_⟩
        exact ⟨_, rfl, _, rfl, _, rfl, _, rfl, _, fa, _, rfl, _, rfl, _, rfl, _, fb, by simp, q _⟩
      cases a with
      | t i l r =>
        refine ⟨_, rfl, _, ⟨_, "tuple", rfl, rfl, rfl⟩, _, rfl, ?_⟩
        exact iteF (go _ fun _ => rfl)
      | n c =>
        have eq := Told.eqv_d (.n c) b
        refine ⟨_, rfl, _, ⟨_, "int", rfl, rfl, rfl⟩, _, rfl, ?_⟩
        refine iteT ?_
        refine ⟨_, rfl, _, rfl, sa, sb, _, rfl, ?_⟩
        have ne : ¬ Told.n c = b := by
          rintro rfl
          simp [Told.twin] at tw
        rw [eq, decide_eq_false ne]
        exact iteF (go _ fun _ => rfl)
def rLeastT (n : Nat) : List D → Re → Prop := fun ds r => ∃ o : Told, ds = [o.d] ∧ o.depth < n ∧ o.depth ≤ 60 ∧ r = .ok o.least.d
theorem step_least_told {n : Nat} (Df : Dfn K mg "least_told" (top 15) ["told"]) (c_lifted : Cal P w K mg base CX0 2 "lifted" ["told", "more"] rLifted) (c_least_over : Cal P w K mg base CX0 3 "least_over" ["left", "right"] rOver) (c_is_whole : Cal P w K mg base CX0 1 "is_whole" ["thing"] rWhole) (c_least_told : Cal P w K mg base CX0 (3 + n) "least_told" ["told"] (rLeastT n)) :
    Cal P w K mg base CX0 (3 + n + 1) "least_told" ["told"] (rLeastT (n + 1)) := by
  have sc : FnScope ["told", "number", "left", "right"] ["told"] (defScope (top 15)) := ⟨rfl, rfl, rfl, by decide +kernel, rfl, by decide +kernel, by decide +kernel⟩
  refine Df.ok sc ?len (fun y f cdv A outer s H E hr => ⟨_, (qss_cons (qs_if (qt_val (q_cal c_is_whole hr (by omega) (by rfl) (qa_cons (q_var 0 (pv 0)) qa_nil)))
        (qss_one (qs_ret (q_var 0 (pv 0))))
        qss_nil)
      (qss_cons (qs_asg (q_var 0 (pv 0)) (qg_tup (n := 3) rfl (qgs_cons (qg_name 1 sc.nd rfl (Or.inl rfl)) (qgs_cons (qg_name 2 sc.nd rfl (Or.inl rfl)) (qgs_cons (qg_name 3 sc.nd rfl (Or.inl rfl)) qgs_nil)))))
      (qss_one (qs_ret (q_cal c_lifted hr (by omega) (by rfl) (qa_cons (q_cal c_least_over hr (by omega) (by rfl) (qa_cons (q_cal c_least_told hr (by omega) (by rfl) (qa_cons (q_var 2 (pv 2)) qa_nil)) (qa_cons (q_cal c_least_told hr (by omega) (by rfl) (qa_cons (q_var 3 (pv 3)) qa_nil)) qa_nil))) (qa_cons (q_var 1 (pv 1)) qa_nil))))))), ?body⟩)
  case len =>
    rintro ds r ⟨o, rfl, _⟩
    rfl
  case body =>
    rintro ds r ⟨o, rfl, ho, h60, rfl⟩
    refine ⟨_, rfl, ?_⟩
    cases o with
    | n i => simp [begun, rWhole, Told.d, D.tyS, Told.least]
    | t i l r =>
      have e6 : (Told.t i l r).depth = max l.depth r.depth + 1 := rfl
      have g1 := Told.least_depth l
      have g2 := Told.least_depth r
      simp [begun, rWhole, Told.d, D.tyS, Told.least]
      exact ⟨l.least.d, ⟨l, rfl, by omega, by omega, rfl⟩, r.least.d, ⟨r, rfl, by omega, by omega, rfl⟩, (Told.over l.least r.least).d, ⟨l.least, r.least, rfl, by omega, by omega, rfl⟩, ⟨_, i, rfl, rfl⟩⟩
theorem no_least_told : ∀ ds r, ¬ rLeastT 0 ds r := by
  rintro ds r ⟨o, _, h, _⟩
  omega
theorem ok_least_told (Df : Dfn K mg "least_told" (top 15) ["told"]) (c_lifted : Cal P w K mg base CX0 2 "lifted" ["told", "more"] rLifted) (c_least_over : Cal P w K mg base CX0 3 "least_over" ["left", "right"] rOver) (c_is_whole : Cal P w K mg base CX0 1 "is_whole" ["thing"] rWhole) :
    ∀ n : Nat, Cal P w K mg base CX0 (3 + n) "least_told" ["told"] (rLeastT n)
  | 0 => (Df.none no_least_told).mono (Nat.zero_le _)
  | n + 1 => step_least_told Df c_lifted c_least_over c_is_whole (ok_least_told Df c_lifted c_least_over c_is_whole n)
def rTop (n : Nat) : List D → Re → Prop := fun ds r => ∃ o : Told, ds = [o.d] ∧ o.depth < n ∧ r = .ok (.int o.top)
theorem step_told_greatest {n : Nat} (Df : Dfn K mg "told_greatest" (top 20) ["told"]) (m_max : mg "max" = none) (c_is_whole : Cal P w K mg base CX0 1 "is_whole" ["thing"] rWhole) (c_told_greatest : Cal P w K mg base CX0 (2 + n) "told_greatest" ["told"] (rTop n)) :
    Cal P w K mg base CX0 (2 + n + 1) "told_greatest" ["told"] (rTop (n + 1)) := by
  have sc : FnScope ["told", "number", "left", "right"] ["told"] (defScope (top 20)) := ⟨rfl, rfl, rfl, by decide +kernel, rfl, by decide +kernel, by decide +kernel⟩
  refine Df.ok sc ?len (fun y f cdv A outer s H E hr => ⟨_, (qss_cons (qs_if (qt_val (q_cal c_is_whole hr (by omega) (by rfl) (qa_cons (q_var 0 (pv 0)) qa_nil)))
        (qss_one (qs_ret (q_var 0 (pv 0))))
        qss_nil)
      (qss_cons (qs_asg (q_var 0 (pv 0)) (qg_tup (n := 3) rfl (qgs_cons (qg_name 1 sc.nd rfl (Or.inl rfl)) (qgs_cons (qg_name 2 sc.nd rfl (Or.inl rfl)) (qgs_cons (qg_name 3 sc.nd rfl (Or.inl rfl)) qgs_nil)))))
      (qss_one (qs_ret (q_op op_add (i_int0 (g' := fun i j => .int (i + j)) fun _ _ _ _ => rfl) (q_var 1 (pv 1)) (q_callB (call_max2 rfl) i_max2 (by rfl) m_max (by decide +kernel) (qa_cons (q_cal c_told_greatest hr (by omega) (by rfl) (qa_cons (q_var 2 (pv 2)) qa_nil)) (qa_cons (q_cal c_told_greatest hr (by omega) (by rfl) (qa_cons (q_var 3 (pv 3)) qa_nil)) qa_nil)))))))), ?body⟩)
  case len =>
    rintro ds r ⟨o, rfl, _⟩
    rfl
  case body =>
    rintro ds r ⟨o, rfl, ho, rfl⟩
    refine ⟨_, rfl, ?_⟩
    cases o with
    | n i => simp [begun, rWhole, Told.d, D.tyS, Told.top]
    | t i l r =>
      have e6 : (Told.t i l r).depth = max l.depth r.depth + 1 := rfl
      simp [begun, rWhole, Told.d, D.tyS, Told.top]
      exact ⟨_, ⟨l, rfl, by omega, rfl⟩, _, ⟨r, rfl, by omega, rfl⟩, _, _, ⟨rfl, rfl⟩, rfl⟩
theorem no_told_greatest : ∀ ds r, ¬ rTop 0 ds r := by
  rintro ds r ⟨o, _, h, _⟩
  omega
theorem ok_told_greatest (Df : Dfn K mg "told_greatest" (top 20) ["told"]) (m_max : mg "max" = none) (c_is_whole : Cal P w K mg base CX0 1 "is_whole" ["thing"] rWhole) :
    ∀ n : Nat, Cal P w K mg base CX0 (2 + n) "told_greatest" ["told"] (rTop n)
  | 0 => (Df.none no_told_greatest).mono (Nat.zero_le _)
  | n + 1 => step_told_greatest Df m_max c_is_whole (ok_told_greatest Df m_max c_is_whole n)

/-! ### the program: halves, at most, joined -/
def rHalves : List D → Re → Prop := fun ds r => ∃ o : Told, ds = [o.d] ∧ r = .ok (.tup [(hvL o).d, (hvR o).d])
theorem ok_halves (Df : Dfn K mg "halves" (top 18) ["told"]) (c_lifted : Cal P w K mg base CX0 2 "lifted" ["told", "more"] rLifted) (c_is_whole : Cal P w K mg base CX0 1 "is_whole" ["thing"] rWhole) :
    Cal P w K mg base CX0 3 "halves" ["told"] rHalves := by
  have sc : FnScope ["told", "number", "left", "right"] ["told"] (defScope (top 18)) := ⟨rfl, rfl, rfl, by decide +kernel, rfl, by decide +kernel, by decide +kernel⟩
  refine Df.ok sc ?len (fun y f cdv A outer s H E hr => ⟨_, (qss_cons (qs_if (qt_val (q_cal c_is_whole hr (by omega) (by rfl) (qa_cons (q_var 0 (pv 0)) qa_nil)))
        (qss_one (qs_ret (q_tup (qa_cons (q_var 0 (pv 0)) (qa_cons (q_var 0 (pv 0)) qa_nil)))))
        qss_nil)
      (qss_cons (qs_asg (q_var 0 (pv 0)) (qg_tup (n := 3) rfl (qgs_cons (qg_name 1 sc.nd rfl (Or.inl rfl)) (qgs_cons (qg_name 2 sc.nd rfl (Or.inl rfl)) (qgs_cons (qg_name 3 sc.nd rfl (Or.inl rfl)) qgs_nil)))))
      (qss_one (qs_ret (q_tup (qa_cons (q_cal c_lifted hr (by omega) (by rfl) (qa_cons (q_var 2 (pv 2)) (qa_cons (q_var 1 (pv 1)) qa_nil))) (qa_cons (q_cal c_lifted hr (by omega) (by rfl) (qa_cons (q_var 3 (pv 3)) (qa_cons (q_var 1 (pv 1)) qa_nil))) qa_nil))))))), ?body⟩)
  case len =>
    rintro ds r ⟨o, rfl, _⟩
    rfl
  case body =>
    rintro ds r ⟨o, rfl, rfl⟩
    refine ⟨_, rfl, ?_⟩
    cases o with
    | n i => simp [begun, rWhole, Told.d, D.tyS, hvL, hvR]
    | t i l r =>
      have fl : rLifted [l.d, .int i] (.ok (l.lift i).d) := ⟨l, i, rfl, rfl⟩
      have fr : rLifted [r.d, .int i] (.ok (r.lift i).d) := ⟨r, i, rfl, rfl⟩
      refine ⟨_, rfl, _, ⟨_, "tuple", rfl, rfl, rfl⟩, _, rfl, iteF ?_⟩
      refine ⟨_, rfl, _, rfl, rfl, by simp [begun], by simp [begun], by simp [begun], rfl, ?_⟩
      exact ⟨_, rfl, _, rfl, _, fl, _, rfl, _, rfl, _, fr, by simp, rfl⟩
def rAtMost (n : Nat) : List D → Re → Prop := fun ds r => ∃ (a b : Told) (k : Nat), ds = [a.d, b.d] ∧ k < n ∧ a.depth ≤ k ∧ b.depth ≤ k ∧ b.ok ∧ b.isLeast = true ∧ r = .ok (.bl (leL (nums k a) (nums k b)))
theorem no_at_most : ∀ ds r, ¬ rAtMost 0 ds r := by
  rintro ds r ⟨a, b, k, _, h, _⟩
  omega
def rJoined (n : Nat) : List D → Re → Prop := fun ds r => ∃ (a b : Told) (k : Nat), ds = [a.d, b.d] ∧ k < n ∧ k ≤ 60 ∧ a.depth ≤ k ∧ b.depth ≤ k ∧ r = .ok (toldOf k (mxL (nums k a) (nums k b))).d
theorem no_joined : ∀ ds r, ¬ rJoined 0 ds r := by
  rintro ds r ⟨a, b, k, _, h, _⟩
  omega
variable {C_StampError C_BadOwn C_BadTold C_Shared C_NoOwn C_BadRow C_NoHand C_Stamp C_Hands C_BitReader : Addr}

/-! ### the program: parted, shares, together -/
theorem ev0 (o : Own) : o.d.eqv (.int 0) = decide (o = .lf false) := Own.eqv_d o (.lf false)
theorem ev1 (o : Own) : o.d.eqv (.int 1) = decide (o = .lf true) := Own.eqv_d o (.lf true)
def rParted (n : Nat) : List D → Re → Prop := fun ds r => ∃ o : Own, ds = [o.d] ∧ o.depth < n ∧ o.depth ≤ 60 ∧ r = .ok (.tup [(Own.partO o).1.d, (Own.partO o).2.d])
theorem no_parted : ∀ ds r, ¬ rParted 0 ds r := by
  rintro ds r ⟨o, _, h, _⟩
  omega
def rShares (n : Nat) : List D → Re → Prop := fun ds r => ∃ a b : Own, ds = [a.d, b.d] ∧ a.depth < n ∧ a.depth ≤ 60 ∧ b.depth ≤ 60 ∧ r = .ok (.bl (Own.sharesO a b))
theorem no_shares : ∀ ds r, ¬ rShares 0 ds r := by
  rintro ds r ⟨a, b, _, h, _⟩
  omega
def rTog (C : Addr) (n : Nat) : List D → Re → Prop := fun ds r => ∃ a b : Own, ds = [a.d, b.d] ∧ a.depth < n ∧ a.depth ≤ 60 ∧ b.depth ≤ 60 ∧ r = (match Own.togO a b with | some o => .ok o.d | none => .er C)
theorem no_together : ∀ ds r, ¬ rTog C_Shared 0 ds r := by
  rintro ds r ⟨a, b, _, h, _⟩
  omega
/-! ### the program: filled, grown, raised -/
theorem fillT_zero (t : Told) : fillT (.lf false) t = t := by cases t <;> rfl
theorem fillT_one {t : Told} (h : ∀ i, t ≠ .n i) : fillT (.lf true) t = .n t.top := by
  cases t with
  | n i => exact absurd rfl (h i)
  | t i l r => rfl
theorem ty_tup {t : Told} (h : ∀ i, t ≠ .n i) : t.d.tyS = some "tuple" := by
  cases t with
  | n i => exact absurd rfl (h i)
  | t i l r => rfl
theorem evz (o : Own) : o.d.eqv (.int 0) = decide (o = .lf false) := Own.eqv_d o (.lf false)
theorem evo (o : Own) : o.d.eqv (.int 1) = decide (o = .lf true) := Own.eqv_d o (.lf true)
def rFill (n : Nat) : List D → Re → Prop := fun ds r => ∃ (o : Own) (t : Told), ds = [o.d, t.d] ∧ o.depth < n ∧ o.depth ≤ 60 ∧ t.depth < 40 ∧ r = .ok (fillT o t).d
theorem step_filled {n : Nat} (Df : Dfn K mg "filled" (top 25) ["own", "told"]) (m_max : mg "max" = none) (c_least_over : Cal P w K mg base CX0 3 "least_over" ["left", "right"] rOver) (c_told_least : Cal P w K mg base CX0 2 "told_least" ["told"] rLow) (c_told_greatest : Cal P w K mg base CX0 (2 + 40) "told_greatest" ["told"] (rTop 40)) (c_halves : Cal P w K mg base CX0 3 "halves" ["told"] rHalves) (c_is_whole : Cal P w K mg base CX0 1 "is_whole" ["thing"] rWhole) (c_filled : Cal P w K mg base CX0 (42 + n) "filled" ["own", "told"] (rFill n)) :
    Cal P w K mg base CX0 (42 + n + 1) "filled" ["own", "told"] (rFill (n + 1)) := by
  have sc : FnScope ["own", "told", "own_left", "own_right", "left", "right"] ["own", "told"] (defScope (top 25)) := ⟨rfl, rfl, rfl, by decide +kernel, rfl, by decide +kernel, by decide +kernel⟩
  refine Df.ok sc ?len (fun y f cdv A outer s H E hr => ⟨_, (qss_cons (qs_if (qt_w (qw_or (qt_cmp (op_eqD hr.units) i_eq (nomark _) (q_var 0 (pv 0)) (q_c (d := .int 0) pe_int (fun _ _ => rfl))) (qw_or1 (qt_val (q_cal c_is_whole hr (by omega) (by rfl) (qa_cons (q_var 1 (pv 1)) qa_nil))))))
        (qss_one (qs_ret (q_var 1 (pv 1))))
        qss_nil)
      (qss_cons (qs_if (qt_cmp (op_eqD hr.units) i_eq (nomark _) (q_var 0 (pv 0)) (q_c (d := .int 1) pe_int (fun _ _ => rfl)))
        (qss_one (qs_ret (q_cal c_told_greatest hr (by omega) (by rfl) (qa_cons (q_var 1 (pv 1)) qa_nil))))
        qss_nil)
      (qss_cons (qs_asg (q_var 0 (pv 0)) (qg_tup (n := 2) rfl (qgs_cons (qg_name 2 sc.nd rfl (Or.inl rfl)) (qgs_cons (qg_name 3 sc.nd rfl (Or.inl rfl)) qgs_nil))))
      (qss_cons (qs_asg (q_cal c_halves hr (by omega) (by rfl) (qa_cons (q_var 1 (pv 1)) qa_nil)) (qg_tup (n := 2) rfl (qgs_cons (qg_name 4 sc.nd rfl (Or.inl rfl)) (qgs_cons (qg_name 5 sc.nd rfl (Or.inl rfl)) qgs_nil))))
      (qss_cons (qs_if (qt_cmp (op_eqD hr.units) i_eq (nomark _) (q_var 2 (pv 2)) (q_c (d := .int 1) pe_int (fun _ _ => rfl)))
        (qss_cons (qs_set 5 sc.nd rfl (by first | exact Or.inl rfl | exact Or.inr rfl) (q_cal c_filled hr (by omega) (by rfl) (qa_cons (q_var 3 (pv 3)) (qa_cons (q_var 5 (pv 5)) qa_nil))))
        (qss_one (qs_set 4 sc.nd rfl (by first | exact Or.inl rfl | exact Or.inr rfl) (q_callB (call_max2 rfl) i_max2 (by rfl) m_max (by decide +kernel) (qa_cons (q_cal c_told_greatest hr (by omega) (by rfl) (qa_cons (q_var 4 (pv 4)) qa_nil)) (qa_cons (q_cal c_told_least hr (by omega) (by rfl) (qa_cons (q_var 5 (pv 5)) qa_nil)) qa_nil))))))
        (qss_one (qs_if (qt_cmp (op_eqD hr.units) i_eq (nomark _) (q_var 3 (pv 3)) (q_c (d := .int 1) pe_int (fun _ _ => rfl)))
          (qss_cons (qs_set 4 sc.nd rfl (by first | exact Or.inl rfl | exact Or.inr rfl) (q_cal c_filled hr (by omega) (by rfl) (qa_cons (q_var 2 (pv 2)) (qa_cons (q_var 4 (pv 4)) qa_nil))))
          (qss_one (qs_set 5 sc.nd rfl (by first | exact Or.inl rfl | exact Or.inr rfl) (q_callB (call_max2 rfl) i_max2 (by rfl) m_max (by decide +kernel) (qa_cons (q_cal c_told_greatest hr (by omega) (by rfl) (qa_cons (q_var 5 (pv 5)) qa_nil)) (qa_cons (q_cal c_told_least hr (by omega) (by rfl) (qa_cons (q_var 4 (pv 4)) qa_nil)) qa_nil))))))
          (qss_cons (qs_set 4 sc.nd rfl (by first | exact Or.inl rfl | exact Or.inr rfl) (q_cal c_filled hr (by omega) (by rfl) (qa_cons (q_var 2 (pv 2)) (qa_cons (q_var 4 (pv 4)) qa_nil))))
          (qss_one (qs_set 5 sc.nd rfl (by first | exact Or.inl rfl | exact Or.inr rfl) (q_cal c_filled hr (by omega) (by rfl) (qa_cons (q_var 3 (pv 3)) (qa_cons (q_var 5 (pv 5)) qa_nil)))))))))
      (qss_one (qs_ret (q_cal c_least_over hr (by omega) (by rfl) (qa_cons (q_var 4 (pv 4)) (qa_cons (q_var 5 (pv 5)) qa_nil)))))))))), ?body⟩)
  case len =>
    rintro ds r ⟨o, t, rfl, _⟩
    rfl
  case body =>
    rintro ds r ⟨o, t, rfl, hn, h60, ht, rfl⟩
    refine ⟨_, rfl, ?_⟩
    have so := Own.sh (o := o) (by omega)
    refine ⟨_, rfl, so, rfl, _, rfl, ?_⟩
    rw [evz]
    by_cases o0 : o = .lf false
    · rw [decide_eq_true o0]
      refine iteT ?_
      refine iteT ⟨_, rfl, ?_⟩
      rw [o0, fillT_zero]
    rw [decide_eq_false o0]
    refine iteF ?_
    by_cases w : ∃ i, t = .n i
    · obtain ⟨i, rfl⟩ := w
      refine ⟨_, rfl, _, ⟨_, "int", rfl, rfl, rfl⟩, _, rfl, iteT ⟨_, rfl, ?_⟩⟩
      rw [fillT_n]
    have w' : ∀ i, t ≠ .n i := fun i z => w ⟨i, z⟩
    refine ⟨_, rfl, _, ⟨_, "tuple", rfl, ty_tup w', rfl⟩, _, rfl, iteF ?_⟩
    refine ⟨_, rfl, so, rfl, _, rfl, ?_⟩
    rw [evo]
    by_cases o1 : o = .lf true
    · rw [decide_eq_true o1]
      have qt : rTop 40 [t.d] (.ok (.int t.top)) := ⟨t, rfl, ht, rfl⟩
      refine iteT ⟨_, rfl, _, qt, ?_⟩
      rw [o1, fillT_one w']
      rfl
    rw [decide_eq_false o1]
    refine iteF ?_
    cases o with
    | lf b => cases b <;> simp at o0 o1
    | nd a b =>
    have e6 : (Own.nd a b).depth = max a.depth b.depth + 1 := rfl
    have hd : (hvL t).depth ≤ 38 ∧ (hvR t).depth ≤ 38 := hv_depth (by omega)
    have h1 : rHalves [t.d] (.ok (.tup [(hvL t).d, (hvR t).d])) := ⟨t, rfl, rfl⟩
    rw [fillT_hv w']
    have f1 := fillT_depth a (hvL t)
    have f2 := fillT_depth b (hvR t)
    have sa := Own.sh (o := a) (by omega)
    have sb := Own.sh (o := b) (by omega)
    have qa : rFill n [a.d, (hvL t).d] (.ok (fillT a (hvL t)).d) := ⟨a, _, rfl, by omega, by omega, by omega, rfl⟩
    have qb : rFill n [b.d, (hvR t).d] (.ok (fillT b (hvR t)).d) := ⟨b, _, rfl, by omega, by omega, by omega, rfl⟩
    have tl : rTop 40 [(hvL t).d] (.ok (.int (hvL t).top)) := ⟨_, rfl, by omega, rfl⟩
    have tr : rTop 40 [(hvR t).d] (.ok (.int (hvR t).top)) := ⟨_, rfl, by omega, rfl⟩
    have ll : rLow [(fillT a (hvL t)).d] (.ok (.int (fillT a (hvL t)).low)) := ⟨_, rfl, rfl⟩
    have lr : rLow [(fillT b (hvR t)).d] (.ok (.int (fillT b (hvR t)).low)) := ⟨_, rfl, rfl⟩
    have ov : ∀ x y : Told, x.depth ≤ 60 → y.depth ≤ 60 → rOver [x.d, y.d] (.ok (Told.over x y).d) := fun x y h1 h2 => ⟨x, y, rfl, h1, h2, rfl⟩
    refine ⟨_, rfl, _, rfl, rfl, by simp [begun], by simp [begun], rfl, ?_⟩
    refine ⟨_, rfl, _, h1, _, rfl, rfl, by simp [begun], by simp [begun], rfl, ?_⟩
    refine ⟨_, rfl, sa, rfl, _, rfl, ?_⟩
    rw [evo]
    by_cases a1 : a = .lf true
    · rw [if_pos a1, decide_eq_true a1]
      refine iteT ?_
      refine ⟨_, rfl, _, rfl, _, qb, by simp [begun], ?_⟩
      refine ⟨_, rfl, _, tl, _, rfl, _, lr, _, _, rfl, by simp [begun], ?_⟩
      exact ⟨_, rfl, _, rfl, _, ov (.n _) _ (Nat.zero_le _) (by omega), rfl⟩
    rw [if_neg a1, decide_eq_false a1]
    refine iteF ?_
    refine ⟨_, rfl, sb, rfl, _, rfl, ?_⟩
    rw [evo]
    by_cases b1 : b = .lf true
    · rw [if_pos b1, decide_eq_true b1]
      refine iteT ?_
      refine ⟨_, rfl, _, rfl, _, qa, by simp [begun], ?_⟩
      refine ⟨_, rfl, _, tr, _, rfl, _, ll, _, _, rfl, by simp [begun], ?_⟩
      exact ⟨_, rfl, _, rfl, _, ov _ (.n _) (by omega) (Nat.zero_le _), rfl⟩
    rw [if_neg b1, decide_eq_false b1]
    refine iteF ?_
    refine ⟨_, rfl, _, rfl, _, qa, by simp [begun], ?_⟩
    refine ⟨_, rfl, _, rfl, _, qb, by simp [begun], ?_⟩
    exact ⟨_, rfl, _, rfl, _, ov _ _ (by omega) (by omega), rfl⟩
theorem no_filled : ∀ ds r, ¬ rFill 0 ds r := by
  rintro ds r ⟨o, t, _, h, _⟩
  omega
theorem ok_filled (Df : Dfn K mg "filled" (top 25) ["own", "told"]) (m_max : mg "max" = none) (c_least_over : Cal P w K mg base CX0 3 "least_over" ["left", "right"] rOver) (c_told_least : Cal P w K mg base CX0 2 "told_least" ["told"] rLow) (c_told_greatest : Cal P w K mg base CX0 (2 + 40) "told_greatest" ["told"] (rTop 40)) (c_halves : Cal P w K mg base CX0 3 "halves" ["told"] rHalves) (c_is_whole : Cal P w K mg base CX0 1 "is_whole" ["thing"] rWhole) :
    ∀ n : Nat, Cal P w K mg base CX0 (42 + n) "filled" ["own", "told"] (rFill n)
  | 0 => (Df.none no_filled).mono (Nat.zero_le _)
  | n + 1 => step_filled Df m_max c_least_over c_told_least c_told_greatest c_halves c_is_whole (ok_filled Df m_max c_least_over c_told_least c_told_greatest c_halves c_is_whole n)
def rGrowP (n : Nat) : List D → Re → Prop := fun ds r => ∃ (o : Own) (t : Told), ds = [o.d, t.d] ∧ o.depth < n ∧ o.depth ≤ 39 ∧ t.depth ≤ 39 ∧ o.isLeast = true ∧ o ≠ .lf false ∧ Fit o t ∧ r = .ok (.tup [.int (growT o t).1, (growT o t).2.d])
theorem step_grown_at_price {n : Nat} (Df : Dfn K mg "grown_at_price" (top 27) ["own", "told"]) (gi_HALF_PRICE : ∃ u, mg "HALF_PRICE" = some u ∧ RelV (V.int 1) u) (gi_PARTING_PRICE : ∃ u, mg "PARTING_PRICE" = some u ∧ RelV (V.int 1000) u) (c_least_over : Cal P w K mg base CX0 3 "least_over" ["left", "right"] rOver) (c_is_whole : Cal P w K mg base CX0 1 "is_whole" ["thing"] rWhole) (c_halves : Cal P w K mg base CX0 3 "halves" ["told"] rHalves) (c_grown_at_price : Cal P w K mg base CX0 (3 + n) "grown_at_price" ["own", "told"] (rGrowP n)) :
    Cal P w K mg base CX0 (3 + n + 1) "grown_at_price" ["own", "told"] (rGrowP (n + 1)) := by
  have sc : FnScope ["own", "told", "own_left", "own_right", "left", "right", "price", "left_price", "right_price", "grown_right", "grown_left"] ["own", "told"] (defScope (top 27)) := ⟨rfl, rfl, rfl, by decide +kernel, rfl, by decide +kernel, by decide +kernel⟩
  refine Df.ok sc ?len (fun y f cdv A outer s H E hr => ⟨_, (qss_cons (qs_if (qt_cmp (op_eqD hr.units) i_eq (nomark _) (q_var 0 (pv 0)) (q_c (d := .int 1) pe_int (fun _ _ => rfl)))
        (qss_one (qs_ret (q_tup (qa_cons (q_c (d := .int 0) pe_int (fun _ _ => rfl)) (qa_cons (q_op op_add (i_int0 (g' := fun i j => .int (i + j)) fun _ _ _ _ => rfl) (q_var 1 (pv 1)) (q_c (d := .int 1) pe_int (fun _ _ => rfl))) qa_nil)))))
        qss_nil)
      (qss_cons (qs_asg (q_var 0 (pv 0)) (qg_tup (n := 2) rfl (qgs_cons (qg_name 2 sc.nd rfl (Or.inl rfl)) (qgs_cons (qg_name 3 sc.nd rfl (Or.inl rfl)) qgs_nil))))
      (qss_cons (qs_asg (q_cal c_halves hr (by omega) (by rfl) (qa_cons (q_var 1 (pv 1)) qa_nil)) (qg_tup (n := 2) rfl (qgs_cons (qg_name 4 sc.nd rfl (Or.inl rfl)) (qgs_cons (qg_name 5 sc.nd rfl (Or.inl rfl)) qgs_nil))))
      (qss_cons (qs_set 6 sc.nd rfl (by first | exact Or.inl rfl | exact Or.inr rfl) (q_globI (by rfl) gi_HALF_PRICE))
      (qss_cons (qs_if (qt_val (q_cal c_is_whole hr (by omega) (by rfl) (qa_cons (q_var 1 (pv 1)) qa_nil)))
        (qss_one (qs_set 6 sc.nd rfl (by first | exact Or.inl rfl | exact Or.inr rfl) (q_op op_add (i_int0 (g' := fun i j => .int (i + j)) fun _ _ _ _ => rfl) (q_globI (by rfl) gi_HALF_PRICE) (q_globI (by rfl) gi_PARTING_PRICE))))
        qss_nil)
      (qss_cons (qs_if (qt_cmp (op_eqD hr.units) i_eq (nomark _) (q_var 3 (pv 3)) (q_c (d := .int 0) pe_int (fun _ _ => rfl)))
        (qss_cons (qs_asg (q_cal c_grown_at_price hr (by omega) (by rfl) (qa_cons (q_var 2 (pv 2)) (qa_cons (q_var 4 (pv 4)) qa_nil))) (qg_tup (n := 2) rfl (qgs_cons (qg_name 7 sc.nd rfl (Or.inl rfl)) (qgs_cons (qg_name 4 sc.nd rfl (Or.inl rfl)) qgs_nil))))
        (qss_one (qs_ret (q_tup (qa_cons (q_op op_add (i_int0 (g' := fun i j => .int (i + j)) fun _ _ _ _ => rfl) (q_var 6 (pv 6)) (q_var 7 (pv 7))) (qa_cons (q_cal c_least_over hr (by omega) (by rfl) (qa_cons (q_var 4 (pv 4)) (qa_cons (q_var 5 (pv 5)) qa_nil))) qa_nil))))))
        qss_nil)
      (qss_cons (qs_asg (q_cal c_grown_at_price hr (by omega) (by rfl) (qa_cons (q_var 3 (pv 3)) (qa_cons (q_var 5 (pv 5)) qa_nil))) (qg_tup (n := 2) rfl (qgs_cons (qg_name 8 sc.nd rfl (Or.inl rfl)) (qgs_cons (qg_name 9 sc.nd rfl (Or.inl rfl)) qgs_nil))))
      (qss_cons (qs_if (qt_cmp (op_neD hr.units) i_ne (nomark _) (q_var 2 (pv 2)) (q_c (d := .int 0) pe_int (fun _ _ => rfl)))
        (qss_cons (qs_asg (q_cal c_grown_at_price hr (by omega) (by rfl) (qa_cons (q_var 2 (pv 2)) (qa_cons (q_var 4 (pv 4)) qa_nil))) (qg_tup (n := 2) rfl (qgs_cons (qg_name 7 sc.nd rfl (Or.inl rfl)) (qgs_cons (qg_name 10 sc.nd rfl (Or.inl rfl)) qgs_nil))))
        (qss_one (qs_if (qt_cmp op_lt (i_int0 (g' := fun i j => .bl (decide (i < j))) fun _ _ _ _ => rfl) (nomark _) (q_var 7 (pv 7)) (q_var 8 (pv 8)))
          (qss_one (qs_ret (q_tup (qa_cons (q_op op_add (i_int0 (g' := fun i j => .int (i + j)) fun _ _ _ _ => rfl) (q_var 6 (pv 6)) (q_var 7 (pv 7))) (qa_cons (q_cal c_least_over hr (by omega) (by rfl) (qa_cons (q_var 10 (pv 10)) (qa_cons (q_var 5 (pv 5)) qa_nil))) qa_nil)))))
          qss_nil)))
        qss_nil)
      (qss_one (qs_ret (q_tup (qa_cons (q_op op_add (i_int0 (g' := fun i j => .int (i + j)) fun _ _ _ _ => rfl) (q_var 6 (pv 6)) (q_var 8 (pv 8))) (qa_cons (q_cal c_least_over hr (by omega) (by rfl) (qa_cons (q_var 4 (pv 4)) (qa_cons (q_var 9 (pv 9)) qa_nil))) qa_nil))))))))))))), ?body⟩)
  case len =>
    rintro ds r ⟨o, t, rfl, _⟩
    rfl
  case body =>
    rintro ds r ⟨o, t, rfl, hn, h60, ht, ol, o0, ft, rfl⟩
    refine ⟨_, rfl, ?_⟩
    have so := Own.sh (o := o) (by omega)
    refine ⟨_, rfl, so, rfl, _, rfl, ?_⟩
    rw [evo]
    by_cases o1 : o = .lf true
    · subst o1
      obtain ⟨i, rfl⟩ := ft
      refine iteT ⟨_, rfl, _, _, rfl, rfl, trivial, by simp, rfl⟩
    rw [decide_eq_false o1]
    refine iteF ?_
    cases o with
    | lf b => cases b <;> simp at o0 o1
    | nd a b =>
    have e6 : (Own.nd a b).depth = max a.depth b.depth + 1 := rfl
    simp only [Own.isLeast, Bool.and_eq_true, Bool.not_eq_true', Bool.and_eq_false_iff, decide_eq_false_iff_not] at ol
    obtain ⟨⟨⟨n0, _⟩, la⟩, lb⟩ := ol
    have hd : (hvL t).depth ≤ 38 ∧ (hvR t).depth ≤ 38 := hv_depth (by omega)
    have h1 : rHalves [t.d] (.ok (.tup [(hvL t).d, (hvR t).d])) := ⟨t, rfl, rfl⟩
    have ga := growT_depth a (hvL t) 60 (by omega) (by omega)
    have gb := growT_depth b (hvR t) 60 (by omega) (by omega)
    have sa := Own.sh (o := a) (by omega)
    have sb := Own.sh (o := b) (by omega)
    have qa : a ≠ .lf false → rGrowP n [a.d, (hvL t).d] (.ok (.tup [.int (growT a (hvL t)).1, (growT a (hvL t)).2.d])) := fun z => ⟨a, _, rfl, by omega, by omega, by omega, la, z, ft.1, rfl⟩
    have qb : b ≠ .lf false → rGrowP n [b.d, (hvR t).d] (.ok (.tup [.int (growT b (hvR t)).1, (growT b (hvR t)).2.d])) := fun z => ⟨b, _, rfl, by omega, by omega, by omega, lb, z, ft.2, rfl⟩
    have ov : ∀ x y : Told, x.depth ≤ 60 → y.depth ≤ 60 → rOver [x.d, y.d] (.ok (Told.over x y).d) := fun x y h1 h2 => ⟨x, y, rfl, h1, h2, rfl⟩
    rw [growT_hv]
    generalize growT a (hvL t) = A at *
    generalize growT b (hvR t) = B at *
    obtain ⟨pa, ta⟩ := A
    obtain ⟨pb, tb⟩ := B
    dsimp only at *
    have oA := ov ta (hvR t) ga (by omega)
    have oB := ov (hvL t) tb (by omega) gb
    refine ⟨_, rfl, _, rfl, rfl, by simp [begun], by simp [begun], rfl, ?_⟩
    refine ⟨_, rfl, _, h1, _, rfl, rfl, by simp [begun], by simp [begun], rfl, ?_⟩
    refine ⟨by simp [begun], ?_⟩
    by_cases w : ∃ i, t = .n i
    obtain ⟨i, rfl⟩ := w
    refine ⟨_, rfl, _, ⟨_, "int", rfl, rfl, rfl⟩, _, rfl, iteT ?_⟩
    refine ⟨_, _, rfl, rfl, trivial, by simp [begun], ?_⟩
    rw [show cost (.n i) = 1 + 1000 from rfl]
    dsimp only
    generalize (1 + 1000 : Int) = P
    generalize Told.n i = t at *
    rotate_left
    have w' : ∀ i, t ≠ .n i := fun i z => w ⟨i, z⟩
    have ec : cost t = 1 := by
      cases t with
      | n i => exact absurd rfl (w' i)
      | t i l r => rfl
    refine ⟨_, rfl, _, ⟨_, "tuple", rfl, ty_tup w', rfl⟩, _, rfl, iteF ?_⟩
    rw [ec]
    dsimp only
    generalize (1 : Int) = P
    all_goals
      refine ⟨_, rfl, sb, rfl, _, rfl, ?_⟩
      rw [evz]
      by_cases b0 : b = .lf false
      · have na : a ≠ .lf false := fun z => n0.elim (fun q => q z) (fun q => q b0)
        rw [decide_eq_true b0, if_pos (by simp [pick, na, b0])]
        refine iteT ?_
        refine ⟨_, rfl, _, rfl, _, qa na, _, rfl, rfl, by simp [begun], by simp [begun], rfl, ?_⟩
        exact ⟨_, rfl, _, rfl, _, _, rfl, rfl, trivial, _, rfl, _, rfl, _, oA, by simp, rfl⟩
      rw [decide_eq_false b0]
      refine iteF ?_
      refine ⟨_, rfl, _, rfl, _, qb b0, _, rfl, rfl, by simp [begun], by simp [begun], rfl, ?_⟩
      refine ⟨_, rfl, sa, rfl, _, rfl, ?_⟩
      rw [evz]
      by_cases a0 : a = .lf false
      · rw [decide_eq_true a0, if_neg (by simp [pick, a0])]
        refine iteF ?_
        exact ⟨_, rfl, _, rfl, _, _, rfl, rfl, trivial, _, rfl, _, rfl, _, oB, by simp, rfl⟩
      rw [decide_eq_false a0]
      refine iteT ?_
      refine ⟨_, rfl, _, rfl, _, qa a0, _, rfl, rfl, by simp [begun], by simp [begun], rfl, ?_⟩
      refine ⟨_, rfl, _, rfl, _, _, rfl, rfl, trivial, _, rfl, ?_⟩
      by_cases lt : pa < pb
      · rw [decide_eq_true lt, if_pos (by simp [pick, a0, b0, lt])]
        refine iteT ?_
        exact ⟨_, rfl, _, rfl, _, _, rfl, rfl, trivial, _, rfl, _, rfl, _, oA, by simp, rfl⟩
      · rw [decide_eq_false lt, if_neg (by simp [pick, a0, b0, lt])]
        refine iteF ?_
        exact ⟨_, rfl, _, rfl, _, _, rfl, rfl, trivial, _, rfl, _, rfl, _, oB, by simp, rfl⟩
theorem no_grown_at_price : ∀ ds r, ¬ rGrowP 0 ds r := by
  rintro ds r ⟨o, t, _, h, _⟩
  omega
theorem ok_grown_at_price (Df : Dfn K mg "grown_at_price" (top 27) ["own", "told"]) (gi_HALF_PRICE : ∃ u, mg "HALF_PRICE" = some u ∧ RelV (V.int 1) u) (gi_PARTING_PRICE : ∃ u, mg "PARTING_PRICE" = some u ∧ RelV (V.int 1000) u) (c_least_over : Cal P w K mg base CX0 3 "least_over" ["left", "right"] rOver) (c_is_whole : Cal P w K mg base CX0 1 "is_whole" ["thing"] rWhole) (c_halves : Cal P w K mg base CX0 3 "halves" ["told"] rHalves) :
    ∀ n : Nat, Cal P w K mg base CX0 (3 + n) "grown_at_price" ["own", "told"] (rGrowP n)
  | 0 => (Df.none no_grown_at_price).mono (Nat.zero_le _)
  | n + 1 => step_grown_at_price Df gi_HALF_PRICE gi_PARTING_PRICE c_least_over c_is_whole c_halves (ok_grown_at_price Df gi_HALF_PRICE gi_PARTING_PRICE c_least_over c_is_whole c_halves n)
def rGrown : List D → Re → Prop := fun ds r => ∃ (o : Own) (t : Told), ds = [o.d, t.d] ∧ o.depth ≤ 39 ∧ t.depth ≤ 39 ∧ o.isLeast = true ∧ o ≠ .lf false ∧ Fit o t ∧ r = .ok (growT o t).2.d
theorem ok_grown (Df : Dfn K mg "grown" (top 26) ["own", "told"]) (c_grown_at_price : Cal P w K mg base CX0 (3 + 40) "grown_at_price" ["own", "told"] (rGrowP 40)) :
    Cal P w K mg base CX0 44 "grown" ["own", "told"] rGrown := by
  have sc : FnScope ["own", "told", "_", "greater"] ["own", "told"] (defScope (top 26)) := ⟨rfl, rfl, rfl, by decide +kernel, rfl, by decide +kernel, by decide +kernel⟩
  refine Df.ok sc ?len (fun y f cdv A outer s H E hr => ⟨_, (qss_cons (qs_asg (q_cal c_grown_at_price hr (by omega) (by rfl) (qa_cons (q_var 0 (pv 0)) (qa_cons (q_var 1 (pv 1)) qa_nil))) (qg_tup (n := 2) rfl (qgs_cons (qg_name 2 sc.nd rfl (Or.inl rfl)) (qgs_cons (qg_name 3 sc.nd rfl (Or.inl rfl)) qgs_nil))))
      (qss_one (qs_ret (q_var 3 (pv 3))))), ?body⟩)
  case len =>
    rintro ds r ⟨o, t, rfl, _⟩
    rfl
  case body =>
    rintro ds r ⟨o, t, rfl, h1, h2, h3, h4, h5, rfl⟩
    refine ⟨_, rfl, ?_⟩
    refine ⟨_, rfl, _, rfl, _, ⟨o, t, rfl, by omega, h1, h2, h3, h4, h5, rfl⟩, _, rfl, rfl, by simp [begun], by simp [begun], rfl, ?_⟩
    exact ⟨_, rfl, rfl⟩
def rRaised (C : Addr) : List D → Re → Prop := fun ds r => ∃ (o : Own) (t : Told), ds = [o.d, t.d] ∧ o.depth ≤ 39 ∧ t.depth ≤ 39 ∧ o.isLeast = true ∧ t.ok ∧ t.isLeast = true ∧ r = if o = .lf false then .er C else .ok (raiseT o t).d
theorem ok_raised (Df : Dfn K mg "raised" (top 24) ["own", "told"]) (K_NoOwn : ExK K C_NoOwn) (g_NoOwn : mg "NoOwn" = some (.ref C_NoOwn)) (c_grown : Cal P w K mg base CX0 44 "grown" ["own", "told"] rGrown) (c_filled : Cal P w K mg base CX0 (42 + 40) "filled" ["own", "told"] (rFill 40)) :
    Cal P w K mg base (L2.CX P w) 83 "raised" ["own", "told"] (rRaised C_NoOwn) := by
  have sc : FnScope ["own", "told", "greater"] ["own", "told"] (defScope (top 24)) := ⟨rfl, rfl, rfl, by decide +kernel, rfl, by decide +kernel, by decide +kernel⟩
  refine Df.okX sc ?len (fun y f cdv A outer s H E hr W E1 tk => ⟨_, (qss_cons (qs_if (qt_cmp (op_eqD hr.units) i_eq (nomark _) (q_var 0 (pv 0)) (q_c (d := .int 0) pe_int (fun _ _ => rfl)))
        (qss_one (qs_raise K_NoOwn g_NoOwn rfl tk (by rfl)))
        qss_nil)
      (qss_cons (qs_set 2 sc.nd rfl (by first | exact Or.inl rfl | exact Or.inr rfl) (q_cal c_filled hr (by omega) (by rfl) (qa_cons (q_var 0 (pv 0)) (qa_cons (q_var 1 (pv 1)) qa_nil))))
      (qss_cons (qs_if (qt_cmp (op_neD hr.units) i_ne (nomark _) (q_var 2 (pv 2)) (q_var 1 (pv 1)))
        (qss_one (qs_ret (q_var 2 (pv 2))))
        qss_nil)
      (qss_one (qs_ret (q_cal c_grown hr (by omega) (by rfl) (qa_cons (q_var 0 (pv 0)) (qa_cons (q_var 1 (pv 1)) qa_nil)))))))), ?body⟩)
  case len =>
    rintro ds r ⟨o, t, rfl, _⟩
    rfl
  case body =>
    rintro ds r ⟨o, t, rfl, h1, h2, h3, h4, h5, rfl⟩ hE
    have so := Own.sh (o := o) (by omega)
    have st := Told.sh (o := t) (by omega)
    have df := fillT_depth o t
    have sf := Told.sh (o := fillT o t) (by omega)
    refine ⟨_, rfl, so, rfl, _, rfl, ?_⟩
    rw [evz]
    by_cases o0 : o = .lf false
    · rw [decide_eq_true o0]
      rw [if_pos o0] at hE
      refine iteT ?_
      exact hE _ _ rfl
    rw [decide_eq_false o0, if_neg o0]
    refine iteF ?_
    have qf : rFill 40 [o.d, t.d] (.ok (fillT o t).d) := ⟨o, t, rfl, by omega, by omega, by omega, rfl⟩
    refine ⟨_, rfl, _, rfl, _, qf, by simp [begun], ?_⟩
    refine ⟨_, rfl, _, rfl, sf, st, _, rfl, ?_⟩
    rw [Told.eqv_d]
    unfold raiseT
    by_cases z : fillT o t = t
    · rw [decide_eq_true z, if_pos z]
      refine iteF ?_
      exact ⟨_, rfl, _, rfl, _, ⟨o, t, rfl, h1, h2, h3, o0, Fit_of o t h4 h5 z, rfl⟩, rfl⟩
    · rw [decide_eq_false z, if_neg z]
      exact iteT ⟨_, rfl, rfl⟩

/-! ### the law's own: mixed numbers, own parts, places -/
def mixf (c k : Int) : Int := ((c % 10 ^ 60 + 17) * 48271 % 2147483647 + 5 * k) * (16807 + 1033 * k * k) % 2147483629 / 4
def rMixed : List D → Re → Prop := fun ds r => ∃ c k : Int, ds = [.int c, .int k] ∧ 0 ≤ k ∧ k ≤ 1000 ∧ r = .ok (.int (mixf c k))
theorem cdiv {i j : Int} : CDiv i j = (0 < j ∧ j < 1073741824) := rfl
theorem ok__law_mixed (Df : Dfn K mg "_law_mixed" (top 48) ["_law_cell", "_law_k"]) :
    Cal P w K mg base CX0 1 "_law_mixed" ["_law_cell", "_law_k"] rMixed := by
  have sc : FnScope ["_law_cell", "_law_k", "_law_mixed_here"] ["_law_cell", "_law_k"] (defScope (top 48)) := ⟨rfl, rfl, rfl, by decide +kernel, rfl, by decide +kernel, by decide +kernel⟩
  refine Df.ok sc ?len (fun y f cdv A outer s H E hr => ⟨_, (qss_cons (qs_set 2 sc.nd rfl (by first | exact Or.inl rfl | exact Or.inr rfl) (q_op op_add (i_int0 (g' := fun i j => .int (i + j)) fun _ _ _ _ => rfl) (q_op op_mod (i_int (g' := fun i j => .int (i % j)) fun _ _ _ _ => rfl) (q_op op_mulI (i_int (g' := fun i j => .int (i * j)) fun _ _ _ _ => rfl) (q_op op_add (i_int0 (g' := fun i j => .int (i + j)) fun _ _ _ _ => rfl) (q_op op_mod (i_int (g' := fun i j => .int (i % j)) fun _ _ _ _ => rfl) (q_var 0 (pv 0)) (q_op op_pow (i_int (g' := fun i j => .int (i ^ j.toNat)) fun _ _ _ _ => rfl) (q_c (d := .int 10) pe_int (fun _ _ => rfl)) (q_c (d := .int 60) pe_int (fun _ _ => rfl)))) (q_c (d := .int 17) pe_int (fun _ _ => rfl))) (q_c (d := .int 48271) pe_int (fun _ _ => rfl))) (q_c (d := .int 2147483647) pe_int (fun _ _ => rfl))) (q_op op_mulI (i_int (g' := fun i j => .int (i * j)) fun _ _ _ _ => rfl) (q_c (d := .int 5) pe_int (fun _ _ => rfl)) (q_var 1 (pv 1)))))
      (qss_one (qs_ret (q_op op_fdiv (i_int (g' := fun i j => .int (i / j)) fun _ _ _ _ => rfl) (q_op op_mod (i_int (g' := fun i j => .int (i % j)) fun _ _ _ _ => rfl) (q_op op_mulI (i_int (g' := fun i j => .int (i * j)) fun _ _ _ _ => rfl) (q_var 2 (pv 2)) (q_op op_add (i_int0 (g' := fun i j => .int (i + j)) fun _ _ _ _ => rfl) (q_c (d := .int 16807) pe_int (fun _ _ => rfl)) (q_op op_mulI (i_int (g' := fun i j => .int (i * j)) fun _ _ _ _ => rfl) (q_op op_mulI (i_int (g' := fun i j => .int (i * j)) fun _ _ _ _ => rfl) (q_c (d := .int 1033) pe_int (fun _ _ => rfl)) (q_var 1 (pv 1))) (q_var 1 (pv 1))))) (q_c (d := .int 2147483629) pe_int (fun _ _ => rfl))) (q_c (d := .int 4) pe_int (fun _ _ => rfl)))))), ?body⟩)
  case len =>
    rintro ds r ⟨c, k, rfl, _⟩
    rfl
  case body =>
    rintro ds r ⟨c, k, rfl, h0, h1, rfl⟩
    refine ⟨_, rfl, ?_⟩
    have hk : k * k ≤ 1000 * 1000 := Int.mul_le_mul h1 h1 h0 (by decide)
    have hk0 : 0 ≤ k * k := Int.mul_nonneg h0 h0
    have hp : CPow 10 60 := ⟨by decide, by decide, by decide⟩
    have m1 : ∀ i : Int, IntMulOk i 48271 := fun i => mulR (by decide) (by decide)
    have m2 : ∀ i : Int, IntMulOk i k := fun i => mulR (by omega) (by omega)
    have m3 : ∀ i : Int, IntMulOk i (16807 + 1033 * k * k) := fun i => mulR (by rw [Int.mul_assoc]; omega) (by rw [Int.mul_assoc]; omega)
    simp [begun, hp, m1, m2, m3, cdiv]
    rfl
theorem mixf_bd (c k : Int) : 0 ≤ mixf c k ∧ mixf c k < 2 ^ 30 := by
  have h1 := Int.emod_nonneg (((c % 10 ^ 60 + 17) * 48271 % 2147483647 + 5 * k) * (16807 + 1033 * k * k)) (show (2147483629 : Int) ≠ 0 by decide)
  have h2 := Int.emod_lt_of_pos (((c % 10 ^ 60 + 17) * 48271 % 2147483647 + 5 * k) * (16807 + 1033 * k * k)) (show (0 : Int) < 2147483629 by decide)
  unfold mixf
  generalize ((c % 10 ^ 60 + 17) * 48271 % 2147483647 + 5 * k) * (16807 + 1033 * k * k) % 2147483629 = z at *
  omega

/-! ### the program: stamps -/
def rInit (B T C : Addr) : RG := fun ds g Q => ∃ x a b, ds = [.cls x, a, b] ∧ g = [⟨x, true, .ob C []⟩] ∧ plainD a = true ∧ dep a ≤ 900 ∧ plainD b = true ∧ dep b ≤ 900 ∧
  ((isOwnD a = false ∧ Q (.er B) g) ∨ (isOwnD a = true ∧ isToldD b = false ∧ Q (.er T) g) ∨ ∃ (o : Own) (t : Told), a = o.d ∧ b = t.d ∧ o.depth < 40 ∧ t.depth < 40 ∧ t.ok ∧ Q (.ok .non) [⟨x, true, .ob C [("own", o.least.d), ("told", t.least.d)]⟩])
theorem ok_Stamp (Df : CDf K mg C_Stamp "Stamp" "Stamp.__init__" (inClass (top 34) 0) ["self", "own", "told"] [V.int 1, V.int 0]) (cl_Stamp : Cls K C_Stamp) (na_Stamp_told : NoAttr K C_Stamp "told") (na_Stamp_own : NoAttr K C_Stamp "own") (K_BadTold : ExK K C_BadTold) (g_BadTold : mg "BadTold" = some (.ref C_BadTold)) (K_BadOwn : ExK K C_BadOwn) (g_BadOwn : mg "BadOwn" = some (.ref C_BadOwn)) (c_least_told : Cal P w K mg base CX0 (3 + 40) "least_told" ["told"] (rLeastT 40)) (c_least_own : Cal P w K mg base CX0 (2 + 40) "least_own" ["own"] (rLeast 40)) (c_is_told : Cal P w K mg base CX0 4 "is_told" ["thing"] rIsTold) (c_is_own : Cal P w K mg base CX0 3 "is_own" ["thing"] rIsOwn) :
    MkdS P w K mg base (L2.CX P w) 44 C_Stamp "Stamp" ["self", "own", "told"] [V.int 1, V.int 0] (spG K (rInit C_BadOwn C_BadTold C_Stamp)) := by
  have sc : FnScope ["self", "own", "told"] ["self", "own", "told"] (defScope (inClass (top 34) 0)) := ⟨rfl, rfl, rfl, by decide +kernel, rfl, by decide +kernel, by decide +kernel⟩
  refine Df.ok sc ?len (fun f cdv A outer s H E hr W E1 tk => ⟨_, (qss_cons (qs_if (qt_not (qt_val (q_cal c_is_own hr (by omega) (by rfl) (qa_cons (q_var 1 (pv 1)) qa_nil))))
        (qss_one (qs_raise K_BadOwn g_BadOwn rfl tk (by rfl)))
        qss_nil)
      (qss_cons (qs_if (qt_not (qt_val (q_cal c_is_told hr (by omega) (by rfl) (qa_cons (q_var 2 (pv 2)) qa_nil))))
        (qss_one (qs_raise K_BadTold g_BadTold rfl tk (by rfl)))
        qss_nil)
      (qss_cons (qs_fld cl_Stamp na_Stamp_own (q_var 0 (pv 0)) (q_cal c_least_own hr (by omega) (by rfl) (qa_cons (q_var 1 (pv 1)) qa_nil)))
      (qss_one (qs_fld cl_Stamp na_Stamp_told (q_var 0 (pv 0)) (q_cal c_least_told hr (by omega) (by rfl) (qa_cons (q_var 2 (pv 2)) qa_nil))))))), ?body⟩)
  case len =>
    rintro ds g Q ⟨x, a, b, rfl, _⟩
    rfl
  case body =>
    rintro ds g Q ⟨x, a, b, rfl, rfl, pa, da, pb, db, h⟩ hE
    have q1 : rIsOwn [a] (.ok (.bl (isOwnD a))) := ⟨a, rfl, pa, da, rfl⟩
    have q2 : rIsTold [b] (.ok (.bl (isToldD b))) := ⟨b, rfl, pb, db, rfl⟩
    refine ⟨_, rfl, _, q1, _, rfl, ?_⟩
    rcases h with ⟨h1, q⟩ | ⟨h1, h2, q⟩ | ⟨o, t, rfl, rfl, ho, ht, tok, q⟩
    · rw [h1]
      refine iteT ?_
      exact hE _ _ q
    · rw [h1]
      refine iteF ?_
      refine ⟨_, rfl, _, q2, _, rfl, ?_⟩
      rw [h2]
      refine iteT ?_
      exact hE _ _ q
    · rw [o.isOwn]
      refine iteF ?_
      refine ⟨_, rfl, _, q2, _, rfl, ?_⟩
      rw [Told.isTold tok]
      refine iteF ?_
      have q3 : rLeast 40 [o.d] (.ok o.least.d) := ⟨o, rfl, ho, by omega, rfl⟩
      have q4 : rLeastT 40 [t.d] (.ok t.least.d) := ⟨t, rfl, ht, by omega, rfl⟩
      refine ⟨_, rfl, _, q3, _, rfl, x, 0, [], rfl, rfl, by decide, ?_⟩
      refine ⟨_, rfl, _, q4, _, rfl, x, 0, [("own", o.least.d)], rfl, rfl, by simp, ?_⟩
      rw [put_told]
      exact q
/-- a stamp made of parts in their least form -/
theorem mk_stamp {B T C x : Addr} {o : Own} {t : Told} {Q : Re → Store → Prop} (ho : o.depth < 40) (ht : t.depth < 40) (ol : o.isLeast = true) (tok : t.ok) (tl : t.isLeast = true) (q : Q (.ok .non) [⟨x, true, .ob C [("own", o.d), ("told", t.d)]⟩]) :
    rInit B T C [.cls x, o.d, t.d] [⟨x, true, .ob C []⟩] Q :=
  ⟨x, o.d, t.d, rfl, rfl, o.plain, by rw [Own.dep]; omega, t.plain, by rw [Told.dep]; omega, .inr (.inr ⟨o, t, rfl, rfl, ho, ht, tok, by rw [Own.least_id o ol, Told.least_id tok tl]; exact q⟩)⟩
def rFork (C : Addr) : List D → Re → Prop := fun ds r => ∃ (o : Own) (t : Told), ds = [stD C o t] ∧ o.depth ≤ 38 ∧ t.depth ≤ 38 ∧ o.isLeast = true ∧ t.ok ∧ t.isLeast = true ∧ r = .ok (.tup [stD C (Own.partO o).1 t, stD C (Own.partO o).2 t])
def rJoinS (S C : Addr) : List D → Re → Prop := fun ds r => ∃ (a b : Own) (t u : Told) (k : Nat), ds = [stD C a t, stD C b u] ∧ a.depth ≤ 38 ∧ b.depth ≤ 38 ∧ a.isLeast = true ∧ b.isLeast = true ∧ k ≤ 38 ∧ t.depth ≤ k ∧ u.depth ≤ k ∧ t.ok ∧
  r = (match Own.togO a b with | some o => .ok (stD C o (joinT k t u)) | none => .er S)
def rDeed (N C : Addr) : List D → Re → Prop := fun ds r => ∃ (o : Own) (t : Told), ds = [stD C o t] ∧ o.depth ≤ 38 ∧ t.depth ≤ 38 ∧ o.isLeast = true ∧ t.ok ∧ t.isLeast = true ∧ r = if o = .lf false then .er N else .ok (stD C o (raiseT o t))
theorem ok_Stamp_deed (Df : MDf K C_Stamp "deed" "Stamp.deed" (inClass (top 34) 3) ["self"]) (cl_Stamp : Cls K C_Stamp) (na_Stamp_told : NoAttr K C_Stamp "told") (na_Stamp_own : NoAttr K C_Stamp "own") (c_Stamp : MkdS P w K mg base (L2.CX P w) 44 C_Stamp "Stamp" ["self", "own", "told"] [V.int 1, V.int 0] (spG K (rInit C_BadOwn C_BadTold C_Stamp))) (c_raised : Cal P w K mg base (L2.CX P w) 83 "raised" ["own", "told"] (rRaised C_NoOwn)) :
    MetS P w K mg base (L2.CX P w) 84 C_Stamp "deed" ["self"] (spD K (rDeed C_NoOwn C_Stamp)) := by
  have sc : FnScope ["self"] ["self"] (defScope (inClass (top 34) 3)) := ⟨rfl, rfl, rfl, by decide +kernel, rfl, by decide +kernel, by decide +kernel⟩
  refine Df.okX sc ?len (fun f cdv A outer s H E hr W E1 tk => ⟨_, (qss_one (qs_ret (q_mkd [] 2 c_Stamp hr (by omega) (by rfl) (fun σ => passAt tk σ) (by decide) (fun _ _ => rfl) (qa_cons (q_fld cl_Stamp na_Stamp_own (q_var 0 (pv 0))) (qa_cons (q_calX c_raised hr (by omega) (by rfl) tk (qa_cons (q_fld cl_Stamp na_Stamp_own (q_var 0 (pv 0))) (qa_cons (q_fld cl_Stamp na_Stamp_told (q_var 0 (pv 0))) qa_nil))) qa_nil))))), ?body⟩)
  case len =>
    rintro ds r ⟨o, t, rfl, _⟩
    rfl
  case body =>
    rintro ds r ⟨o, t, rfl, ho, ht, ol, tok, tl, rfl⟩ hE
    refine ⟨_, rfl, _, _, _, rfl, lk_own, _, rfl, _, _, _, rfl, lk_own, _, rfl, _, _, _, rfl, lk_told, ?_⟩
    by_cases o0 : o = .lf false
    · rw [if_pos o0] at hE
      exact ⟨.er C_NoOwn, ⟨o, t, rfl, by omega, by omega, ol, tok, tl, by rw [if_pos o0]⟩, hE _ _ rfl⟩
    · obtain ⟨f1, f2, f3, _⟩ := raiseT_all (k := 38) ho ol o0 ht tok tl
      rw [if_neg o0]
      exact ⟨.ok (raiseT o t).d, ⟨o, t, rfl, by omega, by omega, ol, tok, tl, by rw [if_neg o0]⟩, fun x => mk_stamp (by omega) (by omega) ol f2 f3 ⟨_, rfl, rfl, rfl⟩⟩
def rLearnt (C : Addr) : List D → Re → Prop := fun ds r => ∃ (a b : Own) (t u : Told) (k : Nat), ds = [stD C a t, stD C b u] ∧ a.depth ≤ 38 ∧ a.isLeast = true ∧ k ≤ 38 ∧ t.depth ≤ k ∧ u.depth ≤ k ∧ t.ok ∧ r = .ok (stD C a (joinT k t u))
def rSMost (C : Addr) : List D → Re → Prop := fun ds r => ∃ (a b : Own) (t u : Told) (k : Nat), ds = [stD C a t, stD C b u] ∧ k ≤ 38 ∧ t.depth ≤ k ∧ u.depth ≤ k ∧ u.ok ∧ u.isLeast = true ∧ r = .ok (.bl (leL (nums k t) (nums k u)))
/-! ### the law's own parts and places -/
def ownf : Nat → Int → Own
  | 0, m => .lf (m % 2 == 1)
  | n + 1, m => if m % 5 < 2 then .lf (m % 2 == 1) else .nd (ownf n (m / 5 * 16807 % 1000003)) (ownf n (m / 5 * 48271 % 1000033))
theorem ownf_depth : ∀ (n : Nat) (m : Int), (ownf n m).depth ≤ n
  | 0, m => Nat.le_refl _
  | n + 1, m => by
    unfold ownf
    split
    · exact Nat.zero_le _
    · have h1 := ownf_depth n (m / 5 * 16807 % 1000003)
      have h2 := ownf_depth n (m / 5 * 48271 % 1000033)
      simp only [Own.depth]
      omega
theorem ownf_size : ∀ (n : Nat) (m : Int), (ownf n m).size < 2 ^ (n + 1)
  | 0, m => by simp [ownf, Own.size]
  | n + 1, m => by
    have hp : 2 ^ (n + 2) = 2 * 2 ^ (n + 1) := by rw [Nat.pow_succ]; omega
    have h0 : 1 < 2 ^ (n + 2) := Nat.one_lt_two_pow (by omega)
    unfold ownf
    split
    · exact h0
    · have h1 := ownf_size n (m / 5 * 16807 % 1000003)
      have h2 := ownf_size n (m / 5 * 48271 % 1000033)
      simp only [Own.size]
      omega
theorem lf_mod (m : Int) : (Own.lf (m % 2 == 1)).d = .int (m % 2) := by
  have h := Int.emod_two_eq m
  rcases h with h | h <;> rw [h] <;> rfl
def rOwn (n : Nat) : List D → Re → Prop := fun ds r => ∃ (m : Int) (k : Nat), ds = [.int m, .int (k : Int)] ∧ k < n ∧ r = .ok (ownf k m).d
theorem step__law_own {n : Nat} (Df : Dfn K mg "_law_own" (top 50) ["_law_number", "_law_deep"]) (c__law_own : Cal P w K mg base CX0 (0 + n) "_law_own" ["_law_number", "_law_deep"] (rOwn n)) :
    Cal P w K mg base CX0 (0 + n + 1) "_law_own" ["_law_number", "_law_deep"] (rOwn (n + 1)) := by
  have sc : FnScope ["_law_number", "_law_deep", "_law_more"] ["_law_number", "_law_deep"] (defScope (top 50)) := ⟨rfl, rfl, rfl, by decide +kernel, rfl, by decide +kernel, by decide +kernel⟩
  refine Df.ok sc ?len (fun y f cdv A outer s H E hr => ⟨_, (qss_cons (qs_set 2 sc.nd rfl (by first | exact Or.inl rfl | exact Or.inr rfl) (q_op op_fdiv (i_int (g' := fun i j => .int (i / j)) fun _ _ _ _ => rfl) (q_var 0 (pv 0)) (q_c (d := .int 5) pe_int (fun _ _ => rfl))))
      (qss_cons (qs_if (qt_w (qw_or (qt_cmp (op_eqD hr.units) i_eq (nomark _) (q_var 1 (pv 1)) (q_c (d := .int 0) pe_int (fun _ _ => rfl))) (qw_or1 (qt_cmp op_lt (i_int0 (g' := fun i j => .bl (decide (i < j))) fun _ _ _ _ => rfl) (nomark _) (q_op op_mod (i_int (g' := fun i j => .int (i % j)) fun _ _ _ _ => rfl) (q_var 0 (pv 0)) (q_c (d := .int 5) pe_int (fun _ _ => rfl))) (q_c (d := .int 2) pe_int (fun _ _ => rfl))))))
        (qss_one (qs_ret (q_op op_mod (i_int (g' := fun i j => .int (i % j)) fun _ _ _ _ => rfl) (q_var 0 (pv 0)) (q_c (d := .int 2) pe_int (fun _ _ => rfl)))))
        qss_nil)
      (qss_one (qs_ret (q_tup (qa_cons (q_cal c__law_own hr (by omega) (by rfl) (qa_cons (q_op op_mod (i_int (g' := fun i j => .int (i % j)) fun _ _ _ _ => rfl) (q_op op_mulI (i_int (g' := fun i j => .int (i * j)) fun _ _ _ _ => rfl) (q_var 2 (pv 2)) (q_c (d := .int 16807) pe_int (fun _ _ => rfl))) (q_c (d := .int 1000003) pe_int (fun _ _ => rfl))) (qa_cons (q_op op_sub (i_int0 (g' := fun i j => .int (i - j)) fun _ _ _ _ => rfl) (q_var 1 (pv 1)) (q_c (d := .int 1) pe_int (fun _ _ => rfl))) qa_nil))) (qa_cons (q_cal c__law_own hr (by omega) (by rfl) (qa_cons (q_op op_mod (i_int (g' := fun i j => .int (i % j)) fun _ _ _ _ => rfl) (q_op op_mulI (i_int (g' := fun i j => .int (i * j)) fun _ _ _ _ => rfl) (q_var 2 (pv 2)) (q_c (d := .int 48271) pe_int (fun _ _ => rfl))) (q_c (d := .int 1000033) pe_int (fun _ _ => rfl))) (qa_cons (q_op op_sub (i_int0 (g' := fun i j => .int (i - j)) fun _ _ _ _ => rfl) (q_var 1 (pv 1)) (q_c (d := .int 1) pe_int (fun _ _ => rfl))) qa_nil))) qa_nil))))))), ?body⟩)
  case len =>
    rintro ds r ⟨m, k, rfl, _⟩
    rfl
  case body =>
    rintro ds r ⟨m, k, rfl, hk, rfl⟩
    refine ⟨_, rfl, ?_⟩
    have m1 : ∀ i : Int, IntMulOk i 16807 := fun i => mulR (by decide) (by decide)
    have m2 : ∀ i : Int, IntMulOk i 48271 := fun i => mulR (by decide) (by decide)
    cases k with
    | zero => simp [begun, sh_int, eqv_int, cdiv, ownf, lf_mod]
    | succ k =>
      have z : ((((k + 1 : Nat) : Int)) == 0) = false := by simp; omega
      have y : (((k + 1 : Nat) : Int)) - 1 = (k : Int) := by omega
      by_cases h : m % 5 < 2
      · have e : ownf (k + 1) m = .lf (m % 2 == 1) := by unfold ownf; rw [if_pos h]
        rw [e, lf_mod]
        simp [begun, sh_int, eqv_int, cdiv, h]
      · have e : ownf (k + 1) m = .nd (ownf k (m / 5 * 16807 % 1000003)) (ownf k (m / 5 * 48271 % 1000033)) := by rw [ownf, if_neg h]
        rw [e]
        simp [begun, sh_int, eqv_int, cdiv, h, m1, m2, y]
        exact ⟨_, ⟨_, k, rfl, by omega, rfl⟩, _, ⟨_, k, rfl, by omega, rfl⟩, rfl⟩
theorem no__law_own : ∀ ds r, ¬ rOwn 0 ds r := by
  rintro ds r ⟨m, k, _, h, _⟩
  omega
theorem ok__law_own (Df : Dfn K mg "_law_own" (top 50) ["_law_number", "_law_deep"]) :
    ∀ n : Nat, Cal P w K mg base CX0 (0 + n) "_law_own" ["_law_number", "_law_deep"] (rOwn n)
  | 0 => (Df.none no__law_own).mono (Nat.zero_le _)
  | n + 1 => step__law_own Df (ok__law_own Df n)
def rPlaces (n : Nat) : List D → Re → Prop := fun ds r => ∃ (o : Own) (k : Nat), ds = [o.d, .int (k : Int)] ∧ k < n ∧ k ≤ 8 ∧ o.depth ≤ k ∧ r = .ok (.lst (iL (pl k o)))
theorem sh01 : (D.lst [.int 0, .int 1]).Sh := rfl
theorem no__law_places : ∀ ds r, ¬ rPlaces 0 ds r := by
  rintro ds r ⟨o, k, _, h, _⟩
  omega
def rOwnOf (n : Nat) : List D → Re → Prop := fun ds r => ∃ (ns : List Int) (k : Nat), ds = [.lst (iL ns)] ∧ k < n ∧ ns.length = 2 ^ k ∧ (∀ x ∈ ns, x = 0 ∨ x = 1) ∧ r = .ok (ofPl k ns).d
theorem lf_hd {h : Int} (e : h = 0 ∨ h = 1) : (Own.lf (h == 1)).d = .int h := by rcases e with rfl | rfl <;> rfl
theorem no__law_own_of : ∀ ds r, ¬ rOwnOf 0 ds r := by
  rintro ds r ⟨ns, k, _, h, _⟩
  omega
/-! ### the law's own told parts -/
def amt (c m : Int) : Int := if m / 5 / 9 % 4 / 3 = 0 then m / 5 / 3 % 3 else c % 10 ^ 60
theorem amt_nn (c m : Int) : 0 ≤ amt c m := by
  unfold amt
  split
  · omega
  · exact Int.emod_nonneg _ (by decide)
def treef : Nat → Int → Int → Told
  | 0, c, m => .n (amt c m)
  | k + 1, c, m => if m % 5 < 2 then .n (amt c m) else .t (amt c m) (treef k c (m / 5 * 16807 % 1000003)) (treef k (c / 3) (m / 5 * 48271 % 1000033))
theorem treef_ok : ∀ (k : Nat) (c m : Int), (treef k c m).ok ∧ (treef k c m).depth ≤ k ∧ (treef k c m).size < 2 ^ (k + 1)
  | 0, c, m => ⟨amt_nn c m, Nat.le_refl _, by simp [treef, Told.size]⟩
  | k + 1, c, m => by
    have hp : 2 ^ (k + 2) = 2 * 2 ^ (k + 1) := by rw [Nat.pow_succ]; omega
    have h0 : 1 < 2 ^ (k + 2) := Nat.one_lt_two_pow (by omega)
    obtain ⟨a1, a2, a3⟩ := treef_ok k c (m / 5 * 16807 % 1000003)
    obtain ⟨b1, b2, b3⟩ := treef_ok k (c / 3) (m / 5 * 48271 % 1000033)
    rw [treef]
    split
    · exact ⟨amt_nn c m, Nat.zero_le _, h0⟩
    · exact ⟨⟨amt_nn c m, a1, b1⟩, by simp only [Told.depth]; omega, by simp only [Told.size]; omega⟩
def rTree (n : Nat) : List D → Re → Prop := fun ds r => ∃ (c m : Int) (k : Nat), ds = [.int c, .int m, .int (k : Int)] ∧ k < n ∧ r = .ok (treef k c m).d
theorem amt_at (c m : Int) : atI [D.int (m / 5 / 3 % 3), .int (c % 10 ^ 60)] (m / 5 / 9 % 4 / 3) = some (.int (amt c m)) := by
  have h : m / 5 / 9 % 4 / 3 = 0 ∨ m / 5 / 9 % 4 / 3 = 1 := by omega
  unfold amt
  rcases h with h | h <;> rw [h]
  · rw [if_pos rfl]; exact at0
  · rw [if_neg (by decide)]; exact at1
theorem step__law_tree {n : Nat} (Df : Dfn K mg "_law_tree" (top 53) ["_law_cell", "_law_number", "_law_deep"]) (c__law_tree : Cal P w K mg base CX0 (0 + n) "_law_tree" ["_law_cell", "_law_number", "_law_deep"] (rTree n)) :
    Cal P w K mg base CX0 (0 + n + 1) "_law_tree" ["_law_cell", "_law_number", "_law_deep"] (rTree (n + 1)) := by
  have sc : FnScope ["_law_cell", "_law_number", "_law_deep", "_law_more", "_law_amount", "_law_left"] ["_law_cell", "_law_number", "_law_deep"] (defScope (top 53)) := ⟨rfl, rfl, rfl, by decide +kernel, rfl, by decide +kernel, by decide +kernel⟩
  refine Df.ok sc ?len (fun y f cdv A outer s H E hr => ⟨_, (qss_cons (qs_set 3 sc.nd rfl (by first | exact Or.inl rfl | exact Or.inr rfl) (q_op op_fdiv (i_int (g' := fun i j => .int (i / j)) fun _ _ _ _ => rfl) (q_var 1 (pv 1)) (q_c (d := .int 5) pe_int (fun _ _ => rfl))))
      (qss_cons (qs_set 4 sc.nd rfl (by first | exact Or.inl rfl | exact Or.inr rfl) (q_ix (IxR.or ix_list ix_tup) i_ix (fun _ _ => rfl) (q_lst (qa_cons (q_op op_mod (i_int (g' := fun i j => .int (i % j)) fun _ _ _ _ => rfl) (q_op op_fdiv (i_int (g' := fun i j => .int (i / j)) fun _ _ _ _ => rfl) (q_var 3 (pv 3)) (q_c (d := .int 3) pe_int (fun _ _ => rfl))) (q_c (d := .int 3) pe_int (fun _ _ => rfl))) (qa_cons (q_op op_mod (i_int (g' := fun i j => .int (i % j)) fun _ _ _ _ => rfl) (q_var 0 (pv 0)) (q_op op_pow (i_int (g' := fun i j => .int (i ^ j.toNat)) fun _ _ _ _ => rfl) (q_c (d := .int 10) pe_int (fun _ _ => rfl)) (q_c (d := .int 60) pe_int (fun _ _ => rfl)))) qa_nil))) (q_op op_fdiv (i_int (g' := fun i j => .int (i / j)) fun _ _ _ _ => rfl) (q_op op_mod (i_int (g' := fun i j => .int (i % j)) fun _ _ _ _ => rfl) (q_op op_fdiv (i_int (g' := fun i j => .int (i / j)) fun _ _ _ _ => rfl) (q_var 3 (pv 3)) (q_c (d := .int 9) pe_int (fun _ _ => rfl))) (q_c (d := .int 4) pe_int (fun _ _ => rfl))) (q_c (d := .int 3) pe_int (fun _ _ => rfl)))))
      (qss_cons (qs_if (qt_w (qw_or (qt_cmp (op_eqD hr.units) i_eq (nomark _) (q_var 2 (pv 2)) (q_c (d := .int 0) pe_int (fun _ _ => rfl))) (qw_or1 (qt_cmp op_lt (i_int0 (g' := fun i j => .bl (decide (i < j))) fun _ _ _ _ => rfl) (nomark _) (q_op op_mod (i_int (g' := fun i j => .int (i % j)) fun _ _ _ _ => rfl) (q_var 1 (pv 1)) (q_c (d := .int 5) pe_int (fun _ _ => rfl))) (q_c (d := .int 2) pe_int (fun _ _ => rfl))))))
        (qss_one (qs_ret (q_var 4 (pv 4))))
        qss_nil)
      (qss_cons (qs_set 5 sc.nd rfl (by first | exact Or.inl rfl | exact Or.inr rfl) (q_cal c__law_tree hr (by omega) (by rfl) (qa_cons (q_var 0 (pv 0)) (qa_cons (q_op op_mod (i_int (g' := fun i j => .int (i % j)) fun _ _ _ _ => rfl) (q_op op_mulI (i_int (g' := fun i j => .int (i * j)) fun _ _ _ _ => rfl) (q_var 3 (pv 3)) (q_c (d := .int 16807) pe_int (fun _ _ => rfl))) (q_c (d := .int 1000003) pe_int (fun _ _ => rfl))) (qa_cons (q_op op_sub (i_int0 (g' := fun i j => .int (i - j)) fun _ _ _ _ => rfl) (q_var 2 (pv 2)) (q_c (d := .int 1) pe_int (fun _ _ => rfl))) qa_nil)))))
      (qss_one (qs_ret (q_tup (qa_cons (q_var 4 (pv 4)) (qa_cons (q_var 5 (pv 5)) (qa_cons (q_cal c__law_tree hr (by omega) (by rfl) (qa_cons (q_op op_fdiv (i_int (g' := fun i j => .int (i / j)) fun _ _ _ _ => rfl) (q_var 0 (pv 0)) (q_c (d := .int 3) pe_int (fun _ _ => rfl))) (qa_cons (q_op op_mod (i_int (g' := fun i j => .int (i % j)) fun _ _ _ _ => rfl) (q_op op_mulI (i_int (g' := fun i j => .int (i * j)) fun _ _ _ _ => rfl) (q_var 3 (pv 3)) (q_c (d := .int 48271) pe_int (fun _ _ => rfl))) (q_c (d := .int 1000033) pe_int (fun _ _ => rfl))) (qa_cons (q_op op_sub (i_int0 (g' := fun i j => .int (i - j)) fun _ _ _ _ => rfl) (q_var 2 (pv 2)) (q_c (d := .int 1) pe_int (fun _ _ => rfl))) qa_nil)))) qa_nil)))))))))), ?body⟩)
  case len =>
    rintro ds r ⟨c, m, k, rfl, _⟩
    rfl
  case body =>
    rintro ds r ⟨c, m, k, rfl, hk, rfl⟩
    refine ⟨_, rfl, ?_⟩
    have m1 : ∀ i : Int, IntMulOk i 16807 := fun i => mulR (by decide) (by decide)
    have m2 : ∀ i : Int, IntMulOk i 48271 := fun i => mulR (by decide) (by decide)
    have hp : CPow 10 60 := ⟨by decide, by decide, by decide⟩
    have ha := amt_at c m
    have e60 : (10 : Int) ^ 60 = 1000000000000000000000000000000000000000000000000000000000000 := by decide
    rw [e60] at ha
    cases k with
    | zero => simp [begun, sh_int, eqv_int, cdiv, hp, ha, its_lst, treef, Told.d]
    | succ k =>
      have y : (((k + 1 : Nat) : Int)) - 1 = (k : Int) := by omega
      by_cases h : m % 5 < 2
      · have e : treef (k + 1) c m = .n (amt c m) := by rw [treef, if_pos h]
        rw [e]
        simp [begun, sh_int, eqv_int, cdiv, hp, ha, its_lst, h, Told.d]
      · have e : treef (k + 1) c m = .t (amt c m) (treef k c (m / 5 * 16807 % 1000003)) (treef k (c / 3) (m / 5 * 48271 % 1000033)) := by rw [treef, if_neg h]
        rw [e]
        simp [begun, sh_int, eqv_int, cdiv, hp, ha, its_lst, h, m1, m2, y]
        exact ⟨_, ⟨_, _, k, rfl, by omega, rfl⟩, _, ⟨_, _, k, rfl, by omega, rfl⟩, rfl⟩
theorem no__law_tree : ∀ ds r, ¬ rTree 0 ds r := by
  rintro ds r ⟨c, m, k, _, h, _⟩
  omega
theorem ok__law_tree (Df : Dfn K mg "_law_tree" (top 53) ["_law_cell", "_law_number", "_law_deep"]) :
    ∀ n : Nat, Cal P w K mg base CX0 (0 + n) "_law_tree" ["_law_cell", "_law_number", "_law_deep"] (rTree n)
  | 0 => (Df.none no__law_tree).mono (Nat.zero_le _)
  | n + 1 => step__law_tree Df (ok__law_tree Df n)
def rNums (n : Nat) : List D → Re → Prop := fun ds r => ∃ (o : Told) (k : Nat), ds = [o.d, .int (k : Int)] ∧ k < n ∧ k ≤ 8 ∧ o.depth ≤ k ∧ r = .ok (.lst (iL (nums k o)))
theorem no__law_numbers : ∀ ds r, ¬ rNums 0 ds r := by
  rintro ds r ⟨o, k, _, h, _⟩
  omega
def rToldOf (n : Nat) : List D → Re → Prop := fun ds r => ∃ (ns : List Int) (k : Nat), ds = [.lst (iL ns)] ∧ k < n ∧ k ≤ 8 ∧ ns.length = 2 ^ k ∧ r = .ok (toldOf k ns).d
theorem no__law_told_of : ∀ ds r, ¬ rToldOf 0 ds r := by
  rintro ds r ⟨ns, k, _, h, _⟩
  omega
/-! ### the program: rows of bits -/
open DFm
theorem own_is0 (o : Own) : o.d.eqv (.int 0) = decide (o = .lf false) := Own.eqv_d o (.lf false)
theorem own_is1 (o : Own) : o.d.eqv (.int 1) = decide (o = .lf true) := Own.eqv_d o (.lf true)
theorem if_then {c : Bool} {A B : Prop} (h1 : c = true → A) (h2 : c = false → B) : if c = true then A else B := by cases c <;> simp_all
def rOwnBits (n : Nat) : List D → Re → Prop := fun ds r => ∃ o : Own, ds = [o.d] ∧ o.depth < n ∧ o.depth ≤ 60 ∧ o.bits.length ≤ 1500000 ∧ r = .ok (BD o.bits)
theorem step_own_bits {n : Nat} (Df : Dfn K mg "own_bits" (top 38) ["own"]) (c_own_bits : Cal P w K mg base CX0 (1 + n) "own_bits" ["own"] (rOwnBits n)) :
    Cal P w K mg base CX0 (1 + n + 1) "own_bits" ["own"] (rOwnBits (n + 1)) := by
  have sc : FnScope ["own", "left", "right"] ["own"] (defScope (top 38)) := ⟨rfl, rfl, rfl, by decide +kernel, rfl, by decide +kernel, by decide +kernel⟩
  refine Df.ok sc ?len (fun y f cdv A outer s H E hr => ⟨_, (qss_cons (qs_if (qt_cmp (op_eqD hr.units) i_eq (nomark _) (q_var 0 (pv 0)) (q_c (d := .int 0) pe_int (fun _ _ => rfl)))
        (qss_one (qs_ret (q_bits (l := [false, false, false]) (by decide +kernel))))
        qss_nil)
      (qss_cons (qs_if (qt_cmp (op_eqD hr.units) i_eq (nomark _) (q_var 0 (pv 0)) (q_c (d := .int 1) pe_int (fun _ _ => rfl)))
        (qss_one (qs_ret (q_bits (l := [false, false, true]) (by decide +kernel))))
        qss_nil)
      (qss_cons (qs_asg (q_var 0 (pv 0)) (qg_tup (n := 2) rfl (qgs_cons (qg_name 1 sc.nd rfl (Or.inl rfl)) (qgs_cons (qg_name 2 sc.nd rfl (Or.inl rfl)) qgs_nil))))
      (qss_cons (qs_if (qt_cmp (op_eqD hr.units) i_eq (nomark _) (q_var 1 (pv 1)) (q_c (d := .int 0) pe_int (fun _ _ => rfl)))
        (qss_one (qs_ret (q_op op_add_str i_addB (q_bits (l := [false, true]) (by decide +kernel)) (q_cal c_own_bits hr (by omega) (by rfl) (qa_cons (q_var 2 (pv 2)) qa_nil)))))
        qss_nil)
      (qss_cons (qs_if (qt_cmp (op_eqD hr.units) i_eq (nomark _) (q_var 2 (pv 2)) (q_c (d := .int 0) pe_int (fun _ _ => rfl)))
        (qss_one (qs_ret (q_op op_add_str i_addB (q_bits (l := [true, false]) (by decide +kernel)) (q_cal c_own_bits hr (by omega) (by rfl) (qa_cons (q_var 1 (pv 1)) qa_nil)))))
        qss_nil)
      (qss_one (qs_ret (q_op op_add_str i_addB (q_op op_add_str i_addB (q_bits (l := [true, true]) (by decide +kernel)) (q_cal c_own_bits hr (by omega) (by rfl) (qa_cons (q_var 1 (pv 1)) qa_nil))) (q_cal c_own_bits hr (by omega) (by rfl) (qa_cons (q_var 2 (pv 2)) qa_nil)))))))))), ?body⟩)
  case len =>
    rintro ds r ⟨o, rfl, _⟩
    rfl
  case body =>
    rintro ds r ⟨o, rfl, hd, h6, hl, rfl⟩
    refine ⟨_, rfl, ?_⟩
    refine ⟨_, rfl, Own.sh (by omega), sh_int 0, _, rfl, ?_⟩
    rw [own_is0]
    by_cases e0 : o = .lf false
    · subst e0
      exact iteT rfl
    rw [decide_eq_false e0]
    refine iteF ?_
    refine ⟨_, rfl, Own.sh (by omega), sh_int 1, _, rfl, ?_⟩
    rw [own_is1]
    by_cases e1 : o = .lf true
    · subst e1
      exact iteT rfl
    rw [decide_eq_false e1]
    refine iteF ?_
    match o, e0, e1 with
    | .lf false, e, _ => exact absurd rfl e
    | .lf true, _, e => exact absurd rfl e
    | .nd l r, _, _ =>
    simp only [Own.depth] at hd h6
    rw [Own.bits] at hl
    have ql : l.bits.length ≤ 1500000 → rOwnBits n [l.d] (.ok (BD l.bits)) := fun h => ⟨l, rfl, by omega, by omega, h, rfl⟩
    have qr : r.bits.length ≤ 1500000 → rOwnBits n [r.d] (.ok (BD r.bits)) := fun h => ⟨r, rfl, by omega, by omega, h, rfl⟩
    refine ⟨_, rfl, _, rfl, rfl, by simp [begun], by simp [begun], rfl, ?_⟩
    refine ⟨_, rfl, Own.sh (by omega), sh_int 0, _, rfl, ?_⟩
    rw [own_is0]
    by_cases l0 : l = .lf false
    · rw [decide_eq_true l0]
      rw [if_pos l0] at hl
      simp at hl
      refine iteT ?_
      refine ⟨_, rfl, _, qr (by omega), _, _, rfl, rfl, by simp; omega, ?_⟩
      show BD _ = BD _
      rw [Own.bits, if_pos l0]
    rw [decide_eq_false l0]
    rw [if_neg l0] at hl
    refine iteF ?_
    refine ⟨_, rfl, Own.sh (by omega), sh_int 0, _, rfl, ?_⟩
    rw [own_is0]
    by_cases r0 : r = .lf false
    · rw [decide_eq_true r0]
      rw [if_pos r0] at hl
      simp at hl
      refine iteT ?_
      refine ⟨_, rfl, _, ql (by omega), _, _, rfl, rfl, by simp; omega, ?_⟩
      show BD _ = BD _
      rw [Own.bits, if_neg l0, if_pos r0]
    rw [decide_eq_false r0]
    rw [if_neg r0] at hl
    simp at hl
    refine iteF ?_
    refine ⟨_, rfl, _, ql (by omega), _, _, rfl, rfl, by simp; omega, _, rfl, _, qr (by omega), _, _, rfl, rfl, by simp; omega, ?_⟩
    show BD _ = BD _
    rw [Own.bits, if_neg l0, if_neg r0]
theorem no_own_bits : ∀ ds r, ¬ rOwnBits 0 ds r := by
  rintro ds r ⟨o, _, h, _⟩
  omega
theorem ok_own_bits (Df : Dfn K mg "own_bits" (top 38) ["own"]) :
    ∀ n : Nat, Cal P w K mg base CX0 (1 + n) "own_bits" ["own"] (rOwnBits n)
  | 0 => (Df.none no_own_bits).mono (Nat.zero_le _)
  | n + 1 => step_own_bits Df (ok_own_bits Df n)
def rNumBits : List D → Re → Prop := fun ds r => ∃ n : Int, ds = [.int n] ∧ 0 ≤ n ∧ (nmB n).length ≤ 1500000 ∧ r = .ok (BD (nmB n))
theorem nmB_half (n : Int) : (nB (n.toNat + 1)).length ≤ (nmB n).length := by
  have h1 := nmB_len n
  have h2 := nB_pos (n.toNat + 1)
  omega
theorem ok_number_bits (Df : Dfn K mg "number_bits" (top 40) ["number"]) (m_len : mg "len" = none) :
    Cal P w K mg base CX0 2 "number_bits" ["number"] rNumBits := by
  have sc : FnScope ["number", "bits"] ["number"] (defScope (top 40)) := ⟨rfl, rfl, rfl, by decide +kernel, rfl, by decide +kernel, by decide +kernel⟩
  refine Df.ok sc ?len (fun y f cdv A outer s H E hr => ⟨_, (qss_cons (qs_set 1 sc.nd rfl (by first | exact Or.inl rfl | exact Or.inr rfl) (q_fmtB (q_op op_add (i_int0 (g' := fun i j => .int (i + j)) fun _ _ _ _ => rfl) (q_var 0 (pv 0)) (q_c (d := .int 1) pe_int (fun _ _ => rfl)))))
      (qss_one (qs_ret (q_op op_add_str i_addB (q_op op_repS i_repB (q_bits (l := [false]) (by decide +kernel)) (q_op op_sub (i_int0 (g' := fun i j => .int (i - j)) fun _ _ _ _ => rfl) (q_callB call_len_str i_lenB (by rfl) m_len PySem.boot_len (qa_cons (q_var 1 (pv 1)) qa_nil)) (q_c (d := .int 1) pe_int (fun _ _ => rfl)))) (q_var 1 (pv 1)))))), ?body⟩)
  case len =>
    rintro ds r ⟨n, rfl, _⟩
    rfl
  case body =>
    rintro ds r ⟨n, rfl, hn, hl, rfl⟩
    refine ⟨_, rfl, ?_⟩
    have h1 := nmB_half n
    have h2 := nB_pos (n.toNat + 1)
    have h3 := nmB_len n
    refine ⟨_, rfl, n, 1, rfl, rfl, trivial, n.toNat + 1, congrArg D.int (by omega), by omega, by simp [begun], ?_⟩
    refine ⟨_, rfl, _, rfl, by omega, _, 1, rfl, rfl, trivial, [false], _, rfl, rfl, by omega, by omega, ?_, _, rfl, _, _, rfl, rfl, ?_, ?_⟩
    · simp; omega
    · simp; omega
    show BD _ = BD _
    congr 2
    have e : ((((nB (n.toNat + 1)).length : Nat) : Int) - 1).toNat = (nB (n.toNat + 1)).length - 1 := by omega
    rw [e]
    simp
def rToldBits (n : Nat) : List D → Re → Prop := fun ds r => ∃ t : Told, ds = [t.d] ∧ t.ok ∧ t.depth < n ∧ t.bits.length ≤ 1500000 ∧ r = .ok (BD t.bits)
theorem step_told_bits {n : Nat} (Df : Dfn K mg "told_bits" (top 39) ["told"]) (c_number_bits : Cal P w K mg base CX0 2 "number_bits" ["number"] rNumBits) (c_is_whole : Cal P w K mg base CX0 1 "is_whole" ["thing"] rWhole) (c_told_bits : Cal P w K mg base CX0 (4 + n) "told_bits" ["told"] (rToldBits n)) :
    Cal P w K mg base CX0 (4 + n + 1) "told_bits" ["told"] (rToldBits (n + 1)) := by
  have sc : FnScope ["told", "number", "left", "right"] ["told"] (defScope (top 39)) := ⟨rfl, rfl, rfl, by decide +kernel, rfl, by decide +kernel, by decide +kernel⟩
  refine Df.ok sc ?len (fun y f cdv A outer s H E hr => ⟨_, (qss_cons (qs_if (qt_val (q_cal c_is_whole hr (by omega) (by rfl) (qa_cons (q_var 0 (pv 0)) qa_nil)))
        (qss_one (qs_ret (q_op op_add_str i_addB (q_bits (l := [true]) (by decide +kernel)) (q_cal c_number_bits hr (by omega) (by rfl) (qa_cons (q_var 0 (pv 0)) qa_nil)))))
        qss_nil)
      (qss_cons (qs_asg (q_var 0 (pv 0)) (qg_tup (n := 3) rfl (qgs_cons (qg_name 1 sc.nd rfl (Or.inl rfl)) (qgs_cons (qg_name 2 sc.nd rfl (Or.inl rfl)) (qgs_cons (qg_name 3 sc.nd rfl (Or.inl rfl)) qgs_nil)))))
      (qss_one (qs_ret (q_op op_add_str i_addB (q_op op_add_str i_addB (q_op op_add_str i_addB (q_bits (l := [false]) (by decide +kernel)) (q_cal c_number_bits hr (by omega) (by rfl) (qa_cons (q_var 1 (pv 1)) qa_nil))) (q_cal c_told_bits hr (by omega) (by rfl) (qa_cons (q_var 2 (pv 2)) qa_nil))) (q_cal c_told_bits hr (by omega) (by rfl) (qa_cons (q_var 3 (pv 3)) qa_nil))))))), ?body⟩)
  case len =>
    rintro ds r ⟨t, rfl, _⟩
    rfl
  case body =>
    rintro ds r ⟨t, rfl, ok, hd, hl, rfl⟩
    refine ⟨_, rfl, ?_⟩
    cases t with
    | n i =>
      simp only [Told.bits, List.length_append, List.length_cons, List.length_nil] at hl
      have qw : rWhole [.int i] (.ok (.bl true)) := ⟨.int i, _, rfl, rfl, rfl⟩
      have qn : rNumBits [.int i] (.ok (BD (nmB i))) := ⟨i, rfl, ok, by omega, rfl⟩
      refine ⟨_, rfl, _, qw, _, rfl, iteT ?_⟩
      refine ⟨_, rfl, _, qn, _, _, rfl, rfl, by simp; omega, rfl⟩
    | t i l r =>
      simp only [Told.bits, List.length_append, List.length_cons, List.length_nil] at hl
      simp only [Told.depth] at hd
      have qw : rWhole [(Told.t i l r).d] (.ok (.bl false)) := ⟨_, _, rfl, rfl, rfl⟩
      have qn : rNumBits [.int i] (.ok (BD (nmB i))) := ⟨i, rfl, ok.1, by omega, rfl⟩
      have ql : rToldBits n [l.d] (.ok (BD l.bits)) := ⟨l, rfl, ok.2.1, by omega, by omega, rfl⟩
      have qr : rToldBits n [r.d] (.ok (BD r.bits)) := ⟨r, rfl, ok.2.2, by omega, by omega, rfl⟩
      refine ⟨_, rfl, _, qw, _, rfl, iteF ?_⟩
      refine ⟨_, rfl, _, rfl, rfl, by simp [begun], by simp [begun], by simp [begun], rfl, ?_⟩
      refine ⟨_, rfl, _, qn, _, _, rfl, rfl, by simp; omega, _, rfl, _, ql, _, _, rfl, rfl, by simp; omega, _, rfl, _, qr, _, _, rfl, rfl, by simp; omega, rfl⟩
theorem no_told_bits : ∀ ds r, ¬ rToldBits 0 ds r := by
  rintro ds r ⟨o, _, _, h, _⟩
  omega
theorem ok_told_bits (Df : Dfn K mg "told_bits" (top 39) ["told"]) (c_number_bits : Cal P w K mg base CX0 2 "number_bits" ["number"] rNumBits) (c_is_whole : Cal P w K mg base CX0 1 "is_whole" ["thing"] rWhole) :
    ∀ n : Nat, Cal P w K mg base CX0 (4 + n) "told_bits" ["told"] (rToldBits n)
  | 0 => (Df.none no_told_bits).mono (Nat.zero_le _)
  | n + 1 => step_told_bits Df c_number_bits c_is_whole (ok_told_bits Df c_number_bits c_is_whole n)
theorem rangeSize8 {m : Nat} : Builtin.Range.rangeSize 0 ((8 * m : Nat) : Int) 8 = m := by
  unfold Builtin.Range.rangeSize
  simp
  omega
theorem fits8 {x : Int} (h1 : -(2 ^ 62) ≤ x) (h2 : x < 2 ^ 62) : Builtin.Range.rangeFitsLong x = true := by
  unfold Builtin.Range.rangeFitsLong
  simp
  omega
theorem range8 {m : Nat} (h : m ≤ 4000000) : RgC 0 ((8 * m : Nat) : Int) 8 m := by
  refine ⟨by decide, by decide, ?_, rangeSize8⟩
  unfold Builtin.Range.small
  rw [rangeSize8, fits8 (by decide) (by decide), fits8 (by omega) (by omega), fits8 (by decide) (by decide), fits8 (by omega) (by omega), if_pos (by decide), fits8 (by omega) (by omega)]
  simp
theorem range_pad {l : List Bool} (h : l.length ≤ 3000000) : RgC 0 (((pad8 l).length : Nat) : Int) 8 ((pad8 l).length / 8) := by
  obtain ⟨h1, h2⟩ := pad8_len l
  have e : (pad8 l).length = 8 * ((pad8 l).length / 8) := by omega
  have r := range8 (m := (pad8 l).length / 8) (by omega)
  rwa [← e] at r
theorem cut8 (l : List Bool) (i : Nat) : cutB l (some (0 + (i : Int) * 8)) (some (0 + (i : Int) * 8 + 8)) = eight l i := by
  have e1 : (0 + (i : Int) * 8) = ((8 * i : Nat) : Int) := by omega
  have e2 : (0 + (i : Int) * 8 + 8) = ((8 * i + 8 : Nat) : Int) := by omega
  rw [e2, e1, cutB_nn]
  unfold eight
  congr 1
  omega
theorem pad_n (l : List Bool) : (-((l.length : Nat) : Int) % 8).toNat = (8 - l.length % 8) % 8 := by omega
def rPackL (C : Addr) : RL := fun ds g Q => ∃ (o : Own) (t : Told), ds = [stD C o t] ∧ o.depth < 40 ∧ t.ok ∧ t.depth < 40 ∧ o.bits.length ≤ 1500000 ∧ t.bits.length ≤ 1500000 ∧ Q (byteD (packN o t))
theorem ok_packed (Df : Dfn K mg "packed" (top 37) ["stamp"]) (m_int : mg "int" = none) (m_len : mg "len" = none) (m_range : mg "range" = none) (cl_Stamp : Cls K C_Stamp) (na_Stamp_own : NoAttr K C_Stamp "own") (na_Stamp_told : NoAttr K C_Stamp "told") (c_own_bits : Cal P w K mg base CX0 (1 + 40) "own_bits" ["own"] (rOwnBits 40)) (c_told_bits : Cal P w K mg base CX0 (4 + 40) "told_bits" ["told"] (rToldBits 40)) :
    CalS P w K mg base CX0 46 "packed" ["stamp"] (spL K (rPackL C_Stamp)) := by
  have sc : FnScope ["stamp", "bits", "at"] ["stamp"] (defScope (top 37)) := ⟨rfl, rfl, rfl, by decide +kernel, rfl, by decide +kernel, by decide +kernel⟩
  refine Df.okL sc ?len (fun y f cdv A outer s H E hr => ⟨_, (qsl_cons (qs_set 1 sc.nd rfl (by first | exact Or.inl rfl | exact Or.inr rfl) (q_op op_add_str i_addB (q_cal c_own_bits hr (by omega) (by rfl) (qa_cons (q_fld cl_Stamp na_Stamp_own (q_var 0 (pv 0))) qa_nil)) (q_cal c_told_bits hr (by omega) (by rfl) (qa_cons (q_fld cl_Stamp na_Stamp_told (q_var 0 (pv 0))) qa_nil))))
      (qsl_cons (qs_set 1 sc.nd rfl (by first | exact Or.inl rfl | exact Or.inr rfl) (q_op op_add_str i_addB (q_var 1 (pv 1)) (q_op op_repS i_repB (q_bits (l := [false]) (by decide +kernel)) (q_op op_mod (i_int (g' := fun i j => .int (i % j)) fun _ _ _ _ => rfl) (q_neg (q_callB call_len_str i_lenB (by rfl) m_len PySem.boot_len (qa_cons (q_var 1 (pv 1)) qa_nil))) (q_c (d := .int 8) pe_int (fun _ _ => rfl))))))
      (qsl_ret (ql_lc [("at", 2)] rfl sc.nd (qi_range3 (by rfl) m_range (qa_cons (q_c (d := .int 0) pe_int (fun _ _ => rfl)) (qa_cons (q_callB call_len_str i_lenB (by rfl) m_len PySem.boot_len (qa_cons (q_var 1 (pv 1)) qa_nil)) (qa_cons (q_c (d := .int 8) pe_int (fun _ _ => rfl)) qa_nil)))) (blkOk_by (N := ["stamp", "bits", "at"]) (sc := defScope (top 37)) (by decide +kernel)) (fun _ _ _ _ _ => (qgw_name 2 (by decide) sc.nd rfl (Or.inl rfl))) (fun _ _ _ _ _ => qts_nil) (fun _ _ _ _ _ => (q_callTy call_bin i_intB (by rfl) m_int (by decide +kernel) (qa_cons (q_sliceB (q_var 1 (pv 1)) (qo_some (q_var 2 (pv 2))) (qo_some (q_op op_add (i_int0 (g' := fun i j => .int (i + j)) fun _ _ _ _ => rfl) (q_var 2 (pv 2)) (q_c (d := .int 8) pe_int (fun _ _ => rfl))))) (qa_cons (q_c (d := .int 2) pe_int (fun _ _ => rfl)) qa_nil)))))))), ?body⟩)
  case len =>
    rintro ds g Q ⟨o, t, rfl, _⟩
    rfl
  case body =>
    rintro ds g Q ⟨o, t, rfl, ho, ok, ht, lo, lt, q⟩
    have qo : rOwnBits 40 [o.d] (.ok (BD o.bits)) := ⟨o, rfl, ho, by omega, lo, rfl⟩
    have qt : rToldBits 40 [t.d] (.ok (BD t.bits)) := ⟨t, rfl, ok, ht, lt, rfl⟩
    have hlen : (o.bits ++ t.bits).length ≤ 3000000 := by simp; omega
    refine ⟨_, rfl, _, _, _, rfl, lk_own, _, qo, _, rfl, _, _, _, rfl, lk_told, _, qt, _, _, rfl, rfl, by omega, by simp [begunG], ?_⟩
    unfold packN at q
    generalize o.bits ++ t.bits = b at hlen q
    have hp := pad8_len b
    have en := pad_n b
    refine ⟨_, rfl, _, rfl, _, rfl, by omega, _, rfl, _, 8, rfl, rfl, (by decide : (0 : Int) < 8), [false], _, rfl, rfl, by omega, by omega, ?_, _, _, rfl, rfl, ?_, by simp [begunG], ?_⟩
    · rw [en]; simp; omega
    · rw [en]; simp; omega
    have eb : b ++ (List.replicate (-((b.length : Nat) : Int) % 8).toNat [false]).flatten = pad8 b := by
      rw [en]
      unfold pad8
      congr 1
      simp
    rw [eb]
    refine ⟨_, rfl, _, rfl, by omega, 0, _, 8, _, rfl, range_pad hlen, by simp; omega, ?_⟩
    refine lc_genA (fun i : Nat => D.int (0 + (i : Int) * 8)) (fun i => .int ((valB (eight (pad8 b) i) : Nat) : Int)) (List.range ((pad8 b).length / 8)) (fun i hi Q1 Q2 z => ?_) _ ⟨_, rfl, ?_⟩
    · have hl := eight_len (l := pad8 b) (i := i) (by simpa using hi)
      refine ⟨by simp [begunG, wipeR], iteT ?_⟩
      refine ⟨_, rfl, _, rfl, _, rfl, _, rfl, _, 8, rfl, rfl, trivial, _, rfl, _, rfl, by omega, ?_⟩
      rw [cut8]
      exact ⟨_, rfl, (fun e => by rw [e] at hl; cases hl), by omega, z⟩
    · have e : byteD (rowOf (pad8 b)) = (List.range ((pad8 b).length / 8)).map fun i => D.int ((valB (eight (pad8 b) i) : Nat) : Int) := by
        unfold byteD rowOf
        rw [List.map_map]
        rfl
      rw [← e]
      exact q
def rDeep (B : Addr) : List D → Re → Prop := fun ds r => ∃ n : Int, ds = [.int n] ∧ r = if 40 < n then .er B else .ok .non
theorem ok_refuse_too_deep (Df : Dfn K mg "refuse_too_deep" (top 45) ["deep"]) (gi_DEEPEST : ∃ u, mg "DEEPEST" = some u ∧ RelV (V.int 40) u) (K_BadRow : ExK K C_BadRow) (g_BadRow : mg "BadRow" = some (.ref C_BadRow)) :
    Cal P w K mg base (L2.CX P w) 2 "refuse_too_deep" ["deep"] (rDeep C_BadRow) := by
  have sc : FnScope ["deep"] ["deep"] (defScope (top 45)) := ⟨rfl, rfl, rfl, by decide +kernel, rfl, by decide +kernel, by decide +kernel⟩
  refine Df.okX sc ?len (fun y f cdv A outer s H E hr W E1 tk => ⟨_, (qss_one (qs_if (qt_cmp op_gt (i_int0 (g' := fun i j => .bl (decide (j < i))) fun _ _ _ _ => rfl) (nomark _) (q_var 0 (pv 0)) (q_globI (by rfl) gi_DEEPEST))
        (qss_one (qs_raise K_BadRow g_BadRow rfl tk (by rfl)))
        qss_nil)), ?body⟩)
  case len =>
    rintro ds r ⟨n, rfl, _⟩
    rfl
  case body =>
    rintro ds r ⟨n, rfl, rfl⟩ hE
    refine ⟨_, rfl, _, _, rfl, rfl, trivial, _, rfl, ?_⟩
    by_cases h : 40 < n
    · rw [decide_eq_true h]
      rw [if_pos h] at hE ⊢
      exact iteT (hE _ _ rfl)
    · rw [decide_eq_false h]
      rw [if_neg h]
      exact iteF rfl
theorem ne_bits_at : ¬ (("_bits" : Str) = "_at") := by decide +kernel
theorem put_at {a b : D} : putD ("_at" : Str) b [(("_bits" : Str), a)] = [(("_bits" : Str), a), (("_at" : Str), b)] := by simp [putD, ne_bits_at]
theorem put_at2 {a b c : D} : putD ("_at" : Str) b [(("_bits" : Str), a), (("_at" : Str), c)] = [(("_bits" : Str), a), (("_at" : Str), b)] := by simp [putD, ne_bits_at]
theorem lk_bits {a b : D} : ([(("_bits" : Str), a), (("_at" : Str), b)]).lookup ("_bits" : Str) = some a := by simp [List.lookup]
theorem lk_at {a b : D} : ([(("_bits" : Str), a), (("_at" : Str), b)]).lookup ("_at" : Str) = some b := by
  have e : (("_at" : Str) == ("_bits" : Str)) = false := by decide +kernel
  simp [List.lookup, e]
def rdM (C : Addr) (x : Addr) (w : Bool) (b : List Bool) (n : Nat) : En := ⟨x, w, .ob C [("_bits", BD b), ("_at", .int (n : Nat))]⟩
def rReader (C : Addr) : RG := fun ds g Q => ∃ (x : Addr) (b : List Bool), ds = [.cls x, BD b] ∧ g = [⟨x, true, .ob C []⟩] ∧ Q (.ok .non) [rdM C x true b 0]
theorem ok_BitReader (Df : CDf K mg C_BitReader "BitReader" "BitReader.__init__" (inClass (top 46) 0) ["self", "bits"] []) (cl_BitReader : Cls K C_BitReader) (na_BitReader__at : NoAttr K C_BitReader "_at") (na_BitReader__bits : NoAttr K C_BitReader "_bits") :
    MkdS P w K mg base (L2.CX P w) 2 C_BitReader "BitReader" ["self", "bits"] [] (spG K (rReader C_BitReader)) := by
  have sc : FnScope ["self", "bits"] ["self", "bits"] (defScope (inClass (top 46) 0)) := ⟨rfl, rfl, rfl, by decide +kernel, rfl, by decide +kernel, by decide +kernel⟩
  refine Df.ok sc ?len (fun f cdv A outer s H E hr W E1 tk => ⟨_, (qss_cons (qs_fld cl_BitReader na_BitReader__bits (q_var 0 (pv 0)) (q_var 1 (pv 1)))
      (qss_one (qs_fld cl_BitReader na_BitReader__at (q_var 0 (pv 0)) (q_c (d := .int 0) pe_int (fun _ _ => rfl))))), ?body⟩)
  case len =>
    rintro ds g Q ⟨x, b, rfl, _⟩
    rfl
  case body =>
    rintro ds g Q ⟨x, b, rfl, rfl, q⟩ hE
    refine ⟨_, rfl, _, rfl, x, 0, [], rfl, rfl, by decide, ?_⟩
    refine ⟨_, rfl, x, 0, [("_bits", BD b)], rfl, rfl, by simp, ?_⟩
    rw [put_at]
    exact q
def rTaken (B C : Addr) : RG := fun ds g Q => ∃ (x : Addr) (b : List Bool) (n k : Nat), ds = [.cls x, .int (k : Nat)] ∧ g = [rdM C x true b n] ∧ n ≤ b.length ∧ b.length ≤ 4000000 ∧ k ≤ 4000000 ∧ if n + k ≤ b.length then Q (.ok (BD ((b.drop n).take k))) [rdM C x true b (n + k)] else Q (.er B) [rdM C x true b n]
theorem ok_BitReader_taken (Df : MDf K C_BitReader "taken" "BitReader.taken" (inClass (top 46) 1) ["self", "many"]) (m_len : mg "len" = none) (cl_BitReader : Cls K C_BitReader) (na_BitReader__bits : NoAttr K C_BitReader "_bits") (na_BitReader__at : NoAttr K C_BitReader "_at") (K_BadRow : ExK K C_BadRow) (g_BadRow : mg "BadRow" = some (.ref C_BadRow)) :
    MetS P w K mg base (L2.CX P w) 3 C_BitReader "taken" ["self", "many"] (spG K (rTaken C_BadRow C_BitReader)) := by
  have sc : FnScope ["self", "many", "start"] ["self", "many"] (defScope (inClass (top 46) 1)) := ⟨rfl, rfl, rfl, by decide +kernel, rfl, by decide +kernel, by decide +kernel⟩
  refine Df.okGX sc ?len (fun f cdv A outer s H E hr W E1 tk => ⟨_, (qss_cons (qs_set 2 sc.nd rfl (by first | exact Or.inl rfl | exact Or.inr rfl) (q_fldM cl_BitReader na_BitReader__at (q_var 0 (pv 0))))
      (qss_cons (qs_if (qt_cmp op_gt (i_int0 (g' := fun i j => .bl (decide (j < i))) fun _ _ _ _ => rfl) (nomark _) (q_op op_add (i_int0 (g' := fun i j => .int (i + j)) fun _ _ _ _ => rfl) (q_var 2 (pv 2)) (q_var 1 (pv 1))) (q_callB call_len_str i_lenB (by rfl) m_len PySem.boot_len (qa_cons (q_fldM cl_BitReader na_BitReader__bits (q_var 0 (pv 0))) qa_nil)))
        (qss_one (qs_raise K_BadRow g_BadRow rfl tk (by rfl)))
        qss_nil)
      (qss_cons (qs_fld cl_BitReader na_BitReader__at (q_var 0 (pv 0)) (q_op op_add (i_int0 (g' := fun i j => .int (i + j)) fun _ _ _ _ => rfl) (q_var 2 (pv 2)) (q_var 1 (pv 1))))
      (qss_one (qs_ret (q_sliceB (q_fldM cl_BitReader na_BitReader__bits (q_var 0 (pv 0))) (qo_some (q_var 2 (pv 2))) (qo_some (q_op op_add (i_int0 (g' := fun i j => .int (i + j)) fun _ _ _ _ => rfl) (q_var 2 (pv 2)) (q_var 1 (pv 1)))))))))), ?body⟩)
  case len =>
    rintro ds g Q ⟨x, b, n, k, rfl, _⟩
    rfl
  case body =>
    rintro ds g Q ⟨x, b, n, k, rfl, rfl, hn, hb, hk, q⟩ hE
    refine ⟨_, rfl, x, 0, true, _, _, rfl, rfl, lk_at, by simp [begunG], ?_⟩
    refine ⟨_, rfl, _, rfl, _, _, rfl, rfl, trivial, _, rfl, x, 0, true, _, _, rfl, rfl, lk_bits, _, rfl, hb, _, _, rfl, rfl, trivial, _, rfl, ?_⟩
    by_cases h : n + k ≤ b.length
    · rw [if_pos h] at q
      have e : decide ((b.length : Int) < (n : Int) + (k : Int)) = false := decide_eq_false (by omega)
      rw [e]
      refine iteF ?_
      refine ⟨_, rfl, _, rfl, _, _, rfl, rfl, trivial, _, rfl, x, 0, _, rfl, rfl, by simp, ?_⟩
      rw [put_at2]
      refine ⟨_, rfl, x, 0, true, _, _, rfl, rfl, lk_bits, _, rfl, _, rfl, _, rfl, _, rfl, _, _, rfl, rfl, trivial, _, rfl, _, rfl, hb, ?_⟩
      have e1 : ((n : Nat) : Int) + (k : Int) = ((n + k : Nat) : Int) := by omega
      have e2 : n + k - n = k := by omega
      rw [e1, cutB_nn, e2]
      exact q
    · rw [if_neg h] at q
      have e : decide ((b.length : Int) < (n : Int) + (k : Int)) = true := decide_eq_true (by omega)
      rw [e]
      exact iteT (hE _ _ q)
theorem no_taken : ("taken" : Str) ∉ [("_bits" : Str), "_at"] := by decide +kernel
def rTakeN (B C : Addr) : RG := fun ds g Q => ∃ (x : Addr) (b : List Bool) (n : Nat), ds = [.cls x] ∧ g = [rdM C x true b n] ∧ n ≤ b.length ∧ b.length ≤ 4000000 ∧ (b.length ≤ 1200 ∨ ∃ p, readN (b.drop n) = some p ∧ p.1 + 1 < 2 ^ 250) ∧
  match readN (b.drop n) with | some p => Q (.ok (.int p.1)) [rdM C x true b (b.length - p.2.length)] | none => ∀ m, Q (.er B) [rdM C x true b m]
theorem ok_BitReader_taken_number (Df : MDf K C_BitReader "taken_number" "BitReader.taken_number" (inClass (top 46) 2) ["self"]) (m_int : mg "int" = none) (cl_BitReader : Cls K C_BitReader) (na_BitReader__at : NoAttr K C_BitReader "_at") (K_BadRow : ExK K C_BadRow) (g_BadRow : mg "BadRow" = some (.ref C_BadRow)) (na_BitReader__bits : NoAttr K C_BitReader "_bits") (c_BitReader_taken : MetS P w K mg base (L2.CX P w) 3 C_BitReader "taken" ["self", "many"] (spG K (rTaken C_BadRow C_BitReader))) :
    MetS P w K mg base (L2.CX P w) 5 C_BitReader "taken_number" ["self"] (spG K (rTakeN C_BadRow C_BitReader)) := by
  have sc : FnScope ["self", "highest", "more"] ["self"] (defScope (inClass (top 46) 2)) := ⟨rfl, rfl, rfl, by decide +kernel, rfl, by decide +kernel, by decide +kernel⟩
  refine Df.okGX sc ?len (fun f cdv A outer s H E hr W E1 tk => ⟨_, (qss_cons (qs_set 1 sc.nd rfl (by first | exact Or.inl rfl | exact Or.inr rfl) (q_bm PySem.F.plainAttrs_str PySem.F.slot_str_find PySem.F.type_str_find mt_find3 i_findB tyI_str (q_fldM cl_BitReader na_BitReader__bits (q_var 0 (pv 0))) (qa_cons (q_bits (l := [true]) (by decide +kernel)) (qa_cons (q_fldM cl_BitReader na_BitReader__at (q_var 0 (pv 0))) qa_nil))))
      (qss_cons (qs_if (qt_cmp op_lt (i_int0 (g' := fun i j => .bl (decide (i < j))) fun _ _ _ _ => rfl) (nomark _) (q_var 1 (pv 1)) (q_c (d := .int 0) pe_int (fun _ _ => rfl)))
        (qss_one (qs_raise K_BadRow g_BadRow rfl tk (by rfl)))
        qss_nil)
      (qss_cons (qs_set 2 sc.nd rfl (by first | exact Or.inl rfl | exact Or.inr rfl) (q_op op_sub (i_int0 (g' := fun i j => .int (i - j)) fun _ _ _ _ => rfl) (q_var 1 (pv 1)) (q_fldM cl_BitReader na_BitReader__at (q_var 0 (pv 0)))))
      (qss_cons (qs_fld cl_BitReader na_BitReader__at (q_var 0 (pv 0)) (q_var 1 (pv 1)))
      (qss_one (qs_retF (qf_opL op_sub (i_int0 (g' := fun i j => .int (i - j)) fun _ _ _ _ => rfl) (qf_callTy call_bin i_intB (by rfl) m_int (by decide +kernel) (qaf_cons (qf_met c_BitReader_taken hr (by omega) (fun σ => passAt tk σ) (q_var 0 (pv 0)) (qa_cons (q_op op_add (i_int0 (g' := fun i j => .int (i + j)) fun _ _ _ _ => rfl) (q_var 2 (pv 2)) (q_c (d := .int 1) pe_int (fun _ _ => rfl))) qa_nil)) (qaf_cons (qf_of (q_c (d := .int 2) pe_int (fun _ _ => rfl))) qaf_nil))) (q_c (d := .int 1) pe_int (fun _ _ => rfl))))))))), ?body⟩)
  case len =>
    rintro ds g Q ⟨x, b, n, rfl, _⟩
    rfl
  case body =>
    rintro ds g Q ⟨x, b, n, rfl, rfl, hn, hb, hz, q⟩ hE
    refine ⟨_, rfl, x, 0, true, _, _, rfl, rfl, lk_bits, ⟨_, rfl⟩, _, rfl, x, 0, true, _, _, rfl, rfl, lk_at, b, n, rfl, rfl, hn, ?_⟩
    rcases zrs_split (b.drop n) with ⟨r, e⟩ | e
    · refine .inl ⟨zrs (b.drop n), r, e, by simp [begunG], ?_⟩
      have hneg : decide (((n + zrs (b.drop n) : Nat) : Int) < 0) = false := decide_eq_false (by omega)
      have hl : (b.drop n).length = b.length - n := by simp
      refine ⟨_, rfl, _, _, rfl, rfl, trivial, _, rfl, ?_⟩
      rw [hneg]
      refine iteF ?_
      refine ⟨_, rfl, _, rfl, x, 0, true, _, _, rfl, rfl, lk_at, _, _, rfl, rfl, trivial, by simp [begunG], ?_⟩
      refine ⟨_, rfl, _, rfl, x, 0, _, rfl, rfl, by simp, ?_⟩
      rw [put_at2]
      refine ⟨_, rfl, ⟨x, 0, true, _, rfl, rfl, no_taken⟩, _, rfl, _, _, rfl, rfl, trivial, ?_⟩
      have e1 : ((n + zrs (b.drop n) : Nat) : Int) - ((n : Nat) : Int) + 1 = ((zrs (b.drop n) + 1 : Nat) : Int) := by omega
      refine ⟨x, b, n + zrs (b.drop n), zrs (b.drop n) + 1, congrArg (fun i => [D.cls x, .int i]) e1, rfl, ?_, hb, ?_, ?_⟩
      · have := congrArg List.length e
        simp at this
        omega
      · have := congrArg List.length e
        simp at this
        omega
      by_cases h : n + zrs (b.drop n) + (zrs (b.drop n) + 1) ≤ b.length
      · rw [if_pos h]
        have e2 : ∃ p, readN (b.drop n) = some p := by
          unfold readN
          rw [if_neg (by omega)]
          exact ⟨_, rfl⟩
        obtain ⟨p, e2⟩ := e2
        have hz' : (b.drop n).length ≤ 1200 ∨ p.1 + 1 < 2 ^ 250 := by
          rcases hz with hz | ⟨p', g1, g2⟩
          · exact .inl (by omega)
          · rw [e2] at g1; cases g1; exact .inr g2
        rw [e2] at q
        obtain ⟨z1, r', z2, z3, z4, z5⟩ := readN_short e2 hz'
        have e3 : (b.drop (n + zrs (b.drop n))).take (zrs (b.drop n) + 1) = (true :: r').take (zrs (b.drop n) + 1) := by
          rw [← List.drop_drop]
          conv => lhs; arg 2; arg 2; rw [z2]
          rw [List.drop_append_of_le_length (by simp)]
          simp
        rw [e3]
        refine ⟨_, rfl, by simp, ?_, _, _, rfl, rfl, trivial, ?_⟩
        · rw [List.length_take]; omega
        show Q (Re.ok (.int ((valB ((true :: r').take (zrs (b.drop n) + 1)) : Int) - 1))) [rdM C_BitReader x true b (n + zrs (b.drop n) + (zrs (b.drop n) + 1))]
        replace q : Q (Re.ok (D.int p.1)) [rdM C_BitReader x true b (b.length - p.2.length)] := q
        rw [← z3]
        have e4 : b.length - p.2.length = n + zrs (b.drop n) + (zrs (b.drop n) + 1) := by
          rw [z4, List.length_drop]
          omega
        rw [e4] at q
        exact q
      · rw [if_neg h]
        have e2 : readN (b.drop n) = none := by
          unfold readN
          rw [if_pos (by omega)]
        rw [e2] at q
        exact hE _ _ (q _)
    · refine .inr ⟨fun c hc => by rw [e] at hc; exact (List.mem_replicate.mp hc).2, by simp [begunG], ?_⟩
      have e1 : readN (b.drop n) = none := by
        unfold readN
        rw [if_pos]
        have := congrArg List.length e
        simp at this
        simp
        omega
      rw [e1] at q
      refine ⟨_, rfl, _, _, rfl, rfl, trivial, _, rfl, ?_⟩
      exact iteT (hE _ _ (q n))
theorem at0b {a b : Bool} : atI [a, b] 0 = some a := by
  unfold atI ixN
  simp
theorem at1b {a b : Bool} : atI [a, b] 1 = some b := by
  unfold atI ixN
  rw [if_pos (by decide), if_pos (by simp only [List.length_cons]; omega)]
  rfl
theorem _root_.DL.Dfn.noneGX {x : Str} {st : Stmt} {ps : List Str} {R : RG} (Df : Dfn K mg x st ps) (no : ∀ ds g Q, ¬ R ds g Q) : CalS P w K mg base (L2.CX P w) 0 x ps (spG K R) := by
  obtain ⟨y, f, fd, Fn, b, hm⟩ := Df.ex
  have no' : ∀ vs H Q E, ¬ spG K R vs H Q E := fun vs H Q E ⟨L, ds, g, Q1, _, _, _, h, _⟩ => no ds g Q1 h
  exact ⟨f, fd, ⟨fun vs H Q E h => absurd h (no' vs H Q E), fun A outer s H args us vs Q E _ _ _ _ h => absurd h (no' vs H Q E)⟩, b, Fn.kp, hm⟩
theorem _root_.DL.CalS.mono {CX : CXT} {j k : Nat} {x : Str} {ps : List Str} {sp : Sp} (G : CalS P w K mg base CX j x ps sp) (h : j ≤ k) : CalS P w K mg base CX k x ps sp := by
  obtain ⟨f, fd, F, b, kp, m⟩ := G.ex
  exact ⟨f, fd, F.mono h, b, kp, m⟩
theorem drop_pos {b r : List Bool} {j : Nat} (h : r = b.drop j) : b.drop (b.length - r.length) = r := by
  rw [h, List.length_drop]
  by_cases c : j ≤ b.length
  · have e : b.length - (b.length - j) = j := by omega
    rw [e]
  · rw [List.drop_eq_nil_of_le (by omega), List.drop_eq_nil_of_le (by omega)]
def rReadO (B C : Addr) (n : Nat) : RG := fun ds g Q => ∃ (x : Addr) (b : List Bool) (m f : Nat), ds = [.cls x, .int (41 - (f : Int))] ∧ g = [rdM C x true b m] ∧ m ≤ b.length ∧ b.length ≤ 4000000 ∧ f < n ∧ f ≤ 40 ∧
  match readO f (b.drop m) with | some p => Q (.ok p.1.d) [rdM C x true b (b.length - p.2.length)] | none => ∀ k, Q (.er B) [rdM C x true b k]
theorem step_read_own {n : Nat} (Df : Dfn K mg "read_own" (top 43) ["reader", "deep"]) (m_int : mg "int" = none) (c_BitReader_taken : MetS P w K mg base (L2.CX P w) 3 C_BitReader "taken" ["self", "many"] (spG K (rTaken C_BadRow C_BitReader))) (c_refuse_too_deep : Cal P w K mg base (L2.CX P w) 2 "refuse_too_deep" ["deep"] (rDeep C_BadRow)) (c_read_own : CalS P w K mg base (L2.CX P w) (4 + n) "read_own" ["reader", "deep"] (spG K ((rReadO C_BadRow C_BitReader) n))) :
    CalS P w K mg base (L2.CX P w) (4 + n + 1) "read_own" ["reader", "deep"] (spG K ((rReadO C_BadRow C_BitReader) (n + 1))) := by
  have sc : FnScope ["reader", "deep", "kind", "left", "right"] ["reader", "deep"] (defScope (top 43)) := ⟨rfl, rfl, rfl, by decide +kernel, rfl, by decide +kernel, by decide +kernel⟩
  refine Df.okGX sc ?len (fun y f cdv A outer s H E hr W E1 tk => ⟨_, (qss_cons (qs_expr (q_calX c_refuse_too_deep hr (by omega) (by rfl) tk (qa_cons (q_var 1 (pv 1)) qa_nil)))
      (qss_cons (qs_setF 2 sc.nd rfl (by first | exact Or.inl rfl | exact Or.inr rfl) (qf_met c_BitReader_taken hr (by omega) (fun σ => passAt tk σ) (q_var 0 (pv 0)) (qa_cons (q_c (d := .int 2) pe_int (fun _ _ => rfl)) qa_nil)))
      (qss_cons (qs_if (qt_cmp (op_eqD hr.units) i_eq (nomark _) (q_var 2 (pv 2)) (q_bits (l := [false, false]) (by decide +kernel)))
        (qss_one (qs_retF (qf_callTy call_bin i_intB (by rfl) m_int (by decide +kernel) (qaf_cons (qf_met c_BitReader_taken hr (by omega) (fun σ => passAt tk σ) (q_var 0 (pv 0)) (qa_cons (q_c (d := .int 1) pe_int (fun _ _ => rfl)) qa_nil)) (qaf_cons (qf_of (q_c (d := .int 2) pe_int (fun _ _ => rfl))) qaf_nil)))))
        qss_nil)
      (qss_cons (qs_set 3 sc.nd rfl (by first | exact Or.inl rfl | exact Or.inr rfl) (q_c (d := .int 0) pe_int (fun _ _ => rfl)))
      (qss_cons (qs_set 4 sc.nd rfl (by first | exact Or.inl rfl | exact Or.inr rfl) (q_c (d := .int 0) pe_int (fun _ _ => rfl)))
      (qss_cons (qs_if (qt_cmp (op_eqD hr.units) i_eq (nomark _) (q_ix ix_str i_ixB (fun _ _ => rfl) (q_var 2 (pv 2)) (q_c (d := .int 0) pe_int (fun _ _ => rfl))) (q_bits (l := [true]) (by decide +kernel)))
        (qss_one (qs_setF 3 sc.nd rfl (by first | exact Or.inl rfl | exact Or.inr rfl) (qf_cal c_read_own hr (by omega) (by rfl) (fun σ => passAt tk σ) (qa_cons (q_var 0 (pv 0)) (qa_cons (q_op op_add (i_int0 (g' := fun i j => .int (i + j)) fun _ _ _ _ => rfl) (q_var 1 (pv 1)) (q_c (d := .int 1) pe_int (fun _ _ => rfl))) qa_nil)))))
        qss_nil)
      (qss_cons (qs_if (qt_cmp (op_eqD hr.units) i_eq (nomark _) (q_ix ix_str i_ixB (fun _ _ => rfl) (q_var 2 (pv 2)) (q_c (d := .int 1) pe_int (fun _ _ => rfl))) (q_bits (l := [true]) (by decide +kernel)))
        (qss_one (qs_setF 4 sc.nd rfl (by first | exact Or.inl rfl | exact Or.inr rfl) (qf_cal c_read_own hr (by omega) (by rfl) (fun σ => passAt tk σ) (qa_cons (q_var 0 (pv 0)) (qa_cons (q_op op_add (i_int0 (g' := fun i j => .int (i + j)) fun _ _ _ _ => rfl) (q_var 1 (pv 1)) (q_c (d := .int 1) pe_int (fun _ _ => rfl))) qa_nil)))))
        qss_nil)
      (qss_one (qs_ret (q_tup (qa_cons (q_var 3 (pv 3)) (qa_cons (q_var 4 (pv 4)) qa_nil)))))))))))), ?body⟩)
  case len =>
    rintro ds g Q ⟨x, b, m, f, rfl, _⟩
    rfl
  case body =>
    rintro ds g Q ⟨x, b, m, fu, rfl, rfl, hm, hb, hn, h40, q⟩ hE
    cases fu with
    | zero => exact ⟨_, rfl, .er C_BadRow, ⟨_, rfl, by rw [if_pos (by omega)]⟩, hE _ _ (q m)⟩
    | succ f =>
    have qd : rDeep C_BadRow [.int (41 - ((f + 1 : Nat) : Int))] (.ok .non) := ⟨_, rfl, by rw [if_neg (by omega)]⟩
    refine ⟨_, rfl, _, qd, ?_⟩
    refine ⟨_, rfl, ⟨x, 0, true, _, rfl, rfl, no_taken⟩, ⟨x, b, m, 2, rfl, rfl, hm, hb, by decide, ?_⟩⟩
    by_cases h2 : m + 2 ≤ b.length
    · rw [if_pos h2]
      obtain ⟨k0, k1, r, er⟩ : ∃ k0 k1 r, b.drop m = k0 :: k1 :: r := by
        have hl : (b.drop m).length = b.length - m := by simp
        match hh : b.drop m with
        | [] => rw [hh] at hl; simp at hl; omega
        | [_] => rw [hh] at hl; simp at hl; omega
        | k0 :: k1 :: r => exact ⟨k0, k1, r, rfl⟩
      rw [er, readO_step] at q
      have et : (b.drop m).take 2 = [k0, k1] := by rw [er]; rfl
      have ed : b.drop (m + 2) = r := by rw [← List.drop_drop, er]; rfl
      rw [et]
      refine ⟨by simp [begunG], ?_⟩
      refine ⟨_, rfl, sh_bits _, sh_bits _, _, rfl, ?_⟩
      rw [eqv_bits]
      by_cases h00 : k0 = false ∧ k1 = false
      · obtain ⟨rfl, rfl⟩ := h00
        rw [if_pos ⟨rfl, rfl⟩] at q
        refine iteT ?_
        refine ⟨_, rfl, ⟨x, 0, true, _, rfl, rfl, no_taken⟩, ⟨x, b, m + 2, 1, rfl, rfl, h2, hb, by decide, ?_⟩⟩
        rw [ed]
        have hl := congrArg List.length ed
        rw [List.length_drop] at hl
        cases r with
        | nil =>
          rw [if_neg (by simp at hl; omega)]
          exact hE _ _ (q _)
        | cons c r' =>
          rw [if_pos (by simp at hl; omega)]
          refine ⟨_, rfl, by simp, by simp, ?_⟩
          have e3 : b.length - r'.length = m + 2 + 1 := by simp at hl; omega
          have e4 : D.int ((valB [c] : Nat) : Int) = (Own.lf c).d := by cases c <;> rfl
          replace q : Q (.ok (Own.lf c).d) [rdM C_BitReader x true b (b.length - r'.length)] := q
          rw [e3, ← e4] at q
          exact q
      · rw [if_neg h00] at q
        have hne : decide ([k0, k1] = [false, false]) = false := decide_eq_false fun z => h00 (by simpa using z)
        rw [hne]
        refine iteF ?_
        refine ⟨by simp [begunG], by simp [begunG], ?_⟩
        refine ⟨_, rfl, _, 0, k0, rfl, rfl, by simp, at0b, sh_bits _, sh_bits _, _, rfl, ?_⟩
        rw [eqv_bits]
        cases k0 with
        | false =>
          refine iteF ?_
          have hR : b.drop (m + 2) = r := ed
          have hJ : m + 2 ≤ b.length := h2
          replace q : match (if k1 = true then readO f r else some (.lf false, r)).bind (fun q => some (Own.nd (.lf false) q.1, q.2)) with | some p => Q (Re.ok p.1.d) [rdM C_BitReader x true b (b.length - p.2.length)] | none => ∀ k, Q (Re.er C_BadRow) [rdM C_BitReader x true b k] := q
          refine ⟨_, rfl, _, 1, k1, rfl, rfl, by simp, at1b, sh_bits _, sh_bits _, _, rfl, ?_⟩
          rw [eqv_bits]
          cases k1 with
          | false =>
            refine iteF ?_
            have hl : (m + 2) = b.length - (r).length := by
              have := congrArg List.length hR
              rw [List.length_drop] at this
              omega
            refine ⟨_, rfl, _, rfl, by simp, ?_⟩
            first | (rw [hl]; exact q) | (rw [hl])
          | true =>
            refine iteT ?_
            refine ⟨_, rfl, _, rfl, _, _, rfl, rfl, trivial, ⟨x, b, (m + 2), f, congrArg (fun i => [D.cls x, .int i]) (by omega), rfl, hJ, hb, by omega, by omega, ?_⟩⟩
            rw [hR]
            cases h2' : readO f (r) with
            | none =>
              rw [h2'] at q
              exact fun k => hE _ _ (q k)
            | some p2 =>
              rw [h2'] at q
              exact ⟨by simp [begunG], _, rfl, _, rfl, by simp, q⟩
        | true =>
          refine iteT ?_
          refine ⟨_, rfl, _, rfl, _, _, rfl, rfl, trivial, ⟨x, b, m + 2, f, congrArg (fun i => [D.cls x, .int i]) (by omega), rfl, h2, hb, by omega, by omega, ?_⟩⟩
          rw [ed]
          cases h1 : readO f r with
          | none =>
            rw [h1] at q
            exact fun k => hE _ _ (q k)
          | some p1 =>
            rw [h1] at q
            refine ⟨by simp [begunG], ?_⟩
            obtain ⟨_, _, j1, e1⟩ := readO_depth h1
            have hR : b.drop (b.length - p1.2.length) = p1.2 := drop_pos (j := m + 2 + j1) (by rw [e1, ← ed, List.drop_drop])
            have hJ : b.length - p1.2.length ≤ b.length := by omega
            replace q : match (if k1 = true then readO f p1.2 else some (.lf false, p1.2)).bind (fun q => some (Own.nd p1.1 q.1, q.2)) with | some p => Q (Re.ok p.1.d) [rdM C_BitReader x true b (b.length - p.2.length)] | none => ∀ k, Q (Re.er C_BadRow) [rdM C_BitReader x true b k] := q
            refine ⟨_, rfl, _, 1, k1, rfl, rfl, by simp, at1b, sh_bits _, sh_bits _, _, rfl, ?_⟩
            rw [eqv_bits]
            cases k1 with
            | false =>
              refine iteF ?_
              refine ⟨_, rfl, _, rfl, by simp, ?_⟩
              exact q
            | true =>
              refine iteT ?_
              refine ⟨_, rfl, _, rfl, _, _, rfl, rfl, trivial, ⟨x, b, (b.length - p1.2.length), f, congrArg (fun i => [D.cls x, .int i]) (by omega), rfl, hJ, hb, by omega, by omega, ?_⟩⟩
              rw [hR]
              cases h2' : readO f (p1.2) with
              | none =>
                rw [h2'] at q
                exact fun k => hE _ _ (q k)
              | some p2 =>
                rw [h2'] at q
                exact ⟨by simp [begunG], _, rfl, _, rfl, by simp, q⟩
    · rw [if_neg h2]
      have e0 : readO (f + 1) (b.drop m) = none := by
        have hl : (b.drop m).length = b.length - m := by simp
        match hh : b.drop m with
        | [] => rfl
        | [_] => rfl
        | k0 :: k1 :: r => rw [hh] at hl; simp at hl; omega
      rw [e0] at q
      exact hE _ _ (q _)
theorem no_read_own {B C : Addr} : ∀ ds g Q, ¬ rReadO B C 0 ds g Q := by
  rintro ds g Q ⟨x, b, m, f, _, _, _, _, h, _⟩
  omega
theorem ok_read_own (Df : Dfn K mg "read_own" (top 43) ["reader", "deep"]) (m_int : mg "int" = none) (c_BitReader_taken : MetS P w K mg base (L2.CX P w) 3 C_BitReader "taken" ["self", "many"] (spG K (rTaken C_BadRow C_BitReader))) (c_refuse_too_deep : Cal P w K mg base (L2.CX P w) 2 "refuse_too_deep" ["deep"] (rDeep C_BadRow)) :
    ∀ n : Nat, CalS P w K mg base (L2.CX P w) (4 + n) "read_own" ["reader", "deep"] (spG K ((rReadO C_BadRow C_BitReader) n))
  | 0 => (Df.noneGX no_read_own).mono (Nat.zero_le _)
  | n + 1 => step_read_own Df m_int c_BitReader_taken c_refuse_too_deep (ok_read_own Df m_int c_BitReader_taken c_refuse_too_deep n)
theorem no_number : ("taken_number" : Str) ∉ [("_bits" : Str), "_at"] := by decide +kernel
theorem readT_step (f : Nat) (a : Bool) (r : List Bool) : readT (f + 1) (a :: r) = (readN r).bind fun p => if a = true then some (.n p.1, p.2) else (readT f p.2).bind fun q => (readT f q.2).bind fun s => some (.t p.1 q.1 s.1, s.2) := rfl
/-- what the numbers of a part that is read are under -/
theorem readT_tops {f : Nat} {a : Bool} {r : List Bool} {p : Told × List Bool} (h : readT (f + 1) (a :: r) = some p) : ∃ pn, readN r = some pn ∧ pn.1 ≤ p.1.top ∧ (a = false → ∃ pl, readT f pn.2 = some pl ∧ pl.1.top ≤ p.1.top ∧ ∃ pr, readT f pl.2 = some pr ∧ pr.1.top ≤ p.1.top) := by
  rw [readT_step] at h
  obtain ⟨pn, h1, h⟩ := Option.bind_eq_some_iff.mp h
  have n0 := (readN_nn h1).1
  cases a with
  | true =>
    cases h
    exact ⟨pn, h1, Int.le_refl _, fun z => by cases z⟩
  | false =>
    obtain ⟨pl, h2, h⟩ := Option.bind_eq_some_iff.mp h
    obtain ⟨pr, h3, h⟩ := Option.bind_eq_some_iff.mp h
    cases h
    have l0 := (Told.top_ok (readT_ok h2).1).1
    have r0 := (Told.top_ok (readT_ok h3).1).1
    exact ⟨pn, h1, by simp only [Told.top]; omega, fun _ => ⟨pl, h2, by simp only [Told.top]; omega, pr, h3, by simp only [Told.top]; omega⟩⟩
def rReadT (B C : Addr) (n : Nat) : RG := fun ds g Q => ∃ (x : Addr) (b : List Bool) (m f : Nat), ds = [.cls x, .int (41 - (f : Int))] ∧ g = [rdM C x true b m] ∧ m ≤ b.length ∧ b.length ≤ 4000000 ∧ f < n ∧ f ≤ 40 ∧ (b.length ≤ 1200 ∨ ∃ p, readT f (b.drop m) = some p ∧ p.1.top + 1 < 2 ^ 250) ∧
  match readT f (b.drop m) with | some p => Q (.ok p.1.d) [rdM C x true b (b.length - p.2.length)] | none => ∀ k, Q (.er B) [rdM C x true b k]
theorem step_read_told {n : Nat} (Df : Dfn K mg "read_told" (top 44) ["reader", "deep"]) (c_BitReader_taken_number : MetS P w K mg base (L2.CX P w) 5 C_BitReader "taken_number" ["self"] (spG K (rTakeN C_BadRow C_BitReader))) (c_BitReader_taken : MetS P w K mg base (L2.CX P w) 3 C_BitReader "taken" ["self", "many"] (spG K (rTaken C_BadRow C_BitReader))) (c_refuse_too_deep : Cal P w K mg base (L2.CX P w) 2 "refuse_too_deep" ["deep"] (rDeep C_BadRow)) (c_read_told : CalS P w K mg base (L2.CX P w) (6 + n) "read_told" ["reader", "deep"] (spG K ((rReadT C_BadRow C_BitReader) n))) :
    CalS P w K mg base (L2.CX P w) (6 + n + 1) "read_told" ["reader", "deep"] (spG K ((rReadT C_BadRow C_BitReader) (n + 1))) := by
  have sc : FnScope ["reader", "deep", "kind", "number", "left", "right"] ["reader", "deep"] (defScope (top 44)) := ⟨rfl, rfl, rfl, by decide +kernel, rfl, by decide +kernel, by decide +kernel⟩
  refine Df.okGX sc ?len (fun y f cdv A outer s H E hr W E1 tk => ⟨_, (qss_cons (qs_expr (q_calX c_refuse_too_deep hr (by omega) (by rfl) tk (qa_cons (q_var 1 (pv 1)) qa_nil)))
      (qss_cons (qs_setF 2 sc.nd rfl (by first | exact Or.inl rfl | exact Or.inr rfl) (qf_met c_BitReader_taken hr (by omega) (fun σ => passAt tk σ) (q_var 0 (pv 0)) (qa_cons (q_c (d := .int 1) pe_int (fun _ _ => rfl)) qa_nil)))
      (qss_cons (qs_setF 3 sc.nd rfl (by first | exact Or.inl rfl | exact Or.inr rfl) (qf_met0 c_BitReader_taken_number hr (by omega) (fun σ => passAt tk σ) (q_var 0 (pv 0))))
      (qss_cons (qs_if (qt_cmp (op_eqD hr.units) i_eq (nomark _) (q_var 2 (pv 2)) (q_bits (l := [true]) (by decide +kernel)))
        (qss_one (qs_ret (q_var 3 (pv 3))))
        qss_nil)
      (qss_cons (qs_setF 4 sc.nd rfl (by first | exact Or.inl rfl | exact Or.inr rfl) (qf_cal c_read_told hr (by omega) (by rfl) (fun σ => passAt tk σ) (qa_cons (q_var 0 (pv 0)) (qa_cons (q_op op_add (i_int0 (g' := fun i j => .int (i + j)) fun _ _ _ _ => rfl) (q_var 1 (pv 1)) (q_c (d := .int 1) pe_int (fun _ _ => rfl))) qa_nil))))
      (qss_cons (qs_setF 5 sc.nd rfl (by first | exact Or.inl rfl | exact Or.inr rfl) (qf_cal c_read_told hr (by omega) (by rfl) (fun σ => passAt tk σ) (qa_cons (q_var 0 (pv 0)) (qa_cons (q_op op_add (i_int0 (g' := fun i j => .int (i + j)) fun _ _ _ _ => rfl) (q_var 1 (pv 1)) (q_c (d := .int 1) pe_int (fun _ _ => rfl))) qa_nil))))
      (qss_one (qs_ret (q_tup (qa_cons (q_var 3 (pv 3)) (qa_cons (q_var 4 (pv 4)) (qa_cons (q_var 5 (pv 5)) qa_nil)))))))))))), ?body⟩)
  case len =>
    rintro ds g Q ⟨x, b, m, f, rfl, _⟩
    rfl
  case body =>
    rintro ds g Q ⟨x, b, m, fu, rfl, rfl, hm, hb, hn, h40, hz, q⟩ hE
    cases fu with
    | zero => exact ⟨_, rfl, .er C_BadRow, ⟨_, rfl, by rw [if_pos (by omega)]⟩, hE _ _ (q m)⟩
    | succ f =>
    have qd : rDeep C_BadRow [.int (41 - ((f + 1 : Nat) : Int))] (.ok .non) := ⟨_, rfl, by rw [if_neg (by omega)]⟩
    refine ⟨_, rfl, _, qd, ?_⟩
    refine ⟨_, rfl, ⟨x, 0, true, _, rfl, rfl, no_taken⟩, ⟨x, b, m, 1, rfl, rfl, hm, hb, by decide, ?_⟩⟩
    by_cases h1 : m + 1 ≤ b.length
    · rw [if_pos h1]
      obtain ⟨a, r, er⟩ : ∃ a r, b.drop m = a :: r := by
        have hl : (b.drop m).length = b.length - m := by simp
        match hh : b.drop m with
        | [] => rw [hh] at hl; simp at hl; omega
        | a :: r => exact ⟨a, r, rfl⟩
      have et : (b.drop m).take 1 = [a] := by rw [er]; rfl
      have ed : b.drop (m + 1) = r := by rw [← List.drop_drop, er]; rfl
      rw [et]
      rw [er] at q hz
      refine ⟨by simp [begunG], ?_⟩
      refine ⟨_, rfl, ⟨x, 0, true, _, rfl, rfl, no_number⟩, ⟨x, b, m + 1, rfl, rfl, h1, hb, ?_, ?_⟩⟩
      · rcases hz with hz | ⟨p, h, ht⟩
        · exact .inl hz
        · obtain ⟨pn, g1, g2, _⟩ := readT_tops h
          rw [ed]
          exact .inr ⟨pn, g1, by omega⟩
      rw [ed]
      cases hN : readN r with
      | none =>
        rw [readT_step, hN] at q
        exact fun k => hE _ _ (q k)
      | some pn =>
        refine ⟨by simp [begunG], ?_⟩
        obtain ⟨n0, k1, _, e1⟩ := readN_nn hN
        have R1 : b.drop (b.length - pn.2.length) = pn.2 := drop_pos (j := m + 1 + k1) (by rw [e1, ← ed, List.drop_drop])
        refine ⟨_, rfl, sh_bits _, sh_bits _, _, rfl, ?_⟩
        rw [eqv_bits]
        cases a with
        | true =>
          rw [readT_step, hN] at q
          exact iteT ⟨_, rfl, q⟩
        | false =>
          refine iteF ?_
          refine ⟨_, rfl, _, rfl, _, _, rfl, rfl, trivial, ⟨x, b, b.length - pn.2.length, f, congrArg (fun i => [D.cls x, .int i]) (by omega), rfl, by omega, hb, by omega, by omega, ?_, ?_⟩⟩
          · rcases hz with hz | ⟨p, h, ht⟩
            · exact .inl hz
            · obtain ⟨pn', g1, _, g3⟩ := readT_tops h
              rw [hN] at g1
              cases g1
              obtain ⟨pl, g4, g5, _⟩ := g3 rfl
              rw [R1]
              exact .inr ⟨pl, g4, by omega⟩
          rw [R1]
          cases hL : readT f pn.2 with
          | none =>
            rw [readT_step, hN] at q
            replace q : match (readT f pn.2).bind (fun q => (readT f q.2).bind fun s => some (Told.t pn.1 q.1 s.1, s.2)) with | some p => Q (Re.ok p.1.d) [rdM C_BitReader x true b (b.length - p.2.length)] | none => ∀ k, Q (Re.er C_BadRow) [rdM C_BitReader x true b k] := q
            rw [hL] at q
            exact fun k => hE _ _ (q k)
          | some pl =>
            refine ⟨by simp [begunG], ?_⟩
            obtain ⟨_, _, k2, e2⟩ := readT_ok hL
            have R2 : b.drop (b.length - pl.2.length) = pl.2 := drop_pos (j := m + 1 + k1 + k2) (by rw [e2, e1, ← ed, List.drop_drop, List.drop_drop]; congr 1; omega)
            refine ⟨_, rfl, _, rfl, _, _, rfl, rfl, trivial, ⟨x, b, b.length - pl.2.length, f, congrArg (fun i => [D.cls x, .int i]) (by omega), rfl, by omega, hb, by omega, by omega, ?_, ?_⟩⟩
            · rcases hz with hz | ⟨p, h, ht⟩
              · exact .inl hz
              · obtain ⟨pn', g1, _, g3⟩ := readT_tops h
                rw [hN] at g1
                cases g1
                obtain ⟨pl', g4, _, pr, g6, g7⟩ := g3 rfl
                rw [hL] at g4
                cases g4
                rw [R2]
                exact .inr ⟨pr, g6, by omega⟩
            rw [R2]
            rw [readT_step, hN] at q
            replace q : match (readT f pn.2).bind (fun q => (readT f q.2).bind fun s => some (Told.t pn.1 q.1 s.1, s.2)) with | some p => Q (Re.ok p.1.d) [rdM C_BitReader x true b (b.length - p.2.length)] | none => ∀ k, Q (Re.er C_BadRow) [rdM C_BitReader x true b k] := q
            rw [hL] at q
            replace q : match (readT f pl.2).bind (fun s => some (Told.t pn.1 pl.1 s.1, s.2)) with | some p => Q (Re.ok p.1.d) [rdM C_BitReader x true b (b.length - p.2.length)] | none => ∀ k, Q (Re.er C_BadRow) [rdM C_BitReader x true b k] := q
            cases hR : readT f pl.2 with
            | none =>
              rw [hR] at q
              exact fun k => hE _ _ (q k)
            | some pr =>
              rw [hR] at q
              exact ⟨by simp [begunG], _, rfl, _, rfl, _, rfl, by simp, q⟩
    · rw [if_neg h1]
      have e0 : readT (f + 1) (b.drop m) = none := by
        have hl : (b.drop m).length = b.length - m := by simp
        match hh : b.drop m with
        | [] => rfl
        | a :: r => rw [hh] at hl; simp at hl; omega
      rw [e0] at q
      exact hE _ _ (q _)
theorem no_read_told {B C : Addr} : ∀ ds g Q, ¬ rReadT B C 0 ds g Q := by
  rintro ds g Q ⟨x, b, m, f, _, _, _, _, h, _⟩
  omega
theorem ok_read_told (Df : Dfn K mg "read_told" (top 44) ["reader", "deep"]) (c_BitReader_taken_number : MetS P w K mg base (L2.CX P w) 5 C_BitReader "taken_number" ["self"] (spG K (rTakeN C_BadRow C_BitReader))) (c_BitReader_taken : MetS P w K mg base (L2.CX P w) 3 C_BitReader "taken" ["self", "many"] (spG K (rTaken C_BadRow C_BitReader))) (c_refuse_too_deep : Cal P w K mg base (L2.CX P w) 2 "refuse_too_deep" ["deep"] (rDeep C_BadRow)) :
    ∀ n : Nat, CalS P w K mg base (L2.CX P w) (6 + n) "read_told" ["reader", "deep"] (spG K ((rReadT C_BadRow C_BitReader) n))
  | 0 => (Df.noneGX no_read_told).mono (Nat.zero_le _)
  | n + 1 => step_read_told Df c_BitReader_taken_number c_BitReader_taken c_refuse_too_deep (ok_read_told Df c_BitReader_taken_number c_BitReader_taken c_refuse_too_deep n)
def isByte : D → Bool
  | .int i => decide (0 ≤ i) && decide (i ≤ 255)
  | _ => false
def rowB : D → Bool
  | .lst xs => xs.all isByte
  | _ => false
def rIsRow : List D → Re → Prop := fun ds r => ∃ d T, ds = [d] ∧ d.tyS = some T ∧ (∀ xs, d = .lst xs → ∀ x ∈ xs, ∃ U, x.tyS = some U) ∧ r = .ok (.bl (rowB d))
theorem ok_is_row (Df : Dfn K mg "is_row" (top 42) ["thing"]) (m_list : mg "list" = none) (m_type : mg "type" = none) (c_is_whole : Cal P w K mg base CX0 1 "is_whole" ["thing"] rWhole) :
    Cal P w K mg base CX0 3 "is_row" ["thing"] rIsRow := by
  have sc : FnScope ["thing", "number"] ["thing"] (defScope (top 42)) := ⟨rfl, rfl, rfl, by decide +kernel, rfl, by decide +kernel, by decide +kernel⟩
  refine Df.ok sc ?len (fun y f cdv A outer s H E hr => ⟨_, (qss_cons (qs_if (qt_cmp op_notTyB i_notTy (nomark _) (q_callTy call_type1 i_type (by rfl) m_type (by decide +kernel) (qa_cons (q_var 0 (pv 0)) qa_nil)) (q_ty "list" (by rfl) m_list (by decide +kernel)))
        (qss_one (qs_ret (q_c (d := .bl false) pe_bl (fun _ _ => rfl))))
        qss_nil)
      (qss_cons (qs_for PassesOwn.never rfl (qi_list (q_var 0 (pv 0))) (qg_name 1 sc.nd rfl (Or.inl rfl))
        (qss_one (qs_if (qt_w (qw_or (qt_not (qt_val (q_cal c_is_whole hr (by omega) (by rfl) (qa_cons (q_var 1 (pv 1)) qa_nil)))) (qw_or (qt_cmp op_lt (i_int0 (g' := fun i j => .bl (decide (i < j))) fun _ _ _ _ => rfl) (nomark _) (q_var 1 (pv 1)) (q_c (d := .int 0) pe_int (fun _ _ => rfl))) (qw_or1 (qt_cmp op_gt (i_int0 (g' := fun i j => .bl (decide (j < i))) fun _ _ _ _ => rfl) (nomark _) (q_var 1 (pv 1)) (q_c (d := .int 255) pe_int (fun _ _ => rfl)))))))
          (qss_one (qs_ret (q_c (d := .bl false) pe_bl (fun _ _ => rfl))))
          qss_nil)))
      (qss_one (qs_ret (q_c (d := .bl true) pe_bl (fun _ _ => rfl)))))), ?body⟩)
  case len =>
    rintro ds r ⟨d, T, rfl, _⟩
    rfl
  case body =>
    rintro ds r ⟨d, T, rfl, hT, hx, rfl⟩
    refine ⟨_, rfl, ?_⟩
    refine ⟨_, rfl, d, T, rfl, hT, T, "list", rfl, rfl, _, rfl, ?_⟩
    by_cases ht : T = "list"
    · subst ht
      obtain ⟨xs, rfl⟩ : ∃ xs, d = .lst xs := by cases d <;> simp [D.tyS] at hT <;> exact ⟨_, rfl⟩
      refine iteF ?_
      refine ⟨_, rfl, _, rfl, fun i ρ => (xs.take i).all isByte = true ∧ ∃ y, ρ = ⟨[.dat (.lst xs), y], []⟩, ⟨rfl, _, rfl⟩, ?_, ?_⟩
      · rintro i x ρ hi ⟨hb, y, rfl⟩
        obtain ⟨U, hU⟩ := hx xs rfl x (List.mem_of_getElem? hi)
        have all1 : (xs.take (i + 1)).all isByte = ((xs.take i).all isByte && isByte x) := by
          obtain ⟨h1, h2⟩ := List.getElem?_eq_some_iff.mp hi
          rw [List.take_succ_eq_append_getElem h1, List.all_append, h2]
          simp
        have bad : isByte x = false → xs.all isByte = false := fun z => by
          rw [List.all_eq_false]
          exact ⟨x, List.mem_of_getElem? hi, by rw [z]; decide⟩
        refine ⟨by simp, ?_⟩
        cases x with
        | int n =>
          refine ⟨_, rfl, _, ⟨.int n, _, rfl, rfl, rfl⟩, true, rfl, ?_⟩
          refine iteF ?_
          refine ⟨_, rfl, n, 0, rfl, rfl, trivial, _, rfl, ?_⟩
          by_cases h1 : n < 0
          · rw [decide_eq_true h1]
            refine iteT (iteT ?_)
            have e : isByte (.int n) = false := by simp [isByte]; omega
            show D.bl false = D.bl (xs.all isByte)
            rw [bad e]
          rw [decide_eq_false h1]
          refine iteF ?_
          refine ⟨_, rfl, n, 255, rfl, rfl, trivial, _, rfl, ?_⟩
          by_cases h2 : 255 < n
          · rw [decide_eq_true h2]
            refine iteT ?_
            have e : isByte (.int n) = false := by simp [isByte]; omega
            show D.bl false = D.bl (xs.all isByte)
            rw [bad e]
          rw [decide_eq_false h2]
          refine iteF ?_
          have e : isByte (.int n) = true := by simp [isByte]; omega
          exact ⟨by rw [all1, hb, e]; rfl, _, rfl⟩
        | _ =>
          refine ⟨_, rfl, _, ⟨_, U, rfl, hU, rfl⟩, false, congrArg D.bl ?_, ?_⟩
          · first
              | (simp [D.tyS] at hU; done)
              | (simp only [D.tyS, Option.some.injEq] at hU; subst hU; rfl)
          · refine iteT (iteT ?_)
            show D.bl false = D.bl (xs.all isByte)
            rw [bad rfl]
      · rintro ρ ⟨hb, y, rfl⟩
        rw [List.take_length] at hb
        show D.bl true = D.bl (xs.all isByte)
        rw [hb]
    · rw [decide_eq_false ht]
      refine iteT ?_
      cases d <;> first | rfl | (simp [D.tyS] at hT; exact absurd hT.symm ht)
theorem byteD_inj : ∀ {a b : List Nat}, byteD a = byteD b → a = b
  | [], [], _ => rfl
  | [], _ :: _, h => by simp [byteD] at h
  | _ :: _, [], h => by simp [byteD] at h
  | x :: a, y :: b, h => by
    simp only [byteD, List.map_cons, List.cons.injEq, D.int.injEq] at h
    have e : a = b := byteD_inj h.2
    have e2 : x = y := by omega
    rw [e, e2]
theorem eqv_bytes (a b : List Nat) : (D.lst (byteD a)).eqv (.lst (byteD b)) = decide (a = b) := by
  show PyData.eqv (.list (pys (byteD a))) (.list (pys (byteD b))) = _
  simp only [PyData.eqv, pys_bytes]
  induction a generalizing b with
  | nil => cases b <;> simp [PyData.eqvAll]
  | cons x a ih =>
    cases b with
    | nil => simp [PyData.eqvAll]
    | cons y b =>
      simp only [List.map_cons, PyData.eqvAll, PyData.eqv, ih b]
      by_cases h1 : x = y <;> by_cases h2 : a = b <;> simp [h1, h2]
      omega
theorem bytes_all {ns : List Nat} (h : ∀ n ∈ ns, n < 256) : (byteD ns).all isByte = true := by
  rw [List.all_eq_true]
  intro x hx
  obtain ⟨n, hn, rfl⟩ := List.mem_map.mp hx
  have := h n hn
  simp [isByte]
  omega
theorem bytes_of : ∀ {xs : List D}, xs.all isByte = true → ∃ ns, xs = byteD ns ∧ ∀ n ∈ ns, n < 256
  | [], _ => ⟨[], rfl, fun _ h => by simp at h⟩
  | x :: xs, h => by
    rw [List.all_cons, Bool.and_eq_true] at h
    obtain ⟨ns, rfl, hn⟩ := bytes_of h.2
    cases x with
    | int i =>
      have hi : 0 ≤ i ∧ i ≤ 255 := by simpa [isByte] using h.1
      refine ⟨i.toNat :: ns, ?_, fun n hm => ?_⟩
      · show _ = D.int ((i.toNat : Nat) : Int) :: byteD ns
        rw [Int.toNat_of_nonneg hi.1]
      · rcases List.mem_cons.mp hm with rfl | hm
        · omega
        · exact hn n hm
    | _ => simp [isByte] at h
/-- what unpacked answers -/
def rUnpack (B C : Addr) : List D → Re → Prop := fun ds r => ∃ d T, ds = [d] ∧ d.tyS = some T ∧ (∀ xs, d = .lst xs → ∀ x ∈ xs, ∃ U, x.tyS = some U) ∧
  ((¬ (∃ ns, d = .lst (byteD ns) ∧ ∀ n ∈ ns, n < 256) ∧ r = .er B) ∨
   ∃ ns : List Nat, d = .lst (byteD ns) ∧ (∀ n ∈ ns, n < 256) ∧ ns.length ≤ 400000 ∧ (ns.length ≤ 150 ∨ ∃ (o : Own) (t : Told), o.depth < 40 ∧ t.depth < 40 ∧ o.isLeast = true ∧ t.ok ∧ t.isLeast = true ∧ t.top + 1 < 2 ^ 250 ∧ o.bits.length ≤ 1500000 ∧ t.bits.length ≤ 1500000 ∧ ns = packN o t) ∧
     r = match unpackN ns with | some p => .ok (stD C p.1 p.2) | none => .er B)
theorem ok_unpacked (Df : Dfn K mg "unpacked" (top 41) ["row"]) (K_BadRow : ExK K C_BadRow) (g_BadRow : mg "BadRow" = some (.ref C_BadRow)) (c_packed : CalS P w K mg base CX0 46 "packed" ["stamp"] (spL K (rPackL C_Stamp))) (c_Stamp : MkdS P w K mg base (L2.CX P w) 44 C_Stamp "Stamp" ["self", "own", "told"] [V.int 1, V.int 0] (spG K (rInit C_BadOwn C_BadTold C_Stamp))) (c_read_told : CalS P w K mg base (L2.CX P w) (6 + 41) "read_told" ["reader", "deep"] (spG K ((rReadT C_BadRow C_BitReader) 41))) (c_read_own : CalS P w K mg base (L2.CX P w) (4 + 41) "read_own" ["reader", "deep"] (spG K ((rReadO C_BadRow C_BitReader) 41))) (c_BitReader : MkdS P w K mg base (L2.CX P w) 2 C_BitReader "BitReader" ["self", "bits"] [] (spG K (rReader C_BitReader))) (c_is_row : Cal P w K mg base CX0 3 "is_row" ["thing"] rIsRow) :
    Cal P w K mg base (L2.CX P w) 60 "unpacked" ["row"] (rUnpack C_BadRow C_Stamp) := by
  have sc : FnScope ["row", "reader", "number", "own", "told", "stamp"] ["row"] (defScope (top 41)) := ⟨rfl, rfl, rfl, by decide +kernel, rfl, by decide +kernel, by decide +kernel⟩
  refine Df.okX sc ?len (fun y f cdv A outer s H E hr W E1 tk => ⟨_, (qss_cons (qs_if (qt_not (qt_val (q_cal c_is_row hr (by omega) (by rfl) (qa_cons (q_var 0 (pv 0)) qa_nil))))
        (qss_one (qs_raise K_BadRow g_BadRow rfl tk (by rfl)))
        qss_nil)
      (qss_cons (qs_setF 1 sc.nd rfl (by first | exact Or.inl rfl | exact Or.inr rfl) (qf_mk [] 0 c_BitReader hr (by omega) (by rfl) (fun σ => passAt tk σ) (by decide) (fun _ _ => rfl) (qa_cons (q_bm PySem.F.plainAttrs_str PySem.F.slot_str_join PySem.F.type_str_join mt_join i_joinB tyI_str (q_bits (l := []) (by decide +kernel)) (qa_cons (q_lc [("number", 2)] rfl sc.nd (qi_list (q_var 0 (pv 0))) (blkOk_by (N := ["row", "reader", "number", "own", "told", "stamp"]) (sc := defScope (top 41)) (by decide +kernel)) (fun _ _ _ _ _ => (qgw_name 2 (by decide) sc.nd rfl (Or.inl rfl))) (fun _ _ _ _ _ => qts_nil) (fun _ _ _ _ _ => (q_fmt8 (q_var 2 (pv 2))))) qa_nil)) qa_nil)))
      (qss_cons (qs_setF 3 sc.nd rfl (by first | exact Or.inl rfl | exact Or.inr rfl) (qf_cal c_read_own hr (by omega) (by rfl) (fun σ => passAt tk σ) (qa_cons (q_var 1 (pv 1)) (qa_cons (q_c (d := .int 1) pe_int (fun _ _ => rfl)) qa_nil))))
      (qss_cons (qs_setF 4 sc.nd rfl (by first | exact Or.inl rfl | exact Or.inr rfl) (qf_cal c_read_told hr (by omega) (by rfl) (fun σ => passAt tk σ) (qa_cons (q_var 1 (pv 1)) (qa_cons (q_c (d := .int 1) pe_int (fun _ _ => rfl)) qa_nil))))
      (qss_cons (qs_set 5 sc.nd rfl (by first | exact Or.inl rfl | exact Or.inr rfl) (q_mkd [] 2 c_Stamp hr (by omega) (by rfl) (fun σ => passAt tk σ) (by decide) (fun _ _ => rfl) (qa_cons (q_var 3 (pv 3)) (qa_cons (q_var 4 (pv 4)) qa_nil))))
      (qss_cons (qs_if (qt_cmp (op_neD hr.units) i_ne (nomark _) (q_ofL (ql_cal c_packed hr (by omega) (by rfl) pas0 (qa_cons (q_var 5 (pv 5)) qa_nil))) (q_var 0 (pv 0)))
        (qss_one (qs_raise K_BadRow g_BadRow rfl tk (by rfl)))
        qss_nil)
      (qss_one (qs_ret (q_var 5 (pv 5)))))))))), ?body⟩)
  case len =>
    rintro ds r ⟨d, T, rfl, _⟩
    rfl
  case body =>
    rintro ds r ⟨d, T, rfl, hT, hx, h⟩ hE
    refine ⟨_, rfl, _, ⟨d, T, rfl, hT, hx, rfl⟩, _, rfl, ?_⟩
    rcases h with ⟨no, rfl⟩ | ⟨ns, rfl, hb, hl, hs, rfl⟩
    · have e : rowB d = false := by
        cases d with
        | lst xs =>
          cases z : xs.all isByte with
          | false => exact z
          | true =>
            obtain ⟨ns, h1, h2⟩ := bytes_of z
            exact absurd ⟨ns, by rw [h1], h2⟩ no
        | _ => rfl
      rw [e]
      exact iteT (hE _ _ rfl)
    have e : (byteD ns).all isByte = true := bytes_all hb
    replace e : rowB (.lst (byteD ns)) = true := e
    rw [e]
    refine iteF ?_
    have hbl : (bitsOf ns).length = 8 * ns.length := bitsOf_len hb
    refine ⟨⟨_, rfl⟩, _, rfl, _, rfl, by simp [byteD]; omega, ?_⟩
    refine lc_genA (fun n : Nat => D.int (n : Nat)) (fun n => BD (byteB n)) ns (fun n hn Q1 Q2 z => ⟨by simp [begun, wipeR], iteT ⟨_, rfl, n, rfl, hb n hn, z⟩⟩) _ ?_
    refine ⟨ns.map byteB, rfl, by simp [List.map_map], ?_, fun a => ⟨a, _, rfl, rfl, rfl, by simp [begun], ?_⟩⟩
    · have := hbl
      unfold bitsOf at this
      rw [List.length_flatten] at this
      show (List.map List.length (ns.map byteB)).sum ≤ 4000000
      omega
    have eb : (ns.map byteB).flatten = bitsOf ns := rfl
    rw [eb]
    have hb4 : (bitsOf ns).length ≤ 4000000 := by omega
    have hshort : (bitsOf ns).length ≤ 1200 ∨ ∃ p q, readO 40 (bitsOf ns) = some p ∧ readT 40 p.2 = some q ∧ q.1.top + 1 < 2 ^ 250 ∧ p.1.least.bits.length ≤ 1500000 ∧ q.1.least.bits.length ≤ 1500000 := by
      rcases hs with hs | ⟨o, t, h1, h2, h3, h4, h5, h6, h7, h8, rfl⟩
      · exact .inl (by omega)
      · obtain ⟨k, ek⟩ := packN_bits o t
        refine .inr ⟨(o, t.bits ++ List.replicate k false), (t, List.replicate k false), by rw [ek, List.append_assoc, readO_bits 40 o _ h1], readT_bits 40 t _ h4 h2, h6, ?_, ?_⟩
        · rw [Own.least_id o h3]; exact h7
        · rw [Told.least_id h4 h5]; exact h8
    refine ⟨_, rfl, ⟨a, bitsOf ns, 0, 40, rfl, rfl, by omega, hb4, by decide, by decide, ?_⟩⟩
    rw [List.drop_zero]
    cases hO : readO 40 (bitsOf ns) with
    | none =>
      have eu : unpackN ns = none := by unfold unpackN; rw [hO]; rfl
      rw [eu] at hE
      exact fun k => hE _ _ rfl
    | some p =>
      refine ⟨by simp [begun], ?_⟩
      obtain ⟨od, _, j1, e1⟩ := readO_depth hO
      have R1 : (bitsOf ns).drop ((bitsOf ns).length - p.2.length) = p.2 := drop_pos e1
      refine ⟨_, rfl, ⟨a, bitsOf ns, (bitsOf ns).length - p.2.length, 40, rfl, rfl, by omega, hb4, by decide, by decide, ?_, ?_⟩⟩
      · rcases hshort with hs | ⟨p', q', g1, g2, g3, _⟩
        · exact .inl hs
        · rw [hO] at g1
          cases g1
          rw [R1]
          exact .inr ⟨q', g2, g3⟩
      rw [R1]
      cases hT2 : readT 40 p.2 with
      | none =>
        have eu : unpackN ns = none := by
          unfold unpackN
          rw [hO]
          show (readT 40 p.2).bind _ = none
          rw [hT2]
          rfl
        rw [eu] at hE
        exact fun k => hE _ _ rfl
      | some q =>
        refine ⟨by simp [begun], ?_⟩
        obtain ⟨tok, td, j2, e2⟩ := readT_ok hT2
        have lim : p.1.least.bits.length ≤ 1500000 ∧ q.1.least.bits.length ≤ 1500000 := by
          rcases hshort with hs | ⟨p', q', g1, g2, _, g4, g5⟩
          · have s1 := readO_size hO
            obtain ⟨c, s2, s3, s4⟩ := readT_size hT2
            have l1 := own_len p.1.least
            have l2 := Own.least_size p.1
            refine ⟨by omega, ?_⟩
            have k1 : q.1.least.top + 1 < 2 ^ 601 := by
              rw [Told.least_top]
              have h1 : (2 : Int) ^ c ≤ 2 ^ 600 := by
                have := Nat.pow_le_pow_right (by omega : 0 < 2) (by omega : c ≤ 600)
                have e : ((2 ^ c : Nat) : Int) ≤ ((2 ^ 600 : Nat) : Int) := Int.ofNat_le.mpr this
                simpa using e
              have h2 : (2 : Int) ^ 601 = 2 * 2 ^ 600 := by rw [Int.pow_succ, Int.mul_comm]
              have h3 : (0 : Int) < 2 ^ 600 := Int.pow_pos (by decide)
              omega
            have l3 := told_len (Told.least_ok tok) k1
            have l4 := Told.least_size q.1
            have l5 : 2 * 601 * q.1.least.size ≤ 2 * 601 * 600 := Nat.mul_le_mul_left _ (by omega)
            omega
          · rw [hO] at g1
            cases g1
            rw [hT2] at g2
            cases g2
            exact ⟨g4, g5⟩
        have d1 := Own.least_depth p.1
        have d2 := Told.least_depth q.1
        refine ⟨_, rfl, _, rfl, fun u => ⟨u, p.1.d, q.1.d, rfl, rfl, p.1.plain, by rw [Own.dep]; omega, q.1.plain, by rw [Told.dep]; omega, .inr (.inr ⟨p.1, q.1, rfl, rfl, od, td, tok, ?_⟩)⟩⟩
        refine ⟨_, rfl, rfl, by simp [begun], ?_⟩
        refine ⟨_, rfl, ⟨p.1.least, q.1.least, rfl, by omega, Told.least_ok tok, by omega, lim.1, lim.2, ?_⟩⟩
        refine ⟨_, rfl, sh_bytes _, sh_bytes _, _, rfl, ?_⟩
        rw [eqv_bytes]
        by_cases he : packN p.1.least q.1.least = ns
        · have eu : unpackN ns = some (p.1.least, q.1.least) := by
            unfold unpackN
            rw [hO]
            show (readT 40 p.2).bind _ = _
            rw [hT2]
            show (if packN p.1.least q.1.least = ns then some (p.1.least, q.1.least) else none) = _
            rw [if_pos he]
          rw [decide_eq_true he, eu]
          exact iteF ⟨_, rfl, rfl⟩
        · have eu : unpackN ns = none := by
            unfold unpackN
            rw [hO]
            show (readT 40 p.2).bind _ = _
            rw [hT2]
            show (if packN p.1.least q.1.least = ns then some (p.1.least, q.1.least) else none) = _
            rw [if_neg he]
          rw [decide_eq_false he]
          rw [eu] at hE
          exact iteT (hE _ _ rfl)

/-! ### the law's own rows of bits -/
def rLNum : List D → Re → Prop := fun ds r => ∃ n : Int, ds = [.int n] ∧ 0 ≤ n ∧ (nmB n).length ≤ 1500000 ∧ r = .ok (BD (nmB n))
theorem ok__law_number_bits (Df : Dfn K mg "_law_number_bits" (top 57) ["_law_number"]) (m_len : mg "len" = none) (m_str : mg "str" = none) :
    Cal P w K mg base CX0 1 "_law_number_bits" ["_law_number"] rLNum := by
  have sc : FnScope ["_law_number", "_law_bits", "_law_rest"] ["_law_number"] (defScope (top 57)) := ⟨rfl, rfl, rfl, by decide +kernel, rfl, by decide +kernel, by decide +kernel⟩
  refine Df.ok sc ?len (fun y f cdv A outer s H E hr => ⟨_, (qss_cons (qs_set 1 sc.nd rfl (by first | exact Or.inl rfl | exact Or.inr rfl) (q_bits (l := []) (by decide +kernel)))
      (qss_cons (qs_set 2 sc.nd rfl (by first | exact Or.inl rfl | exact Or.inr rfl) (q_op op_add (i_int0 (g' := fun i j => .int (i + j)) fun _ _ _ _ => rfl) (q_var 0 (pv 0)) (q_c (d := .int 1) pe_int (fun _ _ => rfl))))
      (qss_cons (qs_while PassesOwn.never (qt_cmp op_gt (i_int0 (g' := fun i j => .bl (decide (j < i))) fun _ _ _ _ => rfl) (nomark _) (q_var 2 (pv 2)) (q_c (d := .int 0) pe_int (fun _ _ => rfl)))
        (qss_cons (qs_set 1 sc.nd rfl (by first | exact Or.inl rfl | exact Or.inr rfl) (q_op op_add_str i_addB (q_callTy call_str_int i_strB (by rfl) m_str (by decide +kernel) (qa_cons (q_op op_mod (i_int (g' := fun i j => .int (i % j)) fun _ _ _ _ => rfl) (q_var 2 (pv 2)) (q_c (d := .int 2) pe_int (fun _ _ => rfl))) qa_nil)) (q_var 1 (pv 1))))
        (qss_one (qs_set 2 sc.nd rfl (by first | exact Or.inl rfl | exact Or.inr rfl) (q_op op_fdiv (i_int (g' := fun i j => .int (i / j)) fun _ _ _ _ => rfl) (q_var 2 (pv 2)) (q_c (d := .int 2) pe_int (fun _ _ => rfl)))))))
      (qss_one (qs_ret (q_op op_add_str i_addB (q_op op_repS i_repB (q_bits (l := [false]) (by decide +kernel)) (q_op op_sub (i_int0 (g' := fun i j => .int (i - j)) fun _ _ _ _ => rfl) (q_callB call_len_str i_lenB (by rfl) m_len PySem.boot_len (qa_cons (q_var 1 (pv 1)) qa_nil)) (q_c (d := .int 1) pe_int (fun _ _ => rfl)))) (q_var 1 (pv 1)))))))), ?body⟩)
  case len =>
    rintro ds r ⟨n, rfl, _⟩
    rfl
  case body =>
    rintro ds r ⟨n, rfl, hn, hl, rfl⟩
    refine ⟨_, rfl, ?_⟩
    have h1 := nmB_half n
    have h2 := nB_pos (n.toNat + 1)
    have h3 := nmB_len n
    refine ⟨by simp [begun], _, rfl, _, 1, rfl, rfl, trivial, by simp [begun], ?_⟩
    refine ⟨fun m ρ => ∃ (k : Nat) (acc : List Bool), m = k ∧ (if k = 0 then acc = nB (n.toNat + 1) else nB k ++ acc = nB (n.toNat + 1)) ∧ ρ = ⟨[.dat (.int n), .dat (BD acc), .dat (.int (k : Nat))], []⟩, ⟨n.toNat + 1, n.toNat + 1, [], rfl, by rw [if_neg (by omega)]; simp, ?_⟩, ?_⟩
    · have e : ((n.toNat + 1 : Nat) : Int) = n + 1 := by omega
      rw [e]
      rfl
    rintro m ρ ⟨k, acc, rfl, hk, rfl⟩
    refine ⟨_, rfl, _, 0, rfl, rfl, trivial, _, rfl, ?_⟩
    by_cases k0 : m = 0
    · subst k0
      rw [if_pos rfl] at hk
      subst hk
      refine iteF ?_
      refine ⟨_, rfl, _, rfl, by omega, _, 1, rfl, rfl, trivial, [false], _, rfl, rfl, by omega, by omega, ?_, _, rfl, _, _, rfl, rfl, ?_, ?_⟩
      · simp; omega
      · simp; omega
      show BD _ = BD _
      congr 2
      have e : ((((nB (n.toNat + 1)).length : Nat) : Int) - 1).toNat = (nB (n.toNat + 1)).length - 1 := by omega
      rw [e]
      simp
    · rw [if_neg k0] at hk
      have e0 : decide ((0 : Int) < ((m : Nat) : Int)) = true := decide_eq_true (by omega)
      rw [e0]
      refine iteT ?_
      have hlen := congrArg List.length hk
      rw [List.length_append] at hlen
      have eb : ((m : Nat) : Int) % 2 = (((m % 2 == 1).toNat : Nat) : Int) := by
        have : m % 2 = 0 ∨ m % 2 = 1 := by omega
        rcases this with e | e
        · have : ((m : Nat) : Int) % 2 = 0 := by omega
          rw [this, e]; rfl
        · have : ((m : Nat) : Int) % 2 = 1 := by omega
          rw [this, e]; rfl
      refine ⟨_, rfl, _, 2, rfl, rfl, (by decide : (0 : Int) < 2), (m % 2 == 1), congrArg (fun i => [D.int i]) eb, _, rfl, _, _, rfl, rfl, by simp; omega, by simp, ?_⟩
      refine ⟨_, rfl, _, 2, rfl, rfl, by rw [cdiv]; decide, by simp, ?_⟩
      have ed : ((m : Nat) : Int) / 2 = ((m / 2 : Nat) : Int) := by omega
      refine ⟨m / 2, by omega, m / 2, [m % 2 == 1] ++ acc, rfl, ?_, ?_⟩
      · by_cases m1 : m < 2
        · have e1 : m = 1 := by omega
          subst e1
          rw [if_pos rfl]
          rw [nB_small (by omega)] at hk
          exact hk
        · rw [if_neg (by omega)]
          rw [nB_big m1] at hk
          rw [← hk]
          simp
      · show Rho.mk [.dat (.int n), .dat (BD ([m % 2 == 1] ++ acc)), .dat (.int (((m : Nat) : Int) / 2))] [] = _
        rw [ed]
def rLOwn (n : Nat) : List D → Re → Prop := fun ds r => ∃ o : Own, ds = [o.d] ∧ o.depth < n ∧ o.depth ≤ 60 ∧ o.bits.length ≤ 1500000 ∧ r = .ok (BD o.bits)
theorem step__law_own_bits {n : Nat} (Df : Dfn K mg "_law_own_bits" (top 58) ["_law_own_here"]) (m_str : mg "str" = none) (c__law_own_bits : Cal P w K mg base CX0 (1 + n) "_law_own_bits" ["_law_own_here"] (rLOwn n)) :
    Cal P w K mg base CX0 (1 + n + 1) "_law_own_bits" ["_law_own_here"] (rLOwn (n + 1)) := by
  have sc : FnScope ["_law_own_here"] ["_law_own_here"] (defScope (top 58)) := ⟨rfl, rfl, rfl, by decide +kernel, rfl, by decide +kernel, by decide +kernel⟩
  refine Df.ok sc ?len (fun y f cdv A outer s H E hr => ⟨_, (qss_cons (qs_if (qt_cmp (op_inX (room65 hr)) i_in (by rfl) (q_var 0 (pv 0)) (q_tup (qa_cons (q_c (d := .int 0) pe_int (fun _ _ => rfl)) (qa_cons (q_c (d := .int 1) pe_int (fun _ _ => rfl)) qa_nil))))
        (qss_one (qs_ret (q_op op_add_str i_addB (q_bits (l := [false, false]) (by decide +kernel)) (q_callTy call_str_int i_strB (by rfl) m_str (by decide +kernel) (qa_cons (q_var 0 (pv 0)) qa_nil)))))
        qss_nil)
      (qss_cons (qs_if (qt_cmp (op_eqD hr.units) i_eq (nomark _) (q_ix (IxR.or ix_list ix_tup) i_ix (fun _ _ => rfl) (q_var 0 (pv 0)) (q_c (d := .int 0) pe_int (fun _ _ => rfl))) (q_c (d := .int 0) pe_int (fun _ _ => rfl)))
        (qss_one (qs_ret (q_op op_add_str i_addB (q_bits (l := [false, true]) (by decide +kernel)) (q_cal c__law_own_bits hr (by omega) (by rfl) (qa_cons (q_ix (IxR.or ix_list ix_tup) i_ix (fun _ _ => rfl) (q_var 0 (pv 0)) (q_c (d := .int 1) pe_int (fun _ _ => rfl))) qa_nil)))))
        qss_nil)
      (qss_cons (qs_if (qt_cmp (op_eqD hr.units) i_eq (nomark _) (q_ix (IxR.or ix_list ix_tup) i_ix (fun _ _ => rfl) (q_var 0 (pv 0)) (q_c (d := .int 1) pe_int (fun _ _ => rfl))) (q_c (d := .int 0) pe_int (fun _ _ => rfl)))
        (qss_one (qs_ret (q_op op_add_str i_addB (q_bits (l := [true, false]) (by decide +kernel)) (q_cal c__law_own_bits hr (by omega) (by rfl) (qa_cons (q_ix (IxR.or ix_list ix_tup) i_ix (fun _ _ => rfl) (q_var 0 (pv 0)) (q_c (d := .int 0) pe_int (fun _ _ => rfl))) qa_nil)))))
        qss_nil)
      (qss_one (qs_ret (q_op op_add_str i_addB (q_op op_add_str i_addB (q_bits (l := [true, true]) (by decide +kernel)) (q_cal c__law_own_bits hr (by omega) (by rfl) (qa_cons (q_ix (IxR.or ix_list ix_tup) i_ix (fun _ _ => rfl) (q_var 0 (pv 0)) (q_c (d := .int 0) pe_int (fun _ _ => rfl))) qa_nil))) (q_cal c__law_own_bits hr (by omega) (by rfl) (qa_cons (q_ix (IxR.or ix_list ix_tup) i_ix (fun _ _ => rfl) (q_var 0 (pv 0)) (q_c (d := .int 1) pe_int (fun _ _ => rfl))) qa_nil)))))))), ?body⟩)
  case len =>
    rintro ds r ⟨o, rfl, _⟩
    rfl
  case body =>
    rintro ds r ⟨o, rfl, hd, h6, hl, rfl⟩
    refine ⟨_, rfl, ?_⟩
    refine ⟨_, rfl, by simp, _, rfl, Own.sh (by omega), sh01, _, rfl, ?_⟩
    cases o with
    | lf b =>
      have e : (([D.int 0, .int 1] : List D).any fun z => z.eqv (Own.lf b).d) = true := by cases b <;> simp [Own.d, Own.n, eqv_int]
      rw [e]
      refine iteT ⟨_, rfl, b, by cases b <;> rfl, _, _, rfl, rfl, by simp, rfl⟩
    | nd l r =>
      have e : (([D.int 0, .int 1] : List D).any fun z => z.eqv (Own.nd l r).d) = false := by simp [Own.d, eqv_it]
      rw [e]
      refine iteF ?_
      simp only [Own.depth] at hd h6
      rw [Own.bits] at hl
      have ql : l.bits.length ≤ 1500000 → rLOwn n [l.d] (.ok (BD l.bits)) := fun h => ⟨l, rfl, by omega, by omega, h, rfl⟩
      have qr : r.bits.length ≤ 1500000 → rLOwn n [r.d] (.ok (BD r.bits)) := fun h => ⟨r, rfl, by omega, by omega, h, rfl⟩
      refine ⟨_, rfl, _, 0, l.d, rfl, rfl, at0, Own.sh (by omega), sh_int 0, _, rfl, ?_⟩
      rw [own_is0]
      by_cases l0 : l = .lf false
      · rw [decide_eq_true l0]
        rw [if_pos l0] at hl
        simp at hl
        refine iteT ?_
        refine ⟨_, rfl, _, 1, r.d, rfl, rfl, at1, _, qr (by omega), _, _, rfl, rfl, by simp; omega, ?_⟩
        show BD _ = BD _
        rw [Own.bits, if_pos l0]
      rw [decide_eq_false l0]
      rw [if_neg l0] at hl
      refine iteF ?_
      refine ⟨_, rfl, _, 1, r.d, rfl, rfl, at1, Own.sh (by omega), sh_int 0, _, rfl, ?_⟩
      rw [own_is0]
      by_cases r0 : r = .lf false
      · rw [decide_eq_true r0]
        rw [if_pos r0] at hl
        simp at hl
        refine iteT ?_
        refine ⟨_, rfl, _, 0, l.d, rfl, rfl, at0, _, ql (by omega), _, _, rfl, rfl, by simp; omega, ?_⟩
        show BD _ = BD _
        rw [Own.bits, if_neg l0, if_pos r0]
      rw [decide_eq_false r0]
      rw [if_neg r0] at hl
      simp at hl
      refine iteF ?_
      refine ⟨_, rfl, _, 0, l.d, rfl, rfl, at0, _, ql (by omega), _, _, rfl, rfl, by simp; omega, _, rfl, _, 1, r.d, rfl, rfl, at1, _, qr (by omega), _, _, rfl, rfl, by simp; omega, ?_⟩
      show BD _ = BD _
      rw [Own.bits, if_neg l0, if_neg r0]
theorem no__law_own_bits : ∀ ds r, ¬ rLOwn 0 ds r := by
  rintro ds r ⟨o, _, h, _⟩
  omega
theorem ok__law_own_bits (Df : Dfn K mg "_law_own_bits" (top 58) ["_law_own_here"]) (m_str : mg "str" = none) :
    ∀ n : Nat, Cal P w K mg base CX0 (1 + n) "_law_own_bits" ["_law_own_here"] (rLOwn n)
  | 0 => (Df.none no__law_own_bits).mono (Nat.zero_le _)
  | n + 1 => step__law_own_bits Df m_str (ok__law_own_bits Df m_str n)
def rLTold (n : Nat) : List D → Re → Prop := fun ds r => ∃ t : Told, ds = [t.d] ∧ t.ok ∧ t.depth < n ∧ t.bits.length ≤ 1500000 ∧ r = .ok (BD t.bits)
theorem step__law_told_bits {n : Nat} (Df : Dfn K mg "_law_told_bits" (top 59) ["_law_told_here"]) (m_isinstance : mg "isinstance" = none) (m_tuple : mg "tuple" = none) (c__law_number_bits : Cal P w K mg base CX0 1 "_law_number_bits" ["_law_number"] rLNum) (c__law_told_bits : Cal P w K mg base CX0 (3 + n) "_law_told_bits" ["_law_told_here"] (rLTold n)) :
    Cal P w K mg base CX0 (3 + n + 1) "_law_told_bits" ["_law_told_here"] (rLTold (n + 1)) := by
  have sc : FnScope ["_law_told_here", "_law_inner"] ["_law_told_here"] (defScope (top 59)) := ⟨rfl, rfl, rfl, by decide +kernel, rfl, by decide +kernel, by decide +kernel⟩
  refine Df.ok sc ?len (fun y f cdv A outer s H E hr => ⟨_, (qss_cons (qs_if (qt_not (qt_val (q_callB call_isi i_isi (by rfl) m_isinstance (by decide +kernel) (qa_cons (q_var 0 (pv 0)) (qa_cons (q_ty "tuple" (by rfl) m_tuple (by decide +kernel)) qa_nil)))))
        (qss_one (qs_ret (q_op op_add_str i_addB (q_bits (l := [true]) (by decide +kernel)) (q_cal c__law_number_bits hr (by omega) (by rfl) (qa_cons (q_var 0 (pv 0)) qa_nil)))))
        qss_nil)
      (qss_cons (qs_set 1 sc.nd rfl (by first | exact Or.inl rfl | exact Or.inr rfl) (q_op op_add_str i_addB (q_cal c__law_told_bits hr (by omega) (by rfl) (qa_cons (q_ix (IxR.or ix_list ix_tup) i_ix (fun _ _ => rfl) (q_var 0 (pv 0)) (q_c (d := .int 1) pe_int (fun _ _ => rfl))) qa_nil)) (q_cal c__law_told_bits hr (by omega) (by rfl) (qa_cons (q_ix (IxR.or ix_list ix_tup) i_ix (fun _ _ => rfl) (q_var 0 (pv 0)) (q_c (d := .int 2) pe_int (fun _ _ => rfl))) qa_nil))))
      (qss_one (qs_ret (q_op op_add_str i_addB (q_op op_add_str i_addB (q_bits (l := [false]) (by decide +kernel)) (q_cal c__law_number_bits hr (by omega) (by rfl) (qa_cons (q_ix (IxR.or ix_list ix_tup) i_ix (fun _ _ => rfl) (q_var 0 (pv 0)) (q_c (d := .int 0) pe_int (fun _ _ => rfl))) qa_nil))) (q_var 1 (pv 1))))))), ?body⟩)
  case len =>
    rintro ds r ⟨t, rfl, _⟩
    rfl
  case body =>
    rintro ds r ⟨t, rfl, ok, hd, hl, rfl⟩
    refine ⟨_, rfl, ?_⟩
    cases t with
    | n i =>
      simp only [Told.bits, List.length_append, List.length_cons, List.length_nil] at hl
      have qn : rLNum [.int i] (.ok (BD (nmB i))) := ⟨i, rfl, ok, by omega, rfl⟩
      refine ⟨_, rfl, ⟨_, rfl, rfl, _, rfl, iteT ?_⟩⟩
      exact ⟨_, rfl, _, qn, _, _, rfl, rfl, by simp; omega, rfl⟩
    | t i l r =>
      simp only [Told.bits, List.length_append, List.length_cons, List.length_nil] at hl
      simp only [Told.depth] at hd
      have qn : rLNum [.int i] (.ok (BD (nmB i))) := ⟨i, rfl, ok.1, by omega, rfl⟩
      have ql : rLTold n [l.d] (.ok (BD l.bits)) := ⟨l, rfl, ok.2.1, by omega, by omega, rfl⟩
      have qr : rLTold n [r.d] (.ok (BD r.bits)) := ⟨r, rfl, ok.2.2, by omega, by omega, rfl⟩
      refine ⟨_, rfl, ⟨_, rfl, rfl, _, rfl, iteF ?_⟩⟩
      refine ⟨_, rfl, _, 1, l.d, rfl, rfl, at1, _, ql, _, rfl, _, 2, r.d, rfl, rfl, at2, _, qr, _, _, rfl, rfl, by omega, by simp [begun], ?_⟩
      refine ⟨_, rfl, _, 0, .int i, rfl, rfl, at0, _, qn, _, _, rfl, rfl, by simp; omega, _, rfl, _, _, rfl, rfl, by simp; omega, ?_⟩
      show BD _ = BD _
      simp [Told.bits, List.append_assoc]
theorem no__law_told_bits : ∀ ds r, ¬ rLTold 0 ds r := by
  rintro ds r ⟨t, _, _, h, _⟩
  omega
theorem ok__law_told_bits (Df : Dfn K mg "_law_told_bits" (top 59) ["_law_told_here"]) (m_isinstance : mg "isinstance" = none) (m_tuple : mg "tuple" = none) (c__law_number_bits : Cal P w K mg base CX0 1 "_law_number_bits" ["_law_number"] rLNum) :
    ∀ n : Nat, Cal P w K mg base CX0 (3 + n) "_law_told_bits" ["_law_told_here"] (rLTold n)
  | 0 => (Df.none no__law_told_bits).mono (Nat.zero_le _)
  | n + 1 => step__law_told_bits Df m_isinstance m_tuple c__law_number_bits (ok__law_told_bits Df m_isinstance m_tuple c__law_number_bits n)
theorem pad8_snoc {l : List Bool} (h : 0 < l.length % 8) : pad8 (l ++ [false]) = pad8 l := by
  unfold pad8
  rw [List.append_assoc]
  congr 1
  have e : (8 - l.length % 8) % 8 = (8 - (l ++ [false]).length % 8) % 8 + 1 := by simp; omega
  rw [e, List.replicate_succ]
  rfl
theorem pad8_done {l : List Bool} (h : l.length % 8 = 0) : pad8 l = l := by
  unfold pad8
  rw [h]
  simp
theorem rowOf_take {l : List Bool} {i : Nat} (h : i < l.length / 8) : (rowOf l).take i ++ [valB (eight l i)] = (rowOf l).take (i + 1) := by
  have hi : i < (rowOf l).length := by rw [rowOf_len]; exact h
  rw [List.take_succ_eq_append_getElem hi]
  congr 2
  simp [rowOf]
theorem mulL (j : Int) : IntMulOk 2 j := .of_left (intBits_le_64 (by decide) (by decide))
def rLRow : List D → Re → Prop := fun ds r => ∃ b : List Bool, ds = [BD b] ∧ b.length ≤ 3000000 ∧ r = .ok (.lst (byteD (rowOf (pad8 b))))
theorem ok__law_row (Df : Dfn K mg "_law_row" (top 60) ["_law_bits"]) (m_int : mg "int" = none) (m_len : mg "len" = none) (m_range : mg "range" = none) :
    Cal P w K mg base CX0 2 "_law_row" ["_law_bits"] rLRow := by
  have sc : FnScope ["_law_bits", "_law_found", "_law_at_here", "_law_number", "_law_bit"] ["_law_bits"] (defScope (top 60)) := ⟨rfl, rfl, rfl, by decide +kernel, rfl, by decide +kernel, by decide +kernel⟩
  refine Df.ok sc ?len (fun y f cdv A outer s H E hr => ⟨_, (qss_cons (qs_while PassesOwn.never (qt_cmp op_gt (i_int0 (g' := fun i j => .bl (decide (j < i))) fun _ _ _ _ => rfl) (nomark _) (q_op op_mod (i_int (g' := fun i j => .int (i % j)) fun _ _ _ _ => rfl) (q_callB call_len_str i_lenB (by rfl) m_len PySem.boot_len (qa_cons (q_var 0 (pv 0)) qa_nil)) (q_c (d := .int 8) pe_int (fun _ _ => rfl))) (q_c (d := .int 0) pe_int (fun _ _ => rfl)))
        (qss_one (qs_set 0 sc.nd rfl (by first | exact Or.inl rfl | exact Or.inr rfl) (q_op op_add_str i_addB (q_var 0 (pv 0)) (q_bits (l := [false]) (by decide +kernel))))))
      (qss_cons (qs_own 1 sc.nd rfl (Or.inl rfl) qa_nil)
      (qss_cons (qs_for PassesOwn.never rfl (qi_range3 (by rfl) m_range (qa_cons (q_c (d := .int 0) pe_int (fun _ _ => rfl)) (qa_cons (q_callB call_len_str i_lenB (by rfl) m_len PySem.boot_len (qa_cons (q_var 0 (pv 0)) qa_nil)) (qa_cons (q_c (d := .int 8) pe_int (fun _ _ => rfl)) qa_nil)))) (qg_name 2 sc.nd rfl (Or.inl rfl))
        (qss_cons (qs_set 3 sc.nd rfl (by first | exact Or.inl rfl | exact Or.inr rfl) (q_c (d := .int 0) pe_int (fun _ _ => rfl)))
        (qss_cons (qs_for PassesOwn.never rfl (qi_str (q_sliceB (q_var 0 (pv 0)) (qo_some (q_var 2 (pv 2))) (qo_some (q_op op_add (i_int0 (g' := fun i j => .int (i + j)) fun _ _ _ _ => rfl) (q_var 2 (pv 2)) (q_c (d := .int 8) pe_int (fun _ _ => rfl)))))) (qg_name 4 sc.nd rfl (Or.inl rfl))
          (qss_one (qs_set 3 sc.nd rfl (by first | exact Or.inl rfl | exact Or.inr rfl) (q_op op_add (i_int0 (g' := fun i j => .int (i + j)) fun _ _ _ _ => rfl) (q_op op_mulI (i_int (g' := fun i j => .int (i * j)) fun _ _ _ _ => rfl) (q_c (d := .int 2) pe_int (fun _ _ => rfl)) (q_var 3 (pv 3))) (q_callTy call_int1 i_int1 (by rfl) m_int (by decide +kernel) (qa_cons (q_cmp (op_eqD hr.units) i_eq (nomark _) (q_var 4 (pv 4)) (q_bits (l := [true]) (by decide +kernel))) qa_nil))))))
        (qss_one (qs_append 1 (pv 1) (q_var 3 (pv 3)))))))
      (qss_frz 1 (qss_one (qs_ret (q_var 1 (pv 1)))))))), ?body⟩)
  case len =>
    rintro ds r ⟨b, rfl, _⟩
    rfl
  case body =>
    rintro ds r ⟨b, rfl, hl, rfl⟩
    refine ⟨_, rfl, ?_⟩
    refine ⟨fun m ρ => ∃ c : List Bool, m = (8 - c.length % 8) % 8 ∧ pad8 c = pad8 b ∧ c.length ≤ 3000010 ∧ ρ = ⟨[.dat (BD c), .un, .un, .un, .un], []⟩, ⟨_, b, rfl, rfl, by omega, rfl⟩, ?_⟩
    rintro m ρ ⟨c, rfl, hp, hc, rfl⟩
    refine ⟨_, rfl, _, rfl, by omega, _, 8, rfl, rfl, (by decide : (0 : Int) < 8), _, 0, rfl, rfl, trivial, _, rfl, ?_⟩
    have hpl := pad8_len b
    by_cases h0 : 0 < c.length % 8
    · have e : decide ((0 : Int) < (c.length : Int) % 8) = true := decide_eq_true (by omega)
      rw [e]
      refine iteT ?_
      have h1 := congrArg List.length hp
      have h2 : (pad8 c).length = c.length + (8 - c.length % 8) % 8 := by simp [pad8]
      refine ⟨_, rfl, _, _, rfl, rfl, by simp; omega, by simp, ?_⟩
      exact ⟨(8 - (c ++ [false]).length % 8) % 8, by simp; omega, c ++ [false], rfl, by rw [pad8_snoc h0, hp], by simp; omega, rfl⟩
    · have e : decide ((0 : Int) < (c.length : Int) % 8) = false := decide_eq_false (by omega)
      rw [e]
      refine iteF ?_
      have ec : c = pad8 b := by rw [← hp, pad8_done (by omega)]
      subst ec
      clear hp hc
      refine ⟨by simp, by simp, ?_⟩
      refine ⟨_, rfl, _, rfl, by omega, 0, _, 8, _, rfl, range_pad hl, ?_⟩
      refine ⟨fun i ρ => ∃ x y z, ρ = ⟨[.dat (BD (pad8 b)), .own (byteD ((rowOf (pad8 b)).take i)), x, y, z], []⟩, ⟨_, _, _, rfl⟩, ?_, ?_⟩
      · rintro i d ρ hi ⟨x, y, z, rfl⟩
        have hi2 : i < (pad8 b).length / 8 ∧ d = .int (0 + (i : Int) * 8) := by
          obtain ⟨h1, h2⟩ := List.getElem?_eq_some_iff.mp hi
          simp at h1 h2
          exact ⟨h1, by rw [← h2]; simp⟩
        obtain ⟨hi3, rfl⟩ := hi2
        refine ⟨by simp, by simp, ?_⟩
        refine ⟨_, rfl, _, rfl, _, rfl, _, rfl, _, 8, rfl, rfl, trivial, _, rfl, _, rfl, by omega, ?_⟩
        rw [cut8]
        refine ⟨_, rfl, fun j ρ => ∃ w, ρ = ⟨[.dat (BD (pad8 b)), .own (byteD ((rowOf (pad8 b)).take i)), .dat (.int (0 + (i : Int) * 8)), .dat (.int (valB ((eight (pad8 b) i).take j) : Nat)), w], []⟩, ⟨_, rfl⟩, ?_, ?_⟩
        · rintro j d ρ hj ⟨w, rfl⟩
          rw [List.getElem?_map] at hj
          obtain ⟨bit, hb, rfl⟩ := Option.map_eq_some_iff.mp hj
          obtain ⟨j1, j2⟩ := List.getElem?_eq_some_iff.mp hb
          refine ⟨by simp, ?_⟩
          refine ⟨_, rfl, 2, _, rfl, rfl, mulL _, _, rfl, sh_bits _, sh_bits _, bit, congrArg (fun c => [D.bl c]) (by rw [eqv_bits]; cases bit <;> rfl), _, _, rfl, rfl, trivial, by simp, ?_⟩
          have e2 : valB ((eight (pad8 b) i).take (j + 1)) = 2 * valB ((eight (pad8 b) i).take j) + bit.toNat := by
            rw [List.take_succ_eq_append_getElem j1, j2, valB_snoc]
          refine ⟨_, congrArg (fun z => Rho.mk [.dat (BD (pad8 b)), .own (byteD ((rowOf (pad8 b)).take i)), .dat (.int (0 + (i : Int) * 8)), .dat (.int z), .dat (BD [bit])] []) ?_⟩
          rw [e2]
          cases bit <;> simp
        · rintro ρ ⟨w, rfl⟩
          have e8 : (eight (pad8 b) i).take ((eight (pad8 b) i).map fun b => BD [b]).length = eight (pad8 b) i := by rw [List.length_map, List.take_length]
          rw [e8]
          refine ⟨_, rfl, ?_, _, rfl, ?_⟩
          · simp [byteD]
            rw [rowOf_len]
            omega
          refine ⟨_, _, _, congrArg (fun z => Rho.mk [.dat (BD (pad8 b)), .own z, .dat (.int (0 + (i : Int) * 8)), .dat (.int (valB (eight (pad8 b) i) : Nat)), w] []) ?_⟩
          rw [← rowOf_take hi3]
          simp [byteD]
      · rintro ρ ⟨x, y, z, rfl⟩
        have e8 : (rowOf (pad8 b)).take (rngC 0 8 ((pad8 b).length / 8)).length = rowOf (pad8 b) := by
          apply List.take_of_length_le
          rw [rowOf_len]
          simp
        rw [e8]
        exact ⟨_, rfl, _, rfl, rfl⟩

/-! ### the law's own reading -/
def ansN (b : List Bool) : Option (Int × List Bool) → D
  | some p => .tup [.int p.1, .int ((b.length - p.2.length : Nat) : Int)]
  | none => .non
def ansO (b : List Bool) : Option (Own × List Bool) → D
  | some p => .tup [p.1.d, .int ((b.length - p.2.length : Nat) : Int)]
  | none => .non
def ansT (b : List Bool) : Option (Told × List Bool) → D
  | some p => .tup [p.1.d, .int ((b.length - p.2.length : Nat) : Int)]
  | none => .non
theorem zrs_at {l : List Bool} {k : Nat} (h : k < zrs l) : (l.drop k).take 1 = [false] := by
  have e : l[k]? = some false := by
    rcases zrs_split l with ⟨r, e⟩ | e
    · rw [e, List.getElem?_append_left (by simpa using h), List.getElem?_replicate, if_pos h]
    · rw [e, List.getElem?_replicate, if_pos h]
  obtain ⟨h1, h2⟩ := List.getElem?_eq_some_iff.mp e
  rw [List.drop_eq_getElem_cons h1, h2]
  rfl
theorem zrs_le (l : List Bool) : zrs l ≤ l.length := by
  rcases zrs_split l with ⟨r, e⟩ | e <;> have := congrArg List.length e <;> simp at this <;> omega
theorem zrs_end (l : List Bool) : (l.drop (zrs l)).take 1 ≠ [false] := by
  rcases zrs_split l with ⟨r, e⟩ | e
  · have d : l.drop (zrs l) = true :: r := by
      conv => lhs; rw [e]
      rw [zrs_rep, List.drop_append_of_le_length (by simp)]
      simp
    rw [d]
    simp
  · have := congrArg List.length e
    simp at this
    rw [List.drop_eq_nil_of_le (by omega)]
    simp
def rLRN : List D → Re → Prop := fun ds r => ∃ (b : List Bool) (at_ : Nat), ds = [BD b, .int (at_ : Nat)] ∧ b.length ≤ 800 ∧ at_ ≤ 2000 ∧ r = .ok (ansN b (readN (b.drop at_)))
theorem ok__law_read_number (Df : Dfn K mg "_law_read_number" (top 61) ["_law_bits", "_law_at_here"]) (m_int : mg "int" = none) (m_len : mg "len" = none) :
    Cal P w K mg base CX0 2 "_law_read_number" ["_law_bits", "_law_at_here"] rLRN := by
  have sc : FnScope ["_law_bits", "_law_at_here", "_law_more", "_law_row_here"] ["_law_bits", "_law_at_here"] (defScope (top 61)) := ⟨rfl, rfl, rfl, by decide +kernel, rfl, by decide +kernel, by decide +kernel⟩
  refine Df.ok sc ?len (fun y f cdv A outer s H E hr => ⟨_, (qss_cons (qs_set 2 sc.nd rfl (by first | exact Or.inl rfl | exact Or.inr rfl) (q_c (d := .int 0) pe_int (fun _ _ => rfl)))
      (qss_cons (qs_while PassesOwn.never (qt_cmp (op_eqD hr.units) i_eq (nomark _) (q_sliceB (q_var 0 (pv 0)) (qo_some (q_op op_add (i_int0 (g' := fun i j => .int (i + j)) fun _ _ _ _ => rfl) (q_var 1 (pv 1)) (q_var 2 (pv 2)))) (qo_some (q_op op_add (i_int0 (g' := fun i j => .int (i + j)) fun _ _ _ _ => rfl) (q_op op_add (i_int0 (g' := fun i j => .int (i + j)) fun _ _ _ _ => rfl) (q_var 1 (pv 1)) (q_var 2 (pv 2))) (q_c (d := .int 1) pe_int (fun _ _ => rfl))))) (q_bits (l := [false]) (by decide +kernel)))
        (qss_one (qs_set 2 sc.nd rfl (by first | exact Or.inl rfl | exact Or.inr rfl) (q_op op_add (i_int0 (g' := fun i j => .int (i + j)) fun _ _ _ _ => rfl) (q_var 2 (pv 2)) (q_c (d := .int 1) pe_int (fun _ _ => rfl))))))
      (qss_cons (qs_set 3 sc.nd rfl (by first | exact Or.inl rfl | exact Or.inr rfl) (q_sliceB (q_var 0 (pv 0)) (qo_some (q_op op_add (i_int0 (g' := fun i j => .int (i + j)) fun _ _ _ _ => rfl) (q_var 1 (pv 1)) (q_var 2 (pv 2)))) (qo_some (q_op op_add (i_int0 (g' := fun i j => .int (i + j)) fun _ _ _ _ => rfl) (q_op op_add (i_int0 (g' := fun i j => .int (i + j)) fun _ _ _ _ => rfl) (q_var 1 (pv 1)) (q_op op_mulI (i_int (g' := fun i j => .int (i * j)) fun _ _ _ _ => rfl) (q_c (d := .int 2) pe_int (fun _ _ => rfl)) (q_var 2 (pv 2)))) (q_c (d := .int 1) pe_int (fun _ _ => rfl))))))
      (qss_cons (qs_if (qt_cmp op_lt (i_int0 (g' := fun i j => .bl (decide (i < j))) fun _ _ _ _ => rfl) (nomark _) (q_callB call_len_str i_lenB (by rfl) m_len PySem.boot_len (qa_cons (q_var 3 (pv 3)) qa_nil)) (q_op op_add (i_int0 (g' := fun i j => .int (i + j)) fun _ _ _ _ => rfl) (q_var 2 (pv 2)) (q_c (d := .int 1) pe_int (fun _ _ => rfl))))
        (qss_one (qs_ret (q_c (d := .non) pe_non (fun _ _ => rfl))))
        qss_nil)
      (qss_one (qs_ret (q_tup (qa_cons (q_op op_sub (i_int0 (g' := fun i j => .int (i - j)) fun _ _ _ _ => rfl) (q_callTy call_bin i_intB (by rfl) m_int (by decide +kernel) (qa_cons (q_var 3 (pv 3)) (qa_cons (q_c (d := .int 2) pe_int (fun _ _ => rfl)) qa_nil))) (q_c (d := .int 1) pe_int (fun _ _ => rfl))) (qa_cons (q_op op_add (i_int0 (g' := fun i j => .int (i + j)) fun _ _ _ _ => rfl) (q_op op_add (i_int0 (g' := fun i j => .int (i + j)) fun _ _ _ _ => rfl) (q_var 1 (pv 1)) (q_op op_mulI (i_int (g' := fun i j => .int (i * j)) fun _ _ _ _ => rfl) (q_c (d := .int 2) pe_int (fun _ _ => rfl)) (q_var 2 (pv 2)))) (q_c (d := .int 1) pe_int (fun _ _ => rfl))) qa_nil))))))))), ?body⟩)
  case len =>
    rintro ds r ⟨b, n, rfl, _⟩
    rfl
  case body =>
    rintro ds r ⟨b, n, rfl, hb, hn, rfl⟩
    refine ⟨_, rfl, ?_⟩
    have zl := zrs_le (b.drop n)
    have bl : (b.drop n).length = b.length - n := by simp
    refine ⟨by simp [begun], fun m ρ => ∃ k : Nat, k ≤ zrs (b.drop n) ∧ m = zrs (b.drop n) - k ∧ ρ = ⟨[.dat (BD b), .dat (.int (n : Nat)), .dat (.int (k : Nat)), .un], []⟩, ⟨_, 0, Nat.zero_le _, rfl, rfl⟩, ?_⟩
    rintro m ρ ⟨k, hk, rfl, rfl⟩
    have c1 : ((n : Nat) : Int) + ((k : Nat) : Int) = ((n + k : Nat) : Int) := by omega
    have c2 : ((n + k : Nat) : Int) + 1 = ((n + k + 1 : Nat) : Int) := by omega
    have c3 : cutB b (some (((n : Nat) : Int) + ((k : Nat) : Int))) (some (((n : Nat) : Int) + ((k : Nat) : Int) + 1)) = ((b.drop n).drop k).take 1 := by
      rw [c1, c2, cutB_nn, List.drop_drop]
      congr 1
      omega
    refine ⟨_, rfl, _, rfl, _, rfl, _, _, rfl, rfl, trivial, _, rfl, _, rfl, _, rfl, _, _, rfl, rfl, trivial, _, _, rfl, rfl, trivial, _, rfl, b, rfl, by omega, ?_⟩
    rw [c3]
    refine ⟨sh_bits _, sh_bits _, _, rfl, ?_⟩
    rw [eqv_bits]
    by_cases hz : k < zrs (b.drop n)
    · rw [zrs_at hz, decide_eq_true rfl]
      refine iteT ?_
      refine ⟨_, rfl, _, _, rfl, rfl, trivial, by simp, ?_⟩
      exact ⟨zrs (b.drop n) - (k + 1), by omega, k + 1, by omega, rfl, by simp⟩
    · have ek : k = zrs (b.drop n) := by omega
      subst ek
      rw [decide_eq_false (zrs_end _)]
      refine iteF ?_
      have c4 : ((n : Nat) : Int) + 2 * ((zrs (b.drop n) : Nat) : Int) + 1 = ((n + 2 * zrs (b.drop n) + 1 : Nat) : Int) := by omega
      have c5 : cutB b (some (((n : Nat) : Int) + ((zrs (b.drop n) : Nat) : Int))) (some (((n : Nat) : Int) + 2 * ((zrs (b.drop n) : Nat) : Int) + 1)) = ((b.drop n).drop (zrs (b.drop n))).take (zrs (b.drop n) + 1) := by
        rw [c1, c4, cutB_nn, List.drop_drop]
        congr 1
        omega
      refine ⟨_, rfl, _, rfl, _, rfl, _, _, rfl, rfl, trivial, _, rfl, _, rfl, _, rfl, 2, _, rfl, rfl, mulL _, _, _, rfl, rfl, trivial, _, 1, rfl, rfl, trivial, _, rfl, b, rfl, by omega, ?_⟩
      rw [c5]
      refine ⟨by simp, ?_⟩
      have tl : (((b.drop n).drop (zrs (b.drop n))).take (zrs (b.drop n) + 1)).length = min (zrs (b.drop n) + 1) ((b.drop n).length - zrs (b.drop n)) := by rw [List.length_take, List.length_drop]
      refine ⟨_, rfl, _, rfl, by omega, _, rfl, _, 1, rfl, rfl, trivial, _, _, rfl, rfl, trivial, _, rfl, ?_⟩
      by_cases hs : (b.drop n).length < 2 * zrs (b.drop n) + 1
      · have e1 : readN (b.drop n) = none := by unfold readN; rw [if_pos hs]
        rw [decide_eq_true (by omega), e1]
        exact iteT rfl
      · have e1 : readN (b.drop n) = some ((valB (((b.drop n).drop (zrs (b.drop n))).take (zrs (b.drop n) + 1)) : Int) - 1, (b.drop n).drop (2 * zrs (b.drop n) + 1)) := by unfold readN; rw [if_neg hs]
        rw [decide_eq_false (by omega), e1]
        refine iteF ?_
        refine ⟨_, rfl, _, rfl, (fun e => by rw [e] at tl; simp at tl; omega), by omega, _, 1, rfl, rfl, trivial, _, rfl, _, rfl, 2, _, rfl, rfl, mulL _, _, _, rfl, rfl, trivial, _, 1, rfl, rfl, trivial, by simp, ?_⟩
        have e2 : (b.length - ((b.drop n).drop (2 * zrs (b.drop n) + 1)).length : Nat) = n + 2 * zrs (b.drop n) + 1 := by
          rw [List.length_drop]
          omega
        show D.tup [_, .int (((n : Nat) : Int) + 2 * ((zrs (b.drop n) : Nat) : Int) + 1)] = ansN b (some _)
        rw [c4]
        exact congrArg (fun j : Nat => D.tup [.int ((valB (((b.drop n).drop (zrs (b.drop n))).take (zrs (b.drop n) + 1)) : Int) - 1), .int ((j : Nat) : Int)]) e2.symm
def rLRO (n : Nat) : List D → Re → Prop := fun ds r => ∃ (b : List Bool) (at_ : Nat), ds = [BD b, .int (at_ : Nat)] ∧ b.length ≤ 800 ∧ (b.drop at_).length < 2 * n ∧ r = .ok (ansO b (readO n (b.drop at_)))
theorem step__law_read_own {n : Nat} (Df : Dfn K mg "_law_read_own" (top 62) ["_law_bits", "_law_at_here"]) (m_int : mg "int" = none) (m_len : mg "len" = none) (c__law_read_own : CalD P w K mg base n "_law_read_own" ["_law_bits", "_law_at_here"] (rLRO n)) :
    CalD P w K mg base (n + 1) "_law_read_own" ["_law_bits", "_law_at_here"] (rLRO (n + 1)) := by
  have sc : FnScope ["_law_bits", "_law_at_here", "_law_word_here", "_law_one", "_law_other"] ["_law_bits", "_law_at_here"] (defScope (top 62)) := ⟨rfl, rfl, rfl, by decide +kernel, rfl, by decide +kernel, by decide +kernel⟩
  refine Df.okDD sc ?len (fun y f cdv A outer s H E hr hd => ⟨_, (qss_cons (qs_set 2 sc.nd rfl (by first | exact Or.inl rfl | exact Or.inr rfl) (q_sliceB (q_var 0 (pv 0)) (qo_some (q_var 1 (pv 1))) (qo_some (q_op op_add (i_int0 (g' := fun i j => .int (i + j)) fun _ _ _ _ => rfl) (q_var 1 (pv 1)) (q_c (d := .int 2) pe_int (fun _ _ => rfl))))))
      (qss_cons (qs_if (qt_w (qw_or (qt_cmp op_lt (i_int0 (g' := fun i j => .bl (decide (i < j))) fun _ _ _ _ => rfl) (nomark _) (q_callB call_len_str i_lenB (by rfl) m_len PySem.boot_len (qa_cons (q_var 2 (pv 2)) qa_nil)) (q_c (d := .int 2) pe_int (fun _ _ => rfl))) (qw_or1 (qt_w (qw_and (qt_cmp (op_eqD hr.units) i_eq (nomark _) (q_var 2 (pv 2)) (q_bits (l := [false, false]) (by decide +kernel))) (qw_and1 (qt_cmp op_ge (i_int0 (g' := fun i j => .bl (decide (j ≤ i))) fun _ _ _ _ => rfl) (nomark _) (q_op op_add (i_int0 (g' := fun i j => .int (i + j)) fun _ _ _ _ => rfl) (q_var 1 (pv 1)) (q_c (d := .int 2) pe_int (fun _ _ => rfl))) (q_callB call_len_str i_lenB (by rfl) m_len PySem.boot_len (qa_cons (q_var 0 (pv 0)) qa_nil)))))))))
        (qss_one (qs_ret (q_c (d := .non) pe_non (fun _ _ => rfl))))
        qss_nil)
      (qss_cons (qs_if (qt_cmp (op_eqD hr.units) i_eq (nomark _) (q_var 2 (pv 2)) (q_bits (l := [false, false]) (by decide +kernel)))
        (qss_one (qs_ret (q_tup (qa_cons (q_callTy call_int_str i_intS (by rfl) m_int (by decide +kernel) (qa_cons (q_ix ix_str i_ixB (fun _ _ => rfl) (q_var 0 (pv 0)) (q_op op_add (i_int0 (g' := fun i j => .int (i + j)) fun _ _ _ _ => rfl) (q_var 1 (pv 1)) (q_c (d := .int 2) pe_int (fun _ _ => rfl)))) qa_nil)) (qa_cons (q_op op_add (i_int0 (g' := fun i j => .int (i + j)) fun _ _ _ _ => rfl) (q_var 1 (pv 1)) (q_c (d := .int 3) pe_int (fun _ _ => rfl))) qa_nil)))))
        qss_nil)
      (qss_cons (qs_set 3 sc.nd rfl (by first | exact Or.inl rfl | exact Or.inr rfl) (q_calD c__law_read_own hd (by rfl) (qa_cons (q_var 0 (pv 0)) (qa_cons (q_op op_add (i_int0 (g' := fun i j => .int (i + j)) fun _ _ _ _ => rfl) (q_var 1 (pv 1)) (q_c (d := .int 2) pe_int (fun _ _ => rfl))) qa_nil))))
      (qss_cons (qs_if (qt_w (qw_or (qt_cmp op_isN i_isN (nomark _) (q_var 3 (pv 3)) (q_c (d := .non) pe_non (fun _ _ => rfl))) (qw_or1 (qt_cmp (op_eqD hr.units) i_eq (nomark _) (q_var 2 (pv 2)) (q_bits (l := [false, true]) (by decide +kernel))))))
        (qss_one (qs_ret (q_if (qt_cmp op_isN i_isN (nomark _) (q_var 3 (pv 3)) (q_c (d := .non) pe_non (fun _ _ => rfl))) (q_c (d := .non) pe_non (fun _ _ => rfl)) (q_tup (qa_cons (q_tup (qa_cons (q_c (d := .int 0) pe_int (fun _ _ => rfl)) (qa_cons (q_ix (IxR.or ix_list ix_tup) i_ix (fun _ _ => rfl) (q_var 3 (pv 3)) (q_c (d := .int 0) pe_int (fun _ _ => rfl))) qa_nil))) (qa_cons (q_ix (IxR.or ix_list ix_tup) i_ix (fun _ _ => rfl) (q_var 3 (pv 3)) (q_c (d := .int 1) pe_int (fun _ _ => rfl))) qa_nil))))))
        qss_nil)
      (qss_cons (qs_if (qt_cmp (op_eqD hr.units) i_eq (nomark _) (q_var 2 (pv 2)) (q_bits (l := [true, false]) (by decide +kernel)))
        (qss_one (qs_ret (q_tup (qa_cons (q_tup (qa_cons (q_ix (IxR.or ix_list ix_tup) i_ix (fun _ _ => rfl) (q_var 3 (pv 3)) (q_c (d := .int 0) pe_int (fun _ _ => rfl))) (qa_cons (q_c (d := .int 0) pe_int (fun _ _ => rfl)) qa_nil))) (qa_cons (q_ix (IxR.or ix_list ix_tup) i_ix (fun _ _ => rfl) (q_var 3 (pv 3)) (q_c (d := .int 1) pe_int (fun _ _ => rfl))) qa_nil)))))
        qss_nil)
      (qss_cons (qs_set 4 sc.nd rfl (by first | exact Or.inl rfl | exact Or.inr rfl) (q_calD c__law_read_own hd (by rfl) (qa_cons (q_var 0 (pv 0)) (qa_cons (q_ix (IxR.or ix_list ix_tup) i_ix (fun _ _ => rfl) (q_var 3 (pv 3)) (q_c (d := .int 1) pe_int (fun _ _ => rfl))) qa_nil))))
      (qss_one (qs_ret (q_if (qt_cmp op_isN i_isN (nomark _) (q_var 4 (pv 4)) (q_c (d := .non) pe_non (fun _ _ => rfl))) (q_c (d := .non) pe_non (fun _ _ => rfl)) (q_tup (qa_cons (q_tup (qa_cons (q_ix (IxR.or ix_list ix_tup) i_ix (fun _ _ => rfl) (q_var 3 (pv 3)) (q_c (d := .int 0) pe_int (fun _ _ => rfl))) (qa_cons (q_ix (IxR.or ix_list ix_tup) i_ix (fun _ _ => rfl) (q_var 4 (pv 4)) (q_c (d := .int 0) pe_int (fun _ _ => rfl))) qa_nil))) (qa_cons (q_ix (IxR.or ix_list ix_tup) i_ix (fun _ _ => rfl) (q_var 4 (pv 4)) (q_c (d := .int 1) pe_int (fun _ _ => rfl))) qa_nil))))))))))))), ?body⟩)
  case len =>
    rintro ds r ⟨b, n, rfl, _, _, rfl⟩
    exact ⟨rfl, _, rfl⟩
  case body =>
    rintro ds r ⟨b, m, rfl, hb, hn, rfl⟩
    refine ⟨_, rfl, ?_⟩
    have bl : (b.drop m).length = b.length - m := by simp
    have c2 : ((m : Nat) : Int) + 2 = ((m + 2 : Nat) : Int) := by omega
    have c3 : cutB b (some ((m : Nat) : Int)) (some (((m : Nat) : Int) + 2)) = (b.drop m).take 2 := by
      rw [c2, cutB_nn]
      congr 1
      omega
    refine ⟨_, rfl, _, rfl, _, rfl, _, rfl, _, 2, rfl, rfl, trivial, _, rfl, b, rfl, by omega, ?_⟩
    rw [c3]
    refine ⟨by simp [begun], ?_⟩
    refine ⟨_, rfl, _, rfl, by simp; omega, _, 2, rfl, rfl, trivial, _, rfl, ?_⟩
    match hh : b.drop m with
    | [] => exact iteT rfl
    | [_] => exact iteT rfl
    | k0 :: k1 :: r =>
      rw [hh] at bl hn
      have er : b.drop (m + 2) = r := by rw [← List.drop_drop, hh]; rfl
      have rl : r.length = b.length - m - 2 := by simp at bl; omega
      have et : (k0 :: k1 :: r).take 2 = [k0, k1] := rfl
      rw [et, readO_step]
      refine iteF ?_
      refine ⟨_, rfl, sh_bits _, sh_bits _, _, rfl, ?_⟩
      rw [eqv_bits]
      by_cases h00 : k0 = false ∧ k1 = false
      · obtain ⟨rfl, rfl⟩ := h00
        rw [decide_eq_true rfl, if_pos (show false = false ∧ false = false from ⟨rfl, rfl⟩)]
        refine iteT ?_
        refine ⟨_, rfl, _, 2, rfl, rfl, trivial, _, rfl, _, rfl, by omega, _, _, rfl, rfl, trivial, _, rfl, ?_⟩
        cases r with
        | nil =>
          rw [decide_eq_true (by simp at rl; omega)]
          exact iteT rfl
        | cons c r' =>
          rw [decide_eq_false (by simp at rl; omega)]
          refine iteF ?_
          refine ⟨_, rfl, sh_bits _, sh_bits _, _, rfl, ?_⟩
          rw [eqv_bits, decide_eq_true rfl]
          refine iteT ?_
          have ha : atI b (((m : Nat) : Int) + 2) = some c := by
            have e : b[m + 2]? = some c := by
              have := congrArg (fun l : List Bool => l[0]?) er
              simpa [List.getElem?_drop] using this
            rw [c2]
            unfold atI ixN
            have hl := (List.getElem?_eq_some_iff.mp e).1
            rw [if_pos (by omega), if_pos (by omega)]
            exact e
          refine ⟨_, rfl, _, rfl, _, 2, rfl, rfl, trivial, b, _, c, rfl, rfl, by omega, ha, c, rfl, _, rfl, _, 3, rfl, rfl, trivial, by simp, ?_⟩
          have e2 : ((m : Nat) : Int) + 3 = ((b.length - r'.length : Nat) : Int) := by simp at rl; omega
          have e3 : D.int ((c.toNat : Nat) : Int) = (Own.lf c).d := by cases c <;> rfl
          show D.tup [.int ((c.toNat : Nat) : Int), .int (((m : Nat) : Int) + 3)] = D.tup [(Own.lf c).d, .int ((b.length - r'.length : Nat) : Int)]
          rw [e2, e3]
      · have hne : decide ([k0, k1] = [false, false]) = false := decide_eq_false fun z => h00 (by simpa using z)
        rw [hne, if_neg h00]
        refine iteF (iteF ?_)
        refine ⟨_, rfl, sh_bits _, sh_bits _, _, rfl, ?_⟩
        rw [eqv_bits, hne]
        refine iteF ?_
        refine ⟨_, rfl, _, rfl, _, 2, rfl, rfl, trivial, _, ⟨b, m + 2, congrArg (fun i => [BD b, .int i]) c2, hb, by rw [er]; simp at hn; omega, rfl⟩, by simp [begun], ?_⟩
        rw [er]
        have hn' : r.length < 2 * n := by simp at hn; omega
        cases h1 : readO n r with
        | none =>
          refine ⟨_, rfl, rfl, _, rfl, iteT (iteT ⟨_, rfl, rfl, _, rfl, iteT ?_⟩)⟩
          show D.non = ansO b _
          cases k0 <;> cases k1 <;> first | exact absurd ⟨rfl, rfl⟩ h00 | (simp [h1]; rfl) | rfl
        | some p1 =>
          obtain ⟨_, l1, j1, e1⟩ := readO_depth h1
          have R1 : b.drop (b.length - p1.2.length) = p1.2 := drop_pos (j := m + 2 + j1) (by rw [e1, ← er, List.drop_drop])
          refine ⟨_, rfl, rfl, _, rfl, iteF ?_⟩
          refine ⟨_, rfl, sh_bits _, sh_bits _, _, rfl, ?_⟩
          rw [eqv_bits]
          cases k0 with
          | false =>
            cases k1 with
            | false => exact absurd ⟨rfl, rfl⟩ h00
            | true =>
              refine iteT ⟨_, rfl, rfl, _, rfl, iteF ?_⟩
              refine ⟨_, rfl, _, 0, _, rfl, rfl, at0, by simp, _, rfl, _, 1, _, rfl, rfl, at1, by simp, ?_⟩
              show D.tup [.tup [.int 0, p1.1.d], .int ((b.length - p1.2.length : Nat) : Int)] = ansO b ((readO n r).bind fun q => some (Own.nd (.lf false) q.1, q.2))
              rw [h1]
              rfl
          | true =>
            cases k1 with
            | false =>
              refine iteF ?_
              refine ⟨_, rfl, sh_bits _, sh_bits _, _, rfl, ?_⟩
              rw [eqv_bits, decide_eq_true rfl]
              refine iteT ?_
              exact ⟨_, rfl, _, 0, _, rfl, rfl, at0, by simp, _, rfl, _, 1, _, rfl, rfl, at1, by simp, rfl⟩
            | true =>
              refine iteF ?_
              refine ⟨_, rfl, sh_bits _, sh_bits _, _, rfl, ?_⟩
              rw [eqv_bits]
              refine iteF ?_
              refine ⟨_, rfl, _, rfl, _, 1, _, rfl, rfl, at1, _, ⟨b, b.length - p1.2.length, rfl, hb, by rw [R1]; omega, rfl⟩, by simp [begun], ?_⟩
              rw [R1]
              show _
              cases h2 : readO n p1.2 with
              | none =>
                refine ⟨_, rfl, rfl, _, rfl, iteT ?_⟩
                show D.non = ansO b ((readO n p1.2).bind fun q => some (Own.nd p1.1 q.1, q.2))
                rw [h2]
                rfl
              | some p2 =>
                refine ⟨_, rfl, rfl, _, rfl, iteF ?_⟩
                refine ⟨_, rfl, _, 0, _, rfl, rfl, at0, _, rfl, _, 0, _, rfl, rfl, at0, by simp, _, rfl, _, 1, _, rfl, rfl, at1, by simp, ?_⟩
                show D.tup [.tup [p1.1.d, p2.1.d], .int ((b.length - p2.2.length : Nat) : Int)] = ansO b ((readO n p1.2).bind fun q => some (Own.nd p1.1 q.1, q.2))
                rw [h2]
                rfl
theorem no__law_read_own : ∀ ds r, ¬ rLRO 0 ds r := by
  rintro ds r ⟨b, m, _, _, h, _⟩
  omega
theorem okn__law_read_own (Df : Dfn K mg "_law_read_own" (top 62) ["_law_bits", "_law_at_here"]) (m_int : mg "int" = none) (m_len : mg "len" = none) :
    ∀ n : Nat, CalD P w K mg base n "_law_read_own" ["_law_bits", "_law_at_here"] (rLRO n)
  | 0 => Df.noneD no__law_read_own
  | n + 1 => step__law_read_own Df m_int m_len (okn__law_read_own Df m_int m_len n)
theorem ok__law_read_own (Df : Dfn K mg "_law_read_own" (top 62) ["_law_bits", "_law_at_here"]) (m_int : mg "int" = none) (m_len : mg "len" = none) : Cal P w K mg base CX0 150 "_law_read_own" ["_law_bits", "_law_at_here"] (rLRO 400) :=
  (okn__law_read_own Df m_int m_len 400).cal (by decide) (by decide)
def rLRT (n : Nat) : List D → Re → Prop := fun ds r => ∃ (b : List Bool) (at_ : Nat), ds = [BD b, .int (at_ : Nat)] ∧ b.length ≤ 800 ∧ at_ ≤ 1000 ∧ (b.drop at_).length < 2 * n ∧ r = .ok (ansT b (readT n (b.drop at_)))
theorem step__law_read_told {n : Nat} (Df : Dfn K mg "_law_read_told" (top 63) ["_law_bits", "_law_at_here"]) (c__law_read_number : Cal P w K mg base CX0 2 "_law_read_number" ["_law_bits", "_law_at_here"] rLRN) (c__law_read_told : CalD P w K mg base n "_law_read_told" ["_law_bits", "_law_at_here"] (rLRT n)) :
    CalD P w K mg base (n + 1) "_law_read_told" ["_law_bits", "_law_at_here"] (rLRT (n + 1)) := by
  have sc : FnScope ["_law_bits", "_law_at_here", "_law_number", "_law_left", "_law_right"] ["_law_bits", "_law_at_here"] (defScope (top 63)) := ⟨rfl, rfl, rfl, by decide +kernel, rfl, by decide +kernel, by decide +kernel⟩
  refine Df.okDD sc ?len (fun y f cdv A outer s H E hr hd => ⟨_, (qss_cons (qs_set 2 sc.nd rfl (by first | exact Or.inl rfl | exact Or.inr rfl) (q_cal c__law_read_number hr (by omega) (by rfl) (qa_cons (q_var 0 (pv 0)) (qa_cons (q_op op_add (i_int0 (g' := fun i j => .int (i + j)) fun _ _ _ _ => rfl) (q_var 1 (pv 1)) (q_c (d := .int 1) pe_int (fun _ _ => rfl))) qa_nil))))
      (qss_cons (qs_if (qt_w (qw_or (qt_cmp op_isN i_isN (nomark _) (q_var 2 (pv 2)) (q_c (d := .non) pe_non (fun _ _ => rfl))) (qw_or1 (qt_cmp (op_eqD hr.units) i_eq (nomark _) (q_sliceB (q_var 0 (pv 0)) (qo_some (q_var 1 (pv 1))) (qo_some (q_op op_add (i_int0 (g' := fun i j => .int (i + j)) fun _ _ _ _ => rfl) (q_var 1 (pv 1)) (q_c (d := .int 1) pe_int (fun _ _ => rfl))))) (q_bits (l := [true]) (by decide +kernel))))))
        (qss_one (qs_ret (q_var 2 (pv 2))))
        qss_nil)
      (qss_cons (qs_set 3 sc.nd rfl (by first | exact Or.inl rfl | exact Or.inr rfl) (q_calD c__law_read_told hd (by rfl) (qa_cons (q_var 0 (pv 0)) (qa_cons (q_ix (IxR.or ix_list ix_tup) i_ix (fun _ _ => rfl) (q_var 2 (pv 2)) (q_c (d := .int 1) pe_int (fun _ _ => rfl))) qa_nil))))
      (qss_cons (qs_set 4 sc.nd rfl (by first | exact Or.inl rfl | exact Or.inr rfl) (q_c (d := .non) pe_non (fun _ _ => rfl)))
      (qss_cons (qs_if (qt_cmp op_notN i_notN (nomark _) (q_var 3 (pv 3)) (q_c (d := .non) pe_non (fun _ _ => rfl)))
        (qss_one (qs_set 4 sc.nd rfl (by first | exact Or.inl rfl | exact Or.inr rfl) (q_calD c__law_read_told hd (by rfl) (qa_cons (q_var 0 (pv 0)) (qa_cons (q_ix (IxR.or ix_list ix_tup) i_ix (fun _ _ => rfl) (q_var 3 (pv 3)) (q_c (d := .int 1) pe_int (fun _ _ => rfl))) qa_nil)))))
        qss_nil)
      (qss_one (qs_ret (q_if (qt_cmp op_isN i_isN (nomark _) (q_var 4 (pv 4)) (q_c (d := .non) pe_non (fun _ _ => rfl))) (q_c (d := .non) pe_non (fun _ _ => rfl)) (q_tup (qa_cons (q_tup (qa_cons (q_ix (IxR.or ix_list ix_tup) i_ix (fun _ _ => rfl) (q_var 2 (pv 2)) (q_c (d := .int 0) pe_int (fun _ _ => rfl))) (qa_cons (q_ix (IxR.or ix_list ix_tup) i_ix (fun _ _ => rfl) (q_var 3 (pv 3)) (q_c (d := .int 0) pe_int (fun _ _ => rfl))) (qa_cons (q_ix (IxR.or ix_list ix_tup) i_ix (fun _ _ => rfl) (q_var 4 (pv 4)) (q_c (d := .int 0) pe_int (fun _ _ => rfl))) qa_nil)))) (qa_cons (q_ix (IxR.or ix_list ix_tup) i_ix (fun _ _ => rfl) (q_var 4 (pv 4)) (q_c (d := .int 1) pe_int (fun _ _ => rfl))) qa_nil))))))))))), ?body⟩)
  case len =>
    rintro ds r ⟨b, n, rfl, _, _, _, rfl⟩
    exact ⟨rfl, _, rfl⟩
  case body =>
    rintro ds r ⟨b, m, rfl, hb, hm, hn, rfl⟩
    refine ⟨_, rfl, ?_⟩
    have c1 : ((m : Nat) : Int) + 1 = ((m + 1 : Nat) : Int) := by omega
    refine ⟨_, rfl, _, rfl, _, 1, rfl, rfl, trivial, _, ⟨b, m + 1, congrArg (fun i => [BD b, .int i]) c1, hb, by omega, rfl⟩, by simp [begun], ?_⟩
    have c3 : cutB b (some ((m : Nat) : Int)) (some (((m : Nat) : Int) + 1)) = (b.drop m).take 1 := by
      rw [c1, cutB_nn]
      congr 1
      omega
    have ed : b.drop (m + 1) = (b.drop m).drop 1 := by rw [List.drop_drop]
    have bl : (b.drop m).length = b.length - m := by simp
    rw [ed]
    match hh : b.drop m with
    | [] => exact ⟨_, rfl, rfl, _, rfl, iteT (iteT ⟨_, rfl, rfl⟩)⟩
    | k :: r =>
      rw [hh] at bl hn
      simp only [List.length_cons] at bl hn
      have er : b.drop (m + 1) = r := by rw [ed, hh]; rfl
      rw [readT_step']
      show _
      rw [show (k :: r).drop 1 = r from rfl]
      cases hN : readN r with
      | none => exact ⟨_, rfl, rfl, _, rfl, iteT (iteT ⟨_, rfl, rfl⟩)⟩
      | some pn =>
        obtain ⟨n0, k1, kp, e1⟩ := readN_nn hN
        have R1 : b.drop (b.length - pn.2.length) = pn.2 := drop_pos (j := m + 1 + k1) (by rw [e1, ← er, List.drop_drop])
        obtain ⟨kk, hsz, _⟩ := readN_size hN
        refine ⟨_, rfl, rfl, _, rfl, iteF ?_⟩
        refine ⟨_, rfl, _, rfl, _, rfl, _, rfl, _, 1, rfl, rfl, trivial, _, rfl, b, rfl, by omega, ?_⟩
        rw [c3, hh]
        refine ⟨sh_bits _, sh_bits _, _, rfl, ?_⟩
        rw [eqv_bits]
        cases k with
        | true => exact iteT ⟨_, rfl, rfl⟩
        | false =>
          refine iteF ?_
          refine ⟨_, rfl, _, rfl, _, 1, _, rfl, rfl, at1, _, ⟨b, b.length - pn.2.length, rfl, hb, by omega, by rw [R1]; omega, rfl⟩, by simp [begun], ?_⟩
          rw [R1]
          refine ⟨by simp [begun], ?_⟩
          show _
          cases hL : readT n pn.2 with
          | none =>
            refine ⟨_, rfl, rfl, _, rfl, iteF ?_⟩
            refine ⟨_, rfl, rfl, _, rfl, iteT ?_⟩
            show D.non = ansT b ((readT n pn.2).bind fun q => (readT n q.2).bind fun s => some (Told.t pn.1 q.1 s.1, s.2))
            rw [hL]
            rfl
          | some pl =>
            obtain ⟨_, _, k2, e2⟩ := readT_ok hL
            have R2 : b.drop (b.length - pl.2.length) = pl.2 := drop_pos (j := m + 1 + k1 + k2) (by rw [e2, e1, ← er, List.drop_drop, List.drop_drop]; congr 1; omega)
            have l2 : pl.2.length ≤ pn.2.length := by rw [e2, List.length_drop]; omega
            refine ⟨_, rfl, rfl, _, rfl, iteT ?_⟩
            refine ⟨_, rfl, _, rfl, _, 1, _, rfl, rfl, at1, _, ⟨b, b.length - pl.2.length, rfl, hb, by omega, by rw [R2]; omega, rfl⟩, by simp [begun], ?_⟩
            rw [R2]
            cases hR : readT n pl.2 with
            | none =>
              refine ⟨_, rfl, rfl, _, rfl, iteT ?_⟩
              show D.non = ansT b ((readT n pn.2).bind fun q => (readT n q.2).bind fun s => some (Told.t pn.1 q.1 s.1, s.2))
              rw [hL]
              show D.non = ansT b ((readT n pl.2).bind fun s => some (Told.t pn.1 pl.1 s.1, s.2))
              rw [hR]
              rfl
            | some pr =>
              refine ⟨_, rfl, rfl, _, rfl, iteF ?_⟩
              refine ⟨_, rfl, _, 0, _, rfl, rfl, at0, _, rfl, _, 0, _, rfl, rfl, at0, _, rfl, _, 0, _, rfl, rfl, at0, by simp, _, rfl, _, 1, _, rfl, rfl, at1, by simp, ?_⟩
              show D.tup [.tup [.int pn.1, pl.1.d, pr.1.d], .int ((b.length - pr.2.length : Nat) : Int)] = ansT b ((readT n pn.2).bind fun q => (readT n q.2).bind fun s => some (Told.t pn.1 q.1 s.1, s.2))
              rw [hL]
              show _ = ansT b ((readT n pl.2).bind fun s => some (Told.t pn.1 pl.1 s.1, s.2))
              rw [hR]
              rfl
theorem no__law_read_told : ∀ ds r, ¬ rLRT 0 ds r := by
  rintro ds r ⟨b, m, _, _, _, h, _⟩
  omega
theorem okn__law_read_told (Df : Dfn K mg "_law_read_told" (top 63) ["_law_bits", "_law_at_here"]) (c__law_read_number : Cal P w K mg base CX0 2 "_law_read_number" ["_law_bits", "_law_at_here"] rLRN) :
    ∀ n : Nat, CalD P w K mg base n "_law_read_told" ["_law_bits", "_law_at_here"] (rLRT n)
  | 0 => Df.noneD no__law_read_told
  | n + 1 => step__law_read_told Df c__law_read_number (okn__law_read_told Df c__law_read_number n)
theorem ok__law_read_told (Df : Dfn K mg "_law_read_told" (top 63) ["_law_bits", "_law_at_here"]) (c__law_read_number : Cal P w K mg base CX0 2 "_law_read_number" ["_law_bits", "_law_at_here"] rLRN) : Cal P w K mg base CX0 150 "_law_read_told" ["_law_bits", "_law_at_here"] (rLRT 400) :=
  (okn__law_read_told Df c__law_read_number 400).cal (by decide) (by decide)
theorem at2m {a b : D} : atI [a, b] (-2) = some a := by rfl
theorem at2l {a b : D} : atI [a, b] (-1) = some b := by rfl
theorem at3m {a b c : D} : atI [a, b, c] (-2) = some b := by rfl
theorem at3l {a b c : D} : atI [a, b, c] (-1) = some c := by rfl
def rLDep (n : Nat) : List D → Re → Prop := fun ds r => ∃ k : Nat, ((∃ o : Own, ds = [o.d] ∧ o.depth = k) ∨ ∃ t : Told, ds = [t.d] ∧ t.depth = k) ∧ k < n ∧ r = .ok (.int ((k + 1 : Nat) : Int))
theorem step__law_depth {n : Nat} (Df : Dfn K mg "_law_depth" (top 64) ["_law_part"]) (m_isinstance : mg "isinstance" = none) (m_max : mg "max" = none) (m_tuple : mg "tuple" = none) (c__law_depth : CalD P w K mg base n "_law_depth" ["_law_part"] (rLDep n)) :
    CalD P w K mg base (n + 1) "_law_depth" ["_law_part"] (rLDep (n + 1)) := by
  have sc : FnScope ["_law_part"] ["_law_part"] (defScope (top 64)) := ⟨rfl, rfl, rfl, by decide +kernel, rfl, by decide +kernel, by decide +kernel⟩
  refine Df.okDD sc ?len (fun y f cdv A outer s H E hr hd => ⟨_, (qss_cons (qs_if (qt_not (qt_val (q_callB call_isi i_isi (by rfl) m_isinstance (by decide +kernel) (qa_cons (q_var 0 (pv 0)) (qa_cons (q_ty "tuple" (by rfl) m_tuple (by decide +kernel)) qa_nil)))))
        (qss_one (qs_ret (q_c (d := .int 1) pe_int (fun _ _ => rfl))))
        qss_nil)
      (qss_one (qs_ret (q_op op_add (i_int0 (g' := fun i j => .int (i + j)) fun _ _ _ _ => rfl) (q_c (d := .int 1) pe_int (fun _ _ => rfl)) (q_callB (call_max2 rfl) i_max2 (by rfl) m_max (by decide +kernel) (qa_cons (q_calD c__law_depth hd (by rfl) (qa_cons (q_ix (IxR.or ix_list ix_tup) i_ix (fun _ _ => rfl) (q_var 0 (pv 0)) (q_neg (q_c (d := .int 2) pe_int (fun _ _ => rfl)))) qa_nil)) (qa_cons (q_calD c__law_depth hd (by rfl) (qa_cons (q_ix (IxR.or ix_list ix_tup) i_ix (fun _ _ => rfl) (q_var 0 (pv 0)) (q_neg (q_c (d := .int 1) pe_int (fun _ _ => rfl)))) qa_nil)) qa_nil))))))), ?body⟩)
  case len =>
    rintro ds r ⟨k, ⟨o, rfl, _⟩ | ⟨o, rfl, _⟩, _, rfl⟩ <;> exact ⟨rfl, _, rfl⟩
  case body =>
    rintro ds r ⟨k, h, hk, rfl⟩
    refine ⟨_, rfl, ?_⟩
    rcases h with ⟨o, rfl, rfl⟩ | ⟨t, rfl, rfl⟩
    · cases o with
      | lf c => exact ⟨_, rfl, ⟨_, rfl, rfl, _, rfl, iteT rfl⟩⟩
      | nd l r =>
        simp only [Own.depth] at hk ⊢
        have ql : rLDep n [l.d] (.ok (.int ((l.depth + 1 : Nat) : Int))) := ⟨_, .inl ⟨l, rfl, rfl⟩, by omega, rfl⟩
        have qr : rLDep n [r.d] (.ok (.int ((r.depth + 1 : Nat) : Int))) := ⟨_, .inl ⟨r, rfl, rfl⟩, by omega, rfl⟩
        refine ⟨_, rfl, ⟨_, rfl, rfl, _, rfl, iteF ?_⟩⟩
        refine ⟨_, rfl, 2, rfl, _, _, l.d, rfl, rfl, at2m, _, ql, _, rfl, 1, rfl, _, _, r.d, rfl, rfl, at2l, _, qr, _, _, rfl, 1, _, rfl, rfl, trivial, congrArg D.int ?_⟩
        omega
    · cases t with
      | n i => exact ⟨_, rfl, ⟨_, rfl, rfl, _, rfl, iteT rfl⟩⟩
      | t i l r =>
        simp only [Told.depth] at hk ⊢
        have ql : rLDep n [l.d] (.ok (.int ((l.depth + 1 : Nat) : Int))) := ⟨_, .inr ⟨l, rfl, rfl⟩, by omega, rfl⟩
        have qr : rLDep n [r.d] (.ok (.int ((r.depth + 1 : Nat) : Int))) := ⟨_, .inr ⟨r, rfl, rfl⟩, by omega, rfl⟩
        refine ⟨_, rfl, ⟨_, rfl, rfl, _, rfl, iteF ?_⟩⟩
        refine ⟨_, rfl, 2, rfl, _, _, l.d, rfl, rfl, at3m, _, ql, _, rfl, 1, rfl, _, _, r.d, rfl, rfl, at3l, _, qr, _, _, rfl, 1, _, rfl, rfl, trivial, congrArg D.int ?_⟩
        omega
theorem no__law_depth : ∀ ds r, ¬ rLDep 0 ds r := by
  rintro ds r ⟨k, _, h, _⟩
  omega
theorem okn__law_depth (Df : Dfn K mg "_law_depth" (top 64) ["_law_part"]) (m_isinstance : mg "isinstance" = none) (m_max : mg "max" = none) (m_tuple : mg "tuple" = none) :
    ∀ n : Nat, CalD P w K mg base n "_law_depth" ["_law_part"] (rLDep n)
  | 0 => Df.noneD no__law_depth
  | n + 1 => step__law_depth Df m_isinstance m_max m_tuple (okn__law_depth Df m_isinstance m_max m_tuple n)
theorem ok__law_depth (Df : Dfn K mg "_law_depth" (top 64) ["_law_part"]) (m_isinstance : mg "isinstance" = none) (m_max : mg "max" = none) (m_tuple : mg "tuple" = none) : Cal P w K mg base CX0 150 "_law_depth" ["_law_part"] (rLDep 400) :=
  (okn__law_depth Df m_isinstance m_max m_tuple 400).cal (by decide) (by decide)
def rLBase : List D → Re → Prop := fun ds r => ∃ t : Told, ds = [t.d] ∧ r = .ok (.int t.low)
theorem ok__law_base (Df : Dfn K mg "_law_base" (top 65) ["_law_told_here"]) (m_isinstance : mg "isinstance" = none) (m_tuple : mg "tuple" = none) :
    Cal P w K mg base CX0 1 "_law_base" ["_law_told_here"] rLBase := by
  have sc : FnScope ["_law_told_here"] ["_law_told_here"] (defScope (top 65)) := ⟨rfl, rfl, rfl, by decide +kernel, rfl, by decide +kernel, by decide +kernel⟩
  refine Df.ok sc ?len (fun y f cdv A outer s H E hr => ⟨_, (qss_one (qs_ret (q_if (qt_val (q_callB call_isi i_isi (by rfl) m_isinstance (by decide +kernel) (qa_cons (q_var 0 (pv 0)) (qa_cons (q_ty "tuple" (by rfl) m_tuple (by decide +kernel)) qa_nil)))) (q_ix (IxR.or ix_list ix_tup) i_ix (fun _ _ => rfl) (q_var 0 (pv 0)) (q_c (d := .int 0) pe_int (fun _ _ => rfl))) (q_var 0 (pv 0))))), ?body⟩)
  case len =>
    rintro ds r ⟨t, rfl, _⟩
    rfl
  case body =>
    rintro ds r ⟨t, rfl, rfl⟩
    refine ⟨_, rfl, ?_⟩
    cases t with
    | n i => exact ⟨_, rfl, ⟨_, rfl, rfl, _, rfl, iteF ⟨_, rfl, rfl⟩⟩⟩
    | t i l r => exact ⟨_, rfl, ⟨_, rfl, rfl, _, rfl, iteT ⟨_, rfl, _, 0, _, rfl, rfl, at0, rfl⟩⟩⟩
theorem sh0011 : (D.lst [.tup [.int 0, .int 0], .tup [.int 1, .int 1]]).Sh := rfl
def rLLeast (n : Nat) : List D → Re → Prop := fun ds r => ∃ (o : Own) (t : Told), ds = [o.d, t.d] ∧ t.ok ∧ o.depth ≤ 60 ∧ t.depth ≤ 60 ∧ o.depth + t.depth < n ∧ r = .ok (.bl (o.isLeast && t.isLeast))
theorem step__law_is_least {n : Nat} (Df : Dfn K mg "_law_is_least" (top 66) ["_law_own_here", "_law_told_here"]) (m_isinstance : mg "isinstance" = none) (m_min : mg "min" = none) (m_tuple : mg "tuple" = none) (c__law_base : Cal P w K mg base CX0 1 "_law_base" ["_law_told_here"] rLBase) (c__law_is_least : Cal P w K mg base CX0 (2 + n) "_law_is_least" ["_law_own_here", "_law_told_here"] (rLLeast n)) :
    Cal P w K mg base CX0 (2 + n + 1) "_law_is_least" ["_law_own_here", "_law_told_here"] (rLLeast (n + 1)) := by
  have sc : FnScope ["_law_own_here", "_law_told_here", "_law_left", "_law_right"] ["_law_own_here", "_law_told_here"] (defScope (top 66)) := ⟨rfl, rfl, rfl, by decide +kernel, rfl, by decide +kernel, by decide +kernel⟩
  refine Df.ok sc ?len (fun y f cdv A outer s H E hr => ⟨_, (qss_cons (qs_if (qt_val (q_callB call_isi i_isi (by rfl) m_isinstance (by decide +kernel) (qa_cons (q_var 0 (pv 0)) (qa_cons (q_ty "tuple" (by rfl) m_tuple (by decide +kernel)) qa_nil))))
        (qss_one (qs_ret (q_and (q_cmp (op_notInX (room65 hr)) i_notIn (by rfl) (q_var 0 (pv 0)) (q_tup (qa_cons (q_tup (qa_cons (q_c (d := .int 0) pe_int (fun _ _ => rfl)) (qa_cons (q_c (d := .int 0) pe_int (fun _ _ => rfl)) qa_nil))) (qa_cons (q_tup (qa_cons (q_c (d := .int 1) pe_int (fun _ _ => rfl)) (qa_cons (q_c (d := .int 1) pe_int (fun _ _ => rfl)) qa_nil))) qa_nil)))) (q_and (q_cal c__law_is_least hr (by omega) (by rfl) (qa_cons (q_ix (IxR.or ix_list ix_tup) i_ix (fun _ _ => rfl) (q_var 0 (pv 0)) (q_c (d := .int 0) pe_int (fun _ _ => rfl))) (qa_cons (q_var 1 (pv 1)) qa_nil))) (q_one (q_cal c__law_is_least hr (by omega) (by rfl) (qa_cons (q_ix (IxR.or ix_list ix_tup) i_ix (fun _ _ => rfl) (q_var 0 (pv 0)) (q_c (d := .int 1) pe_int (fun _ _ => rfl))) (qa_cons (q_c (d := .int 0) pe_int (fun _ _ => rfl)) qa_nil))))))))
        qss_nil)
      (qss_cons (qs_if (qt_not (qt_val (q_callB call_isi i_isi (by rfl) m_isinstance (by decide +kernel) (qa_cons (q_var 1 (pv 1)) (qa_cons (q_ty "tuple" (by rfl) m_tuple (by decide +kernel)) qa_nil)))))
        (qss_one (qs_ret (q_c (d := .bl true) pe_bl (fun _ _ => rfl))))
        qss_nil)
      (qss_cons (qs_asg (q_slice (q_var 1 (pv 1)) (qo_some (q_c (d := .int 1) pe_int (fun _ _ => rfl))) qo_none) (qg_tup (n := 2) rfl (qgs_cons (qg_name 2 sc.nd rfl (Or.inl rfl)) (qgs_cons (qg_name 3 sc.nd rfl (Or.inl rfl)) qgs_nil))))
      (qss_cons (qs_if (qt_w (qw_or (qt_cmp op_gt (i_int0 (g' := fun i j => .bl (decide (j < i))) fun _ _ _ _ => rfl) (nomark _) (q_callB (call_min2 rfl) i_min2 (by rfl) m_min (by decide +kernel) (qa_cons (q_cal c__law_base hr (by omega) (by rfl) (qa_cons (q_var 2 (pv 2)) qa_nil)) (qa_cons (q_cal c__law_base hr (by omega) (by rfl) (qa_cons (q_var 3 (pv 3)) qa_nil)) qa_nil))) (q_c (d := .int 0) pe_int (fun _ _ => rfl))) (qw_or1 (qt_w (qw_and (qt_cmp (op_eqD hr.units) i_eq (nomark _) (q_var 2 (pv 2)) (q_var 3 (pv 3))) (qw_and1 (qt_not (qt_val (q_callB call_isi i_isi (by rfl) m_isinstance (by decide +kernel) (qa_cons (q_var 2 (pv 2)) (qa_cons (q_ty "tuple" (by rfl) m_tuple (by decide +kernel)) qa_nil)))))))))))
        (qss_one (qs_ret (q_c (d := .bl false) pe_bl (fun _ _ => rfl))))
        qss_nil)
      (qss_one (qs_ret (q_and (q_cal c__law_is_least hr (by omega) (by rfl) (qa_cons (q_c (d := .int 0) pe_int (fun _ _ => rfl)) (qa_cons (q_var 2 (pv 2)) qa_nil))) (q_one (q_cal c__law_is_least hr (by omega) (by rfl) (qa_cons (q_c (d := .int 0) pe_int (fun _ _ => rfl)) (qa_cons (q_var 3 (pv 3)) qa_nil))))))))))), ?body⟩)
  case len =>
    rintro ds r ⟨o, t, rfl, _⟩
    rfl
  case body =>
    rintro ds r ⟨o, t, rfl, ok, h1, h2, hn, rfl⟩
    refine ⟨_, rfl, ?_⟩
    cases o with
    | nd l r =>
      simp only [Own.depth] at h1 hn
      have ql : rLLeast n [l.d, t.d] (.ok (.bl (l.isLeast && t.isLeast))) := ⟨l, t, rfl, ok, by omega, h2, by omega, rfl⟩
      have qr : rLLeast n [r.d, .int 0] (.ok (.bl (r.isLeast && true))) := ⟨r, .n 0, rfl, by show (0 : Int) ≤ 0; decide, by omega, by decide, by show r.depth + 0 < n; omega, rfl⟩
      refine ⟨_, rfl, ⟨_, rfl, rfl, _, rfl, iteT ?_⟩⟩
      have ev : (([D.tup [.int 0, .int 0], .tup [.int 1, .int 1]] : List D).any fun z => z.eqv (Own.nd l r).d) = (decide (Own.nd (.lf false) (.lf false) = .nd l r) || decide (Own.nd (.lf true) (.lf true) = .nd l r)) := by
        have a1 := Own.eqv_d (.nd (.lf false) (.lf false)) (.nd l r)
        have a2 := Own.eqv_d (.nd (.lf true) (.lf true)) (.nd l r)
        show ((Own.nd (.lf false) (.lf false)).d.eqv (Own.nd l r).d || ((Own.nd (.lf true) (.lf true)).d.eqv (Own.nd l r).d || false)) = _
        rw [a1, a2, Bool.or_false]
      refine ⟨_, rfl, by simp, by simp, by simp, _, rfl, Own.sh (o := .nd l r) (by simp only [Own.depth]; omega), sh0011, _, rfl, ?_⟩
      rw [ev]
      have fin : (Own.nd l r).isLeast = (!(decide (Own.nd (.lf false) (.lf false) = .nd l r) || decide (Own.nd (.lf true) (.lf true) = .nd l r)) && (l.isLeast && r.isLeast)) := by
        rw [Own.isLeast]
        simp only [Own.nd.injEq, eq_comm (a := Own.lf false), eq_comm (a := Own.lf true)]
        by_cases a : l = .lf false <;> by_cases b : r = .lf false <;> by_cases c : l = .lf true <;> by_cases d : r = .lf true <;> simp [a, b, c, d]
      rw [fin]
      cases (decide (Own.nd (.lf false) (.lf false) = .nd l r) || decide (Own.nd (.lf true) (.lf true) = .nd l r)) with
      | true => exact iteF rfl
      | false =>
        refine iteT ?_
        refine ⟨_, rfl, _, 0, _, rfl, rfl, at0, _, rfl, _, ql, _, rfl, ?_⟩
        cases hl : (l.isLeast && t.isLeast) with
        | false =>
          refine iteF ?_
          show D.bl false = D.bl _
          cases a : l.isLeast <;> cases b : t.isLeast <;> simp_all
        | true =>
          refine iteT ?_
          refine ⟨_, rfl, _, 1, _, rfl, rfl, at1, _, qr, ?_⟩
          show D.bl _ = D.bl _
          cases a : l.isLeast <;> cases b : t.isLeast <;> simp_all
    | lf c =>
      have ec : (Own.lf c).d = .int (c.toNat : Nat) := by cases c <;> rfl
      rw [ec]
      refine ⟨_, rfl, ⟨_, rfl, rfl, _, rfl, iteF ?_⟩⟩
      cases t with
      | n i => exact ⟨_, rfl, ⟨_, rfl, rfl, _, rfl, iteT rfl⟩⟩
      | t i l r =>
        simp only [Told.depth, Own.depth] at h2 hn
        have hl := ok.2.1
        have hr := ok.2.2
        have z0 : (Own.lf false).d = .int 0 := rfl
        have ql : rLLeast n [.int 0, l.d] (.ok (.bl (true && l.isLeast))) := ⟨.lf false, l, rfl, hl, by decide, by omega, by show 0 + l.depth < n; omega, rfl⟩
        have qr : rLLeast n [.int 0, r.d] (.ok (.bl (true && r.isLeast))) := ⟨.lf false, r, rfl, hr, by decide, by omega, by show 0 + r.depth < n; omega, rfl⟩
        have a1 := Told.low_ok hl
        have a2 := Told.low_ok hr
        refine ⟨_, rfl, ⟨_, rfl, rfl, _, rfl, iteF ?_⟩⟩
        refine ⟨_, rfl, 1, rfl, .inr ⟨_, rfl, (by show ¬ (HT.sIx 3 0 (some 1) = 0 ∧ HT.sIx 3 3 none = 3); decide), ?_⟩⟩
        refine ⟨_, rfl, rfl, by simp [begun], by simp [begun], rfl, ?_⟩
        refine ⟨_, rfl, _, ⟨l, rfl, rfl⟩, _, rfl, _, ⟨r, rfl, rfl⟩, _, _, rfl, _, 0, rfl, rfl, trivial, _, rfl, ?_⟩
        have fin : ∀ z : Bool, (Told.above l r && l.isLeast && r.isLeast) = z → D.bl z = D.bl ((Own.lf c).isLeast && (Told.t i l r).isLeast) := by
          intro z h
          rw [← h]
          rfl
        by_cases hm : 0 < min l.low r.low
        · rw [decide_eq_true hm]
          refine iteT (iteT (fin false ?_))
          have x1 : (l.low == 0) = false := by simp; omega
          have x2 : (r.low == 0) = false := by simp; omega
          rw [Told.above, x1, x2]
          simp
        rw [decide_eq_false hm]
        refine iteF ?_
        refine ⟨_, rfl, _, rfl, Told.sh (by omega), Told.sh (by omega), _, rfl, ?_⟩
        rw [Told.eqv_d]
        have x0 : ((l.low == 0) || (r.low == 0)) = true := by
          simp
          omega
        have go : Told.twin l r = false → uRet (uAndV (uDef0 (fun ds d => rLLeast n ds (Re.ok d)) (uCons (uC (D.int 0)) (uCons (uVar 2) uNil))) (uDef0 (fun ds d => rLLeast n ds (Re.ok d)) (uCons (uC (D.int 0)) (uCons (uVar 3) uNil)))) { nx := fun x => D.non = D.bl ((Own.lf c).isLeast && (Told.t i l r).isLeast), rt := fun z x => z = D.bl ((Own.lf c).isLeast && (Told.t i l r).isLeast) } (((begun 4 [D.int (c.toNat : Nat), (Told.t i l r).d]).set 2 (Sl.dat l.d)).set 3 (Sl.dat r.d)) := by
          intro h
          refine ⟨_, rfl, _, ql, _, rfl, ?_⟩
          have ab : Told.above l r = true := by rw [Told.above, h, x0]; rfl
          cases hl : l.isLeast with
          | false =>
            refine iteF (fin false ?_)
            rw [hl]
            simp
          | true =>
            refine iteT ?_
            refine ⟨_, rfl, _, qr, fin _ ?_⟩
            rw [ab, hl]
            rfl
        by_cases e : l = r
        · rw [decide_eq_true e]
          refine iteT ?_
          subst e
          cases l with
          | n a =>
            refine ⟨_, rfl, ⟨_, rfl, rfl, _, rfl, iteT ?_⟩⟩
            refine fin false ?_
            have tw : Told.twin (.n a) (.n a) = true := Told.twin_iff.mpr ⟨a, rfl, rfl⟩
            rw [Told.above, tw]
            rfl
          | t j l' r' =>
            refine ⟨_, rfl, ⟨_, rfl, rfl, _, rfl, iteF ?_⟩⟩
            exact go rfl
        · rw [decide_eq_false e]
          refine iteF (iteF ?_)
          refine go ?_
          rw [← Bool.not_eq_true]
          intro h
          obtain ⟨a, e1, e2⟩ := Told.twin_iff.mp h
          exact e (e1.trans e2.symm)
theorem no__law_is_least : ∀ ds r, ¬ rLLeast 0 ds r := by
  rintro ds r ⟨o, t, _, _, _, _, h, _⟩
  omega
theorem ok__law_is_least (Df : Dfn K mg "_law_is_least" (top 66) ["_law_own_here", "_law_told_here"]) (m_isinstance : mg "isinstance" = none) (m_min : mg "min" = none) (m_tuple : mg "tuple" = none) (c__law_base : Cal P w K mg base CX0 1 "_law_base" ["_law_told_here"] rLBase) :
    ∀ n : Nat, Cal P w K mg base CX0 (2 + n) "_law_is_least" ["_law_own_here", "_law_told_here"] (rLLeast n)
  | 0 => (Df.none no__law_is_least).mono (Nat.zero_le _)
  | n + 1 => step__law_is_least Df m_isinstance m_min m_tuple c__law_base (ok__law_is_least Df m_isinstance m_min m_tuple c__law_base n)

/-! ### the law's own: refusals of rows -/
theorem join_row : Txt.join ("/" : Str) [("row" : Str)] = "row" := by decide
def rWord (C : Addr) : List D → Re → Prop := fun ds r => ds = [.exc C] ∧ r = .ok (.str "row")
theorem ok__law_word (Df : Dfn K mg "_law_word" (top 56) ["_law_caught"]) (m_ValueError : mg "ValueError" = none) (m_int : mg "int" = none) (m_isinstance : mg "isinstance" = none) (K_NoOwn : ExK K C_NoOwn) (i_NoOwn_BadRow : PySem.W.kitOne K (.ref C_NoOwn) (.ref C_BadRow) = some false) (K_BadOwn : ExK K C_BadOwn) (i_BadOwn_BadRow : PySem.W.kitOne K (.ref C_BadOwn) (.ref C_BadRow) = some false) (K_BadTold : ExK K C_BadTold) (i_BadTold_BadRow : PySem.W.kitOne K (.ref C_BadTold) (.ref C_BadRow) = some false) (K_BadRow : ExK K C_BadRow) (i_BadRow_BadRow : PySem.W.kitOne K (.ref C_BadRow) (.ref C_BadRow) = some true) (g_BadRow : mg "BadRow" = some (.ref C_BadRow)) (i_NoOwn_NoHand : PySem.W.kitOne K (.ref C_NoOwn) (.ref C_NoHand) = some false) (i_BadOwn_NoHand : PySem.W.kitOne K (.ref C_BadOwn) (.ref C_NoHand) = some false) (i_BadTold_NoHand : PySem.W.kitOne K (.ref C_BadTold) (.ref C_NoHand) = some false) (i_BadRow_NoHand : PySem.W.kitOne K (.ref C_BadRow) (.ref C_NoHand) = some false) (g_NoHand : mg "NoHand" = some (.ref C_NoHand)) (i_NoOwn_Shared : PySem.W.kitOne K (.ref C_NoOwn) (.ref C_Shared) = some false) (i_BadOwn_Shared : PySem.W.kitOne K (.ref C_BadOwn) (.ref C_Shared) = some false) (i_BadTold_Shared : PySem.W.kitOne K (.ref C_BadTold) (.ref C_Shared) = some false) (i_BadRow_Shared : PySem.W.kitOne K (.ref C_BadRow) (.ref C_Shared) = some false) (g_Shared : mg "Shared" = some (.ref C_Shared)) (i_NoOwn_NoOwn : PySem.W.kitOne K (.ref C_NoOwn) (.ref C_NoOwn) = some true) (i_BadOwn_NoOwn : PySem.W.kitOne K (.ref C_BadOwn) (.ref C_NoOwn) = some false) (i_BadTold_NoOwn : PySem.W.kitOne K (.ref C_BadTold) (.ref C_NoOwn) = some false) (i_BadRow_NoOwn : PySem.W.kitOne K (.ref C_BadRow) (.ref C_NoOwn) = some false) (g_NoOwn : mg "NoOwn" = some (.ref C_NoOwn)) (i_NoOwn_BadOwn : PySem.W.kitOne K (.ref C_NoOwn) (.ref C_BadOwn) = some false) (i_BadOwn_BadOwn : PySem.W.kitOne K (.ref C_BadOwn) (.ref C_BadOwn) = some true) (i_BadTold_BadOwn : PySem.W.kitOne K (.ref C_BadTold) (.ref C_BadOwn) = some false) (i_BadRow_BadOwn : PySem.W.kitOne K (.ref C_BadRow) (.ref C_BadOwn) = some false) (g_BadOwn : mg "BadOwn" = some (.ref C_BadOwn)) (i_NoOwn_BadTold : PySem.W.kitOne K (.ref C_NoOwn) (.ref C_BadTold) = some false) (i_BadOwn_BadTold : PySem.W.kitOne K (.ref C_BadOwn) (.ref C_BadTold) = some false) (i_BadTold_BadTold : PySem.W.kitOne K (.ref C_BadTold) (.ref C_BadTold) = some true) (i_BadRow_BadTold : PySem.W.kitOne K (.ref C_BadRow) (.ref C_BadTold) = some false) (g_BadTold : mg "BadTold" = some (.ref C_BadTold)) (i_NoOwn_ValueError : PySem.W.kitOne K (.ref C_NoOwn) (.type "ValueError") = some true) (i_BadOwn_ValueError : PySem.W.kitOne K (.ref C_BadOwn) (.type "ValueError") = some true) (i_BadTold_ValueError : PySem.W.kitOne K (.ref C_BadTold) (.type "ValueError") = some true) (i_BadRow_ValueError : PySem.W.kitOne K (.ref C_BadRow) (.type "ValueError") = some true) (i_NoOwn_StampError : PySem.W.kitOne K (.ref C_NoOwn) (.ref C_StampError) = some true) (i_BadOwn_StampError : PySem.W.kitOne K (.ref C_BadOwn) (.ref C_StampError) = some true) (i_BadTold_StampError : PySem.W.kitOne K (.ref C_BadTold) (.ref C_StampError) = some true) (i_BadRow_StampError : PySem.W.kitOne K (.ref C_BadRow) (.ref C_StampError) = some true) (g_StampError : mg "StampError" = some (.ref C_StampError)) :
    Cal P w K mg base CX0 1 "_law_word" ["_law_caught"] (rWord C_BadRow) := by
  have sc : FnScope ["_law_caught", "_law_found"] ["_law_caught"] (defScope (top 56)) := ⟨rfl, rfl, rfl, by decide +kernel, rfl, by decide +kernel, by decide +kernel⟩
  refine Df.ok sc ?len (fun y f cdv A outer s H E hr => ⟨_, (qss_cons (qs_if (qt_w (qw_or (qt_not (qt_val (q_callB call_isX i_isX (by rfl) m_isinstance (by decide +kernel) (qa_cons (q_var 0 (pv 0)) (qa_cons (q_cls (by rfl) g_StampError) qa_nil))))) (qw_or1 (qt_not (qt_val (q_callB call_isX i_isX (by rfl) m_isinstance (by decide +kernel) (qa_cons (q_var 0 (pv 0)) (qa_cons (q_ty "ValueError" (by rfl) m_ValueError (by decide +kernel)) qa_nil))))))))
        (qss_one (qs_ret (q_c (d := .str _) pe_str (fun _ _ => rfl))))
        qss_nil)
      (qss_cons (qs_set 1 sc.nd rfl (by first | exact Or.inl rfl | exact Or.inr rfl) (q_op op_catR i_cat (q_rep (qa_cons (q_c (d := .str _) pe_str (fun _ _ => rfl)) qa_nil) (q_callTy call_int1 i_int1 (by rfl) m_int (by decide +kernel) (qa_cons (q_callB call_isX i_isX (by rfl) m_isinstance (by decide +kernel) (qa_cons (q_var 0 (pv 0)) (qa_cons (q_cls (by rfl) g_BadOwn) qa_nil))) qa_nil))) (q_rep (qa_cons (q_c (d := .str _) pe_str (fun _ _ => rfl)) qa_nil) (q_callTy call_int1 i_int1 (by rfl) m_int (by decide +kernel) (qa_cons (q_callB call_isX i_isX (by rfl) m_isinstance (by decide +kernel) (qa_cons (q_var 0 (pv 0)) (qa_cons (q_cls (by rfl) g_BadTold) qa_nil))) qa_nil)))))
      (qss_cons (qs_set 1 sc.nd rfl (by first | exact Or.inl rfl | exact Or.inr rfl) (q_op op_catR i_cat (q_op op_catR i_cat (q_var 1 (pv 1)) (q_rep (qa_cons (q_c (d := .str _) pe_str (fun _ _ => rfl)) qa_nil) (q_callTy call_int1 i_int1 (by rfl) m_int (by decide +kernel) (qa_cons (q_callB call_isX i_isX (by rfl) m_isinstance (by decide +kernel) (qa_cons (q_var 0 (pv 0)) (qa_cons (q_cls (by rfl) g_Shared) qa_nil))) qa_nil)))) (q_rep (qa_cons (q_c (d := .str _) pe_str (fun _ _ => rfl)) qa_nil) (q_callTy call_int1 i_int1 (by rfl) m_int (by decide +kernel) (qa_cons (q_callB call_isX i_isX (by rfl) m_isinstance (by decide +kernel) (qa_cons (q_var 0 (pv 0)) (qa_cons (q_cls (by rfl) g_NoOwn) qa_nil))) qa_nil)))))
      (qss_cons (qs_set 1 sc.nd rfl (by first | exact Or.inl rfl | exact Or.inr rfl) (q_op op_catR i_cat (q_op op_catR i_cat (q_var 1 (pv 1)) (q_rep (qa_cons (q_c (d := .str _) pe_str (fun _ _ => rfl)) qa_nil) (q_callTy call_int1 i_int1 (by rfl) m_int (by decide +kernel) (qa_cons (q_callB call_isX i_isX (by rfl) m_isinstance (by decide +kernel) (qa_cons (q_var 0 (pv 0)) (qa_cons (q_cls (by rfl) g_BadRow) qa_nil))) qa_nil)))) (q_rep (qa_cons (q_c (d := .str _) pe_str (fun _ _ => rfl)) qa_nil) (q_callTy call_int1 i_int1 (by rfl) m_int (by decide +kernel) (qa_cons (q_callB call_isX i_isX (by rfl) m_isinstance (by decide +kernel) (qa_cons (q_var 0 (pv 0)) (qa_cons (q_cls (by rfl) g_NoHand) qa_nil))) qa_nil)))))
      (qss_one (qs_ret (q_bm PySem.F.plainAttrs_str PySem.F.slot_str_join PySem.F.type_str_join mt_join i_join tyI_str (q_c (d := .str _) pe_str (fun _ _ => rfl)) (qa_cons (q_var 1 (pv 1)) qa_nil)))))))), ?body⟩)
  case len =>
    rintro ds r ⟨rfl, _⟩
    rfl
  case body =>
    rintro ds r ⟨rfl, rfl⟩
    have E := K_BadRow.ask
    refine ⟨_, rfl, ?_⟩
    refine ⟨_, rfl, ?_⟩
    refine ⟨C_BadRow, _, _, _, rfl, .inl ⟨_, rfl, rfl⟩, E, i_BadRow_StampError, ?_⟩
    refine ⟨_, rfl, iteF ?_⟩
    refine ⟨_, rfl, ?_⟩
    refine ⟨C_BadRow, _, _, _, rfl, .inr ⟨_, rfl, rfl⟩, E, i_BadRow_ValueError, ?_⟩
    refine ⟨_, rfl, iteF ?_⟩
    refine ⟨by simp, _, rfl, ?_⟩
    refine ⟨C_BadRow, _, _, _, rfl, .inl ⟨_, rfl, rfl⟩, E, i_BadRow_BadOwn, ?_⟩
    refine ⟨_, rfl, 0, rfl, by decide, by simp, _, rfl, ?_⟩
    refine ⟨C_BadRow, _, _, _, rfl, .inl ⟨_, rfl, rfl⟩, E, i_BadRow_BadTold, ?_⟩
    refine ⟨_, rfl, 0, rfl, by decide, ?_⟩
    refine ⟨_, _, rfl, rfl, by simp, by simp [begun], ?_⟩
    refine ⟨_, rfl, by simp, _, rfl, ?_⟩
    refine ⟨C_BadRow, _, _, _, rfl, .inl ⟨_, rfl, rfl⟩, E, i_BadRow_Shared, ?_⟩
    refine ⟨_, rfl, 0, rfl, by decide, ?_⟩
    refine ⟨_, _, rfl, rfl, by simp, by simp, _, rfl, ?_⟩
    refine ⟨C_BadRow, _, _, _, rfl, .inl ⟨_, rfl, rfl⟩, E, i_BadRow_NoOwn, ?_⟩
    refine ⟨_, rfl, 0, rfl, by decide, ?_⟩
    refine ⟨_, _, rfl, rfl, by simp, by simp [begun], ?_⟩
    refine ⟨_, rfl, by simp, _, rfl, ?_⟩
    refine ⟨C_BadRow, _, _, _, rfl, .inl ⟨_, rfl, rfl⟩, E, i_BadRow_BadRow, ?_⟩
    refine ⟨_, rfl, 1, rfl, by decide, ?_⟩
    refine ⟨_, _, rfl, rfl, by simp, by simp, _, rfl, ?_⟩
    refine ⟨C_BadRow, _, _, _, rfl, .inl ⟨_, rfl, rfl⟩, E, i_BadRow_NoHand, ?_⟩
    refine ⟨_, rfl, 0, rfl, by decide, ?_⟩
    refine ⟨_, _, rfl, rfl, by simp, by simp [begun], ?_⟩
    refine ⟨⟨_, rfl⟩, _, rfl, _, [("row" : Str)], rfl, rfl, by decide, ?_⟩
    exact congrArg D.str join_row
theorem bit_of (k : Nat) : (k % 2 == 1).toNat = k % 2 := by
  have : k % 2 = 0 ∨ k % 2 = 1 := by omega
  rcases this with e | e <;> rw [e] <;> rfl
def eightL (n : Nat) : List Bool := [128, 64, 32, 16, 8, 4, 2, 1].map fun m => n / m % 2 == 1
theorem byteB_is {n : Nat} (h : n < 256) : byteB n = eightL n := by
  refine valB_inj (by rw [byteB_len h]; rfl) ?_
  rw [byteB_val]
  simp only [eightL, List.map_cons, List.map_nil, valB, List.foldl_cons, List.foldl_nil, bit_of]
  omega
theorem sgn_of (n m : Nat) : ((n : Nat) : Int) / (m : Nat) % 2 = (((n / m % 2 == 1).toNat : Nat) : Int) := by
  rw [bit_of]
  omega
def eightI : List Nat := [128, 64, 32, 16, 8, 4, 2, 1]
def rLDue : List D → Re → Prop := fun ds r => ∃ ns : List Nat, ds = [.lst (byteD ns)] ∧ (∀ n ∈ ns, n < 256) ∧ ns.length < 90 ∧ r = .ok (match unpackN ns with | some p => .tup [p.1.d, p.2.d] | none => .non)
theorem ok__law_due (Df : Dfn K mg "_law_due" (top 67) ["_law_row_here"]) (m_max : mg "max" = none) (m_str : mg "str" = none) (c__law_row : Cal P w K mg base CX0 2 "_law_row" ["_law_bits"] rLRow) (c__law_own_bits : Cal P w K mg base CX0 (1 + 40) "_law_own_bits" ["_law_own_here"] (rLOwn 40)) (c__law_told_bits : Cal P w K mg base CX0 (3 + 40) "_law_told_bits" ["_law_told_here"] (rLTold 40)) (c__law_is_least : Cal P w K mg base CX0 (2 + 90) "_law_is_least" ["_law_own_here", "_law_told_here"] (rLLeast 90)) (c__law_depth : Cal P w K mg base CX0 150 "_law_depth" ["_law_part"] (rLDep 400)) (c__law_read_told : Cal P w K mg base CX0 150 "_law_read_told" ["_law_bits", "_law_at_here"] (rLRT 400)) (c__law_read_own : Cal P w K mg base CX0 150 "_law_read_own" ["_law_bits", "_law_at_here"] (rLRO 400)) :
    Cal P w K mg base CX0 160 "_law_due" ["_law_row_here"] rLDue := by
  have sc : FnScope ["_law_row_here", "_law_bits", "_law_number", "_law_more", "_law_own_here", "_law_told_here", "_law_due_here"] ["_law_row_here"] (defScope (top 67)) := ⟨rfl, rfl, rfl, by decide +kernel, rfl, by decide +kernel, by decide +kernel⟩
  refine Df.ok sc ?len (fun y f cdv A outer s H E hr => ⟨_, (qss_cons (qs_set 1 sc.nd rfl (by first | exact Or.inl rfl | exact Or.inr rfl) (q_bits (l := []) (by decide +kernel)))
      (qss_cons (qs_for PassesOwn.never rfl (qi_list (q_var 0 (pv 0))) (qg_name 2 sc.nd rfl (Or.inr rfl))
        (qss_one (qs_set 1 sc.nd rfl (by first | exact Or.inl rfl | exact Or.inr rfl) (q_op op_add_str i_addB (q_var 1 (pv 1)) (q_bm PySem.F.plainAttrs_str PySem.F.slot_str_join PySem.F.type_str_join mt_join i_joinB tyI_str (q_bits (l := []) (by decide +kernel)) (qa_cons (q_lc [("_law_more", 3)] rfl sc.nd (qi_tup (q_tup (qa_cons (q_c (d := .int 128) pe_int (fun _ _ => rfl)) (qa_cons (q_c (d := .int 64) pe_int (fun _ _ => rfl)) (qa_cons (q_c (d := .int 32) pe_int (fun _ _ => rfl)) (qa_cons (q_c (d := .int 16) pe_int (fun _ _ => rfl)) (qa_cons (q_c (d := .int 8) pe_int (fun _ _ => rfl)) (qa_cons (q_c (d := .int 4) pe_int (fun _ _ => rfl)) (qa_cons (q_c (d := .int 2) pe_int (fun _ _ => rfl)) (qa_cons (q_c (d := .int 1) pe_int (fun _ _ => rfl)) qa_nil)))))))))) (blkOk_by (N := ["_law_row_here", "_law_bits", "_law_number", "_law_more", "_law_own_here", "_law_told_here", "_law_due_here"]) (sc := defScope (top 67)) (by decide +kernel)) (fun _ _ _ _ _ => (qgw_name 3 (by decide) sc.nd rfl (Or.inl rfl))) (fun _ _ _ _ _ => qts_nil) (fun _ _ _ _ _ => (q_callTy call_str_int i_strB (by rfl) m_str (by decide +kernel) (qa_cons (q_op op_mod (i_int (g' := fun i j => .int (i % j)) fun _ _ _ _ => rfl) (q_op op_fdiv (i_int (g' := fun i j => .int (i / j)) fun _ _ _ _ => rfl) (q_var 2 (pv 2)) (q_var 3 (pv 3))) (q_c (d := .int 2) pe_int (fun _ _ => rfl))) qa_nil)))) qa_nil))))))
      (qss_cons (qs_set 4 sc.nd rfl (by first | exact Or.inl rfl | exact Or.inr rfl) (q_cal c__law_read_own hr (by omega) (by rfl) (qa_cons (q_var 1 (pv 1)) (qa_cons (q_c (d := .int 0) pe_int (fun _ _ => rfl)) qa_nil))))
      (qss_cons (qs_set 5 sc.nd rfl (by first | exact Or.inl rfl | exact Or.inr rfl) (q_c (d := .non) pe_non (fun _ _ => rfl)))
      (qss_cons (qs_if (qt_cmp op_notN i_notN (nomark _) (q_var 4 (pv 4)) (q_c (d := .non) pe_non (fun _ _ => rfl)))
        (qss_one (qs_set 5 sc.nd rfl (by first | exact Or.inl rfl | exact Or.inr rfl) (q_cal c__law_read_told hr (by omega) (by rfl) (qa_cons (q_var 1 (pv 1)) (qa_cons (q_ix (IxR.or ix_list ix_tup) i_ix (fun _ _ => rfl) (q_var 4 (pv 4)) (q_c (d := .int 1) pe_int (fun _ _ => rfl))) qa_nil)))))
        qss_nil)
      (qss_cons (qs_if (qt_w (qw_or (qt_cmp op_isN i_isN (nomark _) (q_var 5 (pv 5)) (q_c (d := .non) pe_non (fun _ _ => rfl))) (qw_or1 (qt_cmp op_gt (i_int0 (g' := fun i j => .bl (decide (j < i))) fun _ _ _ _ => rfl) (nomark _) (q_callB (call_max2 rfl) i_max2 (by rfl) m_max (by decide +kernel) (qa_cons (q_cal c__law_depth hr (by omega) (by rfl) (qa_cons (q_ix (IxR.or ix_list ix_tup) i_ix (fun _ _ => rfl) (q_var 4 (pv 4)) (q_c (d := .int 0) pe_int (fun _ _ => rfl))) qa_nil)) (qa_cons (q_cal c__law_depth hr (by omega) (by rfl) (qa_cons (q_ix (IxR.or ix_list ix_tup) i_ix (fun _ _ => rfl) (q_var 5 (pv 5)) (q_c (d := .int 0) pe_int (fun _ _ => rfl))) qa_nil)) qa_nil))) (q_c (d := .int 40) pe_int (fun _ _ => rfl))))))
        (qss_one (qs_ret (q_c (d := .non) pe_non (fun _ _ => rfl))))
        qss_nil)
      (qss_cons (qs_if (qt_not (qt_val (q_cal c__law_is_least hr (by omega) (by rfl) (qa_cons (q_ix (IxR.or ix_list ix_tup) i_ix (fun _ _ => rfl) (q_var 4 (pv 4)) (q_c (d := .int 0) pe_int (fun _ _ => rfl))) (qa_cons (q_ix (IxR.or ix_list ix_tup) i_ix (fun _ _ => rfl) (q_var 5 (pv 5)) (q_c (d := .int 0) pe_int (fun _ _ => rfl))) qa_nil)))))
        (qss_one (qs_ret (q_c (d := .non) pe_non (fun _ _ => rfl))))
        qss_nil)
      (qss_cons (qs_set 6 sc.nd rfl (by first | exact Or.inl rfl | exact Or.inr rfl) (q_op op_add_str i_addB (q_cal c__law_own_bits hr (by omega) (by rfl) (qa_cons (q_ix (IxR.or ix_list ix_tup) i_ix (fun _ _ => rfl) (q_var 4 (pv 4)) (q_c (d := .int 0) pe_int (fun _ _ => rfl))) qa_nil)) (q_cal c__law_told_bits hr (by omega) (by rfl) (qa_cons (q_ix (IxR.or ix_list ix_tup) i_ix (fun _ _ => rfl) (q_var 5 (pv 5)) (q_c (d := .int 0) pe_int (fun _ _ => rfl))) qa_nil))))
      (qss_cons (qs_if (qt_cmp (op_neD hr.units) i_ne (nomark _) (q_cal c__law_row hr (by omega) (by rfl) (qa_cons (q_var 6 (pv 6)) qa_nil)) (q_var 0 (pv 0)))
        (qss_one (qs_ret (q_c (d := .non) pe_non (fun _ _ => rfl))))
        qss_nil)
      (qss_one (qs_ret (q_tup (qa_cons (q_ix (IxR.or ix_list ix_tup) i_ix (fun _ _ => rfl) (q_var 4 (pv 4)) (q_c (d := .int 0) pe_int (fun _ _ => rfl))) (qa_cons (q_ix (IxR.or ix_list ix_tup) i_ix (fun _ _ => rfl) (q_var 5 (pv 5)) (q_c (d := .int 0) pe_int (fun _ _ => rfl))) qa_nil)))))))))))))), ?body⟩)
  case len =>
    rintro ds r ⟨ns, rfl, _⟩
    rfl
  case body =>
    rintro ds r ⟨ns, rfl, hb, hl, rfl⟩
    rw [← due_is]
    refine ⟨_, rfl, ?_⟩
    refine ⟨by simp [begun], ?_⟩
    refine ⟨_, rfl, _, rfl, fun j ρ => ∃ x y, ρ = ⟨[.dat (.lst (byteD ns)), .dat (BD (bitsOf (ns.take j))), x, y, .un, .un, .un], []⟩, ⟨_, _, rfl⟩, ?_, ?_⟩
    · rintro j d ρ hj ⟨x, y, rfl⟩
      unfold byteD at hj
      rw [List.getElem?_map] at hj
      obtain ⟨n, hn, rfl⟩ := Option.map_eq_some_iff.mp hj
      obtain ⟨j1, j2⟩ := List.getElem?_eq_some_iff.mp hn
      have h6 : n < 256 := hb n (by rw [← j2]; exact List.getElem_mem _)
      refine ⟨by simp, ?_⟩
      refine ⟨_, rfl, ⟨_, rfl⟩, by simp, _, rfl, by simp, ?_⟩
      refine lc_genA (fun m : Nat => D.int (m : Nat)) (fun m => BD [n / m % 2 == 1]) eightI (fun m hm Q1 Q2 z => ⟨by simp [wipeR], iteT ?_⟩) _ ?_
      · refine ⟨eightI.map fun m => [n / m % 2 == 1], rfl, rfl, by simp [eightI], _, _, rfl, rfl, ?_, by simp, ?_⟩
        · have : (bitsOf (ns.take j)).length = 8 * (ns.take j).length := bitsOf_len fun n hn => hb n (List.mem_of_mem_take hn)
          simp [eightI]
          simp at this
          omega
        have e : (eightI.map fun m => [n / m % 2 == 1]).flatten = byteB n := by rw [byteB_is h6]; rfl
        refine ⟨.dat (.int (n : Nat)), y, congrArg (fun z => Rho.mk [.dat (.lst (byteD ns)), .dat (BD z), .dat (.int (n : Nat)), y, .un, .un, .un] []) ?_⟩
        rw [e, bitsOf, bitsOf, List.take_succ_eq_append_getElem j1, j2]
        simp
      · have m0 : 0 < m ∧ m ≤ 128 := by
          have : ∀ m ∈ eightI, 0 < m ∧ m ≤ 128 := by decide
          exact this m hm
        exact ⟨_, rfl, _, rfl, _, _, rfl, rfl, (by rw [cdiv]; omega), _, 2, rfl, rfl, (by decide : (0 : Int) < 2), (n / m % 2 == 1), congrArg (fun i => [D.int i]) (sgn_of n m), z⟩
    rintro ρ ⟨x, y, rfl⟩
    have e1 : ns.take (byteD ns).length = ns := by simp [byteD]
    rw [e1]
    have hbl : (bitsOf ns).length = 8 * ns.length := bitsOf_len hb
    have sz : ∀ {l : List Bool} {k : Nat}, l = (bitsOf ns).drop k → l.length < 800 := by
      intro l k e
      rw [e, List.length_drop]
      omega
    have st : ∀ z, dueN ns = z → D.non = (match z with | some p => D.tup [p.1.d, p.2.d] | none => D.non) → D.non = (match dueN ns with | some p => D.tup [p.1.d, p.2.d] | none => D.non) := by
      intro z e h
      rw [e]
      exact h
    refine ⟨_, rfl, _, ⟨bitsOf ns, 0, rfl, by omega, sz rfl, rfl⟩, by simp, by simp, ?_⟩
    rw [List.drop_zero]
    cases hO : readO 400 (bitsOf ns) with
    | none =>
      have du : dueN ns = none := by unfold dueN; rw [hO]
      refine ⟨_, rfl, rfl, _, rfl, iteF ?_⟩
      exact ⟨_, rfl, rfl, _, rfl, iteT (iteT (st _ du rfl))⟩
    | some p =>
      obtain ⟨od, _, j1, e1⟩ := readO_depth hO
      have os := readO_size hO
      have R1 : (bitsOf ns).drop ((bitsOf ns).length - p.2.length) = p.2 := drop_pos e1
      refine ⟨_, rfl, rfl, _, rfl, iteT ?_⟩
      refine ⟨_, rfl, _, rfl, _, 1, _, rfl, rfl, at1, _, ⟨bitsOf ns, (bitsOf ns).length - p.2.length, rfl, by omega, by omega, sz rfl, rfl⟩, by simp, ?_⟩
      rw [R1]
      cases hT : readT 400 p.2 with
      | none =>
        have du : dueN ns = none := by
          unfold dueN
          rw [hO]
          show (match readT 400 p.2 with | none => none | some q => _) = none
          rw [hT]
        exact ⟨_, rfl, rfl, _, rfl, iteT (iteT (st _ du rfl))⟩
      | some q =>
        obtain ⟨tok, td, j2, e2⟩ := readT_ok hT
        obtain ⟨c, c1, c2, c3⟩ := readT_size hT
        have du : dueN ns = if 40 ≤ p.1.depth ∨ 40 ≤ q.1.depth then none else if (p.1.isLeast && q.1.isLeast) = false then none else if packN p.1 q.1 = ns then some (p.1, q.1) else none := by
          unfold dueN
          rw [hO]
          show (match readT 400 p.2 with | none => none | some q => _) = _
          rw [hT]
        refine ⟨_, rfl, rfl, _, rfl, iteF ?_⟩
        have qo : rLDep 400 [p.1.d] (.ok (.int ((p.1.depth + 1 : Nat) : Int))) := ⟨_, .inl ⟨p.1, rfl, rfl⟩, od, rfl⟩
        have qt : rLDep 400 [q.1.d] (.ok (.int ((q.1.depth + 1 : Nat) : Int))) := ⟨_, .inr ⟨q.1, rfl, rfl⟩, td, rfl⟩
        refine ⟨_, rfl, _, 0, _, rfl, rfl, at0, _, qo, _, rfl, _, 0, _, rfl, rfl, at0, _, qt, _, _, rfl, _, 40, rfl, rfl, trivial, _, rfl, ?_⟩
        by_cases hd : 40 ≤ p.1.depth ∨ 40 ≤ q.1.depth
        · have e : decide ((40 : Int) < max ((p.1.depth + 1 : Nat) : Int) ((q.1.depth + 1 : Nat) : Int)) = true := decide_eq_true (by omega)
          rw [e]
          rw [if_pos hd] at du
          exact iteT (st _ du rfl)
        have e : decide ((40 : Int) < max ((p.1.depth + 1 : Nat) : Int) ((q.1.depth + 1 : Nat) : Int)) = false := decide_eq_false (by omega)
        rw [e]
        rw [if_neg hd] at du
        refine iteF ?_
        have ql : rLLeast 90 [p.1.d, q.1.d] (.ok (.bl (p.1.isLeast && q.1.isLeast))) := ⟨p.1, q.1, rfl, tok, by omega, by omega, by omega, rfl⟩
        refine ⟨_, rfl, _, 0, _, rfl, rfl, at0, _, rfl, _, 0, _, rfl, rfl, at0, _, ql, _, rfl, ?_⟩
        cases hl : (p.1.isLeast && q.1.isLeast) with
        | false =>
          rw [if_pos hl] at du
          exact iteT (st _ du rfl)
        | true =>
          rw [if_neg (by rw [hl]; decide)] at du
          refine iteF ?_
          have b1 : p.1.bits.length ≤ 3000 := by
            have := own_len p.1
            omega
          have b2 : q.1.bits.length ≤ 1000000 := by
            have h := told_len (k := c + 1) tok (by have : (0 : Int) < 2 ^ c := Int.pow_pos (by decide); rw [Int.pow_succ]; omega)
            have h2 : 2 * (c + 1) * q.1.size ≤ 2 * (400 + 1) * 400 := Nat.mul_le_mul (by omega) (by omega)
            omega
          refine ⟨_, rfl, _, 0, _, rfl, rfl, at0, _, ⟨p.1, rfl, by omega, by omega, by omega, rfl⟩, _, rfl, _, 0, _, rfl, rfl, at0, _, ⟨q.1, rfl, tok, by omega, by omega, rfl⟩, _, _, rfl, rfl, by omega, by simp, ?_⟩
          refine ⟨_, rfl, _, ⟨p.1.bits ++ q.1.bits, rfl, by simp; omega, rfl⟩, _, rfl, sh_bytes _, sh_bytes _, _, rfl, ?_⟩
          rw [eqv_bytes]
          show _
          by_cases hp : packN p.1 q.1 = ns
          · have e : decide (rowOf (pad8 (p.1.bits ++ q.1.bits)) = ns) = true := decide_eq_true hp
            rw [e]
            refine iteF ?_
            refine ⟨_, rfl, _, 0, _, rfl, rfl, at0, _, rfl, _, 0, _, rfl, rfl, at0, by simp, ?_⟩
            rw [if_pos hp] at du
            show D.tup [p.1.d, q.1.d] = (match dueN ns with | some p => D.tup [p.1.d, p.2.d] | none => D.non)
            rw [du]
          · have e : decide (rowOf (pad8 (p.1.bits ++ q.1.bits)) = ns) = false := decide_eq_false hp
            rw [e]
            rw [if_neg hp] at du
            exact iteT (st _ du rfl)

/-! ### the law's own: what is told -/
/-- a row otherwise -/
def bentN (ns : List Nat) (m : Int) : List Nat :=
  let i := (m / 8 % (ns.length : Nat)).toNat
  let z := (m / 64 % 256).toNat
  if m % 8 < 3 then ns.take i ++ [(Builtin.bitXor ((ns.getD i 0 : Nat) : Int) (1 * 2 ^ (m / 512 % 8).toNat)).toNat] ++ ns.drop (i + 1)
  else if m % 8 = 3 then ns.take i
  else if m % 8 = 4 then ns ++ [z % 2 * z]
  else if m % 8 = 5 then ns.take i ++ [z] ++ ns.drop i
  else if m % 8 = 6 then ns.take i ++ ns.drop (i + 1)
  else ns ++ ns
def rLTo (B C : Addr) : List D → Re → Prop := fun ds r => (rUnpack B C ds (.er B) ∧ r = .ok .non) ∨ ∃ (o : Own) (t : Told), rUnpack B C ds (.ok (stD C o t)) ∧ r = .ok (.tup [o.d, t.d])
theorem ok__law_told (Df : Dfn K mg "_law_told" (top 68) ["_law_row_here"]) (cl_Stamp : Cls K C_Stamp) (na_Stamp_told : NoAttr K C_Stamp "told") (na_Stamp_own : NoAttr K C_Stamp "own") (x_NoOwn_StampError : PySem.W.exmOne K (.ref C_NoOwn) (.ref C_StampError) = some true) (x_BadOwn_StampError : PySem.W.exmOne K (.ref C_BadOwn) (.ref C_StampError) = some true) (x_BadTold_StampError : PySem.W.exmOne K (.ref C_BadTold) (.ref C_StampError) = some true) (x_BadRow_StampError : PySem.W.exmOne K (.ref C_BadRow) (.ref C_StampError) = some true) (g_StampError : mg "StampError" = some (.ref C_StampError)) (c__law_word : Cal P w K mg base CX0 1 "_law_word" ["_law_caught"] (rWord C_BadRow)) (c_unpacked : Cal P w K mg base (L2.CX P w) 60 "unpacked" ["row"] (rUnpack C_BadRow C_Stamp)) :
    Cal P w K mg base CX0 70 "_law_told" ["_law_row_here"] (rLTo C_BadRow C_Stamp) := by
  have sc : FnScope ["_law_row_here", "_law_caught", "_law_found", "error"] ["_law_row_here"] (defScope (top 68)) := ⟨rfl, rfl, rfl, by decide +kernel, rfl, by decide +kernel, by decide +kernel⟩
  refine Df.ok sc ?len (fun y f cdv A outer s H E hr => ⟨_, (qss_cons (qs_set 1 sc.nd rfl (by first | exact Or.inl rfl | exact Or.inr rfl) (q_c (d := .non) pe_non (fun _ _ => rfl)))
      (qss_cons (qs_set 2 sc.nd rfl (by first | exact Or.inl rfl | exact Or.inr rfl) (q_c (d := .non) pe_non (fun _ _ => rfl)))
      (qss_cons (qs_keep 3 1 rfl rfl rfl sc.nd rfl rfl rfl rfl (c := .ref C_StampError) ⟨by rfl, by decide, .inl g_StampError⟩ (fun W' E' pn xe tk => (
        (qss_one (qs_set 2 sc.nd rfl (by first | exact Or.inl rfl | exact Or.inr rfl) (q_calX c_unpacked hr (by omega) (by rfl) tk (qa_cons (q_var 0 (pv 0)) qa_nil)))))))
      (qss_cons (qs_if (qt_cmp op_notN i_notN (nomark _) (q_var 1 (pv 1)) (q_c (d := .non) pe_non (fun _ _ => rfl)))
        (qss_one (qs_ret (q_if (qt_cmp (op_eqD hr.units) i_eq (nomark _) (q_cal c__law_word hr (by omega) (by rfl) (qa_cons (q_var 1 (pv 1)) qa_nil)) (q_c (d := .str _) pe_str (fun _ _ => rfl))) (q_c (d := .non) pe_non (fun _ _ => rfl)) (q_c (d := .str _) pe_str (fun _ _ => rfl)))))
        qss_nil)
      (qss_one (qs_ret (q_tup (qa_cons (q_fld cl_Stamp na_Stamp_own (q_var 2 (pv 2))) (qa_cons (q_fld cl_Stamp na_Stamp_told (q_var 2 (pv 2))) qa_nil))))))))), ?body⟩)
  case len =>
    rintro ds r (⟨⟨d, T, rfl, _⟩, _⟩ | ⟨o, t, ⟨d, T, rfl, _⟩, _⟩) <;> rfl
  case body =>
    rintro ds r h
    have hr' : ∃ v, r = .ok v := by rcases h with ⟨_, rfl⟩ | ⟨_, _, _, rfl⟩ <;> exact ⟨_, rfl⟩
    obtain ⟨v, rfl⟩ := hr'
    have hd : ∃ d, ds = [d] := by rcases h with ⟨⟨d, T, rfl, _⟩, _⟩ | ⟨o, t, ⟨d, T, rfl, _⟩, _⟩ <;> exact ⟨d, rfl⟩
    obtain ⟨d, rfl⟩ := hd
    refine ⟨_, rfl, ?_⟩
    refine ⟨by simp [begun], by simp [begun], ?_⟩
    rcases h with ⟨h, e⟩ | ⟨o, t, h, e⟩
    · cases e
      refine ⟨_, rfl, _, h, ?_⟩
      refine ⟨x_BadRow_StampError, by simp [begun], by simp [begun], ?_⟩
      refine ⟨_, rfl, rfl, _, rfl, iteT ?_⟩
      have sd : (D.str "row").Sh := by show SeqAt.shaped _ = true; decide +kernel
      have vd : (D.str "row").eqv (.str "row") = true := by decide +kernel
      refine ⟨_, rfl, _, ⟨rfl, rfl⟩, sd, sd, _, rfl, ?_⟩
      rw [vd]
      exact iteT rfl
    · cases e
      refine ⟨_, rfl, _, h, ?_⟩
      refine ⟨by simp [begun], ?_⟩
      refine ⟨_, rfl, rfl, _, rfl, iteF ?_⟩
      exact ⟨_, rfl, _, _, _, rfl, lk_own, _, rfl, _, _, _, rfl, lk_told, by simp, rfl⟩
theorem xor_byte : ∀ a < 256, ∀ k < 8, 0 ≤ Builtin.bitXor ((a : Nat) : Int) (1 * 2 ^ k) ∧ Builtin.bitXor ((a : Nat) : Int) (1 * 2 ^ k) < 256 := by decide +kernel
theorem xor_at (n : Nat) (m : Int) (h : n < 256) : 0 ≤ Builtin.bitXor (n : Int) (1 * 2 ^ (m / 512 % 8).toNat) ∧ Builtin.bitXor (n : Int) (1 * 2 ^ (m / 512 % 8).toNat) < 256 := xor_byte n h _ (by omega)
theorem byteD_app (a b : List Nat) : byteD (a ++ b) = byteD a ++ byteD b := by simp [byteD]
theorem byteD_len (a : List Nat) : (byteD a).length = a.length := by simp [byteD]
theorem byteD_take (a : List Nat) (k : Nat) : byteD (a.take k) = (byteD a).take k := by simp [byteD]
theorem byteD_drop (a : List Nat) (k : Nat) : byteD (a.drop k) = (byteD a).drop k := by simp [byteD]
theorem bent_ok {ns : List Nat} {m : Int} (hb : ∀ n ∈ ns, n < 256) (h1 : 1 ≤ ns.length) : (∀ n ∈ bentN ns m, n < 256) ∧ (bentN ns m).length ≤ 2 * ns.length + 1 := by
  have ht : ∀ k, ∀ n ∈ ns.take k, n < 256 := fun k n hn => hb n (List.mem_of_mem_take hn)
  have hd : ∀ k, ∀ n ∈ ns.drop k, n < 256 := fun k n hn => hb n (List.mem_of_mem_drop hn)
  have lt : ∀ k, (ns.take k).length ≤ ns.length := fun k => by rw [List.length_take]; omega
  have ld : ∀ k, (ns.drop k).length ≤ ns.length := fun k => by rw [List.length_drop]; omega
  have hz : (m / 64 % 256).toNat < 256 := by omega
  have app : ∀ {a b : List Nat}, (∀ n ∈ a, n < 256) → (∀ n ∈ b, n < 256) → ∀ n ∈ a ++ b, n < 256 := fun ha hb n hn => (List.mem_append.mp hn).elim (ha n) (hb n)
  have one : ∀ {z : Nat}, z < 256 → ∀ n ∈ [z], n < 256 := fun h n hn => by rw [List.mem_singleton] at hn; omega
  have hi : (m / 8 % (ns.length : Nat)).toNat < ns.length := by
    have a := Int.emod_nonneg (m / 8) (b := (ns.length : Nat)) (by omega)
    have b := Int.emod_lt_of_pos (m / 8) (b := (ns.length : Nat)) (by omega)
    omega
  unfold bentN
  simp only
  generalize (m / 8 % (ns.length : Nat)).toNat = i at *
  generalize (m / 64 % 256).toNat = z at *
  have hx := xor_at (ns.getD i 0) m (by
    rw [List.getD_eq_getElem?_getD, List.getElem?_eq_getElem hi]
    exact hb _ (List.getElem_mem _))
  have l1 := lt i
  have l2 := ld (i + 1)
  have l3 := ld i
  have l4 : (ns.take i).length = i := by rw [List.length_take]; omega
  have l5 : (ns.drop (i + 1)).length = ns.length - (i + 1) := List.length_drop
  split
  · exact ⟨app (app (ht i) (one (by omega))) (hd _), by simp; omega⟩
  split
  · exact ⟨ht i, by omega⟩
  split
  · refine ⟨app hb (one ?_), by simp; omega⟩
    have : z % 2 = 0 ∨ z % 2 = 1 := by omega
    rcases this with e | e <;> rw [e] <;> omega
  split
  · exact ⟨app (app (ht i) (one hz)) (hd _), by simp; omega⟩
  split
  · exact ⟨app (ht i) (hd _), by simp; omega⟩
  · exact ⟨app hb hb, by simp; omega⟩
def rLBent : List D → Re → Prop := fun ds r => ∃ (ns : List Nat) (m : Int), ds = [.lst (byteD ns), .int m] ∧ (∀ n ∈ ns, n < 256) ∧ 1 ≤ ns.length ∧ ns.length ≤ 200000 ∧ r = .ok (.lst (byteD (bentN ns m)))
theorem ok__law_bent (Df : Dfn K mg "_law_bent" (top 69) ["_law_row_here", "_law_mixed_here"]) (m_len : mg "len" = none) :
    Cal P w K mg base CX0 3 "_law_bent" ["_law_row_here", "_law_mixed_here"] rLBent := by
  have sc : FnScope ["_law_row_here", "_law_mixed_here", "_law_at_here", "_law_more"] ["_law_row_here", "_law_mixed_here"] (defScope (top 69)) := ⟨rfl, rfl, rfl, by decide +kernel, rfl, by decide +kernel, by decide +kernel⟩
  refine Df.ok sc ?len (fun y f cdv A outer s H E hr => ⟨_, (qss_cons (qs_set 2 sc.nd rfl (by first | exact Or.inl rfl | exact Or.inr rfl) (q_op op_mod (i_int (g' := fun i j => .int (i % j)) fun _ _ _ _ => rfl) (q_op op_fdiv (i_int (g' := fun i j => .int (i / j)) fun _ _ _ _ => rfl) (q_var 1 (pv 1)) (q_c (d := .int 8) pe_int (fun _ _ => rfl))) (q_callB call_len_seq i_len (by rfl) m_len PySem.boot_len (qa_cons (q_var 0 (pv 0)) qa_nil))))
      (qss_cons (qs_set 3 sc.nd rfl (by first | exact Or.inl rfl | exact Or.inr rfl) (q_op op_mod (i_int (g' := fun i j => .int (i % j)) fun _ _ _ _ => rfl) (q_op op_fdiv (i_int (g' := fun i j => .int (i / j)) fun _ _ _ _ => rfl) (q_var 1 (pv 1)) (q_c (d := .int 64) pe_int (fun _ _ => rfl))) (q_c (d := .int 256) pe_int (fun _ _ => rfl))))
      (qss_cons (qs_if (qt_cmp op_lt (i_int0 (g' := fun i j => .bl (decide (i < j))) fun _ _ _ _ => rfl) (nomark _) (q_op op_mod (i_int (g' := fun i j => .int (i % j)) fun _ _ _ _ => rfl) (q_var 1 (pv 1)) (q_c (d := .int 8) pe_int (fun _ _ => rfl))) (q_c (d := .int 3) pe_int (fun _ _ => rfl)))
        (qss_cons (qs_set 3 sc.nd rfl (by first | exact Or.inl rfl | exact Or.inr rfl) (q_op op_xor (i_int0 (g' := fun i j => .int (Builtin.bitXor i j)) fun _ _ _ _ => rfl) (q_ix (IxR.or ix_list ix_tup) i_ix (fun _ _ => rfl) (q_var 0 (pv 0)) (q_var 2 (pv 2))) (q_op op_shl (i_int (g' := fun i j => .int (i * 2 ^ j.toNat)) fun _ _ _ _ => rfl) (q_c (d := .int 1) pe_int (fun _ _ => rfl)) (q_op op_mod (i_int (g' := fun i j => .int (i % j)) fun _ _ _ _ => rfl) (q_op op_fdiv (i_int (g' := fun i j => .int (i / j)) fun _ _ _ _ => rfl) (q_var 1 (pv 1)) (q_c (d := .int 512) pe_int (fun _ _ => rfl))) (q_c (d := .int 8) pe_int (fun _ _ => rfl))))))
        (qss_one (qs_ret (q_op op_catR i_cat (q_op op_catR i_cat (q_slice (q_var 0 (pv 0)) qo_none (qo_some (q_var 2 (pv 2)))) (q_lst (qa_cons (q_var 3 (pv 3)) qa_nil))) (q_slice (q_var 0 (pv 0)) (qo_some (q_op op_add (i_int0 (g' := fun i j => .int (i + j)) fun _ _ _ _ => rfl) (q_var 2 (pv 2)) (q_c (d := .int 1) pe_int (fun _ _ => rfl)))) qo_none)))))
        qss_nil)
      (qss_cons (qs_if (qt_cmp (op_eqD hr.units) i_eq (nomark _) (q_op op_mod (i_int (g' := fun i j => .int (i % j)) fun _ _ _ _ => rfl) (q_var 1 (pv 1)) (q_c (d := .int 8) pe_int (fun _ _ => rfl))) (q_c (d := .int 3) pe_int (fun _ _ => rfl)))
        (qss_one (qs_ret (q_slice (q_var 0 (pv 0)) qo_none (qo_some (q_var 2 (pv 2))))))
        qss_nil)
      (qss_cons (qs_if (qt_cmp (op_eqD hr.units) i_eq (nomark _) (q_op op_mod (i_int (g' := fun i j => .int (i % j)) fun _ _ _ _ => rfl) (q_var 1 (pv 1)) (q_c (d := .int 8) pe_int (fun _ _ => rfl))) (q_c (d := .int 4) pe_int (fun _ _ => rfl)))
        (qss_one (qs_ret (q_op op_catR i_cat (q_var 0 (pv 0)) (q_lst (qa_cons (q_op op_mulI (i_int (g' := fun i j => .int (i * j)) fun _ _ _ _ => rfl) (q_op op_mod (i_int (g' := fun i j => .int (i % j)) fun _ _ _ _ => rfl) (q_var 3 (pv 3)) (q_c (d := .int 2) pe_int (fun _ _ => rfl))) (q_var 3 (pv 3))) qa_nil)))))
        qss_nil)
      (qss_cons (qs_if (qt_cmp (op_eqD hr.units) i_eq (nomark _) (q_op op_mod (i_int (g' := fun i j => .int (i % j)) fun _ _ _ _ => rfl) (q_var 1 (pv 1)) (q_c (d := .int 8) pe_int (fun _ _ => rfl))) (q_c (d := .int 5) pe_int (fun _ _ => rfl)))
        (qss_one (qs_ret (q_op op_catR i_cat (q_op op_catR i_cat (q_slice (q_var 0 (pv 0)) qo_none (qo_some (q_var 2 (pv 2)))) (q_lst (qa_cons (q_var 3 (pv 3)) qa_nil))) (q_slice (q_var 0 (pv 0)) (qo_some (q_var 2 (pv 2))) qo_none))))
        qss_nil)
      (qss_cons (qs_if (qt_cmp (op_eqD hr.units) i_eq (nomark _) (q_op op_mod (i_int (g' := fun i j => .int (i % j)) fun _ _ _ _ => rfl) (q_var 1 (pv 1)) (q_c (d := .int 8) pe_int (fun _ _ => rfl))) (q_c (d := .int 6) pe_int (fun _ _ => rfl)))
        (qss_one (qs_ret (q_op op_catR i_cat (q_slice (q_var 0 (pv 0)) qo_none (qo_some (q_var 2 (pv 2)))) (q_slice (q_var 0 (pv 0)) (qo_some (q_op op_add (i_int0 (g' := fun i j => .int (i + j)) fun _ _ _ _ => rfl) (q_var 2 (pv 2)) (q_c (d := .int 1) pe_int (fun _ _ => rfl)))) qo_none))))
        qss_nil)
      (qss_one (qs_ret (q_op op_catR i_cat (q_var 0 (pv 0)) (q_var 0 (pv 0)))))))))))), ?body⟩)
  case len =>
    rintro ds r ⟨ns, m, rfl, _⟩
    rfl
  case body =>
    rintro ds r ⟨ns, m, rfl, hb, h1, h2, rfl⟩
    refine ⟨_, rfl, ?_⟩
    have a0 := Int.emod_nonneg (m / 8) (b := (ns.length : Nat)) (by omega)
    have b0 := Int.emod_lt_of_pos (m / 8) (b := (ns.length : Nat)) (by omega)
    obtain ⟨i, ei⟩ : ∃ i : Nat, m / 8 % (ns.length : Nat) = (i : Nat) := ⟨(m / 8 % (ns.length : Nat)).toNat, by omega⟩
    have hi : i < ns.length := by omega
    obtain ⟨z, ez⟩ : ∃ z : Nat, m / 64 % 256 = (z : Nat) := ⟨(m / 64 % 256).toNat, by omega⟩
    have hz : z < 256 := by omega
    have ix : atI (byteD ns) ((i : Nat) : Int) = some (.int (ns.getD i 0 : Nat)) := by
      rw [List.getD_eq_getElem?_getD, List.getElem?_eq_getElem hi]
      unfold atI ixN
      rw [byteD_len, if_pos (by omega), if_pos (by omega)]
      simp [byteD, List.getElem?_eq_getElem hi]
    have hx := xor_at (ns.getD i 0) m (by
      rw [List.getD_eq_getElem?_getD, List.getElem?_eq_getElem hi]
      exact hb _ (List.getElem_mem _))
    have eB : bentN ns m = if m % 8 < 3 then ns.take i ++ [(Builtin.bitXor ((ns.getD i 0 : Nat) : Int) (1 * 2 ^ (m / 512 % 8).toNat)).toNat] ++ ns.drop (i + 1)
  else if m % 8 = 3 then ns.take i
  else if m % 8 = 4 then ns ++ [z % 2 * z]
  else if m % 8 = 5 then ns.take i ++ [z] ++ ns.drop i
  else if m % 8 = 6 then ns.take i ++ ns.drop (i + 1)
  else ns ++ ns := by
      unfold bentN
      simp only
      rw [ei, ez]
      rfl
    refine ⟨_, rfl, _, 8, rfl, rfl, by rw [cdiv]; decide, _, rfl, _, _, rfl, rfl, _, _, rfl, rfl, by rw [byteD_len]; omega, by simp [begun], ?_⟩
    refine ⟨_, rfl, _, 64, rfl, rfl, by rw [cdiv]; decide, _, 256, rfl, rfl, (by decide : (0 : Int) < 256), by simp [begun], ?_⟩
    dsimp only
    rw [byteD_len, ei, ez]
    have c1 : ((i : Nat) : Int) + 1 = ((i + 1 : Nat) : Int) := by omega
    have ct : cutD (byteD ns) none (some ((i : Nat) : Int)) = byteD (ns.take i) := by rw [cut_to, byteD_take]
    have cf : cutD (byteD ns) (some ((i : Nat) : Int)) none = byteD (ns.drop i) := by rw [cut_from, byteD_drop]
    have cg : cutD (byteD ns) (some (((i : Nat) : Int) + 1)) none = byteD (ns.drop (i + 1)) := by rw [c1, cut_from, byteD_drop]
    have one : ∀ n : Nat, [D.int (n : Nat)] = byteD [n] := fun n => rfl
    have l1 : (byteD (ns.take i)).length ≤ 200000 := by rw [byteD_len, List.length_take]; omega
    have l2 : (byteD (ns.drop i)).length ≤ 200000 := by rw [byteD_len, List.length_drop]; omega
    have l3 : (byteD (ns.drop (i + 1))).length ≤ 200000 := by rw [byteD_len, List.length_drop]; omega
    have l4 : (byteD ns).length ≤ 200000 := by rw [byteD_len]; omega
    refine ⟨_, rfl, _, 8, rfl, rfl, (by decide : (0 : Int) < 8), _, 3, rfl, rfl, trivial, _, rfl, ?_⟩
    by_cases t1 : m % 8 < 3
    · rw [decide_eq_true t1]
      rw [if_pos t1] at eB
      refine iteT ?_
      refine ⟨_, rfl, _, rfl, _, _, _, rfl, rfl, ix, _, rfl, _, 512, rfl, rfl, by rw [cdiv]; decide, _, 8, rfl, rfl, (by decide : (0 : Int) < 8), 1, _, rfl, rfl, ⟨by omega, by omega, by decide⟩, _, _, rfl, rfl, trivial, by simp [begun], ?_⟩
      refine ⟨_, rfl, _, rfl, _, rfl, .inl ⟨_, rfl, ?_⟩⟩
      refine ⟨_, rfl, by simp, _, _, rfl, rfl, by rw [ct]; simp; omega, _, rfl, _, rfl, _, 1, rfl, rfl, trivial, _, rfl, .inl ⟨_, rfl, _, _, rfl, rfl, by rw [ct, cg]; simp; omega, ?_⟩⟩
      show D.lst (cutD (byteD ns) none (some ((i : Nat) : Int)) ++ [D.int (Builtin.bitXor ((ns.getD i 0 : Nat) : Int) (1 * 2 ^ (m / 512 % 8).toNat))] ++ cutD (byteD ns) (some (((i : Nat) : Int) + 1)) none) = D.lst (byteD (bentN ns m))
      rw [ct, cg, eB, byteD_app, byteD_app, ← one, Int.toNat_of_nonneg hx.1]
    rw [decide_eq_false t1]
    rw [if_neg t1] at eB
    refine iteF ?_
    refine ⟨_, rfl, _, 8, rfl, rfl, (by decide : (0 : Int) < 8), sh_int _, sh_int _, (m % 8 == 3), rfl, ?_⟩
    by_cases t2 : m % 8 = 3
    · rw [beq_iff_eq.mpr t2]
      rw [if_pos t2] at eB
      refine iteT ⟨_, rfl, _, rfl, _, rfl, .inl ⟨_, rfl, ?_⟩⟩
      show D.lst (cutD (byteD ns) none (some ((i : Nat) : Int))) = D.lst (byteD (bentN ns m))
      rw [ct, eB]
    rw [beq_eq_false_iff_ne.mpr t2]
    rw [if_neg t2] at eB
    refine iteF ?_
    refine ⟨_, rfl, _, 8, rfl, rfl, (by decide : (0 : Int) < 8), sh_int _, sh_int _, (m % 8 == 4), rfl, ?_⟩
    by_cases t3 : m % 8 = 4
    · rw [beq_iff_eq.mpr t3]
      rw [if_pos t3] at eB
      refine iteT ⟨_, rfl, _, rfl, _, 2, rfl, rfl, (by decide : (0 : Int) < 2), _, rfl, ((z % 2 : Nat) : Int), (z : Nat), rfl, rfl, ?_, by simp, _, _, rfl, rfl, by simp; omega, ?_⟩
      · exact .of_left (intBits_le_64 (by omega) (by omega))
      show D.lst (byteD ns ++ [D.int (((z % 2 : Nat) : Int) * (z : Nat))]) = D.lst (byteD (bentN ns m))
      rw [eB, byteD_app, ← one, Int.natCast_mul]
    rw [beq_eq_false_iff_ne.mpr t3]
    rw [if_neg t3] at eB
    refine iteF ?_
    refine ⟨_, rfl, _, 8, rfl, rfl, (by decide : (0 : Int) < 8), sh_int _, sh_int _, (m % 8 == 5), rfl, ?_⟩
    by_cases t4 : m % 8 = 5
    · rw [beq_iff_eq.mpr t4]
      rw [if_pos t4] at eB
      refine iteT ?_
      refine ⟨_, rfl, _, rfl, _, rfl, .inl ⟨_, rfl, ?_⟩⟩
      refine ⟨_, rfl, by simp, _, _, rfl, rfl, by rw [ct]; simp; omega, _, rfl, _, rfl, _, rfl, .inl ⟨_, rfl, _, _, rfl, rfl, by rw [ct, cf]; simp; omega, ?_⟩⟩
      show D.lst (cutD (byteD ns) none (some ((i : Nat) : Int)) ++ [D.int (z : Nat)] ++ cutD (byteD ns) (some ((i : Nat) : Int)) none) = D.lst (byteD (bentN ns m))
      rw [ct, cf, eB, byteD_app, byteD_app, one]
    rw [beq_eq_false_iff_ne.mpr t4]
    rw [if_neg t4] at eB
    refine iteF ?_
    refine ⟨_, rfl, _, 8, rfl, rfl, (by decide : (0 : Int) < 8), sh_int _, sh_int _, (m % 8 == 6), rfl, ?_⟩
    by_cases t5 : m % 8 = 6
    · rw [beq_iff_eq.mpr t5]
      rw [if_pos t5] at eB
      refine iteT ?_
      refine ⟨_, rfl, _, rfl, _, rfl, .inl ⟨_, rfl, ?_⟩⟩
      refine ⟨_, rfl, _, rfl, _, 1, rfl, rfl, trivial, _, rfl, .inl ⟨_, rfl, _, _, rfl, rfl, by rw [ct, cg]; omega, ?_⟩⟩
      show D.lst (cutD (byteD ns) none (some ((i : Nat) : Int)) ++ cutD (byteD ns) (some (((i : Nat) : Int) + 1)) none) = D.lst (byteD (bentN ns m))
      rw [ct, cg, eB, byteD_app]
    rw [beq_eq_false_iff_ne.mpr t5]
    rw [if_neg t5] at eB
    refine iteF ?_
    refine ⟨_, rfl, _, rfl, _, _, rfl, rfl, by omega, ?_⟩
    show D.lst (byteD ns ++ byteD ns) = D.lst (byteD (bentN ns m))
    rw [eB, byteD_app]
/-- what is no number of eight bits -/
def oddWs : List D := [.int 256, .int (-1), .bl true, .non, .str "56", .lst [.int 56], .int (10 ^ (30 : Int).toNat)]
def oddW (m : Int) : D := oddWs.getD (m % 7).toNat .non
/-- what is no row of bytes -/
def oddRs (ns : List Nat) (m : Int) : List D := [.lst (byteD ns ++ [oddW m]), .lst ([oddW m] ++ byteD ns), .tup (byteD ns), .non, .str "8", .int 56, .dct, .lst []]
def oddD (ns : List Nat) (m : Int) : D := (oddRs ns m).getD (m / 7 % 8).toNat .non
theorem atI_getD (xs : List D) (k : Int) (h : 0 ≤ k) (h2 : k < xs.length) : atI xs k = some (xs.getD k.toNat .non) := by
  unfold atI ixN
  rw [if_pos (by omega), if_pos (by omega)]
  have : k.toNat < xs.length := by omega
  simp [List.getD_eq_getElem?_getD, List.getElem?_eq_getElem this]
def rLOdd : List D → Re → Prop := fun ds r => ∃ (ns : List Nat) (m : Int), ds = [.lst (byteD ns), .int m] ∧ (∀ n ∈ ns, n < 256) ∧ ns.length ≤ 200000 ∧ r = .ok (oddD ns m)
theorem ok__law_odd (Df : Dfn K mg "_law_odd" (top 70) ["_law_row_here", "_law_mixed_here"]) (m_tuple : mg "tuple" = none) :
    Cal P w K mg base CX0 3 "_law_odd" ["_law_row_here", "_law_mixed_here"] rLOdd := by
  have sc : FnScope ["_law_row_here", "_law_mixed_here", "_law_odd_here"] ["_law_row_here", "_law_mixed_here"] (defScope (top 70)) := ⟨rfl, rfl, rfl, by decide +kernel, rfl, by decide +kernel, by decide +kernel⟩
  refine Df.ok sc ?len (fun y f cdv A outer s H E hr => ⟨_, (qss_cons (qs_set 2 sc.nd rfl (by first | exact Or.inl rfl | exact Or.inr rfl) (q_ix (IxR.or ix_list ix_tup) i_ix (fun _ _ => rfl) (q_lst (qa_cons (q_c (d := .int 256) pe_int (fun _ _ => rfl)) (qa_cons (q_neg (q_c (d := .int 1) pe_int (fun _ _ => rfl))) (qa_cons (q_c (d := .bl true) pe_bl (fun _ _ => rfl)) (qa_cons (q_c (d := .non) pe_non (fun _ _ => rfl)) (qa_cons (q_c (d := .str _) pe_str (fun _ _ => rfl)) (qa_cons (q_lst (qa_cons (q_c (d := .int 56) pe_int (fun _ _ => rfl)) qa_nil)) (qa_cons (q_op op_pow (i_int (g' := fun i j => .int (i ^ j.toNat)) fun _ _ _ _ => rfl) (q_c (d := .int 10) pe_int (fun _ _ => rfl)) (q_c (d := .int 30) pe_int (fun _ _ => rfl))) qa_nil)))))))) (q_op op_mod (i_int (g' := fun i j => .int (i % j)) fun _ _ _ _ => rfl) (q_var 1 (pv 1)) (q_c (d := .int 7) pe_int (fun _ _ => rfl)))))
      (qss_one (qs_ret (q_ix (IxR.or ix_list ix_tup) i_ix (fun _ _ => rfl) (q_lst (qa_cons (q_op op_catR i_cat (q_var 0 (pv 0)) (q_lst (qa_cons (q_var 2 (pv 2)) qa_nil))) (qa_cons (q_op op_catR i_cat (q_lst (qa_cons (q_var 2 (pv 2)) qa_nil)) (q_var 0 (pv 0))) (qa_cons (q_callTy call_tuple_of i_tupOf (by rfl) m_tuple (by decide +kernel) (qa_cons (q_var 0 (pv 0)) qa_nil)) (qa_cons (q_c (d := .non) pe_non (fun _ _ => rfl)) (qa_cons (q_c (d := .str _) pe_str (fun _ _ => rfl)) (qa_cons (q_c (d := .int 56) pe_int (fun _ _ => rfl)) (qa_cons q_dct (qa_cons (q_lst qa_nil) qa_nil))))))))) (q_op op_mod (i_int (g' := fun i j => .int (i % j)) fun _ _ _ _ => rfl) (q_op op_fdiv (i_int (g' := fun i j => .int (i / j)) fun _ _ _ _ => rfl) (q_var 1 (pv 1)) (q_c (d := .int 7) pe_int (fun _ _ => rfl))) (q_c (d := .int 8) pe_int (fun _ _ => rfl))))))), ?body⟩)
  case len =>
    rintro ds r ⟨ns, m, rfl, _⟩
    rfl
  case body =>
    rintro ds r ⟨ns, m, rfl, hb, h2, rfl⟩
    refine ⟨_, rfl, ?_⟩
    have l4 : (byteD ns).length ≤ 200000 := by rw [byteD_len]; omega
    have a7 : atI oddWs (m % 7) = some (oddW m) := atI_getD _ _ (by omega) (by show m % 7 < 7; omega)
    have a8 : atI (oddRs ns m) (m / 7 % 8) = some (oddD ns m) := atI_getD _ _ (by omega) (by show m / 7 % 8 < 8; omega)
    refine ⟨1, rfl, by simp, 10, 30, rfl, rfl, ⟨by decide, by decide, by decide⟩, by simp, ?_⟩
    refine ⟨_, rfl, _, 7, rfl, rfl, (by decide : (0 : Int) < 7), _, _, _, rfl, rfl, a7, by simp [begun], ?_⟩
    refine ⟨_, rfl, _, rfl, by simp, _, _, rfl, rfl, by simp; omega, ?_⟩
    refine ⟨_, rfl, by simp, _, rfl, _, _, rfl, rfl, by simp; omega, ?_⟩
    refine ⟨_, rfl, _, rfl, by simp, by simp, ?_⟩
    exact ⟨_, rfl, _, 7, rfl, rfl, by rw [cdiv]; decide, _, 8, rfl, rfl, (by decide : (0 : Int) < 8), oddRs ns m, _, oddD ns m, rfl, rfl, a8, rfl⟩
theorem oddW_no (m : Int) : isByte (oddW m) = false ∧ ∃ T, (oddW m).tyS = some T := by
  have all : ∀ d ∈ oddWs, isByte d = false ∧ ∃ T, d.tyS = some T := by
    intro d hd
    simp only [oddWs, List.mem_cons, List.not_mem_nil, or_false] at hd
    rcases hd with rfl | rfl | rfl | rfl | rfl | rfl | rfl
    · exact ⟨by decide +kernel, _, rfl⟩
    · exact ⟨by decide +kernel, _, rfl⟩
    · exact ⟨by decide +kernel, _, rfl⟩
    · exact ⟨by decide +kernel, _, rfl⟩
    · exact ⟨by decide +kernel, _, rfl⟩
    · exact ⟨by decide +kernel, _, rfl⟩
    · exact ⟨by decide +kernel, _, rfl⟩
  refine all _ ?_
  unfold oddW
  have h : (m % 7).toNat < oddWs.length := by show (m % 7).toNat < 7; omega
  rw [List.getD_eq_getElem?_getD, List.getElem?_eq_getElem h]
  exact List.getElem_mem _
theorem byte_ty {ns : List Nat} : ∀ x ∈ byteD ns, ∃ T, x.tyS = some T := by
  intro x hx
  obtain ⟨n, _, rfl⟩ := List.mem_map.mp hx
  exact ⟨_, rfl⟩
theorem unpackN_nil : unpackN [] = none := by unfold unpackN; rfl
theorem odd_bad {B C : Addr} (ns : List Nat) (m : Int) (h2 : ns.length ≤ 200000) : rUnpack B C [oddD ns m] (.er B) := by
  obtain ⟨w1, w2⟩ := oddW_no m
  have noW : ∀ xs : List D, oddW m ∈ xs → ¬ ∃ ns', D.lst xs = .lst (byteD ns') ∧ ∀ n ∈ ns', n < 256 := by
    rintro xs hx ⟨ns', e, hb⟩
    cases e
    have := List.all_eq_true.mp (bytes_all hb) _ hx
    rw [w1] at this
    cases this
  have all : ∀ d ∈ oddRs ns m, rUnpack B C [d] (.er B) := by
    intro d hd
    simp only [oddRs, List.mem_cons, List.not_mem_nil, or_false] at hd
    rcases hd with rfl | rfl | rfl | rfl | rfl | rfl | rfl | rfl
    · refine ⟨_, "list", rfl, rfl, fun xs e x hx => ?_, .inl ⟨noW _ (by simp), rfl⟩⟩
      cases e
      rcases List.mem_append.mp hx with h | h
      · exact byte_ty x h
      · rw [List.mem_singleton] at h
        rw [h]
        exact w2
    · refine ⟨_, "list", rfl, rfl, fun xs e x hx => ?_, .inl ⟨noW _ (by simp), rfl⟩⟩
      cases e
      rcases List.mem_append.mp hx with h | h
      · rw [List.mem_singleton] at h
        rw [h]
        exact w2
      · exact byte_ty x h
    · exact ⟨_, "tuple", rfl, rfl, fun xs e => (by cases e), .inl ⟨(by rintro ⟨_, e, _⟩; cases e), rfl⟩⟩
    · exact ⟨_, "NoneType", rfl, rfl, fun xs e => (by cases e), .inl ⟨(by rintro ⟨_, e, _⟩; cases e), rfl⟩⟩
    · exact ⟨_, "str", rfl, rfl, fun xs e => (by cases e), .inl ⟨(by rintro ⟨_, e, _⟩; cases e), rfl⟩⟩
    · exact ⟨_, "int", rfl, rfl, fun xs e => (by cases e), .inl ⟨(by rintro ⟨_, e, _⟩; cases e), rfl⟩⟩
    · exact ⟨_, "dict", rfl, rfl, fun xs e => (by cases e), .inl ⟨(by rintro ⟨_, e, _⟩; cases e), rfl⟩⟩
    · exact ⟨_, "list", rfl, rfl, fun xs e => (by cases e; simp), .inr ⟨[], rfl, by simp, by simp, .inl (by simp), by rw [unpackN_nil]⟩⟩
  refine all _ ?_
  unfold oddD
  have h : (m / 7 % 8).toNat < (oddRs ns m).length := by show (m / 7 % 8).toNat < 8; omega
  rw [List.getD_eq_getElem?_getD, List.getElem?_eq_getElem h]
  exact List.getElem_mem _

/-! ### the law's own: chains -/
theorem bits_n0 : (Told.n 0).bits = [true, true] := by
  have e : nB (Int.toNat 0 + 1) = [true] := by rw [nB_small (by decide)]; rfl
  unfold Told.bits nmB
  rw [e]
  rfl
def chains (d : Nat) : List (Own × Told) := [(cR (d - 1), .n 0), (cL (d - 1), .n 0), (cB (d - 2), .n 0), (.lf true, tR (d - 1)), (.lf true, tL (d - 1))]
def chB (p : Own × Told) : List Bool := p.1.bits ++ p.2.bits
def rLCh : List D → Re → Prop := fun ds r => ∃ d : Nat, ds = [.int d] ∧ 2 ≤ d ∧ d ≤ 60 ∧ r = .ok (.lst ((chains d).map fun p => BD (chB p)))
theorem ok__law_chains (Df : Dfn K mg "_law_chains" (top 71) ["_law_deep"]) :
    Cal P w K mg base CX0 3 "_law_chains" ["_law_deep"] rLCh := by
  have sc : FnScope ["_law_deep", "_law_owns", "_law_tolds", "_law_own_here", "_law_told_here"] ["_law_deep"] (defScope (top 71)) := ⟨rfl, rfl, rfl, by decide +kernel, rfl, by decide +kernel, by decide +kernel⟩
  refine Df.ok sc ?len (fun y f cdv A outer s H E hr => ⟨_, (qss_cons (qs_set 1 sc.nd rfl (by first | exact Or.inl rfl | exact Or.inr rfl) (q_lst (qa_cons (q_op op_add_str i_addB (q_op op_repS i_repB (q_bits (l := [false, true]) (by decide +kernel)) (q_op op_sub (i_int0 (g' := fun i j => .int (i - j)) fun _ _ _ _ => rfl) (q_var 0 (pv 0)) (q_c (d := .int 1) pe_int (fun _ _ => rfl)))) (q_bits (l := [false, false, true]) (by decide +kernel))) (qa_cons (q_op op_add_str i_addB (q_op op_repS i_repB (q_bits (l := [true, false]) (by decide +kernel)) (q_op op_sub (i_int0 (g' := fun i j => .int (i - j)) fun _ _ _ _ => rfl) (q_var 0 (pv 0)) (q_c (d := .int 1) pe_int (fun _ _ => rfl)))) (q_bits (l := [false, false, true]) (by decide +kernel))) (qa_cons (q_op op_add_str i_addB (q_op op_repS i_repB (q_bits (l := [true, true, false, false, true]) (by decide +kernel)) (q_op op_sub (i_int0 (g' := fun i j => .int (i - j)) fun _ _ _ _ => rfl) (q_var 0 (pv 0)) (q_c (d := .int 2) pe_int (fun _ _ => rfl)))) (q_bits (l := [true, false, false, false, true]) (by decide +kernel))) qa_nil)))))
      (qss_cons (qs_set 2 sc.nd rfl (by first | exact Or.inl rfl | exact Or.inr rfl) (q_lst (qa_cons (q_op op_add_str i_addB (q_op op_repS i_repB (q_bits (l := [false, true, true, true]) (by decide +kernel)) (q_op op_sub (i_int0 (g' := fun i j => .int (i - j)) fun _ _ _ _ => rfl) (q_var 0 (pv 0)) (q_c (d := .int 1) pe_int (fun _ _ => rfl)))) (q_bits (l := [true, false, true, false]) (by decide +kernel))) (qa_cons (q_op op_add_str i_addB (q_op op_add_str i_addB (q_op op_repS i_repB (q_bits (l := [false, true]) (by decide +kernel)) (q_op op_sub (i_int0 (g' := fun i j => .int (i - j)) fun _ _ _ _ => rfl) (q_var 0 (pv 0)) (q_c (d := .int 1) pe_int (fun _ _ => rfl)))) (q_bits (l := [true, false, true, false]) (by decide +kernel))) (q_op op_repS i_repB (q_bits (l := [true, true]) (by decide +kernel)) (q_op op_sub (i_int0 (g' := fun i j => .int (i - j)) fun _ _ _ _ => rfl) (q_var 0 (pv 0)) (q_c (d := .int 1) pe_int (fun _ _ => rfl))))) qa_nil))))
      (qss_one (qs_ret (q_op op_catR i_cat (q_lc [("_law_own_here", 3)] rfl sc.nd (qi_list (q_var 1 (pv 1))) (blkOk_by (N := ["_law_deep", "_law_owns", "_law_tolds", "_law_own_here", "_law_told_here"]) (sc := defScope (top 71)) (by decide +kernel)) (fun _ _ _ _ _ => (qgw_name 3 (by decide) sc.nd rfl (Or.inl rfl))) (fun _ _ _ _ _ => qts_nil) (fun _ _ _ _ _ => (q_op op_add_str i_addB (q_var 3 (pv 3)) (q_bits (l := [true, true]) (by decide +kernel))))) (q_lc [("_law_told_here", 4)] rfl sc.nd (qi_list (q_var 2 (pv 2))) (blkOk_by (N := ["_law_deep", "_law_owns", "_law_tolds", "_law_own_here", "_law_told_here"]) (sc := defScope (top 71)) (by decide +kernel)) (fun _ _ _ _ _ => (qgw_name 4 (by decide) sc.nd rfl (Or.inl rfl))) (fun _ _ _ _ _ => qts_nil) (fun _ _ _ _ _ => (q_op op_add_str i_addB (q_bits (l := [false, false, true]) (by decide +kernel)) (q_var 4 (pv 4)))))))))), ?body⟩)
  case len =>
    rintro ds r ⟨d, rfl, _⟩
    rfl
  case body =>
    rintro ds r ⟨d, rfl, h1, h2, rfl⟩
    refine ⟨_, rfl, ?_⟩
    have k1 : ((d : Int) - 1).toNat = d - 1 := by omega
    have k2 : ((d : Int) - 2).toNat = d - 2 := by omega
    have R : ∀ (k : Nat) (l : List Bool), ((List.replicate k l).flatten).length = k * l.length := reps_len
    refine ⟨_, rfl, _, 1, rfl, rfl, trivial, _, _, rfl, rfl, by omega, by omega, by simp; omega, _, _, rfl, rfl, by rw [R]; simp; omega, ?_⟩
    refine ⟨_, rfl, _, 1, rfl, rfl, trivial, _, _, rfl, rfl, by omega, by omega, by simp; omega, _, _, rfl, rfl, by rw [R]; simp; omega, ?_⟩
    refine ⟨_, rfl, _, 2, rfl, rfl, trivial, _, _, rfl, rfl, by omega, by omega, by simp; omega, _, _, rfl, rfl, by rw [R]; simp; omega, by simp, by simp [begun], ?_⟩
    refine ⟨_, rfl, _, 1, rfl, rfl, trivial, _, _, rfl, rfl, by omega, by omega, by simp; omega, _, _, rfl, rfl, by rw [R]; simp; omega, ?_⟩
    refine ⟨_, rfl, _, 1, rfl, rfl, trivial, _, _, rfl, rfl, by omega, by omega, by simp; omega, _, _, rfl, rfl, by rw [R]; simp; omega, ?_⟩
    refine ⟨_, rfl, _, 1, rfl, rfl, trivial, _, _, rfl, rfl, by omega, by omega, by simp; omega, _, _, rfl, rfl, by rw [List.length_append, R, R]; simp; omega, by simp, by simp [begun], ?_⟩
    rw [k1, k2]
    refine ⟨_, rfl, _, rfl, by simp, ?_⟩
    refine lc_genA (fun l : List Bool => BD l) (fun l => BD (l ++ [true, true])) [reps (d - 1) [false, true] ++ [false, false, true], reps (d - 1) [true, false] ++ [false, false, true], reps (d - 2) [true, true, false, false, true] ++ [true, false, false, false, true]] (fun l hl Q1 Q2 z => ⟨by simp [begun, wipeR], iteT ⟨_, rfl, _, _, rfl, rfl, ?_, z⟩⟩) _ ?_
    · refine ⟨_, rfl, _, rfl, by simp, ?_⟩
      refine lc_genA (fun l : List Bool => BD l) (fun l => BD ([false, false, true] ++ l)) [reps (d - 1) [false, true, true, true] ++ [true, false, true, false], reps (d - 1) [false, true] ++ [true, false, true, false] ++ reps (d - 1) [true, true]] (fun l hl Q1 Q2 z => ⟨by simp [begun, wipeR], iteT ⟨_, rfl, _, _, rfl, rfl, ?_, z⟩⟩) _ ?_
      · refine ⟨_, _, rfl, rfl, by simp, ?_⟩
        show D.lst _ = D.lst _
        simp only [chains, chB, List.map_cons, List.map_nil, bits_n0, cR_bits, cL_bits, cB_bits, tR_bits, tL_bits]
        rfl
      · simp only [List.mem_cons, List.not_mem_nil, or_false] at hl
        rcases hl with rfl | rfl
        · have := reps_len (d - 1) [false, true, true, true]
          simp at this ⊢
          omega
        · have := reps_len (d - 1) [false, true]
          have := reps_len (d - 1) [true, true]
          simp at *
          omega
    · simp only [List.mem_cons, List.not_mem_nil, or_false] at hl
      rcases hl with rfl | rfl | rfl
      · have := reps_len (d - 1) [false, true]
        simp at this ⊢
        omega
      · have := reps_len (d - 1) [true, false]
        simp at this ⊢
        omega
      · have := reps_len (d - 2) [true, true, false, false, true]
        simp at this ⊢
        omega
def rLAt : List D → Re → Prop := fun ds r => ∃ (ns : List Int), ds = [.lst (iL ns), .int 0] ∧ ns.length ≤ 63 ∧ r = .ok (.int (ns.getD 0 0))
theorem ok__law_at (Df : Dfn K mg "_law_at" (top 49) ["_law_script", "_law_k"]) (m_len : mg "len" = none) :
    Cal P w K mg base CX0 2 "_law_at" ["_law_script", "_law_k"] rLAt := by
  have sc : FnScope ["_law_script", "_law_k"] ["_law_script", "_law_k"] (defScope (top 49)) := ⟨rfl, rfl, rfl, by decide +kernel, rfl, by decide +kernel, by decide +kernel⟩
  refine Df.ok sc ?len (fun y f cdv A outer s H E hr => ⟨_, (qss_cons (qs_if (qt_cmp op_lt (i_int0 (g' := fun i j => .bl (decide (i < j))) fun _ _ _ _ => rfl) (nomark _) (q_var 1 (pv 1)) (q_callB call_len_seq i_len (by rfl) m_len PySem.boot_len (qa_cons (q_var 0 (pv 0)) qa_nil)))
        (qss_one (qs_ret (q_ix (IxR.or ix_list ix_tup) i_ix (fun _ _ => rfl) (q_var 0 (pv 0)) (q_var 1 (pv 1)))))
        qss_nil)
      (qss_one (qs_ret (q_c (d := .int 0) pe_int (fun _ _ => rfl))))), ?body⟩)
  case len =>
    rintro ds r ⟨ns, rfl, _⟩
    rfl
  case body =>
    rintro ds r ⟨ns, rfl, _, rfl⟩
    refine ⟨_, rfl, ?_⟩
    cases ns with
    | nil => exact ⟨_, rfl, _, rfl, _, _, rfl, rfl, _, _, rfl, rfl, trivial, _, rfl, iteF rfl⟩
    | cons h t =>
      have e : decide ((0 : Int) < ((iL (h :: t)).length : Nat)) = true := decide_eq_true (by rw [iL_len]; simp)
      refine ⟨_, rfl, _, rfl, _, _, rfl, rfl, _, _, rfl, rfl, trivial, _, rfl, ?_⟩
      rw [e]
      exact iteT ⟨_, rfl, _, rfl, _, 0, _, rfl, rfl, at0, rfl⟩

/-! ### the law -/
theorem iteF_of {c : Bool} {A B : Prop} (h : c = false) (b : B) : if c = true then A else B := by rw [h]; exact iteF b
theorem st_sh {o : Own} {t : Told} (ho : o.depth ≤ 39) (ht : t.depth ≤ 39) : (D.tup [o.d, t.d]).Sh := by
  show SeqAt.shaped (.tuple [o.d.py, t.d.py]) = true
  unfold SeqAt.shaped
  simp [PyData.canLay0, PyData.canLayAll0, PyData.depth, PyData.depthAll, Own.lay, Told.lay, Own.pdepth, Told.pdepth]
  omega
theorem st_eqv (o : Own) (t : Told) : (D.tup [o.d, t.d]).eqv (.tup [o.d, t.d]) = true := by
  have h1 := Own.eqv_d o o
  have h2 := Told.eqv_d t t
  simp only [D.eqv] at h1 h2
  show PyData.eqv (.tuple [o.d.py, t.d.py]) (.tuple [o.d.py, t.d.py]) = true
  simp [PyData.eqv, PyData.eqvAll, h1, h2]
theorem amt_lt (c m : Int) : amt c m < 10 ^ 60 := by
  unfold amt
  split
  · omega
  · exact Int.emod_lt_of_pos _ (by decide)
theorem treef_top : ∀ (k : Nat) (c m : Int), (treef k c m).top < (k + 1) * 10 ^ 60
  | 0, c, m => by
    have h := amt_lt c m
    simp only [treef, Told.top]
    omega
  | k + 1, c, m => by
    have h := amt_lt c m
    have h1 := treef_top k c (m / 5 * 16807 % 1000003)
    have h2 := treef_top k (c / 3) (m / 5 * 48271 % 1000033)
    have h3 := amt_nn c m
    rw [treef]
    split
    · simp only [Told.top]
      have : (0 : Int) ≤ (k : Int) * 10 ^ 60 := Int.mul_nonneg (by omega) (by decide)
      push_cast
      rw [Int.add_mul, Int.add_mul]
      omega
    · simp only [Told.top]
      push_cast
      rw [Int.add_mul]
      omega
/-- a stamp as the law makes them -/
structure Good (o : Own) (t : Told) : Prop where
  od : o.depth ≤ 5
  ol : o.isLeast = true
  os : o.size < 64
  td : t.depth ≤ 5
  ok : t.ok
  tl : t.isLeast = true
  ts : t.size < 64
  tt : t.top + 1 < 2 ^ 250
theorem good_of (mx c m2 : Int) : Good (ownf 3 mx).least (treef 3 c m2).least := by
  obtain ⟨a1, a2, a3⟩ := treef_ok 3 c m2
  have b1 := ownf_depth 3 mx
  have b2 := ownf_size 3 mx
  have c1 := Own.least_depth (ownf 3 mx)
  have c2 := Own.least_size (ownf 3 mx)
  have d1 := Told.least_depth (treef 3 c m2)
  have d2 := Told.least_size (treef 3 c m2)
  have e1 := treef_top 3 c m2
  refine ⟨by omega, Own.least_isLeast _, by omega, by omega, Told.least_ok a1, Told.least_isLeast _, by omega, ?_⟩
  rw [Told.least_top]
  have : ((3 : Nat) + 1 : Int) * 10 ^ 60 + 1 < 2 ^ 250 := by decide +kernel
  omega
theorem Good.ob {o : Own} {t : Told} (g : Good o t) : o.bits.length ≤ 1000 := by
  have := own_len o
  have := g.os
  omega
theorem Good.tb {o : Own} {t : Told} (g : Good o t) : t.bits.length ≤ 40000 := by
  have h := told_len (k := 250) g.ok g.tt
  have : 2 * 250 * t.size ≤ 2 * 250 * 64 := Nat.mul_le_mul_left _ (Nat.le_of_lt g.ts)
  omega
theorem Good.len {o : Own} {t : Told} (g : Good o t) : (packN o t).length ≤ 10000 := by
  have h1 := g.ob
  have h2 := g.tb
  have h3 := (pad8_len (o.bits ++ t.bits)).2
  unfold packN
  rw [rowOf_len]
  simp at h3
  omega
theorem bits_ne (o : Own) : 1 ≤ o.bits.length := by
  cases o with
  | lf b => simp [Own.bits]
  | nd l r =>
    rw [Own.bits]
    split
    · simp
    · split <;> simp
theorem pack_ne (o : Own) (t : Told) : 1 ≤ (packN o t).length := by
  have h1 := bits_ne o
  have h3 := (pad8_len (o.bits ++ t.bits)).1
  have h4 : (o.bits ++ t.bits).length ≤ (pad8 (o.bits ++ t.bits)).length := by simp [pad8]
  rw [List.length_append] at h4
  unfold packN
  rw [rowOf_len]
  omega
theorem unpackN_depth {ns : List Nat} {p : Own × Told} (h : unpackN ns = some p) : p.1.depth < 40 ∧ p.2.depth < 40 := by
  unfold unpackN at h
  obtain ⟨x, h1, h⟩ := Option.bind_eq_some_iff.mp h
  obtain ⟨y, h2, h⟩ := Option.bind_eq_some_iff.mp h
  split at h
  · cases h
    have a1 := (readO_depth h1).1
    have a2 := (readT_ok h2).2.1
    have b1 := Own.least_depth x.1
    have b2 := Told.least_depth y.1
    exact ⟨by show x.1.least.depth < 40; omega, by show y.1.least.depth < 40; omega⟩
  · cases h
theorem told_of {B C : Addr} {ns : List Nat} (hb : ∀ n ∈ ns, n < 256) (hl : ns.length ≤ 150) : rUnpack B C [.lst (byteD ns)] (match unpackN ns with | some p => .ok (stD C p.1 p.2) | none => .er B) :=
  ⟨_, "list", rfl, rfl, fun xs e x hx => by cases e; exact byte_ty x hx, .inr ⟨ns, rfl, hb, by omega, .inl hl, rfl⟩⟩
theorem told_is {B C : Addr} {ns : List Nat} (hb : ∀ n ∈ ns, n < 256) (hl : ns.length ≤ 150) : rLTo B C [.lst (byteD ns)] (.ok (match unpackN ns with | some p => .tup [p.1.d, p.2.d] | none => .non)) := by
  have h := told_of (B := B) (C := C) hb hl
  cases e : unpackN ns with
  | none =>
    rw [e] at h
    exact .inl ⟨h, rfl⟩
  | some p =>
    rw [e] at h
    exact .inr ⟨p.1, p.2, h, rfl⟩
theorem due_sh (ns : List Nat) : (match unpackN ns with | some p => D.tup [p.1.d, p.2.d] | none => D.non).Sh := by
  cases e : unpackN ns with
  | none => rfl
  | some p =>
    obtain ⟨h1, h2⟩ := unpackN_depth e
    exact st_sh (by omega) (by omega)
theorem due_eqv (ns : List Nat) : (match unpackN ns with | some p => D.tup [p.1.d, p.2.d] | none => D.non).eqv (match unpackN ns with | some p => D.tup [p.1.d, p.2.d] | none => D.non) = true := by
  cases e : unpackN ns with
  | none => rfl
  | some p => exact st_eqv p.1 p.2
theorem bytes_self (ns : List Nat) : (!(D.lst (byteD ns)).eqv (.lst (byteD ns))) = false := by rw [eqv_bytes, decide_eq_true rfl]; rfl
theorem chain_ok {d : Nat} (h1 : 2 ≤ d) (h2 : d ≤ 60) : ∀ p ∈ chains d, p.1.isLeast = true ∧ p.2.ok ∧ p.2.isLeast = true ∧ (d ≤ 40 → p.1.depth < 40 ∧ p.2.depth < 40) ∧ (40 < d → 40 ≤ p.1.depth ∨ 40 ≤ p.2.depth) ∧ (p.1.depth < 400 ∧ p.2.depth < 400) ∧ p.1.bits.length ≤ 500 ∧ p.2.bits.length ≤ 500 := by
  intro p hp
  have ok0 : (Told.n 0).ok := by show (0 : Int) ≤ 0; decide
  have n0 : (Told.n 0).bits.length = 2 := by rw [bits_n0]; rfl
  have z0 : (Told.n 0).depth < 40 := by decide
  have z1 : (Told.n 0).depth < 400 := by decide
  have y0 : (Own.lf true).depth < 40 := by decide
  have y1 : (Own.lf true).depth < 400 := by decide
  have y2 : (Own.lf true).bits.length ≤ 500 := by decide
  simp only [chains, List.mem_cons, List.not_mem_nil, or_false] at hp
  rcases hp with rfl | rfl | rfl | rfl | rfl
  · obtain ⟨a, b⟩ := cR_depth (d - 1)
    have z : (cR (d - 1)).bits.length ≤ 500 := by rw [cR_bits, List.length_append, reps_len]; simp; omega
    refine ⟨b, ok0, rfl, fun h => ⟨?_, z0⟩, fun h => .inl ?_, ⟨?_, z1⟩, z, ?_⟩ <;> simp only <;> omega
  · obtain ⟨a, b⟩ := cL_depth (d - 1)
    have z : (cL (d - 1)).bits.length ≤ 500 := by rw [cL_bits, List.length_append, reps_len]; simp; omega
    refine ⟨b, ok0, rfl, fun h => ⟨?_, z0⟩, fun h => .inl ?_, ⟨?_, z1⟩, z, ?_⟩ <;> simp only <;> omega
  · obtain ⟨a, b⟩ := cB_depth (d - 2)
    have z : (cB (d - 2)).bits.length ≤ 500 := by rw [cB_bits, List.length_append, reps_len]; simp; omega
    refine ⟨b, ok0, rfl, fun h => ⟨?_, z0⟩, fun h => .inl ?_, ⟨?_, z1⟩, z, ?_⟩ <;> simp only <;> omega
  · obtain ⟨a, b, c⟩ := tR_ok (d - 1)
    have z : (tR (d - 1)).bits.length ≤ 500 := by rw [tR_bits, List.length_append, reps_len]; simp; omega
    refine ⟨rfl, c, b, fun h => ⟨y0, ?_⟩, fun h => .inr ?_, ⟨y1, ?_⟩, y2, z⟩ <;> simp only <;> omega
  · obtain ⟨a, b, c⟩ := tL_ok (d - 1)
    have z : (tL (d - 1)).bits.length ≤ 500 := by rw [tL_bits, List.length_append, List.length_append, reps_len, reps_len]; simp; omega
    refine ⟨rfl, c, b, fun h => ⟨y0, ?_⟩, fun h => .inr ?_, ⟨y1, ?_⟩, y2, z⟩ <;> simp only <;> omega
theorem ok_law {e : Addr} {ed : FuncData} (Fn : Fun K "law" "law" (top 72) e ed) (m_enumerate : mg "enumerate" = none) (m_len : mg "len" = none) (m_list : mg "list" = none) (m_range : mg "range" = none) (c__law_chains : Cal P w K mg base CX0 3 "_law_chains" ["_law_deep"] rLCh) (c_packed : CalS P w K mg base CX0 46 "packed" ["stamp"] (spL K (rPackL C_Stamp))) (c_unpacked : Cal P w K mg base (L2.CX P w) 60 "unpacked" ["row"] (rUnpack C_BadRow C_Stamp)) (c__law_told : Cal P w K mg base CX0 70 "_law_told" ["_law_row_here"] (rLTo C_BadRow C_Stamp)) (c__law_row : Cal P w K mg base CX0 2 "_law_row" ["_law_bits"] rLRow) (c__law_mixed : Cal P w K mg base CX0 1 "_law_mixed" ["_law_cell", "_law_k"] rMixed) (c__law_at : Cal P w K mg base CX0 2 "_law_at" ["_law_script", "_law_k"] rLAt) (c__law_odd : Cal P w K mg base CX0 3 "_law_odd" ["_law_row_here", "_law_mixed_here"] rLOdd) (c__law_due : Cal P w K mg base CX0 160 "_law_due" ["_law_row_here"] rLDue) (c__law_bent : Cal P w K mg base CX0 3 "_law_bent" ["_law_row_here", "_law_mixed_here"] rLBent) (c_Stamp : MkdS P w K mg base (L2.CX P w) 44 C_Stamp "Stamp" ["self", "own", "told"] [V.int 1, V.int 0] (spG K (rInit C_BadOwn C_BadTold C_Stamp))) (c__law_own : Cal P w K mg base CX0 (0 + 6) "_law_own" ["_law_number", "_law_deep"] (rOwn 6)) (c__law_tree : Cal P w K mg base CX0 (0 + 6) "_law_tree" ["_law_cell", "_law_number", "_law_deep"] (rTree 6)) :
    FnOk P w K mg base CX0 200 e ed ["_law_script"] (spD K rLaw) := by
  have sc : FnScope ["_law_script", "_law_k", "_law_cell", "_law_mixed_here", "_law_great", "_law_tree_here", "_law_stamp", "_law_row_here", "_law_turn", "_law_handed", "_law_number", "_law_deep", "_law_bits"] ["_law_script"] (defScope (top 72)) := ⟨rfl, rfl, rfl, by decide +kernel, rfl, by decide +kernel, by decide +kernel⟩
  refine okD Fn sc ?len (fun cdv A outer s H E hr => ⟨_, (qss_cons (qs_for PassesOwn.never rfl (qi_enum (by rfl) m_enumerate (q_op op_catR i_cat (q_var 0 (pv 0)) (q_lst (qa_cons (q_c (d := .int 5) pe_int (fun _ _ => rfl)) qa_nil)))) (qg_tup (n := 2) rfl (qgs_cons (qg_name 1 sc.nd rfl (Or.inl rfl)) (qgs_cons (qg_name 2 sc.nd rfl (Or.inl rfl)) qgs_nil)))
        (qss_cons (qs_set 3 sc.nd rfl (by first | exact Or.inl rfl | exact Or.inr rfl) (q_cal c__law_mixed hr (by omega) (by rfl) (qa_cons (q_var 2 (pv 2)) (qa_cons (q_op op_mod (i_int (g' := fun i j => .int (i % j)) fun _ _ _ _ => rfl) (q_var 1 (pv 1)) (q_c (d := .int 64) pe_int (fun _ _ => rfl))) qa_nil))))
        (qss_cons (qs_set 4 sc.nd rfl (by first | exact Or.inl rfl | exact Or.inr rfl) (q_ix (IxR.or ix_list ix_tup) i_ix (fun _ _ => rfl) (q_lst (qa_cons (q_op op_mod (i_int (g' := fun i j => .int (i % j)) fun _ _ _ _ => rfl) (q_var 2 (pv 2)) (q_c (d := .int 999) pe_int (fun _ _ => rfl))) (qa_cons (q_op op_mod (i_int (g' := fun i j => .int (i % j)) fun _ _ _ _ => rfl) (q_var 2 (pv 2)) (q_c (d := .int 999) pe_int (fun _ _ => rfl))) (qa_cons (q_op op_mod (i_int (g' := fun i j => .int (i % j)) fun _ _ _ _ => rfl) (q_var 2 (pv 2)) (q_c (d := .int 999) pe_int (fun _ _ => rfl))) (qa_cons (q_var 2 (pv 2)) qa_nil))))) (q_op op_mod (i_int (g' := fun i j => .int (i % j)) fun _ _ _ _ => rfl) (q_op op_fdiv (i_int (g' := fun i j => .int (i / j)) fun _ _ _ _ => rfl) (q_var 3 (pv 3)) (q_c (d := .int 11) pe_int (fun _ _ => rfl))) (q_c (d := .int 4) pe_int (fun _ _ => rfl)))))
        (qss_cons (qs_set 5 sc.nd rfl (by first | exact Or.inl rfl | exact Or.inr rfl) (q_cal c__law_tree hr (by omega) (by rfl) (qa_cons (q_var 4 (pv 4)) (qa_cons (q_cal c__law_mixed hr (by omega) (by rfl) (qa_cons (q_var 2 (pv 2)) (qa_cons (q_op op_add (i_int0 (g' := fun i j => .int (i + j)) fun _ _ _ _ => rfl) (q_c (d := .int 64) pe_int (fun _ _ => rfl)) (q_op op_mod (i_int (g' := fun i j => .int (i % j)) fun _ _ _ _ => rfl) (q_var 1 (pv 1)) (q_c (d := .int 64) pe_int (fun _ _ => rfl)))) qa_nil))) (qa_cons (q_c (d := .int 3) pe_int (fun _ _ => rfl)) qa_nil)))))
        (qss_cons (qs_set 6 sc.nd rfl (by first | exact Or.inl rfl | exact Or.inr rfl) (q_mkd [] 2 c_Stamp hr (by omega) (by rfl) (fun σ => passAt takes0 σ) (by decide) (fun _ _ => rfl) (qa_cons (q_cal c__law_own hr (by omega) (by rfl) (qa_cons (q_var 3 (pv 3)) (qa_cons (q_c (d := .int 3) pe_int (fun _ _ => rfl)) qa_nil))) (qa_cons (q_var 5 (pv 5)) qa_nil))))
        (qss_cons (qs_set 7 sc.nd rfl (by first | exact Or.inl rfl | exact Or.inr rfl) (q_cal c__law_bent hr (by omega) (by rfl) (qa_cons (q_ofL (ql_cal c_packed hr (by omega) (by rfl) pas0 (qa_cons (q_var 6 (pv 6)) qa_nil))) (qa_cons (q_op op_fdiv (i_int (g' := fun i j => .int (i / j)) fun _ _ _ _ => rfl) (q_var 3 (pv 3)) (q_c (d := .int 3) pe_int (fun _ _ => rfl))) qa_nil))))
        (qss_cons (qs_for PassesOwn.never rfl (qi_range1 (by rfl) m_range (q_c (d := .int 2) pe_int (fun _ _ => rfl))) (qg_name 8 sc.nd rfl (Or.inl rfl))
          (qss_cons (qs_set 9 sc.nd rfl (by first | exact Or.inl rfl | exact Or.inr rfl) (q_callTy call_list_of i_listOf (by rfl) m_list (by decide +kernel) (qa_cons (q_var 7 (pv 7)) qa_nil)))
          (qss_one (qs_if (qt_w (qw_and (qt_cmp op_lt (i_int0 (g' := fun i j => .bl (decide (i < j))) fun _ _ _ _ => rfl) (nomark _) (q_callB call_len_seq i_len (by rfl) m_len PySem.boot_len (qa_cons (q_var 7 (pv 7)) qa_nil)) (q_c (d := .int 90) pe_int (fun _ _ => rfl))) (qw_and1 (qt_w (qw_or (qt_cmp (op_neD hr.units) i_ne (nomark _) (q_cal c__law_told hr (by omega) (by rfl) (qa_cons (q_var 9 (pv 9)) qa_nil)) (q_cal c__law_due hr (by omega) (by rfl) (qa_cons (q_var 7 (pv 7)) qa_nil))) (qw_or1 (qt_cmp (op_neD hr.units) i_ne (nomark _) (q_var 9 (pv 9)) (q_var 7 (pv 7)))))))))
            (qss_one (qs_ret (q_c (d := .bl false) pe_bl (fun _ _ => rfl))))
            qss_nil))))
        (qss_one (qs_if (qt_cmp op_notN i_notN (nomark _) (q_cal c__law_told hr (by omega) (by rfl) (qa_cons (q_cal c__law_odd hr (by omega) (by rfl) (qa_cons (q_ofL (ql_cal c_packed hr (by omega) (by rfl) pas0 (qa_cons (q_var 6 (pv 6)) qa_nil))) (qa_cons (q_op op_fdiv (i_int (g' := fun i j => .int (i / j)) fun _ _ _ _ => rfl) (q_var 3 (pv 3)) (q_c (d := .int 5) pe_int (fun _ _ => rfl))) qa_nil))) qa_nil)) (q_c (d := .non) pe_non (fun _ _ => rfl)))
          (qss_one (qs_ret (q_c (d := .bl false) pe_bl (fun _ _ => rfl))))
          qss_nil)))))))))
      (qss_cons (qs_set 10 sc.nd rfl (by first | exact Or.inl rfl | exact Or.inr rfl) (q_cal c__law_mixed hr (by omega) (by rfl) (qa_cons (q_cal c__law_at hr (by omega) (by rfl) (qa_cons (q_var 0 (pv 0)) (qa_cons (q_c (d := .int 0) pe_int (fun _ _ => rfl)) qa_nil))) (qa_cons (q_c (d := .int 3) pe_int (fun _ _ => rfl)) qa_nil))))
      (qss_cons (qs_set 11 sc.nd rfl (by first | exact Or.inl rfl | exact Or.inr rfl) (q_ix (IxR.or ix_list ix_tup) i_ix (fun _ _ => rfl) (q_lst (qa_cons (q_c (d := .int 40) pe_int (fun _ _ => rfl)) (qa_cons (q_c (d := .int 41) pe_int (fun _ _ => rfl)) (qa_cons (q_op op_add (i_int0 (g' := fun i j => .int (i + j)) fun _ _ _ _ => rfl) (q_c (d := .int 30) pe_int (fun _ _ => rfl)) (q_op op_mod (i_int (g' := fun i j => .int (i % j)) fun _ _ _ _ => rfl) (q_op op_fdiv (i_int (g' := fun i j => .int (i / j)) fun _ _ _ _ => rfl) (q_var 10 (pv 10)) (q_c (d := .int 3) pe_int (fun _ _ => rfl))) (q_c (d := .int 30) pe_int (fun _ _ => rfl)))) qa_nil)))) (q_op op_mod (i_int (g' := fun i j => .int (i % j)) fun _ _ _ _ => rfl) (q_var 10 (pv 10)) (q_c (d := .int 3) pe_int (fun _ _ => rfl)))))
      (qss_cons (qs_for PassesOwn.never rfl (qi_list (q_cal c__law_chains hr (by omega) (by rfl) (qa_cons (q_var 11 (pv 11)) qa_nil))) (qg_name 12 sc.nd rfl (Or.inl rfl))
        (qss_cons (qs_set 7 sc.nd rfl (by first | exact Or.inl rfl | exact Or.inr rfl) (q_cal c__law_row hr (by omega) (by rfl) (qa_cons (q_var 12 (pv 12)) qa_nil)))
        (qss_cons (qs_if (qt_cmp (op_neD hr.units) i_ne (nomark _) (q_cmp op_isN i_isN (nomark _) (q_cal c__law_told hr (by omega) (by rfl) (qa_cons (q_var 7 (pv 7)) qa_nil)) (q_c (d := .non) pe_non (fun _ _ => rfl))) (q_cmp op_gt (i_int0 (g' := fun i j => .bl (decide (j < i))) fun _ _ _ _ => rfl) (nomark _) (q_var 11 (pv 11)) (q_c (d := .int 40) pe_int (fun _ _ => rfl))))
          (qss_one (qs_ret (q_c (d := .bl false) pe_bl (fun _ _ => rfl))))
          qss_nil)
        (qss_one (qs_if (qt_w (qw_and (qt_cmp op_lt (i_int0 (g' := fun i j => .bl (decide (i < j))) fun _ _ _ _ => rfl) (nomark _) (q_var 11 (pv 11)) (q_c (d := .int 41) pe_int (fun _ _ => rfl))) (qw_and1 (qt_cmp (op_neD hr.units) i_ne (nomark _) (q_ofL (ql_cal c_packed hr (by omega) (by rfl) pas0 (qa_cons (q_calX c_unpacked hr (by omega) (by rfl) takes0 (qa_cons (q_var 7 (pv 7)) qa_nil)) qa_nil))) (q_var 7 (pv 7))))))
          (qss_one (qs_ret (q_c (d := .bl false) pe_bl (fun _ _ => rfl))))
          qss_nil)))))
      (qss_one (qs_ret (q_c (d := .bl true) pe_bl (fun _ _ => rfl)))))))), ?body⟩)
  case len =>
    rintro ds r ⟨ns, rfl, _⟩
    rfl
  case body =>
    rintro ds r ⟨ns, rfl, hl, rfl⟩
    refine ⟨_, rfl, ?_⟩
    refine ⟨_, rfl, by simp, _, _, rfl, rfl, by rw [iL_len]; simp; omega, _, rfl, fun m ρ => ∃ (a1 a2 a3 a4 a5 a6 a7 a8 a9 a10 a11 a12 : Sl), ρ = ⟨[.dat (.lst (iL ns)), a1, a2, a3, a4, a5, a6, a7, a8, a9, a10, a11, a12], []⟩, ⟨_, _, _, _, _, _, _, _, _, _, _, _, rfl⟩, ?turn, ?fin⟩
    case turn =>
      rintro m d ρ hd ⟨a1, a2, a3, a4, a5, a6, a7, a8, a9, a10, a11, a12, rfl⟩
      have ecat : iL ns ++ [.int 5] = iL (ns ++ [5]) := by rw [iL_app]; rfl
      rw [ecat, List.getElem?_mapIdx, iL, List.getElem?_map] at hd
      cases hc : (ns ++ [5])[m]? with
      | none => rw [hc] at hd; simp at hd
      | some c =>
      have hm : m < 64 := by
        have := (List.getElem?_eq_some_iff.mp hc).1
        simp at this
        omega
      rw [hc] at hd
      have hd : d = .tup [.int (m : Nat), .int c] := by simpa using hd.symm
      subst hd
      clear hc ecat
      have p64 : (0 : Int) < 64 := by decide
      have p999 : (0 : Int) < 999 := by decide
      have p4 : (0 : Int) < 4 := by decide
      have qm : rMixed [.int c, .int ((m : Nat) % 64 : Int)] (.ok (.int (mixf c ((m : Nat) % 64 : Int)))) := ⟨_, _, rfl, by omega, by omega, rfl⟩
      have qm2 : rMixed [.int c, .int (64 + (m : Nat) % 64 : Int)] (.ok (.int (mixf c (64 + (m : Nat) % 64 : Int)))) := ⟨_, _, rfl, by omega, by omega, rfl⟩
      generalize mixf c ((m : Nat) % 64 : Int) = mx at *
      generalize mixf c (64 + (m : Nat) % 64 : Int) = mx2 at *
      obtain ⟨gr, hgr⟩ : ∃ gr : Int, atI [D.int (c % 999), .int (c % 999), .int (c % 999), .int c] (mx / 11 % 4) = some (.int gr) := by
        have : mx / 11 % 4 = 0 ∨ mx / 11 % 4 = 1 ∨ mx / 11 % 4 = 2 ∨ mx / 11 % 4 = 3 := by omega
        rcases this with e | e | e | e <;> rw [e] <;> exact ⟨_, rfl⟩
      have qo : rOwn 6 [.int mx, .int 3] (.ok (ownf 3 mx).d) := ⟨_, 3, rfl, by decide, rfl⟩
      have qt : rTree 6 [.int gr, .int mx2, .int 3] (.ok (treef 3 gr mx2).d) := ⟨_, _, 3, rfl, by decide, rfl⟩
      have g := good_of mx gr mx2
      have dO := ownf_depth 3 mx
      obtain ⟨k1, k2, _⟩ := treef_ok 3 gr mx2
      generalize ownf 3 mx = O at *
      generalize treef 3 gr mx2 = T at *
      refine ⟨_, rfl, rfl, by simp, by simp, rfl, ?_⟩
      refine ⟨_, rfl, _, rfl, _, _, rfl, rfl, p64, _, qm, by simp, ?_⟩
      refine ⟨_, rfl, _, _, rfl, rfl, p999, _, rfl, _, _, rfl, rfl, p999, _, rfl, _, _, rfl, rfl, p999, _, rfl, by simp, ?_⟩
      refine ⟨_, rfl, _, 11, rfl, rfl, by rw [cdiv]; decide, _, 4, rfl, rfl, p4, _, _, _, rfl, rfl, hgr, by simp, ?_⟩
      refine ⟨_, rfl, _, rfl, _, rfl, _, _, rfl, rfl, p64, 64, _, rfl, rfl, trivial, _, qm2, _, qt, by simp, ?_⟩
      refine ⟨_, rfl, _, qo, _, rfl, fun a => ⟨a, O.d, T.d, rfl, rfl, O.plain, by rw [Own.dep]; omega, T.plain, by rw [Told.dep]; omega, .inr (.inr ⟨O, T, rfl, rfl, by omega, by omega, k1, ⟨_, rfl, rfl, by simp, ?_⟩⟩)⟩⟩
      generalize O.least = o at *
      generalize T.least = t at *
      have g1 := g.od
      have g2 := g.td
      have g3 := g.ob
      have g4 := g.tb
      have g5 := g.len
      have qp : ∀ (s : Store) (Q : List D → Prop), Q (byteD (packN o t)) → rPackL C_Stamp [stD C_Stamp o t] s Q := fun s Q q => ⟨o, t, rfl, by omega, g.ok, by omega, by omega, by omega, q⟩
      have hb : ∀ n ∈ packN o t, n < 256 := rowOf_lt _
      have h1 := pack_ne o t
      have qb : rLBent [.lst (byteD (packN o t)), .int (mx / 3)] (.ok (.lst (byteD (bentN (packN o t) (mx / 3))))) := ⟨_, _, rfl, hb, h1, by omega, rfl⟩
      obtain ⟨hbr, hlr⟩ := bent_ok (m := mx / 3) hb h1
      have qd : rLOdd [.lst (byteD (packN o t)), .int (mx / 5)] (.ok (oddD (packN o t) (mx / 5))) := ⟨_, _, rfl, hb, by omega, rfl⟩
      have qx : rLTo C_BadRow C_Stamp [oddD (packN o t) (mx / 5)] (.ok .non) := .inl ⟨odd_bad _ _ (by omega), rfl⟩
      generalize packN o t = ro at *
      generalize bentN ro (mx / 3) = rw0 at *
      generalize oddD ro (mx / 5) = od at *
      refine ⟨_, rfl, qp _ _ ⟨_, rfl, _, 3, rfl, rfl, by rw [cdiv]; decide, _, qb, by simp, ?_⟩⟩
      refine ⟨2, rfl, by decide, by decide, fun j ρ => ∃ y z : Sl, ρ = ⟨[.dat (.lst (iL ns)), .dat (.int (m : Nat)), .dat (.int c), .dat (.int mx), .dat (.int gr), .dat T.d, .dat (stD C_Stamp o t), .dat (.lst (byteD rw0)), y, z, a10, a11, a12], []⟩, ⟨_, _, rfl⟩, ?_, ?_⟩
      · rintro j d ρ hj ⟨y, z, rfl⟩
        refine ⟨by simp, ?_⟩
        refine ⟨_, rfl, _, .inl rfl, by simp, ?_⟩
        refine ⟨_, rfl, _, _, rfl, rfl, _, 90, rfl, rfl, trivial, _, rfl, ?_⟩
        by_cases hs : rw0.length < 90
        · have e : decide ((((byteD rw0).length : Nat) : Int) < 90) = true := decide_eq_true (by rw [byteD_len]; omega)
          rw [e]
          refine iteT ?_
          have qq : rLTo C_BadRow C_Stamp [.lst (byteD rw0)] (.ok (match unpackN rw0 with | some p => .tup [p.1.d, p.2.d] | none => .non)) := told_is hbr (by omega)
          have qe : rLDue [.lst (byteD rw0)] (.ok (match unpackN rw0 with | some p => .tup [p.1.d, p.2.d] | none => .non)) := ⟨rw0, rfl, hbr, hs, rfl⟩
          have sv := due_sh rw0
          have ev := due_eqv rw0
          generalize (match unpackN rw0 with | some p => D.tup [p.1.d, p.2.d] | none => D.non) = dd at *
          refine ⟨_, rfl, _, qq, _, rfl, _, qe, sv, sv, _, rfl, ?_⟩
          rw [ev]
          refine iteF ?_
          refine ⟨_, rfl, _, rfl, sh_bytes _, sh_bytes _, _, rfl, ?_⟩
          rw [bytes_self]
          exact iteF ⟨_, _, rfl⟩
        · have e : decide ((((byteD rw0).length : Nat) : Int) < 90) = false := decide_eq_false (by rw [byteD_len]; omega)
          rw [e]
          exact iteF (iteF ⟨_, _, rfl⟩)
      · rintro ρ ⟨y, z, rfl⟩
        refine ⟨_, rfl, qp _ _ ⟨_, rfl, _, 5, rfl, rfl, by rw [cdiv]; decide, _, qd, _, qx, rfl, _, rfl, iteF ?_⟩⟩
        exact ⟨_, _, _, _, _, _, _, _, _, _, _, _, rfl⟩
    case fin =>
      rintro ρ ⟨a1, a2, a3, a4, a5, a6, a7, a8, a9, a10, a11, a12, rfl⟩
      have p3 : (0 : Int) < 3 := by decide
      have p30 : (0 : Int) < 30 := by decide
      have qz : rMixed [.int (ns.getD 0 0), .int 3] (.ok (.int (mixf (ns.getD 0 0) 3))) := ⟨_, _, rfl, by decide, by decide, rfl⟩
      refine ⟨_, rfl, _, ⟨ns, rfl, hl, rfl⟩, _, qz, by simp, ?_⟩
      generalize mixf (ns.getD 0 0) 3 = mz at *
      obtain ⟨de, d1, d2, hde⟩ : ∃ de : Nat, 2 ≤ de ∧ de ≤ 60 ∧ atI [D.int 40, .int 41, .int (30 + mz / 3 % 30)] (mz % 3) = some (.int (de : Nat)) := by
        have : mz % 3 = 0 ∨ mz % 3 = 1 ∨ mz % 3 = 2 := by omega
        rcases this with e | e | e <;> rw [e]
        · exact ⟨40, by decide, by decide, rfl⟩
        · exact ⟨41, by decide, by decide, rfl⟩
        · refine ⟨(30 + mz / 3 % 30).toNat, by omega, by omega, ?_⟩
          show some (D.int (30 + mz / 3 % 30)) = _
          rw [Int.toNat_of_nonneg (by omega)]
      refine ⟨_, rfl, _, 3, rfl, rfl, by rw [cdiv]; decide, _, 30, rfl, rfl, p30, 30, _, rfl, rfl, trivial, by simp, ?_⟩
      refine ⟨_, rfl, _, 3, rfl, rfl, p3, _, _, _, rfl, rfl, hde, by simp, ?_⟩
      refine ⟨_, rfl, _, ⟨de, rfl, d1, d2, rfl⟩, _, rfl, fun j ρ => ∃ b7 b12 : Sl, ρ = ⟨[.dat (.lst (iL ns)), a1, a2, a3, a4, a5, a6, b7, a8, a9, .dat (.int mz), .dat (.int (de : Nat)), b12], []⟩, ⟨_, _, rfl⟩, ?_, ?_⟩
      · rintro j d ρ hj ⟨b7, b12, rfl⟩
        rw [List.getElem?_map] at hj
        obtain ⟨p, hp, rfl⟩ := Option.map_eq_some_iff.mp hj
        obtain ⟨c1, c2, c3, c4, c5, c6, c7, c8⟩ := chain_ok d1 d2 p (List.mem_of_getElem? hp)
        have hb : ∀ n ∈ packN p.1 p.2, n < 256 := rowOf_lt _
        have hlen : (packN p.1 p.2).length ≤ 150 := by
          have h3 := (pad8_len (p.1.bits ++ p.2.bits)).2
          unfold packN
          rw [rowOf_len]
          simp at h3
          omega
        have qr : rLRow [BD (chB p)] (.ok (.lst (byteD (packN p.1 p.2)))) := ⟨chB p, rfl, by unfold chB; simp; omega, rfl⟩
        have qq := told_is (B := C_BadRow) (C := C_Stamp) hb hlen
        have qu := told_of (B := C_BadRow) (C := C_Stamp) hb hlen
        refine ⟨by simp, ?_⟩
        refine ⟨_, rfl, _, qr, by simp, ?_⟩
        by_cases h40 : de ≤ 40
        · have hu := unpack_pack (c4 h40).1 (c4 h40).2 c1 c2 c3
          rw [hu] at qq qu
          have e : (!(D.bl false).eqv (.bl (decide ((40 : Int) < ((de : Nat) : Int))))) = false := by
            rw [show decide ((40 : Int) < ((de : Nat) : Int)) = false from decide_eq_false (by omega)]
            rfl
          refine ⟨_, rfl, _, qq, rfl, _, rfl, _, 40, rfl, rfl, trivial, rfl, rfl, false, congrArg D.bl e, iteF ?_⟩
          refine ⟨_, rfl, _, 41, rfl, rfl, trivial, _, rfl, ?_⟩
          have e2 : decide (((de : Nat) : Int) < 41) = true := decide_eq_true (by omega)
          rw [e2]
          refine iteT ?_
          refine ⟨_, rfl, _, qu, ⟨p.1, p.2, rfl, (c4 h40).1, c2, (c4 h40).2, by omega, by omega, ?_⟩⟩
          refine ⟨_, rfl, sh_bytes _, sh_bytes _, _, rfl, ?_⟩
          rw [bytes_self]
          exact iteF ⟨_, _, rfl⟩
        · have hu := unpack_deep c2 (c5 (by omega)) c6
          rw [hu] at qq
          have e : (!(D.bl true).eqv (.bl (decide ((40 : Int) < ((de : Nat) : Int))))) = false := by
            rw [show decide ((40 : Int) < ((de : Nat) : Int)) = true from decide_eq_true (by omega)]
            rfl
          refine ⟨_, rfl, _, qq, rfl, _, rfl, _, 40, rfl, rfl, trivial, rfl, rfl, false, congrArg D.bl e, iteF ?_⟩
          refine ⟨_, rfl, _, 41, rfl, rfl, trivial, _, rfl, ?_⟩
          have e2 : decide (((de : Nat) : Int) < 41) = false := decide_eq_false (by omega)
          rw [e2]
          exact iteF (iteF ⟨_, _, rfl⟩)
      · rintro ρ ⟨b7, b12, rfl⟩
        rfl

end
theorem all_mk {l : PySem.W.OpenLaw} {w : World} {K : PySem.W.Frag} {h : Heap} {mg : Str → Option Value} {fa fl : Addr} (KX : K.In h) (G : h.Ns mainGlobals mg) (hfa : mg "law" = some (.ref fa))
    {C_BadOwn C_BadRow C_BadTold C_BitReader C_NoHand C_NoOwn C_Shared C_Stamp C_StampError : Addr}
    (D_is_whole : Dfn K mg "is_whole" (top 10) ["thing"])
    (D_is_all_or_none : Dfn K mg "is_all_or_none" (top 30) ["thing"])
    (D_is_own : Dfn K mg "is_own" (top 29) ["thing"])
    (D_least_pair : Dfn K mg "least_pair" (top 32) ["left", "right"])
    (D_least_own : Dfn K mg "least_own" (top 31) ["own"])
    (D_is_number : Dfn K mg "is_number" (top 14) ["thing"])
    (D_is_parting : Dfn K mg "is_parting" (top 13) ["thing"])
    (D_is_told : Dfn K mg "is_told" (top 12) ["thing"])
    (D_told_least : Dfn K mg "told_least" (top 19) ["told"])
    (D_lifted : Dfn K mg "lifted" (top 17) ["told", "more"])
    (D_least_over : Dfn K mg "least_over" (top 16) ["left", "right"])
    (D_least_told : Dfn K mg "least_told" (top 15) ["told"])
    (D_told_greatest : Dfn K mg "told_greatest" (top 20) ["told"])
    (D_halves : Dfn K mg "halves" (top 18) ["told"])
    (D_filled : Dfn K mg "filled" (top 25) ["own", "told"])
    (D_grown_at_price : Dfn K mg "grown_at_price" (top 27) ["own", "told"])
    (D_grown : Dfn K mg "grown" (top 26) ["own", "told"])
    (D_raised : Dfn K mg "raised" (top 24) ["own", "told"])
    (D__law_mixed : Dfn K mg "_law_mixed" (top 48) ["_law_cell", "_law_k"])
    (D_Stamp : CDf K mg C_Stamp "Stamp" "Stamp.__init__" (inClass (top 34) 0) ["self", "own", "told"] [V.int 1, V.int 0])
    (D_Stamp_deed : MDf K C_Stamp "deed" "Stamp.deed" (inClass (top 34) 3) ["self"])
    (D__law_own : Dfn K mg "_law_own" (top 50) ["_law_number", "_law_deep"])
    (D__law_tree : Dfn K mg "_law_tree" (top 53) ["_law_cell", "_law_number", "_law_deep"])
    (D_own_bits : Dfn K mg "own_bits" (top 38) ["own"])
    (D_number_bits : Dfn K mg "number_bits" (top 40) ["number"])
    (D_told_bits : Dfn K mg "told_bits" (top 39) ["told"])
    (D_packed : Dfn K mg "packed" (top 37) ["stamp"])
    (D_refuse_too_deep : Dfn K mg "refuse_too_deep" (top 45) ["deep"])
    (D_BitReader : CDf K mg C_BitReader "BitReader" "BitReader.__init__" (inClass (top 46) 0) ["self", "bits"] [])
    (D_BitReader_taken : MDf K C_BitReader "taken" "BitReader.taken" (inClass (top 46) 1) ["self", "many"])
    (D_BitReader_taken_number : MDf K C_BitReader "taken_number" "BitReader.taken_number" (inClass (top 46) 2) ["self"])
    (D_read_own : Dfn K mg "read_own" (top 43) ["reader", "deep"])
    (D_read_told : Dfn K mg "read_told" (top 44) ["reader", "deep"])
    (D_is_row : Dfn K mg "is_row" (top 42) ["thing"])
    (D_unpacked : Dfn K mg "unpacked" (top 41) ["row"])
    (D__law_number_bits : Dfn K mg "_law_number_bits" (top 57) ["_law_number"])
    (D__law_own_bits : Dfn K mg "_law_own_bits" (top 58) ["_law_own_here"])
    (D__law_told_bits : Dfn K mg "_law_told_bits" (top 59) ["_law_told_here"])
    (D__law_row : Dfn K mg "_law_row" (top 60) ["_law_bits"])
    (D__law_read_number : Dfn K mg "_law_read_number" (top 61) ["_law_bits", "_law_at_here"])
    (D__law_read_own : Dfn K mg "_law_read_own" (top 62) ["_law_bits", "_law_at_here"])
    (D__law_read_told : Dfn K mg "_law_read_told" (top 63) ["_law_bits", "_law_at_here"])
    (D__law_depth : Dfn K mg "_law_depth" (top 64) ["_law_part"])
    (D__law_base : Dfn K mg "_law_base" (top 65) ["_law_told_here"])
    (D__law_is_least : Dfn K mg "_law_is_least" (top 66) ["_law_own_here", "_law_told_here"])
    (D__law_word : Dfn K mg "_law_word" (top 56) ["_law_caught"])
    (D__law_due : Dfn K mg "_law_due" (top 67) ["_law_row_here"])
    (D__law_told : Dfn K mg "_law_told" (top 68) ["_law_row_here"])
    (D__law_bent : Dfn K mg "_law_bent" (top 69) ["_law_row_here", "_law_mixed_here"])
    (D__law_odd : Dfn K mg "_law_odd" (top 70) ["_law_row_here", "_law_mixed_here"])
    (D__law_chains : Dfn K mg "_law_chains" (top 71) ["_law_deep"])
    (D__law_at : Dfn K mg "_law_at" (top 49) ["_law_script", "_law_k"])
    {od an : Option Addr} {sl : Array (Option Value)} {oc kV dc pm cd ct : Value}
    (al : PySem.W.nsIn K mainGlobals "law" = some (some (.ref fl))) (ll : K.lookup fl = some ⟨oc, od, .func (PySem.W.fnOf "law" "law" (defArgs (top 72)) (defBody (top 72)) (defScope (top 72)) .none kV dc pm an cd ct), sl⟩) (cl : PySem.W.codeIn K cd "law" = true) (kl : PySem.W.keepIn K (.ref fl) = true)
    {v_HALF_PRICE : Value} (n_HALF_PRICE : PySem.W.nsIn K mainGlobals "HALF_PRICE" = some (some v_HALF_PRICE)) (r_HALF_PRICE : RelV (V.int 1) v_HALF_PRICE)
    {v_PARTING_PRICE : Value} (n_PARTING_PRICE : PySem.W.nsIn K mainGlobals "PARTING_PRICE" = some (some v_PARTING_PRICE)) (r_PARTING_PRICE : RelV (V.int 1000) v_PARTING_PRICE)
    {v_DEEPEST : Value} (n_DEEPEST : PySem.W.nsIn K mainGlobals "DEEPEST" = some (some v_DEEPEST)) (r_DEEPEST : RelV (V.int 40) v_DEEPEST)
    (z_ValueError : PySem.W.nsIn K mainGlobals "ValueError" = some none)
    (z_enumerate : PySem.W.nsIn K mainGlobals "enumerate" = some none)
    (z_int : PySem.W.nsIn K mainGlobals "int" = some none)
    (z_isinstance : PySem.W.nsIn K mainGlobals "isinstance" = some none)
    (z_len : PySem.W.nsIn K mainGlobals "len" = some none)
    (z_list : PySem.W.nsIn K mainGlobals "list" = some none)
    (z_max : PySem.W.nsIn K mainGlobals "max" = some none)
    (z_min : PySem.W.nsIn K mainGlobals "min" = some none)
    (z_range : PySem.W.nsIn K mainGlobals "range" = some none)
    (z_str : PySem.W.nsIn K mainGlobals "str" = some none)
    (z_tuple : PySem.W.nsIn K mainGlobals "tuple" = some none)
    (z_type : PySem.W.nsIn K mainGlobals "type" = some none)
    (n_BadOwn : PySem.W.nsIn K mainGlobals "BadOwn" = some (some (.ref C_BadOwn)))
    (n_BadRow : PySem.W.nsIn K mainGlobals "BadRow" = some (some (.ref C_BadRow)))
    (n_BadTold : PySem.W.nsIn K mainGlobals "BadTold" = some (some (.ref C_BadTold)))
    (n_BitReader : PySem.W.nsIn K mainGlobals "BitReader" = some (some (.ref C_BitReader)))
    (n_NoHand : PySem.W.nsIn K mainGlobals "NoHand" = some (some (.ref C_NoHand)))
    (n_NoOwn : PySem.W.nsIn K mainGlobals "NoOwn" = some (some (.ref C_NoOwn)))
    (n_Shared : PySem.W.nsIn K mainGlobals "Shared" = some (some (.ref C_Shared)))
    (n_Stamp : PySem.W.nsIn K mainGlobals "Stamp" = some (some (.ref C_Stamp)))
    (n_StampError : PySem.W.nsIn K mainGlobals "StampError" = some (some (.ref C_StampError)))
    (K_NoOwn : ExK K C_NoOwn)
    (cl_Stamp : Cls K C_Stamp)
    (na_Stamp_told : NoAttr K C_Stamp "told")
    (na_Stamp_own : NoAttr K C_Stamp "own")
    (K_BadTold : ExK K C_BadTold)
    (K_BadOwn : ExK K C_BadOwn)
    (K_BadRow : ExK K C_BadRow)
    (cl_BitReader : Cls K C_BitReader)
    (na_BitReader__at : NoAttr K C_BitReader "_at")
    (na_BitReader__bits : NoAttr K C_BitReader "_bits")
    (i_NoOwn_BadRow : PySem.W.kitOne K (.ref C_NoOwn) (.ref C_BadRow) = some false)
    (i_BadOwn_BadRow : PySem.W.kitOne K (.ref C_BadOwn) (.ref C_BadRow) = some false)
    (i_BadTold_BadRow : PySem.W.kitOne K (.ref C_BadTold) (.ref C_BadRow) = some false)
    (i_BadRow_BadRow : PySem.W.kitOne K (.ref C_BadRow) (.ref C_BadRow) = some true)
    (i_NoOwn_NoHand : PySem.W.kitOne K (.ref C_NoOwn) (.ref C_NoHand) = some false)
    (i_BadOwn_NoHand : PySem.W.kitOne K (.ref C_BadOwn) (.ref C_NoHand) = some false)
    (i_BadTold_NoHand : PySem.W.kitOne K (.ref C_BadTold) (.ref C_NoHand) = some false)
    (i_BadRow_NoHand : PySem.W.kitOne K (.ref C_BadRow) (.ref C_NoHand) = some false)
    (i_NoOwn_Shared : PySem.W.kitOne K (.ref C_NoOwn) (.ref C_Shared) = some false)
    (i_BadOwn_Shared : PySem.W.kitOne K (.ref C_BadOwn) (.ref C_Shared) = some false)
    (i_BadTold_Shared : PySem.W.kitOne K (.ref C_BadTold) (.ref C_Shared) = some false)
    (i_BadRow_Shared : PySem.W.kitOne K (.ref C_BadRow) (.ref C_Shared) = some false)
    (i_NoOwn_NoOwn : PySem.W.kitOne K (.ref C_NoOwn) (.ref C_NoOwn) = some true)
    (i_BadOwn_NoOwn : PySem.W.kitOne K (.ref C_BadOwn) (.ref C_NoOwn) = some false)
    (i_BadTold_NoOwn : PySem.W.kitOne K (.ref C_BadTold) (.ref C_NoOwn) = some false)
    (i_BadRow_NoOwn : PySem.W.kitOne K (.ref C_BadRow) (.ref C_NoOwn) = some false)
    (i_NoOwn_BadOwn : PySem.W.kitOne K (.ref C_NoOwn) (.ref C_BadOwn) = some false)
    (i_BadOwn_BadOwn : PySem.W.kitOne K (.ref C_BadOwn) (.ref C_BadOwn) = some true)
    (i_BadTold_BadOwn : PySem.W.kitOne K (.ref C_BadTold) (.ref C_BadOwn) = some false)
    (i_BadRow_BadOwn : PySem.W.kitOne K (.ref C_BadRow) (.ref C_BadOwn) = some false)
    (i_NoOwn_BadTold : PySem.W.kitOne K (.ref C_NoOwn) (.ref C_BadTold) = some false)
    (i_BadOwn_BadTold : PySem.W.kitOne K (.ref C_BadOwn) (.ref C_BadTold) = some false)
    (i_BadTold_BadTold : PySem.W.kitOne K (.ref C_BadTold) (.ref C_BadTold) = some true)
    (i_BadRow_BadTold : PySem.W.kitOne K (.ref C_BadRow) (.ref C_BadTold) = some false)
    (i_NoOwn_ValueError : PySem.W.kitOne K (.ref C_NoOwn) (.type "ValueError") = some true)
    (i_BadOwn_ValueError : PySem.W.kitOne K (.ref C_BadOwn) (.type "ValueError") = some true)
    (i_BadTold_ValueError : PySem.W.kitOne K (.ref C_BadTold) (.type "ValueError") = some true)
    (i_BadRow_ValueError : PySem.W.kitOne K (.ref C_BadRow) (.type "ValueError") = some true)
    (i_NoOwn_StampError : PySem.W.kitOne K (.ref C_NoOwn) (.ref C_StampError) = some true)
    (i_BadOwn_StampError : PySem.W.kitOne K (.ref C_BadOwn) (.ref C_StampError) = some true)
    (i_BadTold_StampError : PySem.W.kitOne K (.ref C_BadTold) (.ref C_StampError) = some true)
    (i_BadRow_StampError : PySem.W.kitOne K (.ref C_BadRow) (.ref C_StampError) = some true)
    (x_NoOwn_StampError : PySem.W.exmOne K (.ref C_NoOwn) (.ref C_StampError) = some true)
    (x_BadOwn_StampError : PySem.W.exmOne K (.ref C_BadOwn) (.ref C_StampError) = some true)
    (x_BadTold_StampError : PySem.W.exmOne K (.ref C_BadTold) (.ref C_StampError) = some true)
    (x_BadRow_StampError : PySem.W.exmOne K (.ref C_BadRow) (.ref C_StampError) = some true)
    : ∃ fd : FuncData, (∀ (s : Shared) (v : Value), BindsTo s fd ⟨[v], []⟩ [("_law_script", v)]) ∧ ∀ base : Heap, K.In base → base.Ns mainGlobals mg → FnOk l.prog w K mg base CX0 200 fa fd ["_law_script"] (spLaw K) := by
  have e := hfa.symm.trans (PySem.W.mg_of KX G al)
  cases e
  have m_ValueError := PySem.W.mg_none_of KX G z_ValueError
  have m_enumerate := PySem.W.mg_none_of KX G z_enumerate
  have m_int := PySem.W.mg_none_of KX G z_int
  have m_isinstance := PySem.W.mg_none_of KX G z_isinstance
  have m_len := PySem.W.mg_none_of KX G z_len
  have m_list := PySem.W.mg_none_of KX G z_list
  have m_max := PySem.W.mg_none_of KX G z_max
  have m_min := PySem.W.mg_none_of KX G z_min
  have m_range := PySem.W.mg_none_of KX G z_range
  have m_str := PySem.W.mg_none_of KX G z_str
  have m_tuple := PySem.W.mg_none_of KX G z_tuple
  have m_type := PySem.W.mg_none_of KX G z_type
  have gi_HALF_PRICE : ∃ u, mg "HALF_PRICE" = some u ∧ RelV (V.int 1) u := ⟨_, PySem.W.mg_of KX G n_HALF_PRICE, r_HALF_PRICE⟩
  have gi_PARTING_PRICE : ∃ u, mg "PARTING_PRICE" = some u ∧ RelV (V.int 1000) u := ⟨_, PySem.W.mg_of KX G n_PARTING_PRICE, r_PARTING_PRICE⟩
  have g_NoOwn : mg "NoOwn" = some (.ref C_NoOwn) := PySem.W.mg_of KX G n_NoOwn
  have g_BadTold : mg "BadTold" = some (.ref C_BadTold) := PySem.W.mg_of KX G n_BadTold
  have g_BadOwn : mg "BadOwn" = some (.ref C_BadOwn) := PySem.W.mg_of KX G n_BadOwn
  have gi_DEEPEST : ∃ u, mg "DEEPEST" = some u ∧ RelV (V.int 40) u := ⟨_, PySem.W.mg_of KX G n_DEEPEST, r_DEEPEST⟩
  have g_BadRow : mg "BadRow" = some (.ref C_BadRow) := PySem.W.mg_of KX G n_BadRow
  have g_NoHand : mg "NoHand" = some (.ref C_NoHand) := PySem.W.mg_of KX G n_NoHand
  have g_Shared : mg "Shared" = some (.ref C_Shared) := PySem.W.mg_of KX G n_Shared
  have g_StampError : mg "StampError" = some (.ref C_StampError) := PySem.W.mg_of KX G n_StampError
  have FL := fun_mk (st := top 72) ll cl kl
  refine ⟨PySem.W.fnOf "law" "law" (defArgs (top 72)) (defBody (top 72)) (defScope (top 72)) .none kV dc pm an cd ct, fun s v => .of_eq rfl, fun base _ _ => ?_⟩
  have c_is_whole : Cal l.prog w K mg base CX0 1 "is_whole" ["thing"] rWhole := ok_is_whole (P := l.prog) (w := w) (base := base) (D_is_whole) m_int m_type
  have c_is_all_or_none : Cal l.prog w K mg base CX0 2 "is_all_or_none" ["thing"] rAll := ok_is_all_or_none (P := l.prog) (w := w) (base := base) (D_is_all_or_none) c_is_whole
  have c_is_own : Cal l.prog w K mg base CX0 3 "is_own" ["thing"] rIsOwn := ok_is_own (P := l.prog) (w := w) (base := base) (D_is_own) m_len m_tuple m_type c_is_all_or_none
  have c_least_pair : Cal l.prog w K mg base CX0 2 "least_pair" ["left", "right"] rPair := ok_least_pair (P := l.prog) (w := w) (base := base) (D_least_pair) c_is_whole
  have c_least_own : Cal l.prog w K mg base CX0 (2 + 40) "least_own" ["own"] (rLeast 40) := ok_least_own (P := l.prog) (w := w) (base := base) (D_least_own) c_least_pair c_is_whole 40
  have c_is_number : Cal l.prog w K mg base CX0 2 "is_number" ["thing"] rNumber := ok_is_number (P := l.prog) (w := w) (base := base) (D_is_number) c_is_whole
  have c_is_parting : Cal l.prog w K mg base CX0 3 "is_parting" ["thing"] rParting := ok_is_parting (P := l.prog) (w := w) (base := base) (D_is_parting) m_len m_tuple m_type c_is_number
  have c_is_told : Cal l.prog w K mg base CX0 4 "is_told" ["thing"] rIsTold := ok_is_told (P := l.prog) (w := w) (base := base) (D_is_told) c_is_parting c_is_number
  have c_told_least : Cal l.prog w K mg base CX0 2 "told_least" ["told"] rLow := ok_told_least (P := l.prog) (w := w) (base := base) (D_told_least) c_is_whole
  have c_lifted : Cal l.prog w K mg base CX0 2 "lifted" ["told", "more"] rLifted := ok_lifted (P := l.prog) (w := w) (base := base) (D_lifted) c_is_whole
  have c_least_over : Cal l.prog w K mg base CX0 3 "least_over" ["left", "right"] rOver := ok_least_over (P := l.prog) (w := w) (base := base) (D_least_over) m_min c_lifted c_told_least c_is_whole
  have c_least_told : Cal l.prog w K mg base CX0 (3 + 40) "least_told" ["told"] (rLeastT 40) := ok_least_told (P := l.prog) (w := w) (base := base) (D_least_told) c_lifted c_least_over c_is_whole 40
  have c_told_greatest : Cal l.prog w K mg base CX0 (2 + 40) "told_greatest" ["told"] (rTop 40) := ok_told_greatest (P := l.prog) (w := w) (base := base) (D_told_greatest) m_max c_is_whole 40
  have c_halves : Cal l.prog w K mg base CX0 3 "halves" ["told"] rHalves := ok_halves (P := l.prog) (w := w) (base := base) (D_halves) c_lifted c_is_whole
  have c_filled : Cal l.prog w K mg base CX0 (42 + 40) "filled" ["own", "told"] (rFill 40) := ok_filled (P := l.prog) (w := w) (base := base) (D_filled) m_max c_least_over c_told_least c_told_greatest c_halves c_is_whole 40
  have c_grown_at_price : Cal l.prog w K mg base CX0 (3 + 40) "grown_at_price" ["own", "told"] (rGrowP 40) := ok_grown_at_price (P := l.prog) (w := w) (base := base) (D_grown_at_price) gi_HALF_PRICE gi_PARTING_PRICE c_least_over c_is_whole c_halves 40
  have c_grown : Cal l.prog w K mg base CX0 44 "grown" ["own", "told"] rGrown := ok_grown (P := l.prog) (w := w) (base := base) (D_grown) c_grown_at_price
  have c_raised : Cal l.prog w K mg base (L2.CX l.prog w) 83 "raised" ["own", "told"] (rRaised C_NoOwn) := ok_raised (P := l.prog) (w := w) (base := base) (D_raised) K_NoOwn g_NoOwn c_grown c_filled
  have c__law_mixed : Cal l.prog w K mg base CX0 1 "_law_mixed" ["_law_cell", "_law_k"] rMixed := ok__law_mixed (P := l.prog) (w := w) (base := base) (D__law_mixed)
  have c_Stamp : MkdS l.prog w K mg base (L2.CX l.prog w) 44 C_Stamp "Stamp" ["self", "own", "told"] [V.int 1, V.int 0] (spG K (rInit C_BadOwn C_BadTold C_Stamp)) := ok_Stamp (P := l.prog) (w := w) (base := base) (D_Stamp) cl_Stamp na_Stamp_told na_Stamp_own K_BadTold g_BadTold K_BadOwn g_BadOwn c_least_told c_least_own c_is_told c_is_own
  have c_Stamp_deed : MetS l.prog w K mg base (L2.CX l.prog w) 84 C_Stamp "deed" ["self"] (spD K (rDeed C_NoOwn C_Stamp)) := ok_Stamp_deed (P := l.prog) (w := w) (base := base) (D_Stamp_deed) cl_Stamp na_Stamp_told na_Stamp_own c_Stamp c_raised
  have c__law_own : Cal l.prog w K mg base CX0 (0 + 6) "_law_own" ["_law_number", "_law_deep"] (rOwn 6) := ok__law_own (P := l.prog) (w := w) (base := base) (D__law_own) 6
  have c__law_tree : Cal l.prog w K mg base CX0 (0 + 6) "_law_tree" ["_law_cell", "_law_number", "_law_deep"] (rTree 6) := ok__law_tree (P := l.prog) (w := w) (base := base) (D__law_tree) 6
  have c_own_bits : Cal l.prog w K mg base CX0 (1 + 40) "own_bits" ["own"] (rOwnBits 40) := ok_own_bits (P := l.prog) (w := w) (base := base) (D_own_bits) 40
  have c_number_bits : Cal l.prog w K mg base CX0 2 "number_bits" ["number"] rNumBits := ok_number_bits (P := l.prog) (w := w) (base := base) (D_number_bits) m_len
  have c_told_bits : Cal l.prog w K mg base CX0 (4 + 40) "told_bits" ["told"] (rToldBits 40) := ok_told_bits (P := l.prog) (w := w) (base := base) (D_told_bits) c_number_bits c_is_whole 40
  have c_packed : CalS l.prog w K mg base CX0 46 "packed" ["stamp"] (spL K (rPackL C_Stamp)) := ok_packed (P := l.prog) (w := w) (base := base) (D_packed) m_int m_len m_range cl_Stamp na_Stamp_own na_Stamp_told c_own_bits c_told_bits
  have c_refuse_too_deep : Cal l.prog w K mg base (L2.CX l.prog w) 2 "refuse_too_deep" ["deep"] (rDeep C_BadRow) := ok_refuse_too_deep (P := l.prog) (w := w) (base := base) (D_refuse_too_deep) gi_DEEPEST K_BadRow g_BadRow
  have c_BitReader : MkdS l.prog w K mg base (L2.CX l.prog w) 2 C_BitReader "BitReader" ["self", "bits"] [] (spG K (rReader C_BitReader)) := ok_BitReader (P := l.prog) (w := w) (base := base) (D_BitReader) cl_BitReader na_BitReader__at na_BitReader__bits
  have c_BitReader_taken : MetS l.prog w K mg base (L2.CX l.prog w) 3 C_BitReader "taken" ["self", "many"] (spG K (rTaken C_BadRow C_BitReader)) := ok_BitReader_taken (P := l.prog) (w := w) (base := base) (D_BitReader_taken) m_len cl_BitReader na_BitReader__bits na_BitReader__at K_BadRow g_BadRow
  have c_BitReader_taken_number : MetS l.prog w K mg base (L2.CX l.prog w) 5 C_BitReader "taken_number" ["self"] (spG K (rTakeN C_BadRow C_BitReader)) := ok_BitReader_taken_number (P := l.prog) (w := w) (base := base) (D_BitReader_taken_number) m_int cl_BitReader na_BitReader__at K_BadRow g_BadRow na_BitReader__bits c_BitReader_taken
  have c_read_own : CalS l.prog w K mg base (L2.CX l.prog w) (4 + 41) "read_own" ["reader", "deep"] (spG K ((rReadO C_BadRow C_BitReader) 41)) := ok_read_own (P := l.prog) (w := w) (base := base) (D_read_own) m_int c_BitReader_taken c_refuse_too_deep 41
  have c_read_told : CalS l.prog w K mg base (L2.CX l.prog w) (6 + 41) "read_told" ["reader", "deep"] (spG K ((rReadT C_BadRow C_BitReader) 41)) := ok_read_told (P := l.prog) (w := w) (base := base) (D_read_told) c_BitReader_taken_number c_BitReader_taken c_refuse_too_deep 41
  have c_is_row : Cal l.prog w K mg base CX0 3 "is_row" ["thing"] rIsRow := ok_is_row (P := l.prog) (w := w) (base := base) (D_is_row) m_list m_type c_is_whole
  have c_unpacked : Cal l.prog w K mg base (L2.CX l.prog w) 60 "unpacked" ["row"] (rUnpack C_BadRow C_Stamp) := ok_unpacked (P := l.prog) (w := w) (base := base) (D_unpacked) K_BadRow g_BadRow c_packed c_Stamp c_read_told c_read_own c_BitReader c_is_row
  have c__law_number_bits : Cal l.prog w K mg base CX0 1 "_law_number_bits" ["_law_number"] rLNum := ok__law_number_bits (P := l.prog) (w := w) (base := base) (D__law_number_bits) m_len m_str
  have c__law_own_bits : Cal l.prog w K mg base CX0 (1 + 40) "_law_own_bits" ["_law_own_here"] (rLOwn 40) := ok__law_own_bits (P := l.prog) (w := w) (base := base) (D__law_own_bits) m_str 40
  have c__law_told_bits : Cal l.prog w K mg base CX0 (3 + 40) "_law_told_bits" ["_law_told_here"] (rLTold 40) := ok__law_told_bits (P := l.prog) (w := w) (base := base) (D__law_told_bits) m_isinstance m_tuple c__law_number_bits 40
  have c__law_row : Cal l.prog w K mg base CX0 2 "_law_row" ["_law_bits"] rLRow := ok__law_row (P := l.prog) (w := w) (base := base) (D__law_row) m_int m_len m_range
  have c__law_read_number : Cal l.prog w K mg base CX0 2 "_law_read_number" ["_law_bits", "_law_at_here"] rLRN := ok__law_read_number (P := l.prog) (w := w) (base := base) (D__law_read_number) m_int m_len
  have c__law_read_own : Cal l.prog w K mg base CX0 150 "_law_read_own" ["_law_bits", "_law_at_here"] (rLRO 400) := ok__law_read_own (P := l.prog) (w := w) (base := base) (D__law_read_own) m_int m_len
  have c__law_read_told : Cal l.prog w K mg base CX0 150 "_law_read_told" ["_law_bits", "_law_at_here"] (rLRT 400) := ok__law_read_told (P := l.prog) (w := w) (base := base) (D__law_read_told) c__law_read_number
  have c__law_depth : Cal l.prog w K mg base CX0 150 "_law_depth" ["_law_part"] (rLDep 400) := ok__law_depth (P := l.prog) (w := w) (base := base) (D__law_depth) m_isinstance m_max m_tuple
  have c__law_base : Cal l.prog w K mg base CX0 1 "_law_base" ["_law_told_here"] rLBase := ok__law_base (P := l.prog) (w := w) (base := base) (D__law_base) m_isinstance m_tuple
  have c__law_is_least : Cal l.prog w K mg base CX0 (2 + 90) "_law_is_least" ["_law_own_here", "_law_told_here"] (rLLeast 90) := ok__law_is_least (P := l.prog) (w := w) (base := base) (D__law_is_least) m_isinstance m_min m_tuple c__law_base 90
  have c__law_word : Cal l.prog w K mg base CX0 1 "_law_word" ["_law_caught"] (rWord C_BadRow) := ok__law_word (P := l.prog) (w := w) (base := base) (D__law_word) m_ValueError m_int m_isinstance K_NoOwn i_NoOwn_BadRow K_BadOwn i_BadOwn_BadRow K_BadTold i_BadTold_BadRow K_BadRow i_BadRow_BadRow g_BadRow i_NoOwn_NoHand i_BadOwn_NoHand i_BadTold_NoHand i_BadRow_NoHand g_NoHand i_NoOwn_Shared i_BadOwn_Shared i_BadTold_Shared i_BadRow_Shared g_Shared i_NoOwn_NoOwn i_BadOwn_NoOwn i_BadTold_NoOwn i_BadRow_NoOwn g_NoOwn i_NoOwn_BadOwn i_BadOwn_BadOwn i_BadTold_BadOwn i_BadRow_BadOwn g_BadOwn i_NoOwn_BadTold i_BadOwn_BadTold i_BadTold_BadTold i_BadRow_BadTold g_BadTold i_NoOwn_ValueError i_BadOwn_ValueError i_BadTold_ValueError i_BadRow_ValueError i_NoOwn_StampError i_BadOwn_StampError i_BadTold_StampError i_BadRow_StampError g_StampError
  have c__law_due : Cal l.prog w K mg base CX0 160 "_law_due" ["_law_row_here"] rLDue := ok__law_due (P := l.prog) (w := w) (base := base) (D__law_due) m_max m_str c__law_row c__law_own_bits c__law_told_bits c__law_is_least c__law_depth c__law_read_told c__law_read_own
  have c__law_told : Cal l.prog w K mg base CX0 70 "_law_told" ["_law_row_here"] (rLTo C_BadRow C_Stamp) := ok__law_told (P := l.prog) (w := w) (base := base) (D__law_told) cl_Stamp na_Stamp_told na_Stamp_own x_NoOwn_StampError x_BadOwn_StampError x_BadTold_StampError x_BadRow_StampError g_StampError c__law_word c_unpacked
  have c__law_bent : Cal l.prog w K mg base CX0 3 "_law_bent" ["_law_row_here", "_law_mixed_here"] rLBent := ok__law_bent (P := l.prog) (w := w) (base := base) (D__law_bent) m_len
  have c__law_odd : Cal l.prog w K mg base CX0 3 "_law_odd" ["_law_row_here", "_law_mixed_here"] rLOdd := ok__law_odd (P := l.prog) (w := w) (base := base) (D__law_odd) m_tuple
  have c__law_chains : Cal l.prog w K mg base CX0 3 "_law_chains" ["_law_deep"] rLCh := ok__law_chains (P := l.prog) (w := w) (base := base) (D__law_chains)
  have c__law_at : Cal l.prog w K mg base CX0 2 "_law_at" ["_law_script", "_law_k"] rLAt := ok__law_at (P := l.prog) (w := w) (base := base) (D__law_at) m_len
  exact law_imp (ok_law FL m_enumerate m_len m_list m_range c__law_chains c_packed c_unpacked c__law_told c__law_row c__law_mixed c__law_at c__law_odd c__law_due c__law_bent c_Stamp c__law_own c__law_tree)
theorem walk {l : PySem.W.OpenLaw} {q : Program} {loose : List Str} {XP : (Str → Option Value) → Heap → Prop} {YP : World → Heap → Prop} {d : DefRec} {K : Params → PySem.W.Frag} (hn : l.most = some 63) (hdf : d.params.defaults = [])
    (hY : ∀ (w : World) (h : Heap), YP w h → (K w.params).In h)
    (F : ∀ (w : World) (mg : Str → Option Value) (fa : Addr) (h : Heap), (K w.params).In h → h.Ns mainGlobals mg → mg d.name = some (.ref fa) →
      ∃ fd : FuncData, (∀ (s : Shared) (u : Value), BindsTo s fd ⟨[u], []⟩ [("_law_script", u)]) ∧ ∀ base : Heap, (K w.params).In base → base.Ns mainGlobals mg → FnOk l.prog w (K w.params) mg base CX0 200 fa fd ["_law_script"] (spLaw (K w.params))) :
    PySem.W.WalkO q loose XP YP l.row.toRowW d [] (fun f vs => PySem.call f vs) :=
  L2.walk_of (n := 63) (k := 200) (x := "_law_script") (CX := fun _ => CX0) (sp := fun w => spLaw (K w.params)) hn (by decide) hdf ⟨rfl, by decide, by decide⟩ hY F (fun _ _ a ns hl _ hS => ⟨a, ns, rfl, hS, hl, fun _ => rfl⟩) fun _ _ _ _ _ z => z
end Fks
open PySem PySem.W PyProof.Rows
set_option maxRecDepth 100000 in
set_option maxHeartbeats 0 in
theorem PySem.Challenge.cw_forkstamp_k12_rows_refused_holds : PySem.Challenge.rw_forkstamp_k12_rows_refused.Holds := by
  w_on; o_law; k_head; (case hw => w_witness2)
  k_fill
  refine Fks.walk (l := PySem.Challenge.rw_forkstamp_k12_rows_refused) rfl rfl (fun w h Y => PySem.W.kIn_of Y) ?F
  case F =>
    intro w mg fa h KX G hmg
    refine' Fks.all_mk KX G hmg ?d0 ?d1 ?d2 ?d3 ?d4 ?d5 ?d6 ?d7 ?d8 ?d9 ?d10 ?d11 ?d12 ?d13 ?d14 ?d15 ?d16 ?d17 ?d18 ?d19 ?d20 ?d21 ?d22 ?d23 ?d24 ?d25 ?d26 ?d27 ?d28 ?d29 ?d30 ?d31 ?d32 ?d33 ?d34 ?d35 ?d36 ?d37 ?d38 ?d39 ?d40 ?d41 ?d42 ?d43 ?d44 ?d45 ?d46 ?d47 ?d48 ?d49 ?d50 ?d51 ?al ?ll ?cl ?kl ?gn0 ?gr0 ?gn1 ?gr1 ?gn2 ?gr2 ?z0 ?z1 ?z2 ?z3 ?z4 ?z5 ?z6 ?z7 ?z8 ?z9 ?z10 ?z11 ?n0 ?n1 ?n2 ?n3 ?n4 ?n5 ?n6 ?n7 ?n8 ?k0 ?k1 ?k2 ?k3 ?k4 ?k5 ?k6 ?k7 ?k8 ?k9 ?k10 ?k11 ?k12 ?k13 ?k14 ?k15 ?k16 ?k17 ?k18 ?k19 ?k20 ?k21 ?k22 ?k23 ?k24 ?k25 ?k26 ?k27 ?k28 ?k29 ?k30 ?k31 ?k32 ?k33 ?k34 ?k35 ?k36 ?k37 ?k38 ?k39 ?k40 ?k41 ?k42 ?k43 ?k44 ?k45
    (case n0 => k_is)
    (case n1 => k_is)
    (case n2 => k_is)
    (case n3 => k_is)
    (case n4 => k_is)
    (case n5 => k_is)
    (case n6 => k_is)
    (case n7 => k_is)
    (case n8 => k_is)
    (case d0 => refine' DL.dfn_mk "is_whole" KX G ?a ?l ?c ?k (fun _ _ _ _ _ _ us hl => match us, hl with | [_], _ => rfl); (case a => k_is); (case l => k_is); (case c => k_is); (case k => k_is))
    (case d1 => refine' DL.dfn_mk "is_all_or_none" KX G ?a ?l ?c ?k (fun _ _ _ _ _ _ us hl => match us, hl with | [_], _ => rfl); (case a => k_is); (case l => k_is); (case c => k_is); (case k => k_is))
    (case d2 => refine' DL.dfn_mk "is_own" KX G ?a ?l ?c ?k (fun _ _ _ _ _ _ us hl => match us, hl with | [_], _ => rfl); (case a => k_is); (case l => k_is); (case c => k_is); (case k => k_is))
    (case d3 => refine' DL.dfn_mk "least_pair" KX G ?a ?l ?c ?k (fun _ _ _ _ _ _ us hl => match us, hl with | [_, _], _ => rfl); (case a => k_is); (case l => k_is); (case c => k_is); (case k => k_is))
    (case d4 => refine' DL.dfn_mk "least_own" KX G ?a ?l ?c ?k (fun _ _ _ _ _ _ us hl => match us, hl with | [_], _ => rfl); (case a => k_is); (case l => k_is); (case c => k_is); (case k => k_is))
    (case d5 => refine' DL.dfn_mk "is_number" KX G ?a ?l ?c ?k (fun _ _ _ _ _ _ us hl => match us, hl with | [_], _ => rfl); (case a => k_is); (case l => k_is); (case c => k_is); (case k => k_is))
    (case d6 => refine' DL.dfn_mk "is_parting" KX G ?a ?l ?c ?k (fun _ _ _ _ _ _ us hl => match us, hl with | [_], _ => rfl); (case a => k_is); (case l => k_is); (case c => k_is); (case k => k_is))
    (case d7 => refine' DL.dfn_mk "is_told" KX G ?a ?l ?c ?k (fun _ _ _ _ _ _ us hl => match us, hl with | [_], _ => rfl); (case a => k_is); (case l => k_is); (case c => k_is); (case k => k_is))
    (case d8 => refine' DL.dfn_mk "told_least" KX G ?a ?l ?c ?k (fun _ _ _ _ _ _ us hl => match us, hl with | [_], _ => rfl); (case a => k_is); (case l => k_is); (case c => k_is); (case k => k_is))
    (case d9 => refine' DL.dfn_mk "lifted" KX G ?a ?l ?c ?k (fun _ _ _ _ _ _ us hl => match us, hl with | [_, _], _ => rfl); (case a => k_is); (case l => k_is); (case c => k_is); (case k => k_is))
    (case d10 => refine' DL.dfn_mk "least_over" KX G ?a ?l ?c ?k (fun _ _ _ _ _ _ us hl => match us, hl with | [_, _], _ => rfl); (case a => k_is); (case l => k_is); (case c => k_is); (case k => k_is))
    (case d11 => refine' DL.dfn_mk "least_told" KX G ?a ?l ?c ?k (fun _ _ _ _ _ _ us hl => match us, hl with | [_], _ => rfl); (case a => k_is); (case l => k_is); (case c => k_is); (case k => k_is))
    (case d12 => refine' DL.dfn_mk "told_greatest" KX G ?a ?l ?c ?k (fun _ _ _ _ _ _ us hl => match us, hl with | [_], _ => rfl); (case a => k_is); (case l => k_is); (case c => k_is); (case k => k_is))
    (case d13 => refine' DL.dfn_mk "halves" KX G ?a ?l ?c ?k (fun _ _ _ _ _ _ us hl => match us, hl with | [_], _ => rfl); (case a => k_is); (case l => k_is); (case c => k_is); (case k => k_is))
    (case d14 => refine' DL.dfn_mk "filled" KX G ?a ?l ?c ?k (fun _ _ _ _ _ _ us hl => match us, hl with | [_, _], _ => rfl); (case a => k_is); (case l => k_is); (case c => k_is); (case k => k_is))
    (case d15 => refine' DL.dfn_mk "grown_at_price" KX G ?a ?l ?c ?k (fun _ _ _ _ _ _ us hl => match us, hl with | [_, _], _ => rfl); (case a => k_is); (case l => k_is); (case c => k_is); (case k => k_is))
    (case d16 => refine' DL.dfn_mk "grown" KX G ?a ?l ?c ?k (fun _ _ _ _ _ _ us hl => match us, hl with | [_, _], _ => rfl); (case a => k_is); (case l => k_is); (case c => k_is); (case k => k_is))
    (case d17 => refine' DL.dfn_mk "raised" KX G ?a ?l ?c ?k (fun _ _ _ _ _ _ us hl => match us, hl with | [_, _], _ => rfl); (case a => k_is); (case l => k_is); (case c => k_is); (case k => k_is))
    (case d18 => refine' DL.dfn_mk "_law_mixed" KX G ?a ?l ?c ?k (fun _ _ _ _ _ _ us hl => match us, hl with | [_, _], _ => rfl); (case a => k_is); (case l => k_is); (case c => k_is); (case k => k_is))
    (case d19 => refine' DL.cdf_mk2 (h := h) (PySem.W.mg_of KX G ?m) ?a ?i ?l ?c ?k ?mk ?kc ?lT ?dT ?vT rfl (fun _ _ _ _ _ _ _ us its jj hj l1 l2 => match jj, hj, us, l1, its, l2 with | 0, _, [_], _, [_, _], _ => ⟨_, rfl, rfl⟩ | 1, _, [_, _], _, [_, _], _ => ⟨_, rfl, rfl⟩ | 2, _, [_, _, _], _, [_, _], _ => ⟨_, rfl, rfl⟩); (case m => k_is); (case a => k_is); (case i => k_is); (case l => k_is); (case c => k_is); (case k => k_is); (case mk => k_is); (case kc => k_is); (case lT => k_is); (case dT => exact rfl); (case vT => exact .cons ⟨_, rfl⟩ (.cons ⟨_, rfl⟩ .nil)))
    (case d20 => refine' DL.mdf_mk ⟨?p1, ?p2, ?p3, ?p4⟩ ?a ?i ?l ?c ?k (fun _ _ _ _ _ _ us hl => match us, hl with | [_], _ => rfl); (case p1 => k_is); (case p2 => k_is); (case p3 => k_is); (case p4 => k_is); (case a => k_is); (case i => k_is); (case l => k_is); (case c => k_is); (case k => k_is))
    (case d21 => refine' DL.dfn_mk "_law_own" KX G ?a ?l ?c ?k (fun _ _ _ _ _ _ us hl => match us, hl with | [_, _], _ => rfl); (case a => k_is); (case l => k_is); (case c => k_is); (case k => k_is))
    (case d22 => refine' DL.dfn_mk "_law_tree" KX G ?a ?l ?c ?k (fun _ _ _ _ _ _ us hl => match us, hl with | [_, _, _], _ => rfl); (case a => k_is); (case l => k_is); (case c => k_is); (case k => k_is))
    (case d23 => refine' DL.dfn_mk "own_bits" KX G ?a ?l ?c ?k (fun _ _ _ _ _ _ us hl => match us, hl with | [_], _ => rfl); (case a => k_is); (case l => k_is); (case c => k_is); (case k => k_is))
    (case d24 => refine' DL.dfn_mk "number_bits" KX G ?a ?l ?c ?k (fun _ _ _ _ _ _ us hl => match us, hl with | [_], _ => rfl); (case a => k_is); (case l => k_is); (case c => k_is); (case k => k_is))
    (case d25 => refine' DL.dfn_mk "told_bits" KX G ?a ?l ?c ?k (fun _ _ _ _ _ _ us hl => match us, hl with | [_], _ => rfl); (case a => k_is); (case l => k_is); (case c => k_is); (case k => k_is))
    (case d26 => refine' DL.dfn_mk "packed" KX G ?a ?l ?c ?k (fun _ _ _ _ _ _ us hl => match us, hl with | [_], _ => rfl); (case a => k_is); (case l => k_is); (case c => k_is); (case k => k_is))
    (case d27 => refine' DL.dfn_mk "refuse_too_deep" KX G ?a ?l ?c ?k (fun _ _ _ _ _ _ us hl => match us, hl with | [_], _ => rfl); (case a => k_is); (case l => k_is); (case c => k_is); (case k => k_is))
    (case d28 => refine' DL.cdf_mk (h := h) (PySem.W.mg_of KX G ?m) ?a ?i ?l ?c ?k ?mk ?kc (fun _ _ _ _ _ _ us hl => match us, hl with | [_, _], _ => rfl); (case m => k_is); (case a => k_is); (case i => k_is); (case l => k_is); (case c => k_is); (case k => k_is); (case mk => k_is); (case kc => k_is))
    (case d29 => refine' DL.mdf_mk ⟨?p1, ?p2, ?p3, ?p4⟩ ?a ?i ?l ?c ?k (fun _ _ _ _ _ _ us hl => match us, hl with | [_, _], _ => rfl); (case p1 => k_is); (case p2 => k_is); (case p3 => k_is); (case p4 => k_is); (case a => k_is); (case i => k_is); (case l => k_is); (case c => k_is); (case k => k_is))
    (case d30 => refine' DL.mdf_mk ⟨?p1, ?p2, ?p3, ?p4⟩ ?a ?i ?l ?c ?k (fun _ _ _ _ _ _ us hl => match us, hl with | [_], _ => rfl); (case p1 => k_is); (case p2 => k_is); (case p3 => k_is); (case p4 => k_is); (case a => k_is); (case i => k_is); (case l => k_is); (case c => k_is); (case k => k_is))
    (case d31 => refine' DL.dfn_mk "read_own" KX G ?a ?l ?c ?k (fun _ _ _ _ _ _ us hl => match us, hl with | [_, _], _ => rfl); (case a => k_is); (case l => k_is); (case c => k_is); (case k => k_is))
    (case d32 => refine' DL.dfn_mk "read_told" KX G ?a ?l ?c ?k (fun _ _ _ _ _ _ us hl => match us, hl with | [_, _], _ => rfl); (case a => k_is); (case l => k_is); (case c => k_is); (case k => k_is))
    (case d33 => refine' DL.dfn_mk "is_row" KX G ?a ?l ?c ?k (fun _ _ _ _ _ _ us hl => match us, hl with | [_], _ => rfl); (case a => k_is); (case l => k_is); (case c => k_is); (case k => k_is))
    (case d34 => refine' DL.dfn_mk "unpacked" KX G ?a ?l ?c ?k (fun _ _ _ _ _ _ us hl => match us, hl with | [_], _ => rfl); (case a => k_is); (case l => k_is); (case c => k_is); (case k => k_is))
    (case d35 => refine' DL.dfn_mk "_law_number_bits" KX G ?a ?l ?c ?k (fun _ _ _ _ _ _ us hl => match us, hl with | [_], _ => rfl); (case a => k_is); (case l => k_is); (case c => k_is); (case k => k_is))
    (case d36 => refine' DL.dfn_mk "_law_own_bits" KX G ?a ?l ?c ?k (fun _ _ _ _ _ _ us hl => match us, hl with | [_], _ => rfl); (case a => k_is); (case l => k_is); (case c => k_is); (case k => k_is))
    (case d37 => refine' DL.dfn_mk "_law_told_bits" KX G ?a ?l ?c ?k (fun _ _ _ _ _ _ us hl => match us, hl with | [_], _ => rfl); (case a => k_is); (case l => k_is); (case c => k_is); (case k => k_is))
    (case d38 => refine' DL.dfn_mk "_law_row" KX G ?a ?l ?c ?k (fun _ _ _ _ _ _ us hl => match us, hl with | [_], _ => rfl); (case a => k_is); (case l => k_is); (case c => k_is); (case k => k_is))
    (case d39 => refine' DL.dfn_mk "_law_read_number" KX G ?a ?l ?c ?k (fun _ _ _ _ _ _ us hl => match us, hl with | [_, _], _ => rfl); (case a => k_is); (case l => k_is); (case c => k_is); (case k => k_is))
    (case d40 => refine' DL.dfn_mk "_law_read_own" KX G ?a ?l ?c ?k (fun _ _ _ _ _ _ us hl => match us, hl with | [_, _], _ => rfl); (case a => k_is); (case l => k_is); (case c => k_is); (case k => k_is))
    (case d41 => refine' DL.dfn_mk "_law_read_told" KX G ?a ?l ?c ?k (fun _ _ _ _ _ _ us hl => match us, hl with | [_, _], _ => rfl); (case a => k_is); (case l => k_is); (case c => k_is); (case k => k_is))
    (case d42 => refine' DL.dfn_mk "_law_depth" KX G ?a ?l ?c ?k (fun _ _ _ _ _ _ us hl => match us, hl with | [_], _ => rfl); (case a => k_is); (case l => k_is); (case c => k_is); (case k => k_is))
    (case d43 => refine' DL.dfn_mk "_law_base" KX G ?a ?l ?c ?k (fun _ _ _ _ _ _ us hl => match us, hl with | [_], _ => rfl); (case a => k_is); (case l => k_is); (case c => k_is); (case k => k_is))
    (case d44 => refine' DL.dfn_mk "_law_is_least" KX G ?a ?l ?c ?k (fun _ _ _ _ _ _ us hl => match us, hl with | [_, _], _ => rfl); (case a => k_is); (case l => k_is); (case c => k_is); (case k => k_is))
    (case d45 => refine' DL.dfn_mk "_law_word" KX G ?a ?l ?c ?k (fun _ _ _ _ _ _ us hl => match us, hl with | [_], _ => rfl); (case a => k_is); (case l => k_is); (case c => k_is); (case k => k_is))
    (case d46 => refine' DL.dfn_mk "_law_due" KX G ?a ?l ?c ?k (fun _ _ _ _ _ _ us hl => match us, hl with | [_], _ => rfl); (case a => k_is); (case l => k_is); (case c => k_is); (case k => k_is))
    (case d47 => refine' DL.dfn_mk "_law_told" KX G ?a ?l ?c ?k (fun _ _ _ _ _ _ us hl => match us, hl with | [_], _ => rfl); (case a => k_is); (case l => k_is); (case c => k_is); (case k => k_is))
    (case d48 => refine' DL.dfn_mk "_law_bent" KX G ?a ?l ?c ?k (fun _ _ _ _ _ _ us hl => match us, hl with | [_, _], _ => rfl); (case a => k_is); (case l => k_is); (case c => k_is); (case k => k_is))
    (case d49 => refine' DL.dfn_mk "_law_odd" KX G ?a ?l ?c ?k (fun _ _ _ _ _ _ us hl => match us, hl with | [_, _], _ => rfl); (case a => k_is); (case l => k_is); (case c => k_is); (case k => k_is))
    (case d50 => refine' DL.dfn_mk "_law_chains" KX G ?a ?l ?c ?k (fun _ _ _ _ _ _ us hl => match us, hl with | [_], _ => rfl); (case a => k_is); (case l => k_is); (case c => k_is); (case k => k_is))
    (case d51 => refine' DL.dfn_mk "_law_at" KX G ?a ?l ?c ?k (fun _ _ _ _ _ _ us hl => match us, hl with | [_, _], _ => rfl); (case a => k_is); (case l => k_is); (case c => k_is); (case k => k_is))
    (case al => k_is); (case ll => k_is); (case cl => k_is); (case kl => k_is)
    (case gn0 => k_is); (case gr0 => exact ⟨_, rfl⟩)
    (case gn1 => k_is); (case gr1 => exact ⟨_, rfl⟩)
    (case gn2 => k_is); (case gr2 => exact ⟨_, rfl⟩)
    (case z0 => k_is)
    (case z1 => k_is)
    (case z2 => k_is)
    (case z3 => k_is)
    (case z4 => k_is)
    (case z5 => k_is)
    (case z6 => k_is)
    (case z7 => k_is)
    (case z8 => k_is)
    (case z9 => k_is)
    (case z10 => k_is)
    (case z11 => k_is)
    (case k0 => refine' DL.ExK.mk ?e0 ?e1 ?e2 ?e3 (L2.ExcC.mk ?e4 ?e5 ?e6 ?e7 ?e8 ?e9 ?e10 ?e11); (case e0 => k_exc); (case e1 => k_is); (case e2 => k_is); (case e3 => k_is); (case e4 => k_is); (case e5 => k_is); (case e6 => k_is); (case e7 => k_is); (case e8 => k_is); (case e9 => k_is); (case e10 => k_is); (case e11 => k_is))
    (case k1 => refine' ⟨?e0, ?e1, ?e2, ?e3⟩; (case e0 => k_is); (case e1 => k_is); (case e2 => k_is); (case e3 => k_is))
    (case k2 => unfold L2.NoAttr; k_is)
    (case k3 => unfold L2.NoAttr; k_is)
    (case k4 => refine' DL.ExK.mk ?e0 ?e1 ?e2 ?e3 (L2.ExcC.mk ?e4 ?e5 ?e6 ?e7 ?e8 ?e9 ?e10 ?e11); (case e0 => k_exc); (case e1 => k_is); (case e2 => k_is); (case e3 => k_is); (case e4 => k_is); (case e5 => k_is); (case e6 => k_is); (case e7 => k_is); (case e8 => k_is); (case e9 => k_is); (case e10 => k_is); (case e11 => k_is))
    (case k5 => refine' DL.ExK.mk ?e0 ?e1 ?e2 ?e3 (L2.ExcC.mk ?e4 ?e5 ?e6 ?e7 ?e8 ?e9 ?e10 ?e11); (case e0 => k_exc); (case e1 => k_is); (case e2 => k_is); (case e3 => k_is); (case e4 => k_is); (case e5 => k_is); (case e6 => k_is); (case e7 => k_is); (case e8 => k_is); (case e9 => k_is); (case e10 => k_is); (case e11 => k_is))
    (case k6 => refine' DL.ExK.mk ?e0 ?e1 ?e2 ?e3 (L2.ExcC.mk ?e4 ?e5 ?e6 ?e7 ?e8 ?e9 ?e10 ?e11); (case e0 => k_exc); (case e1 => k_is); (case e2 => k_is); (case e3 => k_is); (case e4 => k_is); (case e5 => k_is); (case e6 => k_is); (case e7 => k_is); (case e8 => k_is); (case e9 => k_is); (case e10 => k_is); (case e11 => k_is))
    (case k7 => refine' ⟨?e0, ?e1, ?e2, ?e3⟩; (case e0 => k_is); (case e1 => k_is); (case e2 => k_is); (case e3 => k_is))
    (case k8 => unfold L2.NoAttr; k_is)
    (case k9 => unfold L2.NoAttr; k_is)
    (case k10 => refine' DL.kit_f ?e0 ?e1 ?e2 ?e3; (case e0 => k_is); (case e1 => k_is); (case e2 => k_is); (case e3 => first | rfl | decide))
    (case k11 => refine' DL.kit_f ?e0 ?e1 ?e2 ?e3; (case e0 => k_is); (case e1 => k_is); (case e2 => k_is); (case e3 => first | rfl | decide))
    (case k12 => refine' DL.kit_f ?e0 ?e1 ?e2 ?e3; (case e0 => k_is); (case e1 => k_is); (case e2 => k_is); (case e3 => first | rfl | decide))
    (case k13 => refine' DL.kit_t ?e0 ?e1 ?e2; (case e0 => k_is); (case e1 => k_is); (case e2 => k_is))
    (case k14 => refine' DL.kit_f ?e0 ?e1 ?e2 ?e3; (case e0 => k_is); (case e1 => k_is); (case e2 => k_is); (case e3 => first | rfl | decide))
    (case k15 => refine' DL.kit_f ?e0 ?e1 ?e2 ?e3; (case e0 => k_is); (case e1 => k_is); (case e2 => k_is); (case e3 => first | rfl | decide))
    (case k16 => refine' DL.kit_f ?e0 ?e1 ?e2 ?e3; (case e0 => k_is); (case e1 => k_is); (case e2 => k_is); (case e3 => first | rfl | decide))
    (case k17 => refine' DL.kit_f ?e0 ?e1 ?e2 ?e3; (case e0 => k_is); (case e1 => k_is); (case e2 => k_is); (case e3 => first | rfl | decide))
    (case k18 => refine' DL.kit_f ?e0 ?e1 ?e2 ?e3; (case e0 => k_is); (case e1 => k_is); (case e2 => k_is); (case e3 => first | rfl | decide))
    (case k19 => refine' DL.kit_f ?e0 ?e1 ?e2 ?e3; (case e0 => k_is); (case e1 => k_is); (case e2 => k_is); (case e3 => first | rfl | decide))
    (case k20 => refine' DL.kit_f ?e0 ?e1 ?e2 ?e3; (case e0 => k_is); (case e1 => k_is); (case e2 => k_is); (case e3 => first | rfl | decide))
    (case k21 => refine' DL.kit_f ?e0 ?e1 ?e2 ?e3; (case e0 => k_is); (case e1 => k_is); (case e2 => k_is); (case e3 => first | rfl | decide))
    (case k22 => refine' DL.kit_t ?e0 ?e1 ?e2; (case e0 => k_is); (case e1 => k_is); (case e2 => k_is))
    (case k23 => refine' DL.kit_f ?e0 ?e1 ?e2 ?e3; (case e0 => k_is); (case e1 => k_is); (case e2 => k_is); (case e3 => first | rfl | decide))
    (case k24 => refine' DL.kit_f ?e0 ?e1 ?e2 ?e3; (case e0 => k_is); (case e1 => k_is); (case e2 => k_is); (case e3 => first | rfl | decide))
    (case k25 => refine' DL.kit_f ?e0 ?e1 ?e2 ?e3; (case e0 => k_is); (case e1 => k_is); (case e2 => k_is); (case e3 => first | rfl | decide))
    (case k26 => refine' DL.kit_f ?e0 ?e1 ?e2 ?e3; (case e0 => k_is); (case e1 => k_is); (case e2 => k_is); (case e3 => first | rfl | decide))
    (case k27 => refine' DL.kit_t ?e0 ?e1 ?e2; (case e0 => k_is); (case e1 => k_is); (case e2 => k_is))
    (case k28 => refine' DL.kit_f ?e0 ?e1 ?e2 ?e3; (case e0 => k_is); (case e1 => k_is); (case e2 => k_is); (case e3 => first | rfl | decide))
    (case k29 => refine' DL.kit_f ?e0 ?e1 ?e2 ?e3; (case e0 => k_is); (case e1 => k_is); (case e2 => k_is); (case e3 => first | rfl | decide))
    (case k30 => refine' DL.kit_f ?e0 ?e1 ?e2 ?e3; (case e0 => k_is); (case e1 => k_is); (case e2 => k_is); (case e3 => first | rfl | decide))
    (case k31 => refine' DL.kit_f ?e0 ?e1 ?e2 ?e3; (case e0 => k_is); (case e1 => k_is); (case e2 => k_is); (case e3 => first | rfl | decide))
    (case k32 => refine' DL.kit_t ?e0 ?e1 ?e2; (case e0 => k_is); (case e1 => k_is); (case e2 => k_is))
    (case k33 => refine' DL.kit_f ?e0 ?e1 ?e2 ?e3; (case e0 => k_is); (case e1 => k_is); (case e2 => k_is); (case e3 => first | rfl | decide))
    (case k34 => refine' DL.kit_b ?e0 ?e1; (case e0 => decide +kernel); (case e1 => k_is))
    (case k35 => refine' DL.kit_b ?e0 ?e1; (case e0 => decide +kernel); (case e1 => k_is))
    (case k36 => refine' DL.kit_b ?e0 ?e1; (case e0 => decide +kernel); (case e1 => k_is))
    (case k37 => refine' DL.kit_b ?e0 ?e1; (case e0 => decide +kernel); (case e1 => k_is))
    (case k38 => refine' DL.kit_t ?e0 ?e1 ?e2; (case e0 => k_is); (case e1 => k_is); (case e2 => k_is))
    (case k39 => refine' DL.kit_t ?e0 ?e1 ?e2; (case e0 => k_is); (case e1 => k_is); (case e2 => k_is))
    (case k40 => refine' DL.kit_t ?e0 ?e1 ?e2; (case e0 => k_is); (case e1 => k_is); (case e2 => k_is))
    (case k41 => refine' DL.kit_t ?e0 ?e1 ?e2; (case e0 => k_is); (case e1 => k_is); (case e2 => k_is))
    (case k42 => refine' PySem.W.exm_ref ?e0 ?e1 ?e2 ?e3; (case e0 => k_is); (case e1 => k_is); (case e2 => k_is); (case e3 => k_is))
    (case k43 => refine' PySem.W.exm_ref ?e0 ?e1 ?e2 ?e3; (case e0 => k_is); (case e1 => k_is); (case e2 => k_is); (case e3 => k_is))
    (case k44 => refine' PySem.W.exm_ref ?e0 ?e1 ?e2 ?e3; (case e0 => k_is); (case e1 => k_is); (case e2 => k_is); (case e3 => k_is))
    (case k45 => refine' PySem.W.exm_ref ?e0 ?e1 ?e2 ?e3; (case e0 => k_is); (case e1 => k_is); (case e2 => k_is); (case e3 => k_is))

