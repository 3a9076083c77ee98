import random
import unittest

from forkstamp.errors import NoHand
from forkstamp.hands import Hands
from forkstamp.packing import packed, unpacked
from forkstamp.stamps import Stamp
from odd_things import odd_things
from places import depth, is_least, own_chain, own_places

ANSWERS = {(True, True): "alike", (True, False): "before", (False, True): "behind", (False, False): "apart"}


def fields(stamp):
    return (stamp.own, stamp.told)


def state(hands):
    """All that can be asked of hands."""
    there = hands.hands()
    return [(hand, fields(hands.stamp(hand)), [hands.compared(hand, other) for other in there]) for hand in there]


class Run:
    """Hands beside plain sets of the deeds that each of them knows."""

    def __init__(self):
        self.hands = Hands()
        self.known = {0: frozenset()}
        self.deeds = 0

    def fork(self, hand):
        new = self.hands.fork(hand)
        self.known[new] = self.known[hand]
        return new

    def deed(self, hand):
        self.deeds += 1
        self.known[hand] |= {self.deeds}
        return self.hands.deed(hand)

    def join(self, hand, other):
        self.known[hand] |= self.known.pop(other)
        return self.hands.join(hand, other)

    def tell(self, hand, other):
        self.known[other] |= self.known[hand]
        return self.hands.tell(hand, other)

    def moments(self):
        """Of each hand that is there: its stamp, and the deeds that it knows."""
        return [(self.hands.stamp(hand), deeds) for hand, deeds in self.known.items()]

    def step(self, draw, most):
        """Do one thing or another, with at most so many hands."""
        there = sorted(self.known)
        hand, other = draw.choice(there), draw.choice(there)
        kind = draw.choice("deed deed fork join tell tell".split())
        if kind == "fork" and len(there) < most and depth(self.hands.stamp(hand).own) < 40:
            self.fork(hand)
        elif kind == "join" and hand != other:
            self.join(hand, other)
        elif kind == "tell":
            self.tell(hand, other)
        else:
            self.deed(hand)


class LongRunTest(unittest.TestCase):
    def assert_parts(self, run):
        stamps = [run.hands.stamp(hand) for hand in run.hands.hands()]
        self.assertEqual(run.hands.hands(), sorted(run.known))
        self.assertTrue(all(is_least(stamp.own) and is_least(stamp.told) for stamp in stamps))
        # No two share a place, and all together have the whole.
        self.assertTrue(all(sum(here) == 1 for here in own_places(*(stamp.own for stamp in stamps))))

    def assert_known(self, moments):
        for one, deeds in moments:
            for other, other_deeds in moments:
                self.assertIs(one.is_at_most(other), deeds <= other_deeds)

    def test_for_all_stamps_of_all_moments(self):
        for seed, most, steps in ((1, 2, 60), (2, 3, 80), (3, 5, 120), (4, 8, 120), (5, 12, 140), (6, 4, 150)):
            draw = random.Random(seed)
            run = Run()
            moments = run.moments()
            for _ in range(steps):
                run.step(draw, most)
                self.assert_parts(run)
                before = dict((fields(stamp), deeds) for stamp, deeds in moments)
                moments.extend(
                    (stamp, deeds) for stamp, deeds in run.moments() if before.get(fields(stamp)) != deeds)
            self.assertGreater(run.deeds, 10)
            self.assert_known(moments)

    def test_very_long_runs(self):
        for seed, most in ((7, 3), (8, 6), (9, 20)):
            draw = random.Random(seed)
            run = Run()
            moments = []
            for at in range(1500):
                run.step(draw, most)
                if at % 50 == 0:
                    self.assert_parts(run)
                    moments.extend(run.moments())
            self.assertLessEqual(max(depth(stamp.told) for stamp, _ in moments), 40)
            self.assert_known(draw.sample(moments, min(len(moments), 90)))

    def test_many_short_runs(self):
        draw = random.Random(10)
        for _ in range(60):
            run = Run()
            moments = run.moments()
            for _ in range(14):
                run.step(draw, 4)
                moments.extend(run.moments())
            self.assert_parts(run)
            self.assert_known(moments)

    def test_all_forked_and_joined_again_have_the_whole(self):
        run = Run()
        draw = random.Random(11)
        for _ in range(30):
            run.deed(run.fork(draw.choice(sorted(run.known))))
        self.assert_parts(run)
        while len(run.known) > 1:
            hand, other = draw.sample(sorted(run.known), 2)
            run.join(hand, other)
            self.assert_parts(run)
        last, = run.hands.hands()
        self.assertEqual(run.hands.stamp(last).own, 1)
        self.assertEqual(run.known[last], frozenset(range(1, 31)))

    def test_forks_of_forks_forty_deep(self):
        for keeps in (True, False):
            run = Run()
            hand = 0
            for _ in range(39):
                new = run.fork(hand)
                run.deed(new if keeps else hand)
                hand = hand if keeps else new
                self.assert_parts(run)
            deepest = run.hands.stamp(hand)
            self.assertEqual(depth(deepest.own), 40)
            self.assertEqual(deepest.own, own_chain("L" * 39 if keeps else "R" * 39, 1, 0))
            for other in run.hands.hands():
                run.tell(other, hand)
                run.deed(hand)
            self.assert_known(run.moments())
            for other in run.hands.hands():
                stamp = run.hands.stamp(other)
                self.assertEqual(fields(unpacked(packed(stamp))), fields(stamp))


class HandsTest(unittest.TestCase):
    def test_at_first_there_is_one_hand_with_the_first_stamp(self):
        hands = Hands()
        self.assertEqual(hands.hands(), [0])
        self.assertIs(type(hands.stamp(0)), Stamp)
        self.assertEqual(fields(hands.stamp(0)), (1, 0))

    def test_the_one_that_forks_keeps_the_first_stamp_of_the_fork(self):
        hands = Hands()
        hands.deed(0)
        self.assertEqual(hands.fork(0), 1)
        self.assertEqual(fields(hands.stamp(0)), ((1, 0), 1))
        self.assertEqual(fields(hands.stamp(1)), ((0, 1), 1))
        self.assertEqual(hands.fork(1), 2)
        self.assertEqual(fields(hands.stamp(1)), ((0, (1, 0)), 1))
        self.assertEqual(fields(hands.stamp(2)), ((0, (0, 1)), 1))

    def test_each_new_hand_has_the_next_number(self):
        hands = Hands()
        self.assertEqual([hands.fork(0), hands.fork(1), hands.fork(0)], [1, 2, 3])
        hands.join(0, 3)
        hands.join(1, 2)
        self.assertEqual(hands.fork(1), 4)
        hands.join(4, 0)
        hands.join(4, 1)
        self.assertEqual(hands.hands(), [4])
        self.assertEqual(hands.fork(4), 5)
        self.assertEqual(hands.hands(), [4, 5])

    def test_a_deed(self):
        hands = Hands()
        self.assertIsNone(hands.deed(0))
        self.assertEqual(fields(hands.stamp(0)), (1, 1))
        hands.fork(0)
        self.assertIsNone(hands.deed(1))
        self.assertEqual(fields(hands.stamp(0)), ((1, 0), 1))
        self.assertEqual(fields(hands.stamp(1)), ((0, 1), (1, 0, 1)))

    def test_a_hand_that_joins_gets_the_own_part_and_what_is_known(self):
        hands = Hands()
        hands.fork(0)
        hands.fork(1)
        hands.deed(0)
        hands.deed(2)
        self.assertIsNone(hands.join(2, 0))
        self.assertEqual(hands.hands(), [1, 2])
        self.assertEqual(fields(hands.stamp(2)), ((1, (0, 1)), (0, 1, (0, 0, 1))))
        self.assertEqual(fields(hands.stamp(1)), ((0, (1, 0)), 0))

    def test_a_hand_that_is_told(self):
        hands = Hands()
        hands.fork(0)
        hands.deed(0)
        self.assertIsNone(hands.tell(0, 1))
        self.assertEqual(fields(hands.stamp(0)), ((1, 0), (0, 1, 0)))
        self.assertEqual(fields(hands.stamp(1)), ((0, 1), (0, 1, 0)))
        hands.deed(1)
        hands.deed(0)
        hands.tell(1, 0)
        self.assertEqual(hands.compared(1, 0), "before")

    def test_a_hand_that_tells_itself(self):
        hands = Hands()
        hands.fork(0)
        hands.deed(1)
        before = state(hands)
        self.assertIsNone(hands.tell(1, 1))
        self.assertIsNone(hands.tell(0, 0))
        self.assertEqual(state(hands), before)

    def test_compared(self):
        hands = Hands()
        self.assertEqual(hands.compared(0, 0), "alike")
        hands.fork(0)
        self.assertEqual(hands.compared(0, 1), "alike")
        hands.deed(0)
        self.assertEqual(hands.compared(0, 1), "behind")
        self.assertEqual(hands.compared(1, 0), "before")
        self.assertEqual(hands.compared(0, 0), "alike")
        hands.deed(1)
        self.assertEqual(hands.compared(0, 1), "apart")
        self.assertEqual(hands.compared(1, 0), "apart")
        hands.tell(0, 1)
        self.assertEqual(hands.compared(0, 1), "before")
        self.assertEqual(hands.compared(1, 0), "behind")
        hands.tell(1, 0)
        self.assertEqual(hands.compared(0, 1), "alike")
        self.assertEqual(hands.compared(1, 0), "alike")

    def test_compared_changes_nothing_and_follows_the_sets_of_deeds(self):
        draw = random.Random(12)
        run = Run()
        seen = set()
        for _ in range(400):
            run.step(draw, 5)
            before = state(run.hands)
            for hand, deeds in run.known.items():
                for other, other_deeds in run.known.items():
                    answer = ANSWERS[deeds <= other_deeds, deeds >= other_deeds]
                    self.assertEqual(run.hands.compared(hand, other), answer)
                    seen.add((answer, hand == other))
            self.assertEqual(state(run.hands), before)
        self.assertEqual(len(seen), 5)


class OwnAnswersTest(unittest.TestCase):
    def test_the_list_of_hands_is_the_askers_own(self):
        hands = Hands()
        hands.fork(0)
        told = hands.hands()
        self.assertIs(type(told), list)
        before = state(hands)
        told.append(9)
        del told[0]
        self.assertEqual(state(hands), before)
        kept = hands.hands()
        hands.fork(1)
        hands.join(2, 0)
        self.assertEqual(kept, [0, 1])
        self.assertEqual(hands.hands(), [1, 2])

    def test_a_stamp_that_was_told_is_not_changed_by_what_is_done_later(self):
        draw = random.Random(13)
        run = Run()
        kept = []
        for _ in range(200):
            kept.extend((stamp, fields(stamp)) for stamp, _ in run.moments())
            run.step(draw, 4)
        for stamp, before in kept:
            self.assertEqual(fields(stamp), before)

    def test_a_stamp_that_was_told_is_the_askers_own(self):
        hands = Hands()
        hands.fork(0)
        hands.deed(0)
        before = state(hands)
        stamp = hands.stamp(0)
        self.assertIsNot(hands.stamp(0), stamp)
        stamp.own, stamp.told = 0, 9
        self.assertEqual(state(hands), before)

    def test_two_hands_do_not_touch_each_other(self):
        one, other = Hands(), Hands()
        one.fork(0)
        one.deed(1)
        self.assertEqual(state(other), state(Hands()))
        other.deed(0)
        self.assertEqual(other.fork(0), 1)
        before = state(one)
        other.join(1, 0)
        self.assertEqual(other.fork(1), 2)
        self.assertEqual(state(one), before)
        self.assertEqual(one.fork(0), 2)


class NoHandTest(unittest.TestCase):
    def setUp(self):
        # Hands 0, 1 and 4 are there; 2 and 3 are gone.
        self.hands = Hands()
        for hand in (0, 1, 0, 1):
            self.hands.fork(hand)
            self.hands.deed(hand)
        self.hands.join(1, 2)
        self.hands.join(0, 3)
        self.assertEqual(self.hands.hands(), [0, 1, 4])

    def assert_no_hand(self, method, *hands):
        with self.assertRaises(NoHand) as caught:
            method(*hands)
        self.assertIs(type(caught.exception), NoHand)

    def assert_refused(self, thing):
        hands = self.hands
        before = state(hands)
        for method in (hands.fork, hands.deed, hands.stamp):
            self.assert_no_hand(method, thing)
        for method in (hands.join, hands.tell, hands.compared):
            for hand in (0, 1, 4):
                self.assert_no_hand(method, thing, hand)
                self.assert_no_hand(method, hand, thing)
            self.assert_no_hand(method, thing, thing)
            self.assert_no_hand(method, thing, 2)
            self.assert_no_hand(method, 2, thing)
        self.assertEqual(state(hands), before)
        self.assertEqual(hands.hands(), [0, 1, 4])

    def test_anything_that_is_no_hand_that_is_there(self):
        for thing in odd_things():
            self.assert_refused(thing)

    def test_truths_texts_lists_and_numbers(self):
        for thing in (True, False, None, "0", "1", b"0", [0], [], (0,), {0: 0}, 0.0, 1.0, 4.0, -1, 5, 6, 10 ** 60, -4):
            self.assert_refused(thing)

    def test_hands_that_are_gone(self):
        for hand in (2, 3):
            self.assert_refused(hand)

    def test_a_hand_joined_with_itself(self):
        before = state(self.hands)
        for hand in (0, 1, 4):
            self.assert_no_hand(self.hands.join, hand, hand)
        self.assertEqual(state(self.hands), before)
        only = Hands()
        self.assert_no_hand(only.join, 0, 0)
        self.assertEqual(state(only), state(Hands()))

    def test_a_refused_fork_takes_no_number(self):
        for thing in (2, 9, True, "0", [0]):
            self.assert_no_hand(self.hands.fork, thing)
        self.assertEqual(self.hands.fork(4), 5)


if __name__ == "__main__":
    unittest.main()
