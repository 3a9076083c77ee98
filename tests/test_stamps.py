import copy
import random
import unittest

from forkstamp.deeds import raised
from forkstamp.errors import BadOwn, BadTold, NoOwn, Shared
from forkstamp.owns import parted, shares
from forkstamp.stamps import Stamp
from odd_things import odd_things
from places import DEEP_SIDES, all_owns, all_tolds, drawn_own, drawn_told, is_least
from places import own_chain, own_places, told_chain, told_places

SIXTY = int("314159265358979323846264338327" * 2)
OWNS = [own for own in all_owns(3) if is_least(own)]
TOLDS = [told for told in all_tolds(2, 2) if is_least(told)] + [SIXTY, (1, (0, 2, 0), 1), (0, (1, 0, SIXTY), 0)]
STAMPS = [(own, told) for own in OWNS for told in TOLDS]


def fields(stamp):
    return (stamp.own, stamp.told)


def drawn_stamp(draw):
    return Stamp(drawn_own(draw, 6), drawn_told(draw, 6, draw.choice([1, 3, SIXTY])))


class StampCase(unittest.TestCase):
    def assert_stamp(self, stamp, own, told):
        self.assertIs(type(stamp), Stamp)
        self.assertEqual(fields(stamp), (own, told))
        self.assertTrue(is_least(stamp.own) and is_least(stamp.told))

    def assert_refused(self, refusal, *args, **more):
        with self.assertRaises(refusal) as caught:
            Stamp(*args, **more)
        self.assertIs(type(caught.exception), refusal)


class NewStampTest(StampCase):
    def test_the_first_one(self):
        stamp = Stamp()
        self.assert_stamp(stamp, 1, 0)
        self.assertIs(type(stamp.own), int)
        self.assertIs(type(stamp.told), int)

    def test_the_parts_are_its_fields(self):
        for own, told in STAMPS:
            self.assert_stamp(Stamp(own, told), own, told)
            self.assert_stamp(Stamp(told=told, own=own), own, told)
            self.assert_stamp(Stamp(own), own, 0)
            self.assert_stamp(Stamp(told=told), 1, told)

    def test_parts_that_are_not_in_their_least_form(self):
        self.assert_stamp(Stamp((1, 1), (0, 0, 0)), 1, 0)
        self.assert_stamp(Stamp((0, (0, 0)), (2, 1, 1)), 0, 3)
        self.assert_stamp(Stamp(((1, 1), 0), (0, 1, 2)), (1, 0), (1, 0, 1))
        self.assert_stamp(Stamp((1, 0), (0, (1, 2, 3), 2)), (1, 0), (2, (1, 0, 1), 0))
        for own in all_owns(3):
            for told in ((0, 1, 1), (1, (0, 1, 1), 2), 4):
                stamp = Stamp(own, told)
                self.assert_stamp(stamp, stamp.own, stamp.told)
                self.assertTrue(all(here == there for here, there in own_places(own, stamp.own)))
                self.assertTrue(all(here == there for here, there in told_places(told, stamp.told)))

    def test_forty_deep_ones(self):
        for sides in DEEP_SIDES:
            own, told = own_chain(sides, 1, 0), told_chain(sides, SIXTY, 0)
            self.assert_stamp(Stamp(own, told), own, told)
            self.assert_stamp(Stamp(own_chain(sides, 1, 1), told_chain(sides, 1, 1)), 1, 1)
            self.assert_stamp(Stamp(own_chain(sides, 0, 0), told_chain(sides, 0, 0)), 0, 0)
            told = told_chain(sides, 1, 1, 3)
            stamp = Stamp(told=told)
            self.assert_stamp(stamp, 1, stamp.told)
            self.assertTrue(all(here == there for here, there in told_places(told, stamp.told)))

    def test_bad_own_of_anything(self):
        for thing in [*odd_things(), 2, SIXTY, (0, 2), (0, 0, 1), ((0, 1), (0, 1, 0))]:
            self.assert_refused(BadOwn, thing)
            self.assert_refused(BadOwn, thing, (0, 0, 1))
            self.assert_refused(BadOwn, own=thing)
            self.assert_refused(BadOwn, (1, (0, thing)))

    def test_bad_told_of_anything(self):
        for thing in [*odd_things(), (0, 1), (1, 0), ((0, 1), 0), (0, (0, 1), 0)]:
            self.assert_refused(BadTold, 1, thing)
            self.assert_refused(BadTold, (0, (1, 1)), thing)
            self.assert_refused(BadTold, told=thing)
            self.assert_refused(BadTold, 0, (3, 0, thing))

    def test_bad_own_first_where_both_are_none(self):
        for thing in odd_things():
            self.assert_refused(BadOwn, thing, thing)
            self.assert_refused(BadOwn, thing, (0, 1))
            self.assert_refused(BadOwn, 2, thing)

    def test_things_that_are_nested_beyond_all_parts_and_are_none(self):
        own = told = None
        for _ in range(20000):
            own, told = (0, own), (0, 0, told)
        self.assert_refused(BadOwn, own, told)
        self.assert_refused(BadTold, 1, told)

    def test_what_is_handed_in_is_not_changed(self):
        for thing in ([0, 1], [1], ([0, 1], 0), (0, [1]), {0: (0, 1)}, (0, [0, 1], 0), [0, 0, 0]):
            before = copy.deepcopy(thing)
            self.assert_refused(BadOwn, thing)
            self.assert_refused(BadTold, 1, thing)
            self.assertEqual(thing, before)


class ForkTest(StampCase):
    def test_first_forks(self):
        one, other = Stamp().fork()
        self.assert_stamp(one, (1, 0), 0)
        self.assert_stamp(other, (0, 1), 0)
        one, other = Stamp((1, 0), (2, 0, 1)).fork()
        self.assert_stamp(one, ((1, 0), 0), (2, 0, 1))
        self.assert_stamp(other, ((0, 1), 0), (2, 0, 1))

    def test_the_own_part_is_parted_and_each_has_the_told_part(self):
        for own, told in STAMPS:
            stamp = Stamp(own, told)
            pair = stamp.fork()
            self.assertIs(type(pair), tuple)
            one, other = pair
            self.assert_stamp(one, parted(own)[0], told)
            self.assert_stamp(other, parted(own)[1], told)
            self.assertIsNot(one, other)
            self.assert_stamp(stamp, own, told)

    def test_the_two_joined_are_what_was_forked(self):
        for own, told in STAMPS:
            one, other = Stamp(own, told).fork()
            self.assert_stamp(one.joined(other), own, told)
            self.assert_stamp(other.joined(one), own, told)


class JoinedTest(StampCase):
    def test_cases(self):
        self.assert_stamp(Stamp((1, 0), (0, 1, 0)).joined(Stamp((0, 1), (0, 0, 1))), 1, 1)
        self.assert_stamp(Stamp((1, 0), 3).joined(Stamp(((0, 0), (0, 1)), (2, 2, 0))), (1, (0, 1)), (3, 1, 0))
        self.assert_stamp(Stamp(0, 2).joined(Stamp(0, 5)), 0, 5)

    def test_both_own_parts_together_and_both_told_parts_joined(self):
        draw = random.Random(9)
        joins = refusals = 0
        for own, told in STAMPS:
            for other_own, other_told in draw.sample(STAMPS, 20):
                one, other = Stamp(own, told), Stamp(other_own, other_told)
                if shares(own, other_own):
                    refusals += 1
                    with self.assertRaises(Shared) as caught:
                        one.joined(other)
                    self.assertIs(type(caught.exception), Shared)
                else:
                    joins += 1
                    both = one.joined(other)
                    self.assert_stamp(both, both.own, both.told)
                    self.assertTrue(all(a + b == c for a, b, c in own_places(own, other_own, both.own)))
                    self.assertTrue(all(max(a, b) == c for a, b, c in told_places(told, other_told, both.told)))
                self.assert_stamp(one, own, told)
                self.assert_stamp(other, other_own, other_told)
        self.assertGreater(joins, 500)
        self.assertGreater(refusals, 500)

    def test_shared_with_itself(self):
        for own, told in STAMPS:
            stamp = Stamp(own, told)
            if own == 0:
                self.assert_stamp(stamp.joined(stamp), 0, told)
            else:
                self.assertRaises(Shared, stamp.joined, stamp)

    def test_far_down(self):
        for sides in DEEP_SIDES:
            one = Stamp(own_chain(sides, 1, 0), told_chain(sides, 1, 0))
            other = Stamp(own_chain(sides, 0, 1), told_chain(sides, 0, 2))
            self.assertEqual(one.joined(other).own, 1)
            self.assertRaises(Shared, one.joined, Stamp(own_chain(sides[:30], 1, 0)))


class DeedTest(StampCase):
    def test_first_deeds(self):
        self.assert_stamp(Stamp().deed(), 1, 1)
        self.assert_stamp(Stamp((1, 0)).deed(), (1, 0), (0, 1, 0))
        self.assert_stamp(Stamp((1, 0), (0, 0, 2)).deed(), (1, 0), 2)
        self.assert_stamp(Stamp((1, 0), SIXTY).deed(), (1, 0), (SIXTY, 1, 0))

    def test_the_told_part_is_raised(self):
        for own, told in STAMPS:
            stamp = Stamp(own, told)
            if own == 0:
                with self.assertRaises(NoOwn) as caught:
                    stamp.deed()
                self.assertIs(type(caught.exception), NoOwn)
            else:
                behind = stamp.deed()
                self.assert_stamp(behind, own, raised(own, told))
                self.assertTrue(stamp.is_at_most(behind))
                self.assertFalse(behind.is_at_most(stamp))
            self.assert_stamp(stamp, own, told)

    def test_no_own_of_a_part_that_comes_to_0(self):
        self.assertRaises(NoOwn, Stamp((0, (0, 0)), (1, 1, 2)).deed)


class LearntTest(StampCase):
    def test_its_own_part_and_both_told_parts_joined(self):
        draw = random.Random(10)
        for own, told in STAMPS:
            for other_own, other_told in draw.sample(STAMPS, 10):
                one, other = Stamp(own, told), Stamp(other_own, other_told)
                got = one.learnt(other)
                self.assert_stamp(got, own, got.told)
                self.assertTrue(all(max(a, b) == c for a, b, c in told_places(told, other_told, got.told)))
                self.assert_stamp(one, own, told)
                self.assert_stamp(other, other_own, other_told)

    def test_of_itself(self):
        for own, told in STAMPS:
            stamp = Stamp(own, told)
            self.assert_stamp(stamp.learnt(stamp), own, told)


class IsAtMostTest(StampCase):
    def test_the_told_parts_alone_are_asked(self):
        for told in TOLDS:
            for other_told in TOLDS:
                most = all(here <= there for here, there in told_places(told, other_told))
                for own, other_own in ((1, 1), (0, 1), (1, 0), ((0, 1), (1, 0)), ((1, 0), (1, 0))):
                    self.assertIs(Stamp(own, told).is_at_most(Stamp(other_own, other_told)), most)


class NeverChangedTest(StampCase):
    def test_none_of_its_methods_changes_a_stamp(self):
        draw = random.Random(11)
        for _ in range(300):
            one, other = drawn_stamp(draw), drawn_stamp(draw)
            before = copy.deepcopy((vars(one), vars(other)))
            told = [*one.fork(), one.learnt(other)]
            one.is_at_most(other)
            if one.own != 0:
                told.append(one.deed())
            if not shares(one.own, other.own):
                told.append(one.joined(other))
            self.assertEqual((vars(one), vars(other)), before)
            # What was told is the asker's own: what is asked of it changes nothing either.
            kept = [fields(stamp) for stamp in told]
            for stamp in told:
                stamp.fork()
                stamp.learnt(one)
                other.learnt(stamp)
            self.assertEqual([fields(stamp) for stamp in told], kept)
            self.assertEqual((vars(one), vars(other)), before)

    def test_what_is_told_is_a_stamp_of_its_own(self):
        for own, told in STAMPS:
            stamp = Stamp(own, told)
            nothing = Stamp(0, 0)
            for got in (*stamp.fork(), stamp.learnt(stamp), stamp.learnt(nothing), stamp.joined(nothing)):
                self.assertIsNot(got, stamp)
                self.assertIsNot(got, nothing)


if __name__ == "__main__":
    unittest.main()
