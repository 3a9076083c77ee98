import copy
import random
import unittest

from forkstamp.errors import Shared
from forkstamp.owns import is_least_own, is_own, least_own, parted, shares, together
from odd_things import odd_things
from places import DEEP_SIDES, all_owns, depth, drawn_own, is_least, own_chain, own_places

LEAST_OWNS = [own for own in all_owns(4) if is_least(own)]


def places_of(own):
    return [here for here, in own_places(own)]


def flipped(own):
    """What own doesn't have."""
    return tuple(map(flipped, own)) if isinstance(own, tuple) else 1 - own


def deep_owns():
    """Own parts forty deep, in their least form."""
    ends = [(1, 0), (0, 1)]
    return [own_chain(sides, 1, 0) for sides in DEEP_SIDES] + [own_chain(sides, 0, 1) for sides in DEEP_SIDES] + [
        own_chain(sides[:38], end, beside) for sides in DEEP_SIDES for end in ends for beside in (0, 1)
    ]


class IsOwnTest(unittest.TestCase):
    def test_parts_are_own_parts(self):
        for own in (0, 1, (0, 0), (1, 1), (0, 1), (1, 0), ((0, 1), 1), (0, (1, (0, 0))), ((1, 0), (0, 1))):
            self.assertIs(is_own(own), True)

    def test_all_small_ones(self):
        for own in all_owns(4):
            self.assertIs(is_own(own), True)

    def test_deep_ones(self):
        for own in deep_owns():
            self.assertEqual(depth(own), 40)
            self.assertIs(is_own(own), True)
            self.assertIs(is_least_own(own), True)

    def test_odd_things_are_none(self):
        for thing in odd_things():
            self.assertIs(is_own(thing), False)
            self.assertIs(is_least_own(thing), False)

    def test_odd_things_within_a_part(self):
        for thing in odd_things():
            for sides in ("L", "R", "LR", *DEEP_SIDES):
                for beside in (0, 1, (0, 1)):
                    self.assertIs(is_own(own_chain(sides, thing, beside)), False)
                    self.assertIs(is_least_own(own_chain(sides, thing, beside)), False)
                    self.assertIs(is_own(own_chain(sides, (0, 1), thing)), False)

    def test_numbers_that_are_too_great(self):
        for number in (2, 3, 256, 10 ** 60):
            for thing in (number, (number, 0), (0, number), (number, number), ((0, 1), (1, number))):
                self.assertIs(is_own(thing), False)
                self.assertIs(is_least_own(thing), False)

    def test_tuples_of_other_lengths(self):
        for thing in ((), (0,), (1,), (0, 1, 0), (0, 1, 0, 1), ((0, 1, 1), 0), (1, ()), (0, ((1,), 0))):
            self.assertIs(is_own(thing), False)
            self.assertIs(is_least_own(thing), False)

    def test_a_thing_that_is_nested_beyond_all_parts_is_answered(self):
        nested, wrong = 1, None
        for _ in range(20000):
            nested, wrong = (0, nested), (0, wrong)
        self.assertIs(is_own(nested), True)
        self.assertIs(is_least_own(nested), True)
        self.assertIs(is_own(wrong), False)
        self.assertIs(is_least_own(wrong), False)

    def test_nothing_handed_in_is_changed(self):
        for thing in ([0, 1], [[0, 1], 0], ([0, 1], 0), (0, {0: [1]}), {1: (0, 1)}, (0, (1, [0]))):
            before = copy.deepcopy(thing)
            is_own(thing)
            is_least_own(thing)
            self.assertEqual(thing, before)


class LeastOwnTest(unittest.TestCase):
    def test_is_least_own_as_the_document_words_it(self):
        for own in all_owns(4):
            self.assertIs(is_least_own(own), is_least(own))

    def test_a_spare_tuple_at_any_depth_is_not_least(self):
        for sides in DEEP_SIDES:
            for many in range(39):
                for spare in ((0, 0), (1, 1)):
                    for beside in (0, 1, (1, 0)):
                        self.assertIs(is_least_own(own_chain(sides[:many], spare, beside)), False)

    def test_cases(self):
        for own, least in (
            (0, 0),
            (1, 1),
            ((0, 0), 0),
            ((1, 1), 1),
            ((0, 1), (0, 1)),
            ((1, 0), (1, 0)),
            (((0, 0), 1), (0, 1)),
            ((1, (1, 1)), 1),
            (((0, 0), (0, (0, 0))), 0),
            ((((1, 1), (1, 1)), ((1, 1), 1)), 1),
            (((0, 1), (0, 1)), ((0, 1), (0, 1))),
            (((1, 0), ((1, 1), (0, 0))), ((1, 0), (1, 0))),
            ((0, ((0, 0), (0, (1, 1)))), (0, (0, (0, 1)))),
        ):
            self.assertEqual(least_own(own), least)

    def test_the_same_places_have_one_least_form_alone(self):
        leasts = {}
        for own in all_owns(4):
            least = least_own(own)
            self.assertTrue(is_least(least))
            self.assertTrue(all(here == there for here, there in own_places(own, least)))
            at_eight = tuple(here for here, _ in own_places(own, (((0, 0), (0, 0)), ((0, 0), (0, 0)))))
            self.assertEqual(leasts.setdefault(at_eight, least), least)
        self.assertEqual(len(leasts), 2 ** 8)

    def test_a_least_form_is_again_itself(self):
        for own in LEAST_OWNS + deep_owns():
            self.assertEqual(least_own(own), own)

    def test_deep_ones_that_come_to_a_number(self):
        for sides in DEEP_SIDES:
            self.assertEqual(least_own(own_chain(sides, 0, 0)), 0)
            self.assertEqual(least_own(own_chain(sides, 1, 1)), 1)
            self.assertEqual(least_own(own_chain(sides, 1, 0)), own_chain(sides, 1, 0))
            self.assertEqual(least_own(own_chain(sides[:38], (1, 1), 0)), own_chain(sides[:38], 1, 0))

    def test_drawn_ones(self):
        draw = random.Random(1)
        for _ in range(500):
            own = drawn_own(draw, 8)
            least = least_own(own)
            self.assertTrue(is_least(least))
            self.assertTrue(all(here == there for here, there in own_places(own, least)))


class PartedTest(unittest.TestCase):
    def test_each_case(self):
        self.assertEqual(parted(0), (0, 0))
        self.assertEqual(parted(1), ((1, 0), (0, 1)))
        self.assertEqual(parted((0, 1)), ((0, (1, 0)), (0, (0, 1))))
        self.assertEqual(parted((1, 0)), (((1, 0), 0), ((0, 1), 0)))
        self.assertEqual(parted((0, (1, 0))), ((0, ((1, 0), 0)), (0, ((0, 1), 0))))
        self.assertEqual(parted((0, (0, 1))), ((0, (0, (1, 0))), (0, (0, (0, 1)))))
        self.assertEqual(parted(((0, 1), 0)), (((0, (1, 0)), 0), ((0, (0, 1)), 0)))
        self.assertEqual(parted((0, ((0, 1), 1))), ((0, ((0, 1), 0)), (0, (0, 1))))
        self.assertEqual(parted((((0, 1), 1), 0)), ((((0, 1), 0), 0), ((0, 1), 0)))
        self.assertEqual(parted(((0, 1), 1)), (((0, 1), 0), (0, 1)))
        self.assertEqual(parted((1, (1, 0))), ((1, 0), (0, (1, 0))))
        self.assertEqual(parted(((1, 0), (0, 1))), (((1, 0), 0), (0, (0, 1))))

    def assert_parted_well(self, own):
        pair = parted(own)
        self.assertIs(type(pair), tuple)
        one, other = pair
        self.assertTrue(is_least(one) and is_least(other))
        self.assertTrue(all(here + there == had for here, there, had in own_places(one, other, own)))
        self.assertFalse(shares(one, other))
        self.assertEqual(together(one, other), own)
        self.assertEqual(one == 0 or other == 0, own == 0)

    def test_the_two_share_nothing_and_have_together_what_it_had(self):
        for own in LEAST_OWNS + deep_owns():
            self.assert_parted_well(own)
            self.assert_parted_well(flipped(own))

    def test_deep_chains_are_parted_at_their_end(self):
        for sides in DEEP_SIDES:
            for many in range(39):
                one, other = parted(own_chain(sides[:many], 1, 0))
                self.assertEqual(one, own_chain(sides[:many], (1, 0), 0))
                self.assertEqual(other, own_chain(sides[:many], (0, 1), 0))

    def test_parted_again_and_again(self):
        owns = [1]
        for at in range(30):
            owns.extend(parted(owns.pop(at // 2)))
            self.assertEqual(len(owns), at + 2)
            self.assertTrue(all(sum(here) == 1 for here in own_places(*owns)))


class SharesAndTogetherTest(unittest.TestCase):
    def assert_right(self, one, other):
        self.assertTrue(is_least(one) and is_least(other))
        pairs = own_places(one, other)
        shared = (1, 1) in pairs
        self.assertIs(shares(one, other), shared)
        if shared:
            with self.assertRaises(Shared) as caught:
                together(one, other)
            self.assertIs(type(caught.exception), Shared)
            return
        both = together(one, other)
        self.assertTrue(is_least(both))
        self.assertTrue(all(here + there == had for here, there, had in own_places(one, other, both)))

    def test_all_pairs_of_small_ones(self):
        for one in LEAST_OWNS:
            for other in LEAST_OWNS:
                self.assert_right(one, other)

    def test_cases(self):
        self.assertEqual(together((1, 0), (0, 1)), 1)
        self.assertEqual(together((0, 1), (1, 0)), 1)
        self.assertEqual(together(((1, 0), 0), ((0, 1), 0)), (1, 0))
        self.assertEqual(together((0, (0, 1)), (0, (1, 0))), (0, 1))
        self.assertEqual(together(((1, 0), (0, 1)), ((0, 1), (1, 0))), 1)
        self.assertEqual(together(((1, 0), 0), (0, (0, 1))), ((1, 0), (0, 1)))
        self.assertIs(shares((1, 0), (0, 1)), False)
        self.assertIs(shares((1, 0), ((0, 1), 0)), True)
        self.assertIs(shares(((1, 0), 1), ((0, 1), 0)), False)
        self.assertIs(shares(((1, 0), 1), ((0, 1), (0, 1))), True)

    def test_0_with_another_one(self):
        for own in LEAST_OWNS + deep_owns():
            self.assertIs(shares(0, own), False)
            self.assertIs(shares(own, 0), False)
            self.assertEqual(together(0, own), own)
            self.assertEqual(together(own, 0), own)

    def test_1_with_another_one(self):
        for own in LEAST_OWNS[1:] + deep_owns():
            self.assertIs(shares(1, own), True)
            self.assertIs(shares(own, 1), True)
            self.assertRaises(Shared, together, 1, own)
            self.assertRaises(Shared, together, own, 1)

    def test_one_with_itself(self):
        for own in LEAST_OWNS[1:] + deep_owns():
            self.assertIs(shares(own, own), True)
            self.assertRaises(Shared, together, own, own)

    def test_one_with_what_it_has_not(self):
        for own in LEAST_OWNS + deep_owns():
            self.assertIs(shares(own, flipped(own)), False)
            self.assertEqual(together(own, flipped(own)), 1)

    def test_deep_pairs(self):
        for one in deep_owns():
            for other in deep_owns():
                self.assert_right(one, other)
                self.assert_right(one, flipped(other))

    def test_drawn_pairs(self):
        draw = random.Random(2)
        for _ in range(500):
            self.assert_right(least_own(drawn_own(draw, 7)), least_own(drawn_own(draw, 4)))
            own = drawn_own(draw, 7)
            self.assert_right(*parted(least_own(own)))
            self.assert_right(least_own(own), flipped(least_own(own)))


if __name__ == "__main__":
    unittest.main()
