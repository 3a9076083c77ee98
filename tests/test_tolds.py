import copy
import random
import unittest

from forkstamp.tolds import at_most, is_least_told, is_told, joined, least_told, told_greatest, told_least
from odd_things import odd_things
from places import DEEP_SIDES, all_tolds, depth, drawn_told, is_least, numbers, told_chain, told_places

SIXTY = int("123456789012345678901234567890" * 2)
LEAST_TOLDS = [told for told in all_tolds(3, 2) if is_least(told)]
FEW_TOLDS = [told for told in all_tolds(3, 1) if is_least(told)] + [3, (2, 0, 3), (1, (0, 2, 0), 1), (0, 0, (1, 0, 3))]


def deep_tolds():
    """Told parts forty deep, in their least form."""
    return [
        told_chain(sides, end, beside, number)
        for sides in DEEP_SIDES
        for end, beside in ((1, 0), (0, 1), (SIXTY, 0), (0, SIXTY))
        for number in (0, 1, SIXTY)
        if is_least(told_chain(sides, end, beside, number))
    ] + [told_chain(sides[:20], told_chain(sides[20:], 2, 0), 0, 1) for sides in DEEP_SIDES]


class IsToldTest(unittest.TestCase):
    def test_parts_are_told_parts(self):
        for told in (0, 1, 2, SIXTY, (0, 0, 0), (1, 2, 3), (0, (1, 0, 2), 0), (SIXTY, 0, (0, SIXTY, 0))):
            self.assertIs(is_told(told), True)

    def test_all_small_ones(self):
        for told in all_tolds(3, 2):
            self.assertIs(is_told(told), True)

    def test_deep_ones(self):
        tolds = deep_tolds()
        self.assertGreater(len(tolds), 20)
        for told in tolds:
            self.assertEqual(depth(told), 40)
            self.assertIs(is_told(told), True)
            self.assertIs(is_least_told(told), True)

    def test_odd_things_are_none(self):
        for thing in odd_things():
            self.assertIs(is_told(thing), False)
            self.assertIs(is_least_told(thing), False)

    def test_odd_things_within_a_part(self):
        for thing in odd_things():
            for sides in ("L", "R", "LR", *DEEP_SIDES):
                for beside in (0, 2, (0, 0, 1)):
                    self.assertIs(is_told(told_chain(sides, thing, beside)), False)
                    self.assertIs(is_least_told(told_chain(sides, thing, beside)), False)
                    self.assertIs(is_told(told_chain(sides, 1, thing)), False)
                    self.assertIs(is_told(told_chain(sides, (thing, 0, 1), beside)), False)
                    self.assertIs(is_least_told(told_chain(sides, (thing, 0, 1), beside)), False)

    def test_a_part_is_no_number_of_a_tuple(self):
        for thing in (((0, 0, 1), 0, 1), (0, ((0, 0, 1), 0, 1), 0), (0, 0, ((1, 0, 1), 1, 0))):
            self.assertIs(is_told(thing), False)
            self.assertIs(is_least_told(thing), False)

    def test_numbers_below_0(self):
        for number in (-1, -SIXTY):
            for thing in (number, (number, 0, 1), (0, number, 0), (0, 0, number), (0, (1, 0, number), 1)):
                self.assertIs(is_told(thing), False)
                self.assertIs(is_least_told(thing), False)

    def test_tuples_of_other_lengths(self):
        for thing in ((), (0,), (0, 1), (1, 0), (0, 0, 1, 0), (0, (0, 1), 0), (0, 0, ()), (0, (0, 0, 1, 1), 0)):
            self.assertIs(is_told(thing), False)
            self.assertIs(is_least_told(thing), False)

    def test_a_thing_that_is_nested_beyond_all_parts_is_answered(self):
        nested, wrong = 1, None
        for _ in range(20000):
            nested, wrong = (1, 0, nested), (1, 0, wrong)
        self.assertIs(is_told(nested), True)
        self.assertIs(is_least_told(nested), True)
        self.assertIs(is_told(wrong), False)
        self.assertIs(is_least_told(wrong), False)

    def test_nothing_handed_in_is_changed(self):
        for thing in ([0, 1, 2], [[0, 1], 0, 0], (0, [0, 1], 0), (0, {0: [1]}, 1), {1: (0, 1)}, (0, 1, (1, [0], 0))):
            before = copy.deepcopy(thing)
            is_told(thing)
            is_least_told(thing)
            self.assertEqual(thing, before)


class LeastToldTest(unittest.TestCase):
    def test_is_least_told_as_the_document_words_it(self):
        for told in all_tolds(3, 2):
            self.assertIs(is_least_told(told), is_least(told))

    def test_what_is_not_least_at_any_depth(self):
        for sides in DEEP_SIDES:
            for many in range(39):
                for spare in ((0, 0, 0), (0, 2, 2), (3, 1, 2), (0, 1, SIXTY), (0, (1, 0, 1), 1)):
                    for beside in (0, (0, 0, 1)):
                        self.assertIs(is_least_told(told_chain(sides[:many], spare, beside)), False)

    def test_cases(self):
        for told, least in (
            (0, 0),
            (SIXTY, SIXTY),
            ((0, 0, 0), 0),
            ((2, 3, 3), 5),
            ((0, 1, 2), (1, 0, 1)),
            ((4, 7, 3), (7, 4, 0)),
            ((1, 0, 2), (1, 0, 2)),
            ((0, (0, 1, 1), 1), 1),
            ((2, (1, 1, 1), (0, 2, 2)), 4),
            ((0, (1, 2, 3), 2), (2, (1, 0, 1), 0)),
            ((0, (2, 0, 1), (2, 0, 1)), (2, (0, 0, 1), (0, 0, 1))),
            ((1, (1, (1, 1, 1), 1), (0, 3, (2, 1, 1))), (3, (0, 1, 0), 1)),
            ((1, (0, (2, 1, 0), 5), (3, 0, (1, 1, 1))), (3, (0, (0, 1, 0), 3), (1, 0, 2))),
            ((SIXTY, (0, SIXTY, SIXTY), SIXTY), 2 * SIXTY),
            ((SIXTY, SIXTY, SIXTY + 1), (2 * SIXTY, 0, 1)),
        ):
            self.assertEqual(least_told(told), least)

    def test_the_same_numbers_have_one_least_form_alone(self):
        leasts = {}
        for told in all_tolds(3, 2):
            least = least_told(told)
            self.assertTrue(is_least(least))
            self.assertTrue(all(here == there for here, there in told_places(told, least)))
            at_four = tuple(here for here, _ in told_places(told, (0, (0, 0, 0), (0, 0, 0))))
            self.assertEqual(leasts.setdefault(at_four, least), least)
        self.assertEqual(len(set(leasts.values())), len(leasts))

    def test_a_least_form_is_again_itself(self):
        for told in LEAST_TOLDS + deep_tolds():
            self.assertEqual(least_told(told), told)

    def test_deep_ones(self):
        for sides in DEEP_SIDES:
            self.assertEqual(least_told(told_chain(sides, 0, 0)), 0)
            self.assertEqual(least_told(told_chain(sides, SIXTY, SIXTY)), SIXTY)
            self.assertEqual(least_told(told_chain(sides, 1, 1)), 1)
            told = told_chain(sides, 4, 3, 2)
            least = least_told(told)
            self.assertTrue(is_least(least))
            self.assertTrue(all(here == there for here, there in told_places(told, least)))
            self.assertEqual(least_told(told_chain(sides[:38], (0, 1, 1), 0)), told_chain(sides[:38], 1, 0))

    def test_drawn_ones(self):
        draw = random.Random(3)
        for most in (1, 3, SIXTY):
            for _ in range(200):
                told = drawn_told(draw, 7, most)
                least = least_told(told)
                self.assertIs(is_least_told(told), is_least(told))
                self.assertTrue(is_least(least))
                self.assertTrue(all(here == there for here, there in told_places(told, least)))


class LeastAndGreatestNumberTest(unittest.TestCase):
    def test_cases(self):
        for told, least, greatest in (
            (0, 0, 0),
            (7, 7, 7),
            ((0, 0, 1), 0, 1),
            ((2, 3, 0), 2, 5),
            ((1, (0, 0, 4), (2, 0, 1)), 1, 5),
            ((1, (0, 0, 1), (2, 0, 1)), 1, 4),
            ((0, (1, (2, 0, 1), 0), 0), 0, 4),
            ((SIXTY, 0, (SIXTY, SIXTY, 0)), SIXTY, 3 * SIXTY),
        ):
            self.assertEqual(told_least(told), least)
            self.assertEqual(told_greatest(told), greatest)

    def test_against_the_numbers_at_all_places(self):
        for told in LEAST_TOLDS + deep_tolds():
            self.assertEqual(told_least(told), min(numbers(told)))
            self.assertEqual(told_greatest(told), max(numbers(told)))


class AtMostAndJoinedTest(unittest.TestCase):
    def assert_right(self, one, other):
        self.assertTrue(is_least(one) and is_least(other))
        pairs = told_places(one, other)
        self.assertIs(at_most(one, other), all(here <= there for here, there in pairs))
        self.assertIs(at_most(other, one), all(here >= there for here, there in pairs))
        both = joined(one, other)
        self.assertEqual(joined(other, one), both)
        self.assertTrue(is_least(both))
        self.assertTrue(all(got == max(here, there) for here, there, got in told_places(one, other, both)))
        self.assertIs(at_most(one, both), True)
        self.assertIs(at_most(other, both), True)

    def test_cases(self):
        self.assertIs(at_most(0, 0), True)
        self.assertIs(at_most(1, 0), False)
        self.assertIs(at_most(1, (1, 0, 2)), True)
        self.assertIs(at_most(2, (1, 0, 2)), False)
        self.assertIs(at_most((1, 0, 2), 3), True)
        self.assertIs(at_most((1, 0, 2), 2), False)
        self.assertIs(at_most((0, 1, 0), (0, 0, 1)), False)
        self.assertIs(at_most((0, 2, 0), (1, 1, 0)), True)
        self.assertIs(at_most((1, 0, 1), (0, 3, (2, 0, 1))), True)
        self.assertIs(at_most((1, 0, 1), (0, 0, (2, 0, 1))), False)
        self.assertEqual(joined(2, 3), 3)
        self.assertEqual(joined((0, 1, 0), (0, 0, 1)), 1)
        self.assertEqual(joined(2, (1, 0, 2)), (2, 0, 1))
        self.assertEqual(joined((0, 2, 0), (0, 0, (0, 1, 0))), (0, 2, (0, 1, 0)))
        self.assertEqual(joined((1, 0, 1), (0, 3, 0)), (2, 1, 0))
        self.assertEqual(joined((SIXTY, 0, 1), SIXTY + 1), SIXTY + 1)
        self.assertEqual(joined((SIXTY, 0, 1), SIXTY), (SIXTY, 0, 1))

    def test_all_pairs_of_small_ones(self):
        for one in FEW_TOLDS:
            for other in FEW_TOLDS:
                self.assert_right(one, other)

    def test_one_with_itself(self):
        for told in LEAST_TOLDS + deep_tolds():
            self.assertIs(at_most(told, told), True)
            self.assertEqual(joined(told, told), told)

    def test_one_that_tells_one_more_at_one_place(self):
        for sides in DEEP_SIDES:
            for many in range(40):
                small = told_chain(sides[:many], SIXTY, SIXTY + 2)
                great = told_chain(sides[:many], SIXTY + 1, SIXTY + 2)
                self.assertIs(at_most(least_told(small), least_told(great)), True)
                self.assertIs(at_most(least_told(great), least_told(small)), False)
                self.assertEqual(joined(least_told(small), least_told(great)), least_told(great))

    def test_deep_pairs(self):
        for one in deep_tolds():
            for other in deep_tolds()[::3] + [0, 1, SIXTY, (0, 1, 0), (1, 0, SIXTY)]:
                self.assert_right(one, other)

    def test_drawn_pairs_of_unlike_depth(self):
        draw = random.Random(4)
        for most in (1, 3, SIXTY):
            for deep in (1, 2, 4, 7):
                for _ in range(60):
                    self.assert_right(least_told(drawn_told(draw, 7, most)), least_told(drawn_told(draw, deep, most)))


if __name__ == "__main__":
    unittest.main()
