import random
import unittest

from forkstamp.deeds import filled, grown, raised
from forkstamp.errors import NoOwn
from forkstamp.owns import least_own
from forkstamp.tolds import least_told
from places import DEEP_SIDES, all_owns, all_tolds, depth, drawn_own, drawn_told, is_least, numbers
from places import own_chain, told_chain, told_places

SIXTY = int("987654321098765432109876543210" * 2)
LEAST_OWNS = [own for own in all_owns(3) if is_least(own)]
MANY_OWNS = [own for own in all_owns(4) if is_least(own)]
LEAST_TOLDS = [told for told in all_tolds(3, 2) if is_least(told)]
FEW_TOLDS = [told for told in all_tolds(3, 1) if is_least(told)] + [3, (2, 0, 3), (1, (0, 2, 0), 1), (0, 0, (1, 0, 3))]


def as_told(own):
    """The own part's places as a told part: 1 where it has the place, else 0."""
    return (0, *map(as_told, own)) if isinstance(own, tuple) else own


def spread(told, levels):
    """The number at each of the places that so many halvings make."""
    if not isinstance(told, tuple):
        return [told] * 2 ** levels
    number, left, right = told
    return [number + here for half in (left, right) for here in spread(half, levels - 1)]


def filled_numbers(own, here):
    """Point 8 over a list of numbers: a told part is a number where all are alike."""
    if own == 0 or len(set(here)) == 1:
        return here
    if own == 1:
        return [max(here)] * len(here)
    half = len(here) // 2
    left, right = here[:half], here[half:]
    if own[0] == 1:
        right = filled_numbers(own[1], right)
        left = [max(*left, min(right))] * half
    elif own[1] == 1:
        left = filled_numbers(own[0], left)
        right = [max(*right, min(left))] * half
    else:
        left, right = filled_numbers(own[0], left), filled_numbers(own[1], right)
    return left + right


def own_paths(own, path=""):
    """The way to each 1 of an own part, from the left to the right."""
    if isinstance(own, tuple):
        return own_paths(own[0], path + "L") + own_paths(own[1], path + "R")
    return [path] * own


def grown_price(told, path):
    """The price of growing there: 1 for each half, 1000 for each parted number."""
    parted = 0
    for side in path:
        if isinstance(told, tuple):
            told = told[1 if side == "L" else 2]
        else:
            parted += 1
    return len(path) + 1000 * parted


def cheapest_path(own, told):
    """The way that costs least, the one most to the right of those that are alike."""
    return min(reversed(own_paths(own)), key=lambda path: grown_price(told, path))


def changes_nothing(own, told):
    levels = max(depth(own), depth(told)) - 1
    return filled_numbers(own, spread(told, levels)) == spread(told, levels)


class FilledTest(unittest.TestCase):
    def assert_right(self, own, told):
        got = filled(own, told)
        self.assertTrue(is_least(got))
        levels = max(depth(own), depth(told)) - 1
        self.assertEqual(spread(got, levels), filled_numbers(own, spread(told, levels)))
        return got

    def test_by_0_it_is_itself(self):
        for told in LEAST_TOLDS:
            self.assertEqual(filled(0, told), told)

    def test_a_number_is_itself(self):
        for own in MANY_OWNS:
            for told in (0, 1, 2, SIXTY):
                self.assertEqual(filled(own, told), told)

    def test_by_1_it_is_the_greatest_number(self):
        self.assertEqual(filled(1, (2, 0, 3)), 5)
        self.assertEqual(filled(1, (1, (0, 4, 0), 2)), 5)
        self.assertEqual(filled(1, (SIXTY, (2, SIXTY, 0), 0)), 2 * SIXTY + 2)
        for told in LEAST_TOLDS:
            self.assertEqual(filled(1, told), max(numbers(told)))

    def test_a_half_that_is_1(self):
        for own, told, got in (
            # It is raised to the least that the other half tells ..
            ((1, 0), (0, 0, (2, 0, 1)), (2, 0, (0, 0, 1))),
            ((0, 1), (0, (2, 0, 1), 0), (2, (0, 0, 1), 0)),
            # .. or to its own greatest number, where that is more,
            ((1, 0), (0, (1, 0, 3), 2), (2, 2, 0)),
            ((0, 1), (0, 2, (1, 0, 3)), (2, 0, 2)),
            ((1, 0), (0, (0, 3, 0), (1, 0, 2)), (1, 2, (0, 0, 2))),
            ((0, 1), (0, (1, 0, 2), (0, 3, 0)), (1, (0, 0, 2), 2)),
            # and the other half is filled first.
            ((1, (1, 0)), (0, 0, (0, 1, 3)), 3),
            (((1, 0), 1), (0, (0, 1, 3), 0), 3),
            ((1, (1, 0)), (0, 0, (0, 3, 1)), (1, 0, (0, 2, 0))),
            (((0, 1), 1), (0, (0, 1, 3), 0), (1, (0, 0, 2), 0)),
            ((1, (0, 1)), (4, 0, (0, 3, 1)), 7),
            (((0, 1), 1), (4, (0, 3, 1), 0), 7),
            # A number is itself in the other half, too.
            ((1, (1, 0)), (0, 0, 2), 2),
            (((1, 0), 1), (0, 2, 0), 2),
            ((1, (1, 0)), (1, 2, 0), (1, 2, 0)),
            (((1, 0), 1), (1, 0, 2), (1, 0, 2)),
            # Nothing is there to raise.
            ((1, 0), (0, 1, 0), (0, 1, 0)),
            ((0, 1), (0, 0, 1), (0, 0, 1)),
        ):
            self.assertEqual(filled(own, told), got)
            self.assert_right(own, told)

    def test_no_half_that_is_1(self):
        for own, told, got in (
            (((1, 0), (0, 1)), (0, (0, 0, 2), (1, 3, 0)), (2, 0, 2)),
            (((1, 0), (0, 1)), (0, (0, 0, 2), (0, 1, 3)), (1, 1, (0, 0, 2))),
            (((0, 1), (1, 0)), (0, (0, 2, 0), (0, 0, 1)), (1, 1, 0)),
            (((1, 0), 0), (1, (0, 0, 2), 0), (1, 2, 0)),
            ((0, (0, 1)), (1, 0, (0, 2, 0)), (1, 0, 2)),
            (((1, 0), 0), (0, 0, 2), (0, 0, 2)),
            ((0, (0, 1)), (0, (0, 0, 1), 0), (0, (0, 0, 1), 0)),
            (((1, 0), 0), (0, (0, 0, SIXTY), SIXTY), SIXTY),
        ):
            self.assertEqual(filled(own, told), got)
            self.assert_right(own, told)

    def test_all_small_ones(self):
        for own in LEAST_OWNS:
            for told in LEAST_TOLDS:
                self.assert_right(own, told)
        for own in MANY_OWNS:
            for told in FEW_TOLDS:
                self.assert_right(own, told)

    def test_drawn_ones(self):
        draw = random.Random(5)
        for most in (1, 3, SIXTY):
            for _ in range(300):
                self.assert_right(least_own(drawn_own(draw, 7)), least_told(drawn_told(draw, 7, most)))

    def test_filled_again_it_is_the_same(self):
        for own in MANY_OWNS:
            for told in FEW_TOLDS:
                got = filled(own, told)
                self.assertEqual(filled(own, got), got)

    def test_it_changes_only_places_of_the_own_part_and_none_to_less(self):
        for own in MANY_OWNS:
            for told in FEW_TOLDS:
                for here, had, got in told_places(as_told(own), told, filled(own, told)):
                    self.assertTrue(got == had or here == 1 and got > had)

    def test_far_down(self):
        for sides in DEEP_SIDES:
            own = own_chain(sides, 1, 0)
            self.assertEqual(filled(own, told_chain(sides, 0, SIXTY)), SIXTY)
            self.assertEqual(filled(own, told_chain(sides, SIXTY, 0)), told_chain(sides, SIXTY, 0))
            told = told_chain(sides[:38], told_chain(sides[38], 0, SIXTY), 0)
            self.assertEqual(filled(own, told), told_chain(sides[:38], SIXTY, 0))
            self.assertEqual(filled(own_chain(sides[:38], 1, 0), told), told_chain(sides[:38], SIXTY, 0))

    def test_what_is_filled_far_down_fills_all_above_it(self):
        for sides in DEEP_SIDES:
            self.assertEqual(filled(own_chain(sides, 0, 1), told_chain(sides, SIXTY, 0)), SIXTY)
            self.assertEqual(filled(own_chain(sides, 0, 1), told_chain(sides, 0, 2)), told_chain(sides, 0, 2))


class GrownTest(unittest.TestCase):
    def assert_right(self, own, told):
        got = grown(own, told)
        self.assertTrue(is_least(got))
        more = told_chain(cheapest_path(own, told), 1, 0)
        for here, one_more, there in told_places(told, more, got):
            self.assertEqual(there, here + one_more)

    def test_1_meets_a_number(self):
        for number in (0, 1, 9, SIXTY):
            self.assertEqual(grown(1, number), number + 1)

    def test_a_half_that_is_0(self):
        self.assertEqual(grown((0, 1), 4), (4, 0, 1))
        self.assertEqual(grown((1, 0), 4), (4, 1, 0))
        self.assertEqual(grown((0, 1), (2, 0, 1)), (2, 0, 2))
        self.assertEqual(grown((1, 0), (2, 1, 0)), (2, 2, 0))
        # The half that is 0 is not gone to, though it were cheaper.
        self.assertEqual(grown(((1, 0), 0), (0, 5, (0, 1, 0))), (0, (5, 1, 0), (0, 1, 0)))
        self.assertEqual(grown((0, (1, 0)), (0, (0, 1, 0), 5)), (0, (0, 1, 0), (5, 1, 0)))
        self.assertEqual(grown((0, ((0, 1), 0)), 0), (0, 0, (0, (0, 0, 1), 0)))
        self.assertEqual(grown((((1, 0), 0), 0), 0), (0, (0, (0, 1, 0), 0), 0))

    def test_the_cheaper_half(self):
        # Fewer halves to go into,
        self.assertEqual(grown((1, (1, 0)), (0, 1, (0, 2, 0))), (0, 2, (0, 2, 0)))
        self.assertEqual(grown(((0, 1), 1), (0, (0, 0, 2), 1)), (0, (0, 0, 2), 2))
        self.assertEqual(grown((1, (0, (0, 1))), (0, 1, (0, 0, (0, 0, 1)))), (0, 2, (0, 0, (0, 0, 1))))
        # and fewer numbers to be parted,
        self.assertEqual(grown((1, (1, 0)), (0, 1, 0)), (0, 2, 0))
        self.assertEqual(grown(((0, 1), 1), (0, 0, 1)), (0, 0, 2))
        # which weigh more than many halves.
        left = ((((1, 0), 0), 0), (0, 1))
        self.assertEqual(
            grown(left, (0, (0, (0, (0, 1, 0), 0), 0), (0, 0, 1))), (0, (0, (0, (0, 1, 0), 0), 0), (0, 0, 2)))
        self.assertEqual(
            grown(left, (0, (0, (0, (0, 1, 0), 0), 0), 3)), (0, (0, (0, (0, 2, 0), 0), 0), 3))
        right = ((1, 0), (0, (0, (0, 1))))
        self.assertEqual(
            grown(right, (0, 3, (0, 0, (0, 0, (0, 0, 1))))), (0, 3, (0, 0, (0, 0, (0, 0, 2)))))

    def test_the_right_one_of_two_that_are_alike(self):
        self.assertEqual(grown(((1, 0), (1, 0)), 0), (0, 0, (0, 1, 0)))
        self.assertEqual(grown(((0, 1), (1, 0)), (0, (0, 0, 1), (0, 1, 0))), (0, (0, 0, 1), (0, 2, 0)))
        self.assertEqual(grown(((1, 0), (0, 1)), (0, (0, 1, 0), (0, 0, 4))), (0, (0, 1, 0), (0, 0, 5)))
        self.assertEqual(grown((0, ((1, 0), (1, 0))), 2), (2, 0, (0, 0, (0, 1, 0))))
        # Beneath a half that is dearer the one to the left is taken.
        self.assertEqual(
            grown((((1, 0), (1, 0)), ((0, (1, 0)), 0)), 0), (0, (0, 0, (0, 1, 0)), 0))

    def test_a_number_that_is_parted(self):
        self.assertEqual(grown((0, (1, 0)), (0, 0, 3)), (0, 0, (3, 1, 0)))
        self.assertEqual(grown((0, (1, 0)), 6), (6, 0, (0, 1, 0)))
        self.assertEqual(grown(((0, 1), 0), SIXTY), (SIXTY, (0, 0, 1), 0))
        # One parted and four halves to the left, two parted and three halves to the right.
        own = ((0, ((0, 1), 0)), (0, (0, 1)))
        self.assertEqual(grown(own, (0, (0, 0, (0, 0, 7)), 3)), (0, (0, 0, (0, (0, 0, 1), 7)), 3))
        own = (((1, 0), 0), (0, ((1, 0), 0)))
        self.assertEqual(grown(own, (0, 3, (0, 0, (0, 0, 7)))), (0, 3, (0, 0, (0, (0, 1, 0), 7))))

    def test_it_is_told_in_its_least_form(self):
        for own, told in (((1, 0), (3, 1, 0)), ((0, 1), (0, (0, 2, 0), 1)), (((1, 0), 1), (0, (0, 1, 0), 1))):
            self.assertTrue(is_least(told) and changes_nothing(own, told))
            self.assert_right(own, told)

    def test_all_small_ones(self):
        many = 0
        for owns, tolds in ((LEAST_OWNS, LEAST_TOLDS), (MANY_OWNS, FEW_TOLDS)):
            for own in owns:
                for told in tolds:
                    if own != 0 and changes_nothing(own, told):
                        self.assert_right(own, told)
                        many += 1
        self.assertGreater(many, 3000)

    def test_drawn_ones(self):
        draw = random.Random(6)
        for most in (1, 3, SIXTY):
            for deep in (2, 4, 7):
                for _ in range(200):
                    own = least_own(drawn_own(draw, 7))
                    if own != 0:
                        self.assert_right(own, filled(own, least_told(drawn_told(draw, deep, most))))

    def test_far_down(self):
        for sides in DEEP_SIDES:
            own = own_chain(sides, 1, 0)
            _, left, right = told_chain(sides, 1, 0)
            self.assertEqual(grown(own, 0), (0, left, right))
            self.assertEqual(grown(own, SIXTY), (SIXTY, left, right))
            self.assertEqual(grown(own, told_chain(sides, 4, 0)), told_chain(sides, 5, 0))
            _, left, right = told_chain(sides[20:], 1, 0)
            self.assertEqual(grown(own, told_chain(sides[:20], 4, 0)), told_chain(sides[:20], (4, left, right), 0))

    def test_far_down_on_either_side(self):
        for sides in DEEP_SIDES:
            for many in range(1, 38):
                down = own_chain(sides[:many], (0, 1), 0)
                told = told_chain(sides[:many], 1, 0)
                for beside in (0, 1, 7):
                    self.assert_right((down, (1, 0)), (0, told, beside))
                    self.assert_right(((1, 0), down), (0, beside, told))
                self.assert_right((down, (1, 0)), 0)
                self.assert_right(((1, 0), down), 0)

    def test_thirty_eight_halves_are_cheaper_than_one_number_parted(self):
        sides = "L" * 37
        deep = told_chain(sides, 1, 0)
        own = (own_chain(sides, 1, 0), (0, 1))
        self.assertEqual(grown(own, (0, deep, 3)), (0, told_chain(sides, 2, 0), 3))
        own = ((1, 0), own_chain(sides, 1, 0))
        self.assertEqual(grown(own, (0, 3, deep)), (0, 3, told_chain(sides, 2, 0)))


class RaisedTest(unittest.TestCase):
    def assert_right(self, own, told):
        got = raised(own, told)
        self.assertTrue(is_least(got))
        places = told_places(as_told(own), told, got)
        self.assertTrue(all(after >= before for _, before, after in places))
        self.assertTrue(any(after > before for here, before, after in places if here == 1))
        self.assertTrue(all(after == before for here, before, after in places if here == 0))
        return got

    def test_filled_if_that_is_another_one_else_grown(self):
        for own, told, got in (
            (1, 0, 1),
            (1, SIXTY, SIXTY + 1),
            (1, (0, 1, 0), 1),
            (1, (2, (0, 3, 0), 1), 5),
            ((1, 0), 0, (0, 1, 0)),
            ((0, 1), 0, (0, 0, 1)),
            ((1, 0), (0, 1, 0), (0, 2, 0)),
            ((1, 0), (0, 0, 1), 1),
            ((1, 0), (0, 0, 2), 2),
            ((0, 1), (0, 2, 0), 2),
            (((1, 0), 0), (0, 0, 1), (0, (0, 1, 0), 1)),
        ):
            self.assertEqual(raised(own, told), got)

    def test_the_one_or_the_other_for_all_small_ones(self):
        fillings = growings = 0
        for owns, tolds in ((LEAST_OWNS, LEAST_TOLDS), (MANY_OWNS, FEW_TOLDS)):
            for own in owns:
                for told in tolds:
                    if own == 0:
                        continue
                    got = self.assert_right(own, told)
                    if changes_nothing(own, told):
                        growings += 1
                        self.assertEqual(got, grown(own, told))
                    else:
                        fillings += 1
                        self.assertEqual(got, filled(own, told))
        self.assertGreater(fillings, 3000)
        self.assertGreater(growings, 3000)

    def test_no_own_of_0(self):
        for told in LEAST_TOLDS + [SIXTY, told_chain(DEEP_SIDES[2], 1, 0)]:
            with self.assertRaises(NoOwn) as caught:
                raised(0, told)
            self.assertIs(type(caught.exception), NoOwn)

    def test_drawn_ones_of_sixty_figures(self):
        draw = random.Random(7)
        for _ in range(500):
            own = least_own(drawn_own(draw, 7))
            if own != 0:
                self.assert_right(own, least_told(drawn_told(draw, draw.choice([1, 3, 7]), SIXTY)))

    def test_raised_again_and_again(self):
        draw = random.Random(8)
        for _ in range(40):
            own = least_own((1, drawn_own(draw, 6)) if draw.random() < 0.5 else (drawn_own(draw, 6), 1))
            told = least_told(drawn_told(draw, 4, SIXTY))
            for _ in range(20):
                told = self.assert_right(own, told)

    def test_far_down(self):
        for sides in DEEP_SIDES:
            for own in (own_chain(sides, 1, 0), own_chain(sides, 0, 1)):
                for told in (0, SIXTY, told_chain(sides, 0, 1), told_chain(sides, 5, 0), told_chain(sides[:9], 1, 0)):
                    if is_least(told):
                        self.assert_right(own, told)


if __name__ == "__main__":
    unittest.main()
