"""What parts say at the places of the whole, worked out apart from the program.

Also ways to make parts to test with: all small ones, drawn ones and deep ones.
"""

import itertools


def own_places(*owns):
    """At each place that the parts tell apart: 0 or 1 of each of them."""
    if not any(isinstance(own, tuple) for own in owns):
        return [owns]
    both = [own if isinstance(own, tuple) else (own, own) for own in owns]
    return own_places(*(left for left, _ in both)) + own_places(*(right for _, right in both))


def told_places(*tolds):
    """At each place that the parts tell apart: the number of each of them."""
    return _summed_places([(0, told) for told in tolds])


def _summed_places(states):
    if not any(isinstance(told, tuple) for _, told in states):
        return [tuple(above + told for above, told in states)]
    lefts, rights = [], []
    for above, told in states:
        number, left, right = told if isinstance(told, tuple) else (0, told, told)
        lefts.append((above + number, left))
        rights.append((above + number, right))
    return _summed_places(lefts) + _summed_places(rights)


def numbers(told):
    """The numbers that a told part tells, from the left to the right."""
    return [number for number, in told_places(told)]


def is_least(part):
    """Whether an own or told part is in its least form, by the document's words."""
    if not isinstance(part, tuple):
        return True
    *number, left, right = part
    if not (is_least(left) and is_least(right)):
        return False
    if number:
        alike = left == right and not isinstance(left, tuple)
        return not alike and (0 in numbers(left) or 0 in numbers(right))
    return part not in [(0, 0), (1, 1)]


def depth(part):
    """How deep a part is, one with no tuple in it being one deep."""
    return 1 + max(map(depth, part[-2:])) if isinstance(part, tuple) else 1


def all_owns(deep):
    """All own parts of at most that depth."""
    below = all_owns(deep - 1) if deep > 1 else []
    return [0, 1, *itertools.product(below, below)]


def all_tolds(deep, most):
    """All told parts of at most that depth, no number in them above most."""
    below = all_tolds(deep - 1, most) if deep > 1 else []
    heads = range(most + 1)
    return [*heads, *itertools.product(heads, below, below)]


def drawn_own(draw, deep):
    """An own part of at most that depth, in any form, by a random.Random."""
    if deep == 1 or draw.random() < 0.2:
        return draw.randrange(2)
    return (drawn_own(draw, deep - 1), drawn_own(draw, deep - 1))


def drawn_told(draw, deep, most):
    """A told part of at most that depth, in any form, by a random.Random."""
    number = draw.choice([0, 0, draw.randint(0, most)])
    if deep == 1 or draw.random() < 0.2:
        return number
    return (number, drawn_told(draw, deep - 1, most), drawn_told(draw, deep - 1, most))


def own_chain(sides, end, beside):
    """end, beneath one tuple for each side ("L" or "R"), with beside at the other side."""
    for side in reversed(sides):
        end = (end, beside) if side == "L" else (beside, end)
    return end


def told_chain(sides, end, beside, number=0):
    """As own_chain, but of told parts, with number in each tuple."""
    for side in reversed(sides):
        end = (number, end, beside) if side == "L" else (number, beside, end)
    return end


# Thirty-nine tuples, so forty deep: to the left, to the right, and both by turns.
DEEP_SIDES = ["L" * 39, "R" * 39, ("LR" * 20)[:39], ("RRL" * 13)]
