"""Own parts: which places of the whole one has."""

from forkstamp.errors import Shared
from forkstamp.wholes import is_whole


def is_own(thing):
    """True where thing is an own part, else False; of anything."""
    # A list of what is still to be looked at, and no recursion: so things
    # that are nested too deep for any part are answered, too.
    waiting = [thing]
    while waiting:
        part = waiting.pop()
        if type(part) is tuple and len(part) == 2:
            waiting.extend(part)
        elif not is_all_or_none(part):
            return False
    return True


def is_all_or_none(thing):
    """True where thing is one of the numbers 0 and 1, else False; of anything."""
    return is_whole(thing) and thing in (0, 1)


def is_least_own(thing):
    """True where thing is an own part in its least form, else False; of anything."""
    if not is_own(thing):
        return False
    waiting = [thing]
    while waiting:
        part = waiting.pop()
        if part in ((0, 0), (1, 1)):
            return False
        if type(part) is tuple:
            waiting.extend(part)
    return True


def least_own(own):
    """The own part in its least form."""
    if is_whole(own):
        return own
    left, right = own
    return least_pair(least_own(left), least_own(right))


def least_pair(left, right):
    """(left, right) in its least form, where both halves are in theirs."""
    if is_whole(left) and left == right:
        return left
    return (left, right)


def parted(own):
    """Two own parts that share nothing and together have what own has."""
    if own == 0:
        return (0, 0)
    if own == 1:
        return ((1, 0), (0, 1))
    left, right = own
    if left == 0:
        one, other = parted(right)
        return ((0, one), (0, other))
    if right == 0:
        one, other = parted(left)
        return ((one, 0), (other, 0))
    return ((left, 0), (0, right))


def together(one, other):
    """The own part that has what the one or the other has."""
    if one == 0:
        return other
    if other == 0:
        return one
    # In its least form every part but 0 has some place, so all meets it.
    if one == 1 or other == 1:
        raise Shared("the two own parts share something")
    one_left, one_right = one
    other_left, other_right = other
    return least_pair(together(one_left, other_left), together(one_right, other_right))


def shares(one, other):
    """True where there is a place that both have, else False."""
    if one == 0 or other == 0:
        return False
    # In its least form every part but 0 has some place, so all meets it.
    if one == 1 or other == 1:
        return True
    one_left, one_right = one
    other_left, other_right = other
    return shares(one_left, other_left) or shares(one_right, other_right)
