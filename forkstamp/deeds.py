"""Deeds: how a told part becomes greater."""

from forkstamp.errors import NoOwn
from forkstamp.tolds import halves, least_over, told_greatest, told_least
from forkstamp.wholes import is_whole

HALF_PRICE = 1
PARTING_PRICE = 1000


def raised(own, told):
    """The told part behind a deed at places of the own part."""
    if own == 0:
        raise NoOwn("an own part of 0 has no place for a deed")
    greater = filled(own, told)
    if greater != told:
        return greater
    return grown(own, told)


def filled(own, told):
    """The told part, made as even as it can be by raising places of the own part."""
    if own == 0 or is_whole(told):
        return told
    if own == 1:
        return told_greatest(told)
    own_left, own_right = own
    left, right = halves(told)
    if own_left == 1:
        right = filled(own_right, right)
        left = max(told_greatest(left), told_least(right))
    elif own_right == 1:
        left = filled(own_left, left)
        right = max(told_greatest(right), told_least(left))
    else:
        left = filled(own_left, left)
        right = filled(own_right, right)
    return least_over(left, right)


def grown(own, told):
    """The told part, one more at the cheapest place of the own part; own is not 0."""
    _, greater = grown_at_price(own, told)
    return greater


def grown_at_price(own, told):
    """A tuple of the price of growing and of the grown told part; own is not 0."""
    if own == 1:
        return (0, told + 1)
    own_left, own_right = own
    left, right = halves(told)
    price = HALF_PRICE
    if is_whole(told):
        price = HALF_PRICE + PARTING_PRICE
    if own_right == 0:
        left_price, left = grown_at_price(own_left, left)
        return (price + left_price, least_over(left, right))
    right_price, grown_right = grown_at_price(own_right, right)
    if own_left != 0:
        left_price, grown_left = grown_at_price(own_left, left)
        if left_price < right_price:
            return (price + left_price, least_over(grown_left, right))
    return (price + right_price, least_over(left, grown_right))
