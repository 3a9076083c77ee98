"""Told parts: a number at each place of the whole."""

from forkstamp.wholes import is_whole


def is_told(thing):
    """True where thing is a told part, else False; of anything."""
    # A list of what is still to be looked at, and no recursion: so things
    # that are nested too deep for any part are answered, too.
    waiting = [thing]
    while waiting:
        part = waiting.pop()
        if is_parting(part):
            waiting.extend(part[1:])
        elif not is_number(part):
            return False
    return True


def is_parting(thing):
    """True where thing is a tuple of a number and two more things, else False."""
    return type(thing) is tuple and len(thing) == 3 and is_number(thing[0])


def is_number(thing):
    """True where thing is a whole number from 0 on, else False; of anything."""
    return is_whole(thing) and thing >= 0


def is_least_told(thing):
    """True where thing is a told part in its least form, else False; of anything."""
    if not is_told(thing):
        return False
    waiting = [thing]
    while waiting:
        part = waiting.pop()
        if not is_whole(part):
            _, left, right = part
            if not is_least_above(left, right):
                return False
            waiting.extend((left, right))
    return True


def is_least_above(left, right):
    """True where a tuple over these two halves is in its least form, if they are."""
    if is_whole(left) and left == right:
        return False
    return told_least(left) == 0 or told_least(right) == 0


def least_told(told):
    """The told part in its least form."""
    if is_whole(told):
        return told
    number, left, right = told
    return lifted(least_over(least_told(left), least_told(right)), number)


def least_over(left, right):
    """The least form that tells these two halves, both in their least form."""
    if is_whole(left) and left == right:
        return left
    number = min(told_least(left), told_least(right))
    return (number, lifted(left, -number), lifted(right, -number))


def lifted(told, more):
    """The told part that tells so much more everywhere; its form stays least."""
    if is_whole(told):
        return told + more
    number, left, right = told
    return (number + more, left, right)


def halves(told):
    """What is told of the left and of the right half, each a told part."""
    if is_whole(told):
        return (told, told)
    number, left, right = told
    return (lifted(left, number), lifted(right, number))


def told_least(told):
    """The least number that the told part tells."""
    if is_whole(told):
        return told
    # In a least form something beneath tells 0, so nothing is added to this.
    return told[0]


def told_greatest(told):
    """The greatest number that the told part tells."""
    if is_whole(told):
        return told
    number, left, right = told
    return number + max(told_greatest(left), told_greatest(right))


def at_most(one, other):
    """True where the one tells no more than the other at any place, else False."""
    if is_whole(one):
        return one <= told_least(other)
    one_left, one_right = halves(one)
    other_left, other_right = halves(other)
    return at_most(one_left, other_left) and at_most(one_right, other_right)


def joined(one, other):
    """The told part that tells the greater number at each place."""
    if is_whole(one) and is_whole(other):
        return max(one, other)
    one_left, one_right = halves(one)
    other_left, other_right = halves(other)
    return least_over(joined(one_left, other_left), joined(one_right, other_right))
