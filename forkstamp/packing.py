"""Rows of bits: a stamp as a list of numbers from 0 to 255.

Bits are kept as a string of the signs 0 and 1 on the way.
"""

from forkstamp.errors import BadRow
from forkstamp.stamps import Stamp
from forkstamp.wholes import is_whole

DEEPEST = 40


def packed(stamp):
    """The row into which the stamp is packed."""
    bits = own_bits(stamp.own) + told_bits(stamp.told)
    bits = bits + "0" * (-len(bits) % 8)
    return [int(bits[at:at + 8], 2) for at in range(0, len(bits), 8)]


def own_bits(own):
    """The bits of an own part."""
    if own == 0:
        return "000"
    if own == 1:
        return "001"
    left, right = own
    if left == 0:
        return "01" + own_bits(right)
    if right == 0:
        return "10" + own_bits(left)
    return "11" + own_bits(left) + own_bits(right)


def told_bits(told):
    """The bits of a told part."""
    if is_whole(told):
        return "1" + number_bits(told)
    number, left, right = told
    return "0" + number_bits(number) + told_bits(left) + told_bits(right)


def number_bits(number):
    """The bits of a number from 0 on."""
    bits = f"{number + 1:b}"
    return "0" * (len(bits) - 1) + bits


def unpacked(row):
    """The stamp that is packed into the row; BadRow of anything else."""
    if not is_row(row):
        raise BadRow("this is no list of numbers from 0 to 255")
    reader = BitReader("".join([f"{number:08b}" for number in row]))
    own = read_own(reader, 1)
    told = read_told(reader, 1)
    stamp = Stamp(own, told)
    # Only one row is told of each stamp. So this one comparison finds parts
    # that were not in their least form, halves of 0 that were written out,
    # and whatever stands behind the last bit.
    if packed(stamp) != row:
        raise BadRow("no stamp is packed so")
    return stamp


def is_row(thing):
    """True where thing is a list of numbers from 0 to 255, else False; of anything."""
    if type(thing) is not list:
        return False
    for number in thing:
        if not is_whole(number) or number < 0 or number > 255:
            return False
    return True


def read_own(reader, deep):
    """The own part that is read next, so many deep in the whole one."""
    refuse_too_deep(deep)
    kind = reader.taken(2)
    if kind == "00":
        return int(reader.taken(1), 2)
    left = 0
    right = 0
    if kind[0] == "1":
        left = read_own(reader, deep + 1)
    if kind[1] == "1":
        right = read_own(reader, deep + 1)
    return (left, right)


def read_told(reader, deep):
    """The told part that is read next, so many deep in the whole one."""
    refuse_too_deep(deep)
    kind = reader.taken(1)
    number = reader.taken_number()
    if kind == "1":
        return number
    left = read_told(reader, deep + 1)
    right = read_told(reader, deep + 1)
    return (number, left, right)


def refuse_too_deep(deep):
    """BadRow where a part would be deeper than any that is read."""
    if deep > DEEPEST:
        raise BadRow("a part is too deep")


class BitReader:
    """Takes bits one behind the other; BadRow where there are no more."""

    def __init__(self, bits):
        self._bits = bits
        self._at = 0

    def taken(self, many):
        """The next bits, so many of them."""
        start = self._at
        if start + many > len(self._bits):
            raise BadRow("the row ends too soon")
        self._at = start + many
        return self._bits[start:start + many]

    def taken_number(self):
        """The number from 0 on that comes next."""
        highest = self._bits.find("1", self._at)
        if highest < 0:
            raise BadRow("the row ends too soon")
        more = highest - self._at
        self._at = highest
        return int(self.taken(more + 1), 2) - 1
