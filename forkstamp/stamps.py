"""Stamps: an own part and a told part."""

from forkstamp.deeds import raised
from forkstamp.errors import BadOwn, BadTold
from forkstamp.owns import is_own, least_own, parted, together
from forkstamp.tolds import at_most, is_told, joined, least_told


class Stamp:
    """What a hand has and what it knows; never changed."""

    def __init__(self, own=1, told=0):
        if not is_own(own):
            raise BadOwn("this is no own part")
        if not is_told(told):
            raise BadTold("this is no told part")
        self.own = least_own(own)
        self.told = least_told(told)

    def fork(self):
        """A tuple of two stamps that share this one's own part and know what it knows."""
        one, other = parted(self.own)
        return (Stamp(one, self.told), Stamp(other, self.told))

    def joined(self, other):
        """The stamp that has and knows what both have and know."""
        return Stamp(together(self.own, other.own), joined(self.told, other.told))

    def deed(self):
        """The stamp behind a deed."""
        return Stamp(self.own, raised(self.own, self.told))

    def learnt(self, other):
        """The stamp that knows what the other one knows, too."""
        return Stamp(self.own, joined(self.told, other.told))

    def is_at_most(self, other):
        """True where the other one knows all that this one knows, else False."""
        return at_most(self.told, other.told)
