"""Hands: they do deeds, tell one another, fork and join."""

from forkstamp.errors import NoHand
from forkstamp.stamps import Stamp
from forkstamp.wholes import is_whole


class Hands:
    """All hands that are there, each with its stamp."""

    def __init__(self):
        self._stamps = {0: Stamp()}
        self._next = 1

    def fork(self, hand):
        """Fork the hand; the number of the new one."""
        kept, given = self._stamp_of(hand).fork()
        new = self._next
        self._stamps[hand] = kept
        self._stamps[new] = given
        # A number is never given twice, even where its hand is gone.
        self._next = new + 1
        return new

    def deed(self, hand):
        """Let the hand do a deed."""
        self._stamps[hand] = self._stamp_of(hand).deed()

    def join(self, hand, other):
        """Let the hand get all that the other one has and knows; the other one is gone."""
        one = self._stamp_of(hand)
        two = self._stamp_of(other)
        if hand == other:
            raise NoHand("a hand can't join itself")
        self._stamps[hand] = one.joined(two)
        del self._stamps[other]

    def tell(self, hand, other):
        """Let the other hand get what the hand knows."""
        told = self._stamp_of(hand)
        self._stamps[other] = self._stamp_of(other).learnt(told)

    def stamp(self, hand):
        """The hand's stamp."""
        kept = self._stamp_of(hand)
        # A new one, so that the one that is kept here is in nobody else's hold.
        return Stamp(kept.own, kept.told)

    def hands(self):
        """The numbers of the hands that are there, rising."""
        return sorted(self._stamps)

    def compared(self, hand, other):
        """How what the hand knows stands to what the other one knows."""
        one = self._stamp_of(hand)
        two = self._stamp_of(other)
        if one.is_at_most(two):
            return "alike" if two.is_at_most(one) else "before"
        return "behind" if two.is_at_most(one) else "apart"

    def _stamp_of(self, hand):
        # What is no whole number is never looked up: True would be found as 1,
        # and a list can't be looked up at all.
        if not is_whole(hand) or hand not in self._stamps:
            raise NoHand("there is no such hand")
        return self._stamps[hand]
