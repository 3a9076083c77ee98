"""Things of any kind, none of which is an own or a told part."""


class Raising:
    """Raises whatever it is asked."""

    def refuse(self, *rest):
        raise RuntimeError("asked")

    __eq__ = __ne__ = __lt__ = __le__ = __gt__ = __ge__ = refuse
    __len__ = __iter__ = __getitem__ = __bool__ = __hash__ = __int__ = __index__ = refuse


class Agreeing:
    """Is equal to everything."""

    def __eq__(self, other):
        return True

    __hash__ = None


class Posing:
    """Says of itself that it is a tuple or an int, but is none."""

    def __init__(self, pose):
        self.pose = pose

    @property
    def __class__(self):
        return self.pose


class RaisingPose:
    """Refuses to say what it is."""

    @property
    def __class__(self):
        raise RuntimeError("asked")


def odd_things():
    """New things, no one of which is a part, nor a whole number from 0 on."""
    return [
        True, False, None, NotImplemented, ..., -1, -2, -(10 ** 60), 0.0, 1.0, 0.5, 0j, float("nan"), float("inf"),
        "", "0", "1", "ab", "abc", b"", b"01", b"\x00\x01", bytearray(b"\x00\x01"),
        [], [0], [0, 1], [0, 1, 0], [[0, 1], 0],
        {}, {0: 1}, {0: 0, 1: 1}, set(), {0, 1}, frozenset([0, 1]), range(2), range(3), iter((0, 1)), zip((0,), (1,)),
        object(), Raising(), Agreeing(), Posing(int), Posing(tuple), Posing(bool), RaisingPose(),
        int, tuple, len, odd_things, lambda: 0, ValueError("0"),
        (), (0,), (1,), ((0, 1),), (0, 1, 0, 1), (0, 0, 0, 0, 0),
        (0, True), (False, 1), (True, 0, 1), (0, False, 1), (0, 1, True), (0, None), (None, 0), (0, [1, 0]), ([], []),
        (0, -1), (-1, 0), (-1, 0, 1), (0, -1, 1), (0, 1, -1), (1.0, 0), (0, 1.0), (1.0, 0, 1), (0, 1.0, 0), (0, 0, 1.0),
        ("0", "1"), ("0", 0, 1), ([0], 0, 1), ({}, 0, 1), (None, 0, 1), (0, "0", 1), (0, 0, {}),
        ((0, 1), ()), ((0,), 1), (0, (0, 0, 1), ()), ((0, 0, 1), 0, 1), ((), 0, 1), (Raising(), 0), (0, Agreeing()),
        (Agreeing(), 0, 1), (0, Raising(), 1), (0, 1, Raising()), (Posing(int), 0), (0, Posing(tuple), 0),
    ]
