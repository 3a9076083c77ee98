"""Whole numbers, as both kinds of parts need them."""


def is_whole(thing):
    """True where thing is an int that is no truth, else False; of anything."""
    # The exact class is asked: True and False are ints to isinstance, and an
    # object may pass itself off as an int there and then fail when compared.
    return type(thing) is int
