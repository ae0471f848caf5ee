"""The fault that is told of a program that isn't taken: its kind and its place."""

NO_PROGRAM = 1
BAD_USE = 2
MODULE_TWICE = 3
BAD_NAME = 4
BAD_SORT = 5
BAD_CALL = 6
BAD_COUNT = 7
UNBOUND = 8
BAD_KIND = 9
STRICT_RING = 10
MADE_RING = 11


class Fault(Exception):
    """What is wrong first with a program."""

    def __init__(self, kind, place):
        self.kind = kind
        self.place = place


class NoToldKind(Exception):
    """That a value tells no kind."""


def need(good, place):
    """Go on only if what lies at the place is good for a program."""
    if not good:
        raise Fault(NO_PROGRAM, place)


def tell_first(kind, places):
    """Of several faults of one kind, tell the one that lies first in the bytes."""
    if places:
        raise Fault(kind, min(places))
