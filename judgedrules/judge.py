"""Programs judged, in the order of the faults' kinds."""

from judgedrules.binding import check_bound
from judgedrules.calls import check_calls
from judgedrules.declaredkinds import settle_kinds
from judgedrules.judging import check_kinds
from judgedrules.kindtable import Kinds
from judgedrules.leaning import check_leaning, leanings
from judgedrules.making import check_making
from judgedrules.moduletrees import build_modules
from judgedrules.naming import check_names


class Program:
    """A program that's taken.

    Its modules; its kinds, and those of its expressions by their places; the steps from rules to what they lean on.
    """

    def __init__(self, modules, kinds, kind_at, steps):
        self.modules = modules
        self.kinds = kinds
        self.kind_at = kind_at
        self.leaning = steps


def judged(codes):
    """The program whose bytes these are, if it's taken."""
    modules = build_modules(codes)
    check_names(modules)
    kinds = Kinds()
    settle_kinds(modules, kinds)
    check_calls(modules)
    check_bound(modules)
    kind_at = check_kinds(modules, kinds)
    steps = leanings(modules)
    check_leaning(steps)
    check_making(modules)
    return Program(modules, kinds, kind_at, steps)
