"""Programs judged, in the order of the faults' kinds."""

from judgedrules.binding import check_bound
from judgedrules.calls import check_calls
from judgedrules.declaredkinds import settle_kinds
from judgedrules.judging import check_kinds
from judgedrules.kindtable import Kinds
from judgedrules.leaning import check_leaning
from judgedrules.making import check_making
from judgedrules.moduletrees import build_modules
from judgedrules.naming import check_names


def judged(codes):
    """The modules of the program whose bytes these are, if it's taken."""
    modules = build_modules(codes)
    check_names(modules)
    kinds = Kinds()
    settle_kinds(modules, kinds)
    check_calls(modules)
    check_bound(modules)
    check_kinds(modules, kinds)
    check_leaning(modules)
    check_making(modules)
    return modules
