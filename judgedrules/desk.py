"""The calls that are answered."""

from judgedrules.faults import Fault
from judgedrules.judge import judged
from judgedrules.nodes import all_declared

LONGEST_PROGRAM = 4194304


def check(p):
    """How many rules a program declares; or -6, its fault's kind and its place; or -2, if it's too long."""
    if len(p) > LONGEST_PROGRAM:
        return [-2]
    try:
        modules = judged(p)
    except Fault as fault:
        return [-6, fault.kind, fault.place]
    return [len([declaration for declaration in all_declared(modules) if declaration.form == "rule"])]
