"""The calls that are answered."""

from judgedrules.faults import Fault
from judgedrules.judge import judged
from judgedrules.kindtelling import kind_told
from judgedrules.nodes import all_declared
from judgedrules.programtelling import program_told

LONGEST_PROGRAM = 4194304


def check(p):
    """How many rules a program declares; or -6, its fault's kind and its place; or -2, if it's too long."""
    if len(p) > LONGEST_PROGRAM:
        return [-2]
    try:
        program = judged(p)
    except Fault as fault:
        return [-6, fault.kind, fault.place]
    return [len([declaration for declaration in all_declared(program.modules) if declaration.form == "rule"])]


def told(p):
    """0 and the bytes of what a program declares, with kinds and strata; or -6, or -2, if it's too long."""
    if len(p) > LONGEST_PROGRAM:
        return [-2]
    try:
        program = judged(p)
    except Fault:
        return [-6]
    return [0] + program_told(program)


def kind(n, p):
    """0 and the bytes of the kind of a program's expression at a place; or -4, if there's none; or -6, or -2."""
    if len(p) > LONGEST_PROGRAM:
        return [-2]
    try:
        program = judged(p)
    except Fault:
        return [-6]
    if n not in program.kind_at:
        return [-4]
    return [0] + kind_told(program.kinds, program.kind_at[n])
