"""The calls that are answered."""

from judgedrules.bytereader import read_value
from judgedrules.faults import Fault, NoToldKind
from judgedrules.fitting import is_of_kind
from judgedrules.judge import judged
from judgedrules.kindreading import read_kind
from judgedrules.kindtable import Kinds
from judgedrules.kindtelling import kind_told
from judgedrules.nodes import all_declared
from judgedrules.programtelling import program_told

LONGEST_PROGRAM = 4194304
LONGEST_VALUE = 16777216


def check(p):
    """How many rules a program declares; or -6, its fault's kind and its place; or -2, if it's too long."""
    if len(p) > LONGEST_PROGRAM:
        return [-2]
    try:
        program = judged(p)
    except Fault as fault:
        return [-6, fault.kind, fault.place]
    return [len([declaration for declaration in all_declared(program.modules) if declaration.form == "rule"])]


def told(p):
    """0 and the bytes of what a program declares, with kinds and strata; or -6, or -2, if it's too long."""
    if len(p) > LONGEST_PROGRAM:
        return [-2]
    try:
        program = judged(p)
    except Fault:
        return [-6]
    return [0] + program_told(program)


def kind(n, p):
    """0 and the bytes of the kind of a program's expression at a place; or -4, if there's none; or -6, or -2."""
    if len(p) > LONGEST_PROGRAM:
        return [-2]
    try:
        program = judged(p)
    except Fault:
        return [-6]
    if n not in program.kind_at:
        return [-4]
    return [0] + kind_told(program.kinds, program.kind_at[n])


def agree(a, b):
    """0 and the bytes of the kind on which two told kinds agree; or -9, if they don't; or -5, or -6, or -2."""
    if len(a) > LONGEST_VALUE or len(b) > LONGEST_VALUE:
        return [-2]
    kinds = Kinds()
    try:
        values = [read_value(codes) for codes in (a, b)]
        one, other = [read_kind(kinds, value) for value in values]
    except Fault:
        return [-6]
    except NoToldKind:
        return [-5]
    agreed = kinds.agree(one, other)
    if agreed is None:
        return [-9]
    return [0] + kind_told(kinds, agreed)


def fits(p, k, v):
    """1, if a value is of a told kind; 0, if it isn't; or -5, if that's none of the program's; or -6, or -2."""
    if len(p) > LONGEST_PROGRAM or len(k) > LONGEST_VALUE or len(v) > LONGEST_VALUE:
        return [-2]
    try:
        program = judged(p)
        as_told, value = [read_value(codes) for codes in (k, v)]
        wanted = read_kind(program.kinds, as_told)
        return [1 if is_of_kind(program, wanted, value) else 0]
    except Fault:
        return [-6]
    except NoToldKind:
        return [-5]
