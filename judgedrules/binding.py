"""What's bound where it stands: fault 8."""

from judgedrules.faults import UNBOUND, tell_first
from judgedrules.levels import clause_level, leaves_of
from judgedrules.nodes import all_declared
from judgedrules.spelling import variable_of

CLAUSES = ("clause", "allow", "deny", "must", "slot")


def check_bound(modules):
    """Build the levels of all clauses; every variable must be bound where it stands."""
    wrong = []
    for declaration in all_declared(modules):
        if declaration.form in CLAUSES:
            declaration.level = clause_level(declaration)
            wrong.extend(unbound_within(declaration.level))
        elif declaration.form == "fun":
            wrong.extend(unbound_in_fun(declaration))
    tell_first(UNBOUND, wrong)


def unbound_within(level):
    """The places of a level's variables that aren't bound, and of those within its gatherings."""
    wrong = [leaf.place for leaf in level.leaves if leaf.word not in level.bound]
    for literal in level.literals:
        if literal.inner is not None:
            wrong.extend(unbound_within(literal.inner))
    return wrong


def unbound_in_fun(fun):
    """The places of variables that aren't there in a fun's expressions."""
    wrong = []
    for part in fun.says:
        there = words_in_fun(fun, part)
        wrong.extend([leaf.place for leaf in leaves_of(fun.says[part]) if leaf.word not in there])
    return wrong


def words_in_fun(fun, part):
    """The variables that are there in an expression of a fun; prev counts as one where it may stand."""
    words = [variable_of(param) for param in fun.params]
    if part == "from":
        return words[1:]
    if part == "by":
        return words + ["prev"]
    return words
