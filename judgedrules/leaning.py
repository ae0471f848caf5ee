"""Rules that lean on facts and rules, and rings with a strict step: fault 10."""

from judgedrules.faults import STRICT_RING, tell_first
from judgedrules.nodes import all_declared
from judgedrules.ringsearch import Steps


def leanings(modules):
    """The steps from a program's rules to what they lean on, heavy where it's strictly."""
    steps = Steps()
    for clause in all_declared(modules):
        if clause.form == "clause":
            note_leanings(steps, clause)
    return steps


def check_leaning(steps):
    """No rule may come back to itself by leaning, if one step of the way is strict."""
    tell_first(STRICT_RING, steps.ring_places())


def note_leanings(steps, clause):
    """Add the steps from a clause's rule to the facts and rules on which it leans."""
    seen = clause.home.seen
    for atom, strict in atoms_within(clause.level, False):
        steps.note(rank_of(seen[clause.name]), rank_of(seen[atom.word]), strict, clause.place)


def rank_of(declaration):
    """Where a declaration stands among all of a program."""
    return (declaration.home.number, declaration.number)


def atoms_within(level, gathering):
    """The atoms of a level and of those within it, each with whether it's leaned on strictly."""
    found = []
    for literal in level.literals:
        if literal.atom is not None:
            found.append((literal.atom, gathering or literal.shape == "not"))
        elif literal.inner is not None:
            found.extend(atoms_within(literal.inner, True))
    return found
