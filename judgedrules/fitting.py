"""Whether values are of kinds."""

from judgedrules.bytereader import LIST, RECORD
from judgedrules.expressiontrees import VALUE_KINDS
from judgedrules.faults import NoToldKind
from judgedrules.nodes import all_declared


def is_of_kind(program, kind, raw):
    """Whether a value is of a kind, all of whose sorts the program must have."""
    bare = bare_kinds(program)
    need_sorts(program.kinds, kind, bare)
    waiting = [(kind, raw)]
    while waiting:
        current, value = waiting.pop()
        within = kinds_within(program.kinds.rows[bare.get(current, current)], value)
        if within is None:
            return False
        waiting.extend(list(zip(within, value.members)))
    return True


def bare_kinds(program):
    """The kinds as which the values of the program's sorts are written, by the sorts' kinds: none is a sort itself.

    As sorts are declared as kinds of sorts declared before, each of these is known already.
    """
    bare = {}
    for declaration in all_declared(program.modules):
        if declaration.form == "sort":
            bare[program.kinds.sort_of(declaration)] = bare.get(declaration.own_kind, declaration.own_kind)
    return bare


def need_sorts(kinds, kind, known):
    """Go on only if all sorts in a kind are known."""
    waiting = [kind]
    while waiting:
        current = waiting.pop()
        if kinds.rows[current][0] == "sort" and current not in known:
            raise NoToldKind()
        waiting.extend(kinds.rows[current][2])


def kinds_within(row, raw):
    """The kinds of which the values in a value must be, so that it's of a kind; None, if it isn't whatever they are."""
    form, names, parts = row
    if form == "list" and raw.kind == LIST:
        return [parts[0]] * len(raw.members)
    if form == "record" and raw.kind == RECORD and tuple(raw.names) == names:
        return parts
    return () if VALUE_KINDS[raw.kind] == form else None
