"""A program's modules built from the value that its bytes are, if it's a list of trees."""

from judgedrules.bytereader import LIST, read_value
from judgedrules.expressiontrees import build_expression, build_expressions, build_kind
from judgedrules.faults import need
from judgedrules.nodes import Declaration, Module
from judgedrules.spelling import is_name

MOST_MODULES = 64
DEEPEST_TREE = 24
DECLARATION_FORMS = {
    ("kind", "sort"): "sort", ("fact", "params"): "fact", ("params", "rule"): "rule",
    ("action", "params"): "action", ("body", "fun", "kind", "params"): "fun",
    ("by", "from", "fun", "kind", "params"): "fun", ("args", "clause", "if"): "clause",
    ("allow", "args", "if"): "allow", ("args", "deny", "if"): "deny",
    ("args", "if", "must", "what"): "must", ("if", "slot", "to"): "slot",
}


def build_modules(codes):
    """The modules of the program whose bytes these are."""
    whole = read_value(codes)
    need(whole.kind == LIST and 1 <= len(whole.members) <= MOST_MODULES, 0)
    return [build_module(raw, number) for number, raw in enumerate(whole.members)]


def build_module(raw, number):
    """The module that a value is."""
    need(tuple(raw.names) == ("decls", "name", "uses") and raw.deep <= DEEPEST_TREE, raw.place)
    declared, name, uses = raw.members
    need(declared.kind == LIST and is_name(name.text), raw.place)
    need(uses.kind == LIST and all([is_name(used.text) for used in uses.members]), raw.place)
    module = Module(raw.place, number)
    module.name = name.text
    module.uses = [used.text for used in uses.members]
    for member in declared.members:
        module.declared.append(build_declaration(member, module))
    return module


def build_declaration(raw, home):
    """The declaration that a value is."""
    form = DECLARATION_FORMS.get(tuple(raw.names), "")
    need(form != "", raw.place)
    declaration = Declaration(form, raw.place, home, len(home.declared))
    for field, member in zip(raw.names, raw.members):
        need(is_well_shaped(declaration, field, member), raw.place)
    for field, member in zip(raw.names, raw.members):
        fill(declaration, field, member)
    return declaration


def is_well_shaped(declaration, field, raw):
    """Whether what belongs to the declaration itself is as it should be in a field."""
    if field == "params":
        return raw.kind == LIST and all([is_param(pair) for pair in raw.members])
    if field == "args" or field == "if":
        return raw.kind == LIST
    if field == declaration.form and field != "slot":
        return is_name(raw.text)
    return True


def is_param(raw):
    """Whether a value is a pair of a name and something."""
    return raw.kind == LIST and len(raw.members) == 2 and is_name(raw.members[0].text)


def fill(declaration, field, raw):
    """Put what a field holds into the declaration."""
    if field == "params":
        declaration.params = [pair.members[0].text for pair in raw.members]
        declaration.param_nodes = [build_kind(pair.members[1]) for pair in raw.members]
    elif field == "kind":
        declaration.kind_node = build_kind(raw)
    elif field == "args":
        declaration.head = build_expressions(raw.members)
    elif field == "if":
        declaration.body = build_expressions(raw.members)
    elif field == declaration.form and field != "slot":
        declaration.name = raw.text
    else:
        declaration.says[field] = build_expression(raw)
