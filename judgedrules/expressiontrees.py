"""Expressions and kinds built from values, if these are trees."""

from judgedrules.bytereader import LIST, RECORD, TEXT
from judgedrules.faults import need
from judgedrules.nodes import Node
from judgedrules.spelling import is_name, is_variable

KIND_WORDS = ("yesno", "number", "bytes", "text", "moment", "id")
KIND_FORMS = {("list",): "list", ("record",): "record", ("sort",): "sort"}
EXPRESSION_FORMS = {
    ("value",): "value", ("var",): "var", ("args", "call"): "call", ("list",): "list", ("record",): "record",
    ("field", "of"): "field", ("at", "of"): "at", ("else", "if", "then"): "if", ("or",): "or", ("and",): "and",
    ("not",): "not", ("minus",): "minus", ("compare", "left", "right"): "compare", ("sum",): "sum",
    ("product",): "product", ("count",): "count", ("all", "of", "over"): "all",
}
VALUE_KINDS = ("yesno", "yesno", "number", "bytes", "text", "", "", "moment", "id")
COMPARISONS = ("=", "!=", "<", "<=", ">", ">=", "in", "like")
# The last sign of products is that of what's left over, as texts are spelled.
SIGNS = {"sum": ("+", "-", "++"), "product": ("*", "/", "#37;")}
GATHERING_WORDS = ("sum", "least", "greatest")


# Each shape puts into a node what's its own, and gives the values that should be the nodes within, in the order
# in which they lie in the bytes; or None, if the node is none by its own shape.


def value_shape(raw, node):
    value = raw.members[0]
    node.word = VALUE_KINDS[value.kind]
    return None if node.word == "" or value.below else []


def var_shape(raw, node):
    node.word = raw.members[0].text
    return [] if is_variable(node.word) else None


def call_shape(raw, node):
    node.word = raw.members[1].text
    return members_of(raw.members[0], 0) if is_name(node.word) else None


def list_shape(raw, node):
    return members_of(raw.members[0], 0)


def record_shape(raw, node):
    fields = raw.members[0]
    if fields.kind != RECORD or not all([is_name(name) for name in fields.names]):
        return None
    node.names = fields.names
    return fields.members


def field_shape(raw, node):
    node.word = raw.members[0].text
    return [raw.members[1]] if is_name(node.word) else None


def plain_shape(raw, node):
    return raw.members


def several_shape(raw, node):
    return members_of(raw.members[0], 2)


def compare_shape(raw, node):
    node.word = raw.members[0].text
    return raw.members[1:] if node.word in COMPARISONS else None


def chain_shape(raw, node):
    """The operands of a sum or product, whose signs become the node's names."""
    chain = members_of(raw.members[0], 2)
    if chain is None:
        return None
    operands = chain[:1]
    for pair in chain[1:]:
        if pair.kind != LIST or len(pair.members) != 2 or pair.members[0].text not in SIGNS[node.form]:
            return None
        node.names.append(pair.members[0].text)
        operands.append(pair.members[1])
    return operands


def count_shape(raw, node):
    return members_of(raw.members[0], 1)


def all_shape(raw, node):
    node.word = raw.members[0].text
    over = members_of(raw.members[2], 1)
    if node.word not in GATHERING_WORDS or over is None:
        return None
    return [raw.members[1]] + over


def members_of(raw, least):
    """A list's members, if it is one and has at least so many; else None."""
    return raw.members if raw.kind == LIST and len(raw.members) >= least else None


SHAPES = {
    "value": value_shape, "var": var_shape, "call": call_shape, "list": list_shape, "record": record_shape,
    "field": field_shape, "at": plain_shape, "if": plain_shape, "or": several_shape, "and": several_shape,
    "not": plain_shape, "minus": plain_shape, "compare": compare_shape, "sum": chain_shape,
    "product": chain_shape, "count": count_shape, "all": all_shape,
}


def build_expression(raw):
    """The expression that a value is; its own shape is looked at before what's in it."""
    if raw.kind == TEXT:
        need(raw.text == "prev", raw.place)
        node = Node("prev", raw.place)
        node.word = "prev"
        return node
    form = EXPRESSION_FORMS.get(tuple(raw.names), "")
    need(form != "", raw.place)
    node = Node(form, raw.place)
    inner = SHAPES[form](raw, node)
    need(inner is not None, raw.place)
    node.parts = build_expressions(inner)
    return node


def build_expressions(raws):
    """The expressions that some values are."""
    return [build_expression(raw) for raw in raws]


def build_kind(raw):
    """The kind that a value is."""
    if raw.kind == TEXT:
        need(raw.text in KIND_WORDS, raw.place)
        return Node(raw.text, raw.place)
    form = KIND_FORMS.get(tuple(raw.names), "")
    need(form != "", raw.place)
    node = Node(form, raw.place)
    inner = raw.members
    if form == "record":
        inner = record_shape(raw, node)
    elif form == "sort":
        node.word = raw.members[0].text
        inner = [] if is_name(node.word) else None
    need(inner is not None, raw.place)
    node.parts = [build_kind(member) for member in inner]
    return node
