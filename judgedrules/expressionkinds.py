"""The kind of an expression from those of its parts: None, where they are not such as they can be."""

from judgedrules.kindtable import MOMENT, NOTHING, NUMBER, TEXT, YESNO

OWN_CALLS = {"show": ("number", "text"), "seconds": ("moment", "number"), "at": ("number", "moment")}


# Each rule gives the kind of an expression of one form, whose parts all have kinds.


def value_kind(judging, node, parts):
    return judging.kinds.plain(node.word)


def list_kind(judging, node, parts):
    member = NOTHING
    for part in parts:
        member = judging.kinds.agree(member, part)
        if member is None:
            return None
    return judging.kinds.list_of(member)


def record_kind(judging, node, parts):
    return judging.kinds.record_of(node.names, parts)


def field_kind(judging, node, parts):
    return judging.kinds.field_of(parts[0], node.word)


def at_kind(judging, node, parts):
    index, row = parts
    return judging.kinds.member_of(row) if index == NUMBER else None


def if_kind(judging, node, parts):
    otherwise, asked, then = parts
    return judging.kinds.agree(then, otherwise) if asked == YESNO else None


def yesno_kind(judging, node, parts):
    return YESNO if all([part == YESNO for part in parts]) else None


def number_kind(judging, node, parts):
    return NUMBER if all([part == NUMBER for part in parts]) else None


def compare_kind(judging, node, parts):
    left, right = parts
    if node.word == "like":
        fits = left == TEXT and right == TEXT
    elif node.word == "in":
        member = judging.kinds.member_of(right)
        fits = member is not None and judging.kinds.agree(left, member) is not None
    else:
        fits = judging.kinds.agree(left, right) is not None
    return YESNO if fits else None


def sum_kind(judging, node, parts):
    whole = parts[0]
    for sign, part in zip(node.names, parts[1:]):
        whole = kind_of_two(judging.kinds, sign, whole, part)
        if whole is None:
            return None
    return whole


def kind_of_two(kinds, sign, left, right):
    """The kind of a sum of two."""
    if sign == "++":
        both = kinds.agree(left, right)
        return both if both is not None and kinds.is_row(both) else None
    if left in (NUMBER, MOMENT) and right == NUMBER:
        return left
    if left == MOMENT and right == MOMENT and sign == "-":
        return NUMBER
    return None


def call_kind(judging, node, parts):
    """The kind of a call of an own word, a sort or a fun."""
    kinds = judging.kinds
    word = node.word
    if word == "now":
        return MOMENT
    if word == "len":
        return NUMBER if kinds.is_row(parts[0]) else None
    if word == "raw":
        return kinds.sorts[parts[0]].own_kind if parts[0] in kinds.sorts else None
    if word == "part":
        return parts[0] if kinds.is_row(parts[0]) and parts[1] == NUMBER and parts[2] == NUMBER else None
    if word in OWN_CALLS:
        needed, made = OWN_CALLS[word]
        return kinds.plain(made) if parts[0] == kinds.plain(needed) else None
    named = judging.seen[word]
    if named.form == "sort":
        return kinds.sort_of(named) if all_agree(kinds, parts, [named.own_kind]) else None
    return named.own_kind if all_agree(kinds, parts, named.param_kinds) else None


def all_agree(kinds, parts, others):
    """Whether kinds agree with as many others."""
    return all([kinds.agree(part, other) is not None for part, other in zip(parts, others)])


RULES = {
    "value": value_kind, "list": list_kind, "record": record_kind, "field": field_kind, "at": at_kind,
    "if": if_kind, "or": yesno_kind, "and": yesno_kind, "not": yesno_kind, "minus": number_kind,
    "compare": compare_kind, "sum": sum_kind, "product": number_kind, "call": call_kind,
}


def kind_of(judging, bound, node):
    """The kind of an expression, that's also kept; None, if it has none."""
    kind = kind_by_parts(judging, bound, node)
    judging.kind_at[node.place] = kind
    return kind


def kind_by_parts(judging, bound, node):
    """The kind of an expression; None, if it or something in it is at fault, or hangs on what is."""
    if node.form == "var" or node.form == "prev":
        return bound[node.word]
    parts = [kind_of(judging, bound, part) for part in node.parts]
    if None in parts:
        return None
    kind = RULES[node.form](judging, node, parts)
    if kind is None or kind == NOTHING:
        judging.wrong.append(node.place)
        return None
    return kind
