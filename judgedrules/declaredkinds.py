"""The kinds that declarations tell."""

from judgedrules.nodes import all_declared


def settle_kinds(modules, kinds):
    """Give each declaration the kinds that it tells of itself and of its params."""
    for declaration in all_declared(modules):
        seen = declaration.home.seen
        declaration.param_kinds = [told_kind(kinds, seen, node) for node in declaration.param_nodes]
        if declaration.kind_node is not None:
            declaration.own_kind = told_kind(kinds, seen, declaration.kind_node)


def told_kind(kinds, seen, node):
    """The kind that a kind's node tells."""
    if node.form == "sort":
        return kinds.sort_of(seen[node.word])
    parts = [told_kind(kinds, seen, part) for part in node.parts]
    if node.form == "list":
        return kinds.list_of(parts[0])
    if node.form == "record":
        return kinds.record_of(node.names, parts)
    return kinds.plain(node.form)
