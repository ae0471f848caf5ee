"""The shapes of a body's literals."""

from judgedrules.nodes import is_gathering


def is_atom(seen, node):
    """Whether an expression is a call of a fact, rule or action."""
    if node.form != "call" or node.word not in seen:
        return False
    return seen[node.word].form in ("fact", "rule", "action")


def shape_of(seen, node):
    """A literal's shape, the first that fits; whether it binds isn't told by its shape."""
    if is_atom(seen, node):
        return "atom"
    if node.form == "not" and is_atom(seen, node.parts[0]):
        return "not"
    if node.form == "compare" and node.parts[0].form == "var":
        if node.word == "=":
            return "gather" if is_gathering(node.parts[1]) else "equals"
        if node.word == "in":
            return "within"
    return "test"


def atom_of(shape, node):
    """The atom of a literal that is one or that is a not before one; else None."""
    if shape == "atom":
        return node
    if shape == "not":
        return node.parts[0]
    return None
