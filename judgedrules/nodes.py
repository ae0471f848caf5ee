"""What a program's trees are made of."""


class Node:
    """A kind or an expression: its form, its place, a word or names of its own, and the nodes in it.

    The parts stand in the order in which they lie in the bytes.
    """

    def __init__(self, form, place):
        self.form = form
        self.place = place
        self.word = ""
        self.names = []
        self.parts = []


class Declaration:
    """A declaration: what it names, and the nodes in it."""

    def __init__(self, form, place, home, number):
        self.form = form
        self.place = place
        self.home = home
        self.number = number
        self.name = ""
        self.params = []
        self.param_nodes = []
        self.kind_node = None
        self.head = []
        self.body = []
        self.says = {}
        self.param_kinds = []
        self.own_kind = None
        self.level = None


class Module:
    """A module: which it uses, what it declares, and what it sees by name."""

    def __init__(self, place, number):
        self.place = place
        self.number = number
        self.name = ""
        self.uses = []
        self.declared = []
        self.seen = {}


def is_gathering(node):
    """Whether an expression is count, sum, least or greatest."""
    return node.form == "count" or node.form == "all"


def gathered(node):
    """A gathering's expression, if it has one, in a list; and the literals in its braces."""
    if node.form == "count":
        return [], node.parts
    return node.parts[:1], node.parts[1:]


def all_declared(modules):
    """All declarations of a program in order."""
    found = []
    for module in modules:
        found.extend(module.declared)
    return found
