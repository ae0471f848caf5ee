"""Clauses and the gatherings in them as levels, and what each level binds."""

from judgedrules.literals import atom_of, shape_of
from judgedrules.nodes import gathered


class Literal:
    """A body's member: its shape, what it may bind, and the level within it, if it has a gathering."""

    def __init__(self, shape, node):
        self.shape = shape
        self.node = node
        self.atom = atom_of(shape, node)
        self.word = node.parts[0].word if shape in ("gather", "equals", "within") else ""
        self.inner = None
        self.needs = []


class Step:
    """A variable that is bound: by which literal (by the head, if by none), as which argument."""

    def __init__(self, word, literal, number):
        self.word = word
        self.literal = literal
        self.number = number


class Level:
    """A clause, or a gathering in it, without the gatherings that stand within."""

    def __init__(self, said, literals):
        self.said = said
        self.literals = literals
        self.leaves = []
        self.direct = {}
        self.reach = {}
        self.anywhere = {}
        self.bound = {}
        self.steps = []

    def find_leaves(self):
        """Find the variables that stand directly here, and prev, though it's none."""
        for node in self.said:
            self.leaves.extend(leaves_of(node))
        for literal in self.literals:
            if literal.shape == "gather":
                self.leaves.append(literal.node.parts[0])
            else:
                self.leaves.extend(leaves_of(literal.node))
        for word in words_of(self.leaves):
            self.direct[word] = True

    def bind(self, word, literal, number):
        """Bind a variable, unless it's bound already; whether it wasn't."""
        if word in self.bound:
            return False
        self.bound[word] = True
        self.steps.append(Step(word, literal, number))
        return True


def leaves_of(node):
    """The variables within an expression, and prev, in order."""
    if node.form == "var" or node.form == "prev":
        return [node]
    found = []
    for part in node.parts:
        found.extend(leaves_of(part))
    return found


def words_of(leaves):
    """The variables among leaves."""
    return [leaf.word for leaf in leaves if leaf.form == "var"]


def build_level(seen, said, body, around):
    """A level of some expressions and a body; around are the variables that stand directly around it."""
    level = Level(said, [Literal(shape_of(seen, node), node) for node in body])
    level.find_leaves()
    level.reach = dict(around)
    level.reach.update(level.direct)
    level.anywhere = dict(level.direct)
    for literal in level.literals:
        if literal.shape == "gather":
            inner_said, inner_body = gathered(literal.node.parts[1])
            literal.inner = build_level(seen, inner_said, inner_body, level.reach)
            level.anywhere.update(literal.inner.anywhere)
            literal.needs = [word for word in literal.inner.anywhere if word in level.reach]
        elif literal.word != "":
            literal.needs = words_of(leaves_of(literal.node.parts[1]))
    return level


def bind_level(level, outside):
    """Bind what's bound outside, then what the level's own literals bind, then so within its gatherings."""
    for word in outside:
        level.bound[word] = True
    for literal in level.literals:
        if literal.shape == "atom":
            bind_arguments(level, literal.atom.parts, literal)
    while bind_once(level):
        pass
    for literal in level.literals:
        if literal.inner is not None:
            bind_level(literal.inner, level.bound)


def bind_arguments(level, arguments, literal):
    """Bind each argument that's a variable by itself."""
    for number, argument in enumerate(arguments):
        if argument.form == "var":
            level.bind(argument.word, literal, number)


def bind_once(level):
    """Go once through the literals that bind what's on their left; whether one bound."""
    bound_some = False
    for literal in level.literals:
        if literal.word != "" and all([word in level.bound for word in literal.needs]):
            if level.bind(literal.word, literal, 0):
                bound_some = True
    return bound_some


def clause_level(clause):
    """A clause as a level, with all that's bound in it and its gatherings."""
    said = clause.head + [clause.says[part] for part in clause.says]
    level = build_level(clause.home.seen, said, clause.body, {})
    if clause.form != "clause":
        bind_arguments(level, clause.head, None)
    bind_level(level, {})
    return level
