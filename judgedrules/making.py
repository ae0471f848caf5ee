"""Positions from which others come, and rings in which something is made: fault 11."""

from judgedrules.faults import MADE_RING, tell_first
from judgedrules.nodes import all_declared
from judgedrules.ringsearch import Steps


def check_making(modules):
    """No ring of edges between positions may have a made one in it."""
    steps = Steps()
    for clause in all_declared(modules):
        if clause.form == "clause":
            Origins(clause).note_edges(steps)
    tell_first(MADE_RING, steps.ring_places())


class Origins:
    """From what a clause's variables come: from atoms' positions, or from expressions that bind them."""

    def __init__(self, clause):
        self.clause = clause
        self.seen = clause.home.seen
        self.positions = {}
        self.binders = {}
        for literal in clause.level.literals:
            if literal.shape == "atom":
                self.note_atom(literal.atom)
        for step in clause.level.steps:
            if step.literal.shape in ("equals", "within"):
                self.binders[step.word] = step.literal.node.parts[1]

    def note_atom(self, atom):
        """A variable that an atom has by itself comes from such atoms alone; of facts there are no positions."""
        named = self.seen[atom.word]
        for number, argument in enumerate(atom.parts):
            if argument.form == "var":
                positions = self.positions.setdefault(argument.word, [])
                if named.form == "rule":
                    positions.append(position_of(named, number))

    def note_edges(self, steps):
        """Add the edges to the positions of the clause's rule."""
        rule = self.seen[self.clause.name]
        for number, argument in enumerate(self.clause.head):
            for word, made in self.sources_of(argument).items():
                for position in self.positions.get(word, []):
                    steps.note(position, position_of(rule, number), made, self.clause.place)

    def sources_of(self, node):
        """The variables from which an expression comes, each with whether something is made on the way.

        No variable is come from in both ways: where ways part, something is made on all of them.
        """
        found = {}
        waiting = self.variables_of(node, False)
        while waiting:
            word, made = waiting.pop()
            if word not in found:
                found[word] = made
                if word in self.binders:
                    waiting.extend(self.variables_of(self.binders[word], made))
        return found

    def variables_of(self, node, made):
        """The variables in an expression from which it comes; made where more than taking apart is done."""
        if node.form == "var":
            return [(node.word, made)]
        parts = node.parts
        if node.form == "at":
            parts = node.parts[1:]
        elif node.form == "if":
            parts = [node.parts[0], node.parts[2]]
        found = []
        for part in parts:
            found.extend(self.variables_of(part, made or not self.keeps(node)))
        return found

    def keeps(self, node):
        """Whether what an expression is was there before: a field, a place in a list, raw, a sort's name."""
        if node.form == "call":
            return node.word == "raw" or node.word in self.seen and self.seen[node.word].form == "sort"
        return node.form == "field" or node.form == "at"


def position_of(rule, number):
    """A rule's argument, told so that positions come in the order of modules, declarations, arguments."""
    return (rule.home.number, rule.number, number)
