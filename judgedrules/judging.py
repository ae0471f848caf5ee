"""Kinds where they should agree: fault 9."""

from judgedrules.binding import words_in_fun
from judgedrules.expressionkinds import all_agree, kind_of
from judgedrules.faults import BAD_KIND, tell_first
from judgedrules.kindtable import NOTHING, NUMBER, TEXT, YESNO
from judgedrules.nodes import all_declared


class Judging:
    """Goes through a declaration, and keeps the places of faults, and the kinds of expressions by their places."""

    def __init__(self, kinds, declaration):
        self.kinds = kinds
        self.declaration = declaration
        self.seen = declaration.home.seen
        self.wrong = []
        self.kind_at = {}

    def judge_fun(self):
        """A fun's expressions agree with its kind."""
        fun = self.declaration
        if "from" in fun.says and fun.param_kinds[0] != NUMBER:
            self.wrong.append(fun.place)
        bound = {"prev": fun.own_kind}
        for word, kind in zip(words_in_fun(fun, "body"), fun.param_kinds):
            bound[word] = kind
        for part in fun.says:
            self.need_kind(bound, fun.says[part], fun.own_kind)

    def judge_clause(self):
        """A clause's head, its body, and what must and slot say."""
        clause = self.declaration
        bound = self.judge_level(clause.level, {})
        if clause.form != "slot":
            for argument, kind in zip(clause.head, self.seen[clause.name].param_kinds):
                self.need_kind(bound, argument, kind)
        for part in clause.says:
            if part == "slot":
                self.need_kind(bound, clause.says[part], TEXT)
            else:
                kind_of(self, bound, clause.says[part])

    def need_kind(self, bound, node, kind):
        """An expression that must agree with a kind, and is at fault itself where it doesn't."""
        own = kind_of(self, bound, node)
        if own is not None and self.kinds.agree(own, kind) is None:
            self.wrong.append(node.place)

    def judge_level(self, level, outside):
        """A level's literals; the kinds of its variables, None where one has none."""
        bound = dict(outside)
        for step in level.steps:
            bound[step.word] = self.kind_bound(step, bound)
        for literal in level.literals:
            self.judge_literal(literal, bound)
        return bound

    def kind_bound(self, step, bound):
        """The kind that a variable has from what binds it."""
        literal = step.literal
        if literal is None:
            return self.seen[self.declaration.name].param_kinds[step.number]
        if literal.shape == "atom":
            return self.seen[literal.atom.word].param_kinds[step.number]
        if literal.shape == "gather":
            return self.gathering_kind(literal, bound)
        kind = kind_of(self, bound, literal.node.parts[1])
        if kind is None or literal.shape == "equals":
            return kind
        member = self.kinds.member_of(kind)
        if member is None or member == NOTHING:
            self.wrong.append(literal.node.place)
            return None
        return member

    def judge_literal(self, literal, bound):
        """A member of a body, with all that's bound there."""
        node = literal.node
        if literal.atom is not None:
            self.judge_atom(literal.atom, bound)
        elif literal.shape == "gather":
            both = [kind_of(self, bound, node.parts[0]), self.gathering_kind(literal, bound)]
            if None not in both and self.kinds.agree(both[0], both[1]) is None:
                self.wrong.append(node.place)
            self.kind_at[node.place] = YESNO
        else:
            self.need_kind(bound, node, YESNO)

    def judge_atom(self, atom, bound):
        """An atom's arguments agree with its params' kinds; if they don't, the atom is at fault."""
        parts = [kind_of(self, bound, argument) for argument in atom.parts]
        if None not in parts and not all_agree(self.kinds, parts, self.seen[atom.word].param_kinds):
            self.wrong.append(atom.place)

    def gathering_kind(self, literal, bound):
        """A gathering's kind; it's judged once, as all that it shares is bound when it's first asked for."""
        node = literal.node.parts[1]
        if node.place not in self.kind_at:
            self.kind_at[node.place] = self.judge_gathering(node, literal.inner, bound)
        return self.kind_at[node.place]

    def judge_gathering(self, node, level, bound):
        """A gathering's literals and expression: its kind, if nothing within is at fault."""
        before = len(self.wrong)
        inner = self.judge_level(level, bound)
        kinds = [kind_of(self, inner, said) for said in level.said]
        if len(self.wrong) > before:
            return None
        if node.form == "count":
            return NUMBER
        if node.word == "sum" and kinds[0] is not None and kinds[0] != NUMBER:
            self.wrong.append(node.place)
            return None
        return kinds[0]


def check_kinds(modules, kinds):
    """All expressions of a program have kinds, and such as they can have; these kinds by the places."""
    wrong = []
    kind_at = {}
    for declaration in all_declared(modules):
        judging = Judging(kinds, declaration)
        if declaration.form == "fun":
            judging.judge_fun()
        elif declaration.level is not None:
            judging.judge_clause()
        wrong.extend(judging.wrong)
        kind_at.update(judging.kind_at)
    tell_first(BAD_KIND, wrong)
    return kind_at
