"""The kinds of expressions in programs made by chance, whose kinds are known from how they're made."""

import random
import unittest

from helper import (
    Id, Moment, action, added, all_of, alone, any_of, bytes_of, call, compare, cond, count, equal, expression_paths,
    fact, field, fun, fun_from, gather, index, list_of, lst, minus, multiplied, must, negated, of_sort, place_in, rec,
    record_of, slot, sort, val, var, within,
)
from judgedrules.desk import check, kind

PLAIN = {"yesno": val(True), "number": val(7), "bytes": val(b"ab"), "text": val("ab"), "moment": val(Moment(-1)),
         "id": val(Id(7))}
IN_S, IN_T = {"in": "m", "sort": "s"}, {"in": "m", "sort": "t"}
SORTS = {"s": "number", "t": record_of(a=list_of(IN_S), b="text")}
FACTS = {"p": ["number", IN_S], "q": [list_of(record_of(a=list_of("id"))), "text", IN_T], "z": []}
FUNS = {"f": (["number", list_of("text")], list_of(IN_S)), "g": ([], record_of(a="text", b=list_of(list_of("id"))))}
GOALS = list(PLAIN) + [IN_S, IN_T, list_of("text"), list_of(IN_S), list_of(list_of("id")), list_of("nothing"),
                       record_of(a="text", b=list_of(list_of("id"))), record_of(), SORTS["t"],
                       list_of(record_of(a=list_of("id"))), record_of(x=list_of("nothing"), y=list_of("text"))]


def in_tree(as_told):
    """A told kind as it's written in the program's trees."""
    if isinstance(as_told, str):
        return as_told
    if "sort" in as_told:
        return of_sort(as_told["sort"])
    if "list" in as_told:
        return list_of(in_tree(as_told["list"]))
    return {"record": {name: in_tree(part) for name, part in as_told["record"].items()}}


def has_nothing(as_told):
    return "nothing" in str(as_told)


def joined(one, other):
    """On what two kinds agree; None, if they don't."""
    if one == "nothing" or one == other:
        return other
    if other == "nothing":
        return one
    if isinstance(one, str) or isinstance(other, str) or list(one) != list(other) or "sort" in one:
        return None
    if "list" in one:
        both = joined(one["list"], other["list"])
        return None if both is None else list_of(both)
    if sorted(one["record"]) != sorted(other["record"]):
        return None
    fields = {name: joined(part, other["record"][name]) for name, part in one["record"].items()}
    return None if None in fields.values() else {"record": fields}


class Maker:
    """Makes expressions of kinds that agree with goals; keeps the kind of each node by what it is."""

    def __init__(self, chance, words, in_fun):
        self.chance = chance
        self.words = words
        self.in_fun = in_fun
        self.kinds = {}

    def kept(self, node, as_told):
        """The node as one of its own, so that what's told of it can be kept."""
        node = dict(node)
        self.kinds[id(node)] = (node, as_told)
        return node, as_told

    def make(self, goal, depth):
        while True:
            ways = [self.plain, self.word]
            if depth > 0:
                ways += [self.word, self.of_record, self.of_list, self.chosen, self.built, self.built, self.built]
            node, as_told = self.chance.choice(ways)(goal, depth - 1)
            if node is not None and as_told != "nothing":
                return self.kept(node, as_told)

    def plain(self, goal, depth):
        """What's written out."""
        if isinstance(goal, str):
            return (None, None) if goal == "nothing" else (PLAIN[goal], goal)
        if "sort" in goal:
            inner, _ = self.make(SORTS[goal["sort"]], depth)
            return call(goal["sort"], inner), goal
        if "list" in goal:
            members = [self.make(goal["list"], depth) for _ in range(self.chance.randint(0, 2))
                       if goal["list"] != "nothing" and depth > -3]
            whole = "nothing"
            for _, as_told in members:
                whole = joined(whole, as_told)
            return lst(*[node for node, _ in members]), list_of(whole)
        fields = {name: self.make(part, depth) for name, part in goal["record"].items()}
        return (rec(**{name: node for name, (node, _) in fields.items()}),
                record_of(**{name: as_told for name, (_, as_told) in fields.items()}))

    def word(self, goal, depth):
        """A variable, or prev."""
        fitting = [word for word, as_told in self.words.items() if joined(goal, as_told) is not None]
        if not fitting:
            return None, None
        word = self.chance.choice(fitting)
        return var(word), self.words[word]

    def of_record(self, goal, depth):
        node, as_told = self.make(record_of(a=self.chance.choice(GOALS), b=goal), depth)
        return field(node, "b"), as_told["record"]["b"]

    def of_list(self, goal, depth):
        node, as_told = self.make(list_of(goal), depth)
        return index(node, self.make("number", depth)[0]), as_told["list"]

    def chosen(self, goal, depth):
        then, one = self.make(goal, depth)
        otherwise, other = self.make(goal, depth)
        if joined(one, other) is None:
            return None, None
        return cond(self.make("yesno", depth)[0], then, otherwise), joined(one, other)

    def built(self, goal, depth):
        """What's built for a goal of one sort or another."""
        makers = {"yesno": self.yesno, "number": self.number, "text": self.text, "moment": self.moment}
        options = [makers[goal]] if isinstance(goal, str) and goal in makers else []
        if goal in ("text", "bytes") or isinstance(goal, dict) and "list" in goal:
            options += [self.row, self.row]
        options += [self.called, self.unwrapped]
        return self.chance.choice(options)(goal, depth)

    def called(self, goal, depth):
        for name, (params, own) in FUNS.items():
            if joined(goal, own) is not None:
                return call(name, *[self.make(param, depth)[0] for param in params]), own
        return None, None

    def unwrapped(self, goal, depth):
        for name, own in SORTS.items():
            if joined(goal, own) is not None:
                return call("raw", self.make({"in": "m", "sort": name}, depth)[0]), own
        return None, None

    def row(self, goal, depth):
        node, as_told = self.make(goal, depth)
        if self.chance.random() < 0.4:
            return call("part", node, self.make("number", depth)[0], self.make("number", depth)[0]), as_told
        parts = [node]
        for _ in range(self.chance.randint(1, 2)):
            other, also = self.make(goal, depth)
            as_told = joined(as_told, also)
            if as_told is None:
                return None, None
            parts += ["++", other]
        return added(*parts), as_told

    def yesno(self, goal, depth):
        several = [self.make("yesno", depth)[0] for _ in range(self.chance.randint(2, 3))]
        left, one = self.make(self.chance.choice(GOALS), depth)
        right, other = self.make(one, depth)
        rows, members = self.make(list_of(one), depth)
        options = [any_of(*several), all_of(*several), negated(several[0]),
                   compare("like", self.make("text", depth)[0], self.make("text", depth)[0])]
        if joined(one, other) is not None:
            options.append(compare(self.chance.choice(["=", "!=", "<", "<=", ">", ">="]), left, right))
        if joined(one, members["list"]) is not None:
            options.append(within(left, rows))
        return self.chance.choice(options), goal

    def number(self, goal, depth):
        numbers = [self.make("number", depth)[0] for _ in range(3)]
        moments = [self.make("moment", depth)[0] for _ in range(2)]
        sign = self.chance.choice("+-")
        rows = self.make(self.chance.choice(["text", "bytes", list_of(self.chance.choice(GOALS))]), depth)[0]
        options = [minus(numbers[0]), added(numbers[0], sign, numbers[1], "-", numbers[2]),
                   added(moments[0], sign, numbers[0], "-", moments[1], sign, numbers[1]),
                   multiplied(numbers[0], self.chance.choice("*/%"), numbers[1]), call("len", rows),
                   call("seconds", moments[0])]
        return self.chance.choice(options), goal

    def text(self, goal, depth):
        return call("show", self.make("number", depth)[0]), goal

    def moment(self, goal, depth):
        number = self.make("number", depth)[0]
        options = [call("at", number), added(self.make("moment", depth)[0], self.chance.choice("+-"), number)]
        return self.chance.choice(options if self.in_fun else options + [call("now")]), goal


class Body:
    """Makes a body, literal by literal, each of which binds variables of its own."""

    def __init__(self, chance, words):
        self.chance = chance
        self.maker = Maker(chance, dict(words), False)
        self.kinds = self.maker.kinds
        self.literals = []

    def variable(self, as_told):
        word = f"V{self.chance.randrange(10 ** 9)}"
        self.maker.words[word] = as_told
        return self.maker.kept(var(word), as_told)[0]

    def literal(self, literal):
        """A literal that's yesno."""
        self.literals.append(self.maker.kept(literal, "yesno")[0])

    def atom(self, depth):
        name = self.chance.choice(list(FACTS))
        arguments = [self.maker.make(param, depth)[0] if self.chance.random() < 0.3 else self.variable(param)
                     for param in FACTS[name]]
        self.literals.append(call(name, *arguments))

    def negated_atom(self, depth):
        name = self.chance.choice(list(FACTS))
        self.literals.append(negated(call(name, *[self.maker.make(param, depth)[0] for param in FACTS[name]])))

    def test(self, depth):
        while True:
            node, _ = self.maker.make("yesno", depth)
            if not (node.get("compare") in ("=", "in") and "var" in node["left"]):
                self.literals.append(node)
                return

    def equals(self, depth):
        node, as_told = self.maker.make(self.chance.choice(GOALS), depth)
        self.literal(equal(self.variable(as_told), node))

    def within(self, depth):
        node, as_told = self.maker.make(list_of(self.chance.choice(GOALS)), depth)
        if as_told["list"] != "nothing":
            self.literal(within(self.variable(as_told["list"]), node))

    def gather(self, depth):
        inner = Body(self.chance, self.maker.words)
        inner.maker.kinds = inner.kinds = self.kinds
        inner.fill(depth)
        word = self.chance.choice(["count", "sum", "least", "greatest"])
        said, as_told = inner.maker.make("number" if word == "sum" else self.chance.choice(GOALS), depth)
        node = count(*inner.literals) if word == "count" else gather(word, said, *inner.literals)
        as_told = "number" if word == "count" else as_told
        node, _ = self.maker.kept(node, as_told)
        self.literal(equal(self.variable(as_told), node))

    def fill(self, depth):
        self.atom(min(depth, 1))
        for _ in range(self.chance.randint(0, 3)):
            ways = [self.negated_atom, self.test, self.equals, self.equals, self.within]
            self.chance.choice(ways + [self.gather] * (depth > 0))(depth - 1)


def names():
    """Declarations of all that's called."""
    return [sort(name, in_tree(own)) for name, own in SORTS.items()] + [
        fact(name, **{f"a{number}": in_tree(param) for number, param in enumerate(params)})
        for name, params in FACTS.items()] + [
        fun(name, {f"a{number}": in_tree(param) for number, param in enumerate(params)}, in_tree(own),
            rec(a=val("x"), b=lst()) if name == "g" else lst()) for name, (params, own) in FUNS.items()]


def at_path(value, path):
    for step in path:
        value = value[step]
    return value


class TestRandomKinds(unittest.TestCase):
    def each_is_told(self, program, kinds):
        codes = bytes_of(program)
        self.assertEqual(check(codes)[0], 0, program)
        asked = 0
        for path in expression_paths(program):
            node = at_path(program, path)
            if id(node) in kinds:
                place = place_in(program, *path)
                self.assertEqual(kind(place, codes), [0] + bytes_of(kinds[id(node)][1]), (program, path))
                asked += 1
        return asked

    def test_bodies(self):
        chance = random.Random(11)
        asked = 0
        for turn in range(60):
            words = {"A": "number", "B": IN_T, "C": list_of("id")} if turn % 2 else {}
            body = Body(chance, words)
            body.fill(2)
            goal, _ = body.maker.make(chance.choice(GOALS), 2)
            name, _ = body.maker.make("text", 1)
            said = slot(name, goal, *body.literals)
            if words:
                said = must("act", [body.maker.kept(var(word), as_told)[0] for word, as_told in words.items()], goal,
                            *body.literals)
            act = action("act", a="number", b=of_sort("t"), c=list_of("id"))
            asked += self.each_is_told(alone(*names(), act, said), body.kinds)
        self.assertGreater(asked, 1000)

    def test_funs(self):
        chance = random.Random(12)
        asked = 0
        for turn in range(60):
            words = {"A": "number", "B": IN_T, "C_d": list_of("id")}
            goal = chance.choice([one for one in GOALS if not has_nothing(one)])
            params = {"a": "number", "b": of_sort("t"), "c_d": list_of("id")}
            maker = Maker(chance, words, True)
            node, _ = maker.make(goal, 3)
            own = fun("own", params, in_tree(goal), node)
            if turn % 2:
                words.pop("A")
                start, _ = maker.make(goal, 3)
                words["A"] = "number"
                own = fun_from("own", params, in_tree(goal), start, node)
            asked += self.each_is_told(alone(*names(), own), maker.kinds)
        self.assertGreater(asked, 1000)

    def test_the_second_of_two_kinds_agrees_as_the_first(self):
        for one in GOALS:
            for other in GOALS:
                self.assertEqual(joined(one, other), joined(other, one))


if __name__ == "__main__":
    unittest.main()
