"""Trees: appendix B, and members that are none."""

import unittest

from helper import (
    CheckCase, Id, Moment, ONE, X, action, added, all_of, allow, alone, any_of, call, clause, compare, cond, count,
    deny, equal, fact, field, fun, fun_from, gather, index, list_of, lst, minus, module, multiplied, must, negated,
    of_sort, rec, record_of, rule, slot, sort, val, var, within,
)

KEYWORDS = """module use sort fact rule fun action allow deny must slot if then else not and or like in of list count
sum least greatest over from by prev yes no yesno number bytes text moment id""".split()
BAD_NAMES = KEYWORDS + ["", "A", "aB", "1a", "_a", "a-b", "a b", "a%", "\u00e4", "a" * 65, 1, True, b"a", [], {},
                        ["a"], {"a": 1}, Moment(0), Id(0)]
BAD_VARIABLES = ["", "a", "1A", "_A", "A-B", "A B", "A%", "\u00c4", "A" * 65, 1, b"A", [], {}]
NO_NODES = [False, 0, b"x", "x", "", [], [ONE], {}, Moment(0), Id(0), {"none": 1}]


def nested(depth, inner):
    """An expression within lists."""
    for _ in range(depth):
        inner = lst(inner)
    return inner


class TestModules(CheckCase):
    def test_no_modules(self):
        for member in NO_NODES + [ONE, X, "prev", fact("p"), {"decls": [], "name": "m"},
                                  {"decls": [], "name": "m", "uses": [], "x": 1}]:
            self.told([member], 1, 0)
            self.told([module("m", []), member], 1, 1)

    def test_names_of_modules(self):
        for name in BAD_NAMES:
            self.told([module(name, [])], 1, 0)
        for name in ("a", "a" * 64, "a_b1", "len", "record", "value"):
            self.taken([module(name, [])], 0)

    def test_uses(self):
        for name in BAD_NAMES:
            self.told([module("m", []), module("n", ["m", name])], 1, 1)
        for uses in ("m", {}, 1, {"m": "m"}):
            self.told([{"decls": [], "name": "m", "uses": uses}], 1, 0)

    def test_decls(self):
        for decls in ("x", {}, 1, {"a": fact("p")}):
            self.told([{"decls": decls, "name": "m", "uses": []}], 1, 0)

    def test_its_own_shape_before_what_is_in_it(self):
        self.told([module("M", [], "none")], 1, 0)
        self.told([module("m", ["m"], "none")], 1, 0, "decls", 0)

    def test_the_first_member(self):
        self.told([module("m", []), module("n", [], 1), module("o", [], 2), 3], 1, 1, "decls", 0)


class TestDeclarations(CheckCase):
    def test_no_declarations(self):
        for decl in NO_NODES + [ONE, X, "prev", module("m", []), {"sort": "a"}, {"fact": "p"}]:
            self.told(alone(fact("p"), decl), 1, 0, "decls", 1)

    def test_just_the_names(self):
        for decl in (sort("s", "text"), fact("p"), rule("p"), action("p"), fun("f", {}, "text", ONE),
                     fun_from("f", {"a": "number"}, "number", ONE, ONE), clause("p", []), allow("p", []),
                     deny("p", []), must("p", [], ONE), slot(ONE, ONE)):
            more = dict(decl)
            more["zz"] = 1
            self.told(alone(more), 1, 0, "decls", 0)
            for name in decl:
                less = dict(decl)
                del less[name]
                self.told(alone(less), 1, 0, "decls", 0)

    def test_names(self):
        for name in BAD_NAMES:
            for decl in (sort(name, "text"), fact(name), rule(name), action(name), fun(name, {}, "text", ONE),
                         fun_from(name, {"a": "number"}, "number", ONE, ONE), clause(name, []), allow(name, []),
                         deny(name, []), must(name, [], ONE)):
                self.told(alone(decl), 1, 0, "decls", 0)

    def test_params(self):
        for params in ("a", {}, [1], ["a"], [[]], [["a"]], [["a", "text", "text"]], [{"a": "text"}], [["A", "text"]],
                       [["a", "text"], ["text", "text"]], [{"a": "a", "b": "text"}], [["a", "none"], ["B", "text"]]):
            for decl in ({"fact": "p", "params": params}, {"params": params, "rule": "p"},
                         {"action": "p", "params": params},
                         {"body": ONE, "fun": "p", "kind": "number", "params": params}):
                self.told(alone(decl), 1, 0, "decls", 0)

    def test_args_and_if(self):
        for name in ("args", "if"):
            for decl in (clause("p", []), allow("p", []), deny("p", []), must("p", [], ONE)):
                for wrong in ("x", 1, {}, {"a": ONE}, X):
                    self.told(alone({**decl, name: wrong}), 1, 0, "decls", 0)
        self.told(alone({"if": 1, "slot": ONE, "to": ONE}), 1, 0, "decls", 0)

    def test_order_of_what_is_within(self):
        self.told(alone(fun("f", {"a": 1}, 2, 3)), 1, 0, "decls", 0, "body")
        self.told(alone(fun("f", {"a": 1}, 2, ONE)), 1, 0, "decls", 0, "kind")
        self.told(alone(fun("f", {"a": 1}, "text", ONE)), 1, 0, "decls", 0, "params", 0, 1)
        self.told(alone(fun_from("f", {"a": 1}, 2, 3, 4)), 1, 0, "decls", 0, "by")
        self.told(alone(fun_from("f", {"a": 1}, 2, 3, ONE)), 1, 0, "decls", 0, "from")
        self.told(alone(must("p", [1], 2, 3)), 1, 0, "decls", 0, "args", 0)
        self.told(alone(must("p", [], 2, 3)), 1, 0, "decls", 0, "if", 0)
        self.told(alone(must("p", [], 2)), 1, 0, "decls", 0, "what")
        self.told(alone(slot(1, 2, ONE, 3)), 1, 0, "decls", 0, "if", 1)
        self.told(alone(slot(1, 2)), 1, 0, "decls", 0, "slot")
        self.told(alone(slot(ONE, 2)), 1, 0, "decls", 0, "to")


class TestKinds(CheckCase):
    def test_kinds(self):
        for kind in ("yesno", "number", "bytes", "text", "moment", "id", list_of("text"), record_of(),
                     record_of(a="text", b=list_of("id"))):
            self.taken(alone(fact("p", a=kind), sort("s", kind), fact("q", a=of_sort("s"))), 0)

    def test_no_kinds(self):
        for kind in [False, 0, b"x", "x", "", "prev", "nothing", "list", [], ["text"], {}, {"none": "text"}, ONE, X,
                     {"list": "text", "record": {}}, {"record": "text"}, {"record": []}, {"record": {"A": "text"}},
                     {"record": {"text": "text"}}, {"sort": 1}, {"sort": "A"}, {"sort": ["s"]}]:
            self.told(alone(fact("p", a=kind)), 1, 0, "decls", 0, "params", 0, 1)
            self.told(alone(sort("s", kind)), 1, 0, "decls", 0, "kind")
            self.told(alone(fact("p", a=list_of(kind))), 1, 0, "decls", 0, "params", 0, 1, "list")
            self.told(alone(fact("p", a=record_of(a="text", b=kind))), 1,
                      0, "decls", 0, "params", 0, 1, "record", "b")

    def test_lists_of_kinds_are_no_lists(self):
        self.told(alone(sort("s", list_of(["text"]))), 1, 0, "decls", 0, "kind", "list")


class TestExpressions(CheckCase):
    def told_within(self, expression, *path):
        """That an expression is no tree, at a place in it, wherever it stands."""
        self.told(alone(clause("p", [ONE, expression])), 1, 0, "decls", 0, "args", 1, *path)
        self.told(alone(clause("p", [], expression)), 1, 0, "decls", 0, "if", 0, *path)
        self.told(alone(clause("p", [], negated(nested(3, expression)))), 1,
                  0, "decls", 0, "if", 0, "not", "list", 0, "list", 0, "list", 0, *path)
        self.told(alone(fun("f", {}, "number", expression)), 1, 0, "decls", 0, "body", *path)

    def test_no_expressions(self):
        for expression in NO_NODES + ["text", "number", "Prev", {"sort": "s"}, fact("p"), module("m", [])]:
            self.told_within(expression)

    def test_just_the_names(self):
        for expression in (ONE, X, call("p"), lst(), rec(), field(X, "a"), index(X, ONE), cond(X, X, X), any_of(X, X),
                           all_of(X, X), negated(X), minus(X), equal(X, X), added(X, "+", X), multiplied(X, "*", X),
                           count(X), gather("sum", X, X)):
            self.told_within({**expression, "zz": ONE})
            for name in expression:
                less = dict(expression)
                del less[name]
                self.told_within(less)

    def test_values(self):
        for value in (-1, -256 ** 40, [], [ONE], {}, {"a": 1}):
            self.told_within(val(value))

    def test_variables(self):
        for name in BAD_VARIABLES:
            self.told_within(var(name))
        for name in ("A", "Aa_1Z", "A" * 64):
            self.told(alone(clause("p", [var(name)])), 6, 0, "decls", 0)

    def test_calls(self):
        for name in BAD_NAMES:
            self.told_within(call(name))
        for args in ("x", 1, {}, X, {"a": ONE}):
            self.told_within({"args": args, "call": "p"})

    def test_lists_and_records(self):
        for members in ("x", 1, {}, X):
            self.told_within({"list": members})
        for members in ("x", 1, [], [ONE]):
            self.told_within({"record": members})
        for name in ("A", "text", "a b", "a" * 65):
            self.told_within(rec(a=ONE, **{name: ONE}))

    def test_fields(self):
        for name in BAD_NAMES:
            self.told_within(field(X, name))

    def test_two_at_least(self):
        for part in ([], [X], "x", 1, {}, X):
            for name in ("or", "and", "sum", "product"):
                self.told_within({name: part})

    def test_one_at_least(self):
        for part in ([], "x", 1, {}, X):
            self.told_within({"count": part})
            self.told_within({"all": "sum", "of": X, "over": part})

    def test_comparisons(self):
        for word in ("==", "", "<>", "not", "~", 1, ["="], "In", "is", "%"):
            self.told_within(compare(word, X, X))
        for word in ("=", "!=", "<", "<=", ">", ">=", "in", "like"):
            self.told(alone(clause("p", [], compare(word, X, X))), 6, 0, "decls", 0)

    def test_signs(self):
        for sign in ("*", "/", "%", "", "+-", "--", 1, ["+"], "#37;"):
            self.told_within(added(X, "+", X, sign, X))
        for sign in ("+", "-", "++", "", "**", "#37;", 1):
            self.told_within(multiplied(X, "*", X, sign, X))
        for signs in (added(X, "+", X, "-", X, "++", X), multiplied(X, "*", X, "/", X, "%", X)):
            self.told(alone(clause("p", [signs])), 6, 0, "decls", 0)

    def test_pairs_of_signs(self):
        for pair in (X, ["+"], [X, "+"], ["+", X, X], "+", [], {"+": X}, {"a": "+", "b": X}):
            self.told_within({"sum": [X, ["+", X], pair]})
        self.told_within({"sum": [["+", X], ["+", X]]}, "sum", 0)
        self.told_within({"product": ["*", ["*", X]]}, "product", 0)

    def test_gatherings(self):
        for word in ("count", "most", "", 1, ["sum"]):
            self.told_within(gather(word, X, X))

    def test_deep_within(self):
        for expression, path in (
                (call("p", ONE, 1), ("args", 1)), (lst(ONE, 1), ("list", 1)), (rec(a=ONE, b=1), ("record", "b")),
                (field(1, "a"), ("of",)), (index(1, 2), ("at",)), (index(1, ONE), ("of",)),
                (cond(1, 2, 3), ("else",)), (cond(1, 2, ONE), ("if",)), (cond(ONE, 2, ONE), ("then",)),
                (any_of(ONE, 1), ("or", 1)), (all_of(1, 2), ("and", 0)), (negated(1), ("not",)),
                (minus(1), ("minus",)), (equal(1, 2), ("left",)), (equal(ONE, 2), ("right",)),
                (added(1, "+", 2), ("sum", 0)), (added(ONE, "+", 2), ("sum", 1, 1)),
                (multiplied(ONE, "*", ONE, "*", 2), ("product", 2, 1)), (count(ONE, 1), ("count", 1)),
                (gather("least", 1, 2), ("of",)), (gather("least", ONE, ONE, 2), ("over", 1))):
            self.told_within(expression, *path)

    def test_its_own_shape_before_what_is_in_it(self):
        self.told_within({"sum": [1, ["%", 2]]})
        self.told_within(compare("?", 1, 2))
        self.told_within(gather("count", 1, 2))
        self.told_within(lst(lst(1), 2), "list", 0, "list", 0)


class TestDepth(CheckCase):
    """A module, its declarations, a clause and its arguments are four levels; a list within is two."""

    def test_24_deep(self):
        deepest = nested(9, {"var": "X"})
        self.told(alone(clause("p", [deepest])), 6, 0, "decls", 0)

    def test_25_deep(self):
        self.told(alone(clause("p", [nested(9, val(1)), negated(nested(9, val(1)))])), 1, 0)
        self.told(alone(fact("p"), clause("p", [nested(9, lst())])), 6, 0, "decls", 1)
        self.told([module("m", []), module("n", [], clause("p", [nested(9, lst(lst()))]))], 1, 1)

    def test_too_deep_before_what_is_within(self):
        self.told(alone("none", clause("p", [nested(20, ONE)])), 1, 0)
        self.told([module("m", [], "none"), module("n", [], clause("p", [nested(20, ONE)]))], 1, 0, "decls", 0)


if __name__ == "__main__":
    unittest.main()
