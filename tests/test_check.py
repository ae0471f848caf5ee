"""What check answers as a whole: the examples, several faults, and that nothing is changed or kept."""

import unittest

from helper import (
    EDGE, M, N, ONE, X, Y, Z, CheckCase, NothingChangedOrKept, action, added, allow, alone, bytes_of, call, clause,
    compare, count, equal, fact, fun, list_of, lst, module, must, negated, of_sort, rule, slot, sort, val, var,
)
from judgedrules.desk import check

PATHS = [EDGE, rule("path", a="text", b="text"), rule("far", a="text", n="number"),
         clause("path", [X, Y], call("edge", X, Y)),
         clause("path", [X, Z], call("edge", X, Y), call("path", Y, Z))]


class TestARun(CheckCase):
    def test_paths(self):
        self.taken(alone(*PATHS, clause("far", [X, N], call("edge", X, Y), equal(N, count(call("path", X, Z))))), 2)

    def test_up(self):
        up = rule("up", n="number")
        self.told(alone(up, clause("up", [added(N, "+", ONE)], call("up", N))), 11, 0, "decls", 1)
        self.taken(alone(up, clause("up", [N], call("up", M), equal(N, M))), 1)

    def test_odd_and_even(self):
        odd = clause("odd", [X], call("edge", X, Y), negated(call("even", X)))
        even = clause("even", [X], call("odd", X))
        self.told(alone(EDGE, rule("odd", a="text"), rule("even", a="text"), odd, even), 10, 0, "decls", 3)

    def test_far(self):
        body = [call("edge", X, Y), negated(call("path", Y, var("Q")))]
        self.told(alone(*PATHS, clause("far", [X, N], *body)), 8, 0, "decls", 5, "args", 1)
        self.told(alone(*PATHS, clause("far", [X, ONE], *body)), 8, 0, "decls", 5, "if", 1, "not", "args", 1)

    def test_allow_open(self):
        open_door = [action("open", d="text", w="text"), fact("group", w="text", g="text")]
        body = [call("group", var("W"), var("G")), compare("like", var("G"), val("staff*"))]
        self.taken(alone(*open_door, allow("open", [var("D"), var("W")], *body)), 0)

    def test_sums_and_lists(self):
        self.told(alone(slot(val("x"), added(ONE, "+", val("a")))), 9, 0, "decls", 0, "to")
        self.told(alone(slot(val("x"), lst(ONE, val("a")))), 9, 0, "decls", 0, "to")
        for other in (lst(), lst(ONE), lst(val("a"))):
            self.taken(alone(slot(val("x"), ONE, equal(lst(), other))), 0)

    def test_the_variable_within_a_gathering(self):
        counted = equal(N, count(call("q", X)))
        program = alone(fact("q", a="number"), slot(val("x"), ONE, call("q", N), counted, compare(">", X, val(2))))
        self.told(program, 8, 0, "decls", 1, "if", 2, "left")


class TestHowManyRules(CheckCase):
    def test_rules_of_all_modules(self):
        self.taken([module("a", [])], 0)
        self.taken([module("a", [], rule("p"), rule("q")), module("b", ["a"], rule("r"), fact("s"), action("t"))], 3)
        self.taken([module("a", [], *[rule(f"p{number}") for number in range(300)])], 300)

    def test_of_what_else_is_declared(self):
        self.taken(alone(sort("s", "text"), fact("p"), fun("f", {}, "number", ONE), action("act"),
                         must("act", [], ONE), slot(val("x"), ONE)), 0)


class TestSeveralFaults(CheckCase):
    """From each program the fault that's told is mended, till there's none."""

    def test_one_of_each_kind(self):
        uses, name, twice = ["x"], "m", "p"
        kind, called, args, bound, said = of_sort("none"), "none", [ONE, ONE], Y, val("a")
        strict, made = call("q"), added(X, "+", ONE)

        def program():
            return [module("m", []), module(name, uses, rule("p", a="number"), fact(twice, a="number"),
                                            fact("r", a=kind), rule("q"), rule("t", a="number"),
                                            clause("p", args, call("first", bound)), fact("first", a="number"),
                                            slot(call(called), added(ONE, "+", said)), fun("f", {}, "text", val("a")),
                                            clause("q", [], negated(strict)), clause("t", [made], call("t", X)))]

        self.told(program(), 2, 1)
        uses = []
        self.told(program(), 3, 1)
        name = "n"
        self.told(program(), 4, 1, "decls", 1)
        twice = "pp"
        self.told(program(), 5, 1, "decls", 2, "params", 0, 1)
        kind = "text"
        self.told(program(), 6, 1, "decls", 7, "slot")
        called = "f"
        self.told(program(), 7, 1, "decls", 5)
        args = [X]
        self.told(program(), 8, 1, "decls", 5, "args", 0)
        bound = X
        self.told(program(), 9, 1, "decls", 7, "to")
        said = ONE
        self.told(program(), 10, 1, "decls", 9)
        strict = call("p", ONE)
        self.told(program(), 11, 1, "decls", 10)
        made = X
        self.taken(program(), 3)

    def test_no_tree_is_told_first(self):
        self.told([module("m", ["x"], fact("len")), module("m", [], ONE)], 1, 1, "decls", 0)

    def test_the_first_of_one_kind(self):
        wrong = [fact("p", a=of_sort("s"), b=of_sort("t")), fact("q", a=list_of(of_sort("s")))]
        self.told(alone(*wrong), 5, 0, "decls", 0, "params", 0, 1)
        self.told(alone(*reversed(wrong)), 5, 0, "decls", 0, "params", 0, 1, "list")


class TestNothingChangedOrKept(NothingChangedOrKept, unittest.TestCase):
    def asked(self, codes):
        return check(codes)

    def arguments(self):
        programs = [[module("m", ["x"])], alone(fact("p"), fact("p")), alone(*PATHS, clause("far", [X, N])),
                    alone(*PATHS), alone(*PATHS, slot(ONE, ONE)), []]
        return [[codes] for codes in [[], [5, 1]] + [bytes_of(program) for program in programs]]


if __name__ == "__main__":
    unittest.main()
