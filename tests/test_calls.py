"""What calls name and how many arguments they have: faults 6 and 7."""

import unittest

from helper import (
    CheckCase, EDGE, N, ONE, X, Y, action, added, allow, alone, call, clause, compare, count, deny, equal, fact, fun,
    fun_from, gather, lst, module, must, negated, of_sort, rule, slot, sort, val, var, within,
)

TEXT = val("x")
NAMES = [sort("s", "number"), fact("p", a="number"), rule("q", a="number"), rule("own", a="number"),
         action("act", a="number"), fun("f", {"a": "number"}, "number", var("A")),
         fun("yes_f", {"a": "number"}, "yesno", val(True))]


def with_names(*decls):
    return alone(*NAMES, *decls)


def body(*literals):
    """A program with a clause whose body's members are these."""
    return with_names(clause("own", [ONE], *literals))


WHERE = (0, "decls", len(NAMES))


class TestHeads(CheckCase):
    def test_a_clause_of_a_rule(self):
        for name in ("s", "p", "act", "f", "none", "len"):
            self.told(with_names(clause(name, [ONE])), 6, *WHERE)
        self.taken(with_names(clause("q", [ONE])), 2)

    def test_allow_deny_must_of_an_action(self):
        for made in (allow, deny, lambda name, args: must(name, args, ONE)):
            for name in ("s", "p", "q", "f", "none", "now"):
                self.told(with_names(made(name, [ONE])), 6, *WHERE)
            self.taken(with_names(made("act", [ONE])), 2)

    def test_clauses_in_other_modules(self):
        first = module("a", [], *NAMES)
        for decl in (clause("q", [ONE]), allow("act", [ONE]), deny("act", [ONE]), must("act", [ONE], ONE)):
            self.told([first, module("b", ["a"], fact("x"), decl)], 6, 1, "decls", 1)
        self.taken([first, module("b", ["a"], slot(TEXT, ONE, call("q", X), call("p", X)))], 2)

    def test_clauses_before_their_rules(self):
        self.taken(alone(clause("q", [X], call("p", X)), rule("q", a="number"), fact("p", a="number")), 1)

    def test_how_many_arguments(self):
        for args in ([], [ONE, ONE]):
            for decl in (clause("q", args), allow("act", args), deny("act", args), must("act", args, ONE)):
                self.told(with_names(decl), 7, *WHERE)


class TestAtoms(CheckCase):
    def test_names_of_atoms(self):
        self.taken(body(call("p", X), call("q", X), negated(call("p", X)), negated(call("q", X))), 2)
        for name in ("act", "none"):
            self.told(body(call("p", X), call(name, X)), 6, *WHERE, "if", 1)
            self.told(body(call("p", X), negated(call(name, X))), 6, *WHERE, "if", 1, "not")
            self.told(body(equal(N, count(call(name, X)))), 6, *WHERE, "if", 0, "right", "count", 0)

    def test_atoms_elsewhere(self):
        for name in ("p", "q", "act"):
            atom = call(name, ONE)
            for literal, path in ((equal(X, atom), ("right",)), (within(X, lst(atom)), ("right", "list", 0)),
                                  (negated(negated(atom)), ("not", "not")), (call("p", atom), ("args", 0)),
                                  (equal(N, gather("sum", atom, call("p", X))), ("right", "of")),
                                  ({"or": [atom, val(True)]}, ("or", 0))):
                self.told(body(literal), 6, *WHERE, "if", 0, *path)
            self.told(with_names(clause("q", [atom])), 6, *WHERE, "args", 0)
            self.told(with_names(allow("act", [atom])), 6, *WHERE, "args", 0)
            self.told(with_names(must("act", [ONE], atom)), 6, *WHERE, "what")
            self.told(with_names(slot(atom, ONE)), 6, *WHERE, "slot")
            self.told(with_names(slot(TEXT, atom)), 6, *WHERE, "to")
            self.told(with_names(fun("g", {}, "number", atom)), 6, *WHERE, "body")

    def test_how_many_arguments(self):
        for name in ("p", "q"):
            for args in ([], [X, X]):
                atom = call(name, *args)
                self.told(body(call("p", X), atom), 7, *WHERE, "if", 1)
                self.told(body(call("p", X), negated(atom)), 7, *WHERE, "if", 1, "not")
                self.told(body(call("p", X), equal(N, count(atom))), 7, *WHERE, "if", 1, "right", "count", 0)

    def test_atoms_of_other_modules(self):
        self.taken([module("a", [], EDGE, rule("r", a="text")),
                    module("b", ["a"], rule("t", a="text"), clause("t", [X], call("edge", X, Y), call("r", X)))], 2)
        self.told([module("a", [], EDGE), module("b", [], rule("t"), clause("t", [], call("edge", X, Y)))], 6,
                  1, "decls", 1, "if", 0)

    def test_what_only_has_a_name_of_a_fact_is_a_test(self):
        self.taken(body({"field": "p", "of": {"record": {"p": val(True)}}}), 2)
        self.taken(body(negated({"field": "q", "of": {"record": {"q": val(True)}}})), 2)

    def test_calls_of_funs_are_tests(self):
        self.taken(body(call("yes_f", ONE), negated(call("yes_f", ONE))), 2)
        self.told(body(call("f", ONE)), 9, *WHERE, "if", 0)


class TestGatherings(CheckCase):
    def test_where_they_stand(self):
        self.taken(body(equal(N, count(call("p", X), equal(Y, gather("sum", X, call("q", X)))))), 2)

    def test_elsewhere(self):
        for made in (count(call("p", X)), gather("sum", X, call("p", X)), gather("least", X, call("p", X))):
            for literal, path in ((made, ()), (negated(made), ("not",)), (equal(made, N), ("left",)),
                                  (equal(ONE, made), ("right",)), (compare("!=", N, made), ("right",)),
                                  (within(N, made), ("right",)), (call("p", made), ("args", 0)),
                                  (equal(N, added(ONE, "+", made)), ("right", "sum", 1, 1)),
                                  (equal(N, gather("sum", made, call("p", X))), ("right", "of")),
                                  (equal(N, count(made)), ("right", "count", 0))):
                self.told(body(literal), 6, *WHERE, "if", 0, *path)
            self.told(with_names(clause("q", [made])), 6, *WHERE, "args", 0)
            self.told(with_names(slot(TEXT, made)), 6, *WHERE, "to")
            self.told(with_names(slot(made, TEXT)), 6, *WHERE, "slot")
            self.told(with_names(must("act", [ONE], made)), 6, *WHERE, "what")
            self.told(with_names(fun("g", {}, "number", made)), 6, *WHERE, "body")

    def test_in_funs_as_a_literal_would(self):
        self.told(with_names(fun("g", {}, "yesno", equal(N, count(call("p", X))))), 6, *WHERE, "body", "right")


class TestCalls(CheckCase):
    def test_what_may_be_called(self):
        self.taken(body(equal(X, call("f", ONE)), equal(Y, call("s", ONE)), equal(N, call("now"))), 2)

    def test_names_that_are_not_seen(self):
        self.told(body(equal(X, added(ONE, "+", call("none", call("p", ONE))))), 6,
                  *WHERE, "if", 0, "right", "sum", 1, 1)
        self.told([module("a", [], *NAMES), module("b", []), module("c", ["b"], slot(call("f", ONE), ONE))], 6,
                  2, "decls", 0, "slot")

    def test_funs_before_a_fun(self):
        later = fun("g", {}, "number", call("h"))
        self.told(with_names(later, fun("h", {}, "number", ONE)), 6, *WHERE, "body")
        self.taken(with_names(fun("h", {}, "number", ONE), later), 2)
        self.told(with_names(fun("g", {}, "number", call("g"))), 6, *WHERE, "body")
        self.told(with_names(fun_from("g", {"a": "number"}, "number", ONE, call("g", ONE))), 6, *WHERE, "by")
        self.told(with_names(fun_from("g", {"a": "number"}, "number", call("g", ONE), ONE)), 6, *WHERE, "from")

    def test_funs_seen_through_uses(self):
        self.taken([module("a", [], fact("x"), fact("y"), fun("f", {}, "number", ONE)),
                    module("b", ["a"], fun("g", {}, "number", call("f")))], 0)

    def test_any_fun_in_clauses(self):
        self.taken(alone(rule("p", a="number"), clause("p", [call("f")]), fun("f", {}, "number", ONE)), 1)

    def test_sorts_names_anywhere(self):
        self.taken(alone(fun("f", {}, of_sort("s"), call("s", ONE)), rule("p", a=of_sort("s")),
                         clause("p", [call("s", ONE)]), sort("s", "number")), 1)

    def test_now_in_funs(self):
        self.told(with_names(fun("g", {}, "moment", call("now"))), 6, *WHERE, "body")
        self.told(with_names(fun("g", {}, "moment", call("now", ONE))), 6, *WHERE, "body")
        self.told(with_names(fun_from("g", {"a": "number"}, "moment", call("now"), "prev")), 6, *WHERE, "from")

    def test_how_many_arguments(self):
        for name, right in (("len", 1), ("raw", 1), ("show", 1), ("seconds", 1), ("at", 1), ("part", 3), ("now", 0),
                            ("s", 1), ("f", 1)):
            for wrong in range(5):
                if wrong != right:
                    self.told(body(equal(X, lst(call(name, *[ONE] * wrong)))), 7, *WHERE, "if", 0, "right", "list", 0)
        for wrong in (0, 2):
            self.told(with_names(fun("g", {}, "number", call("f", *[ONE] * wrong))), 7, *WHERE, "body")

    def test_from_by_without_params(self):
        self.told(with_names(fun_from("g", {}, "number", ONE, "prev")), 7, *WHERE)

    def test_names_are_looked_at_before_arguments(self):
        self.told(with_names(clause("q", []), clause("none", [ONE])), 6, 0, "decls", len(NAMES) + 1)
        self.told(with_names(fun_from("g", {}, "number", ONE, ONE), slot(TEXT, call("none"))), 6,
                  0, "decls", len(NAMES) + 1, "to")

    def test_arguments_are_looked_at_before_what_is_bound(self):
        self.told(with_names(clause("q", [X]), clause("q", [])), 7, 0, "decls", len(NAMES) + 1)


class TestOrder(CheckCase):
    def test_the_declaration_before_what_is_in_it(self):
        self.told(with_names(clause("none", [call("none")])), 6, *WHERE)
        self.told(with_names(clause("q", [call("f"), ONE])), 7, *WHERE)

    def test_a_head_before_literals_before_what_is_said(self):
        wrong = call("none")
        self.told(with_names(must("act", [wrong], wrong, wrong)), 6, *WHERE, "args", 0)
        self.told(with_names(must("act", [ONE], wrong, wrong)), 6, *WHERE, "if", 0)
        self.told(with_names(slot(wrong, wrong, wrong)), 6, *WHERE, "if", 0)
        self.told(with_names(slot(wrong, wrong)), 6, *WHERE, "slot")

    def test_a_call_before_its_arguments(self):
        self.told(body(equal(X, call("none", call("none")))), 6, *WHERE, "if", 0, "right")
        self.told(body(equal(X, call("len", ONE, call("f")))), 7, *WHERE, "if", 0, "right")
        self.told(body(equal(X, call("len", call("f")))), 7, *WHERE, "if", 0, "right", "args", 0)

    def test_places_in_lists_before_what_they_are_of(self):
        self.told(body(equal(X, {"at": call("none"), "of": call("none")})), 6, *WHERE, "if", 0, "right", "at")
        self.told(body(equal(X, {"else": call("none"), "if": call("none"), "then": ONE})), 6,
                  *WHERE, "if", 0, "right", "else")


if __name__ == "__main__":
    unittest.main()
