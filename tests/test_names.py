"""Modules, names and sorts: faults 2 to 5."""

import unittest

from helper import (
    CheckCase, ONE, X, action, allow, alone, call, clause, fact, fun, fun_from, list_of, module, of_sort, record_of,
    rule, sort, val, var,
)

OWN_WORDS = ("len", "raw", "show", "seconds", "at", "part", "now")


def named(name):
    """One declaration of each kind with a name."""
    return [sort(name, "text"), fact(name), rule(name), action(name), fun(name, {}, "number", ONE),
            fun_from(name, {"a": "number"}, "number", ONE, ONE)]


class TestUses(CheckCase):
    def test_modules_before(self):
        self.taken([module("a", []), module("b", ["a"]), module("c", ["b", "a"])], 0)

    def test_no_module_before(self):
        self.told([module("a", []), module("b", ["c"]), module("c", [])], 2, 1)
        self.told([module("a", ["a"])], 2, 0)
        self.told([module("a", []), module("b", ["a", "x"])], 2, 1)

    def test_one_twice(self):
        self.told([module("a", []), module("b", []), module("c", ["a", "b", "a"])], 2, 2)

    def test_the_first_module(self):
        self.told([module("a", []), module("b", ["a", "a"]), module("c", ["x"])], 2, 1)


class TestModuleNames(CheckCase):
    def test_a_name_before(self):
        self.told([module("a", []), module("b", []), module("a", []), module("b", [])], 3, 2)

    def test_uses_are_looked_at_first(self):
        self.told([module("a", []), module("a", []), module("b", ["x"])], 2, 2)

    def test_names_of_modules_and_declarations_are_apart(self):
        self.taken([module("a", [], rule("a")), module("len", ["a"], rule("len_of"))], 2)


class TestDeclaredNames(CheckCase):
    def test_own_words(self):
        for word in OWN_WORDS:
            for decl in named(word):
                self.told(alone(fact("p"), decl), 4, 0, "decls", 1)

    def test_own_words_of_params_and_fields(self):
        for word in OWN_WORDS:
            self.taken(alone(rule("p", **{word: record_of(**{word: "text"})})), 1)

    def test_names_seen_already(self):
        for first in named("p"):
            for second in named("p"):
                self.told(alone(fact("q"), first, rule("r"), second), 4, 0, "decls", 3)
                self.told([module("a", [], first), module("b", ["a"], fact("q"), second)], 4, 1, "decls", 1)

    def test_names_that_are_not_seen(self):
        for first in named("p"):
            for second in named("p"):
                self.assertEqual(self.kind_told([module("a", [], first), module("b", [], second)]), 0)
                self.assertEqual(self.kind_told([module("a", [], first), module("b", ["a"]),
                                                 module("c", ["b"], second)]), 0)

    def test_two_params_of_one_name(self):
        twice = [["a", "text"], ["b", "text"], ["a", "number"]]
        for decl in ({"fact": "p", "params": twice}, {"params": twice, "rule": "p"}, {"action": "p", "params": twice},
                     {"body": ONE, "fun": "p", "kind": "number", "params": twice}):
            self.told(alone(fact("q"), decl), 4, 0, "decls", 1)

    def test_params_of_several_declarations(self):
        self.taken(alone(fact("p", a="text"), rule("q", a="text"), action("r", a="text", p="text")), 1)

    def test_two_used_modules_names(self):
        for first in named("p"):
            two = [module("a", [], fact("x"), first), module("b", [], rule("p"))]
            self.told(two + [module("c", ["a", "b"])], 4, 2)
            self.told(two + [module("c", ["a", "b"], fact("q"), fact("q"))], 4, 2)
            self.told(two + [module("c", ["a"], fact("q"), fact("q")), module("d", ["a", "b"])], 4, 2, "decls", 1)

    def test_clauses_declare_no_names(self):
        self.taken(alone(rule("p"), clause("p", []), clause("p", []), action("q"), allow("q", []), allow("q", [])), 1)

    def test_module_names_are_looked_at_first(self):
        self.told([module("a", [], fact("p"), fact("p")), module("a", [])], 3, 1)


class TestSorts(CheckCase):
    def test_sorts_that_are_seen(self):
        self.taken([module("a", [], sort("s", "text")),
                    module("b", ["a"], sort("t", list_of(of_sort("s"))), fact("p", a=of_sort("t"), b=of_sort("s")))], 0)

    def test_sorts_that_are_not_seen(self):
        self.told(alone(fact("p", a="text", b=of_sort("s"))), 5, 0, "decls", 0, "params", 1, 1)
        self.told([module("a", [], sort("s", "text")), module("b", [], fact("p", a=of_sort("s")))], 5,
                  1, "decls", 0, "params", 0, 1)
        self.told([module("a", [], sort("s", "text")), module("b", ["a"]),
                   module("c", ["b"], fact("p", a=of_sort("s")))], 5, 2, "decls", 0, "params", 0, 1)

    def test_names_of_what_is_no_sort(self):
        for decl in named("s")[1:]:
            self.told(alone(decl, rule("p", a=of_sort("s"))), 5, 0, "decls", 1, "params", 0, 1)

    def test_sorts_name_sorts_before(self):
        self.told(alone(sort("s", of_sort("t")), sort("t", "text")), 5, 0, "decls", 0, "kind")
        self.told(alone(sort("s", of_sort("s"))), 5, 0, "decls", 0, "kind")
        self.taken(alone(sort("t", "text"), sort("s", of_sort("t"))), 0)
        self.taken([module("a", [], fact("p"), sort("t", "text")), module("b", ["a"], sort("s", of_sort("t")))], 0)

    def test_other_declarations_name_any_sort(self):
        self.taken(alone(fact("p", a=of_sort("s")), rule("q", a=of_sort("s")), action("r", a=of_sort("s")),
                         fun("f", {"a": of_sort("s")}, of_sort("s"), var("A")), sort("s", "text")), 1)

    def test_the_node_that_names_it(self):
        deep = list_of(record_of(a="text", b=list_of(of_sort("s"))))
        self.told(alone(fact("p", a=deep)), 5, 0, "decls", 0, "params", 0, 1, "list", "record", "b", "list")
        self.told(alone(sort("t", deep)), 5, 0, "decls", 0, "kind", "list", "record", "b", "list")

    def test_the_first_node(self):
        self.told(alone(fun("f", {"a": of_sort("s")}, of_sort("t"), var("A"))), 5, 0, "decls", 0, "kind")
        self.told(alone(fact("p", a=record_of(b=of_sort("t"), a=of_sort("s")))), 5,
                  0, "decls", 0, "params", 0, 1, "record", "a")
        self.told([module("a", []), module("b", [], fact("p"), fact("q", a=of_sort("s"))),
                   module("c", [], fact("p", a=of_sort("s")))], 5, 1, "decls", 1, "params", 0, 1)

    def test_sorts_are_in_no_expressions_kinds(self):
        self.told(alone(rule("p"), clause("p", [], call("s", val("x")))), 6, 0, "decls", 1, "if", 0)

    def test_names_are_looked_at_first(self):
        self.told(alone(fact("p", a=of_sort("s")), fact("len")), 4, 0, "decls", 1)
        self.told([module("a", [], fact("p", a=of_sort("s"))), module("b", [], fact("p"), fact("p"))], 4,
                  1, "decls", 1)

    def test_sorts_are_looked_at_before_calls(self):
        self.told(alone(clause("p", [X]), fact("q", a=of_sort("s"))), 5, 0, "decls", 1, "params", 0, 1)


if __name__ == "__main__":
    unittest.main()
