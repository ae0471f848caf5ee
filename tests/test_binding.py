"""What's bound where it stands: fault 8."""

import unittest

from helper import (
    CheckCase, M, N, ONE, X, Y, Z, action, added, allow, alone, any_of, call, clause, compare, cond, count, deny,
    equal, fact, field, fun, fun_from, gather, index, lst, must, negated, rec, rule, slot, val, var, within,
)

TEXT = val("x")
NAMES = [fact("p", a="number"), fact("pp", a="number", b="number"), rule("q", a="number"), rule("none"),
         action("act", a="number", b="number")]
WHERE = (0, "decls", len(NAMES))
FAR = compare(">", X, ONE)


def with_names(*decls):
    return alone(*NAMES, *decls)


class BindingCase(CheckCase):
    def binds(self, *literals):
        """That all in a clause's body is bound."""
        self.taken(with_names(clause("none", [], *literals)), 2)

    def unbound(self, path, *literals):
        """Which node in a clause's body is the first that isn't bound."""
        self.told(with_names(clause("none", [], *literals)), 8, *WHERE, "if", *path)


class TestClauses(BindingCase):
    def test_atoms(self):
        self.binds(call("p", X), FAR)
        self.binds(FAR, call("p", X))
        self.binds(call("pp", X, Y), compare("<", X, Y))
        self.unbound((0, "left"), FAR)

    def test_arguments_by_themselves(self):
        self.unbound((0, "args", 0, "minus"), call("p", {"minus": X}))
        self.unbound((0, "args", 0, "sum", 0), call("pp", added(X, "+", ONE), Y))
        self.binds(call("pp", added(X, "+", ONE), X))

    def test_not_binds_nothing(self):
        self.unbound((0, "not", "args", 0), negated(call("p", X)))
        self.binds(negated(call("p", X)), call("p", X))

    def test_tests_bind_nothing(self):
        for literal, path in ((equal(ONE, X), ("right",)), (within(ONE, lst(X)), ("right", "list", 0)),
                              (compare("!=", X, ONE), ("left",)), (negated(equal(X, ONE)), ("not", "left")),
                              (any_of(equal(X, ONE), val(True)), ("or", 0, "left")), (X, ())):
            self.unbound((0,) + path, literal)

    def test_equals(self):
        self.binds(equal(X, ONE), FAR)
        self.binds(FAR, equal(X, ONE))
        self.binds(equal(X, added(Y, "+", Z)), equal(Y, Z), equal(Z, ONE))
        self.unbound((0, "left"), equal(X, Y))
        self.unbound((0, "left"), equal(X, added(X, "+", ONE)))
        self.unbound((0, "left"), equal(X, Y), equal(Y, X))
        self.binds(call("p", X), equal(X, added(X, "+", ONE)))

    def test_within(self):
        self.binds(within(X, lst(ONE)), FAR)
        self.binds(within(X, lst(Y)), within(Y, lst(ONE)))
        self.unbound((0, "left"), within(X, lst(Y)))
        self.unbound((0, "left"), within(X, lst(X)))

    def test_variables_of_all_kinds_of_expressions(self):
        for made in (field(rec(a=Y), "a"), index(lst(ONE), Y), cond(val(True), ONE, Y), call("len", lst(Y)),
                     {"product": [ONE, ["*", Y]]}, rec(a=Y)):
            self.unbound((0, "left"), equal(X, made))
            self.binds(equal(X, made), equal(Y, ONE))

    def test_a_rules_head_binds_nothing(self):
        self.told(with_names(clause("q", [X])), 8, *WHERE, "args", 0)
        self.told(with_names(clause("q", [X], FAR)), 8, *WHERE, "args", 0)
        self.taken(with_names(clause("q", [X], call("p", X))), 2)
        self.told(with_names(clause("q", [added(ONE, "+", X)], call("p", Y))), 8, *WHERE, "args", 0, "sum", 1, 1)


class TestHeads(BindingCase):
    def test_heads_of_actions_bind(self):
        for decl in (allow("act", [X, Y], FAR), deny("act", [X, Y], FAR), must("act", [X, Y], added(X, "+", Y))):
            self.taken(with_names(decl), 2)

    def test_arguments_by_themselves(self):
        self.taken(with_names(allow("act", [X, added(X, "+", ONE)])), 2)
        self.taken(with_names(allow("act", [added(X, "+", ONE), X])), 2)
        self.told(with_names(deny("act", [ONE, added(X, "+", ONE)])), 8, *WHERE, "args", 1, "sum", 0)
        self.told(with_names(must("act", [lst(X), Y], ONE)), 8, *WHERE, "args", 0, "list", 0)

    def test_what_must_says(self):
        self.told(with_names(must("act", [ONE, Y], X, FAR)), 8, *WHERE, "if", 0, "left")
        self.told(with_names(must("act", [ONE, Y], X, call("p", Y))), 8, *WHERE, "what")
        self.taken(with_names(must("act", [ONE, Y], X, call("p", X))), 2)

    def test_what_slot_says(self):
        self.told(with_names(slot(X, Y)), 8, *WHERE, "slot")
        self.told(with_names(slot(X, Y, equal(X, TEXT))), 8, *WHERE, "to")
        self.taken(with_names(slot(X, Y, equal(X, TEXT), call("p", Y))), 2)

    def test_a_literal_of_a_head_variable_binds_none(self):
        self.taken(with_names(allow("act", [X, Y], equal(X, Y), within(Y, lst(X)))), 2)


class TestGatherings(BindingCase):
    def test_its_own_literals_bind(self):
        self.binds(equal(N, count(call("p", X), FAR)))
        self.binds(equal(N, gather("sum", X, call("p", X))))
        self.binds(equal(N, gather("least", added(X, "+", Y), equal(X, Y), equal(Y, ONE))))
        self.unbound((0, "right", "count", 0, "left"), equal(N, count(FAR)))
        self.unbound((0, "right", "of"), equal(N, gather("sum", X, call("p", Y))))
        self.unbound((0, "right", "count", 0, "not", "args", 0), equal(N, count(negated(call("p", X)))))

    def test_what_is_bound_around_it(self):
        self.binds(call("p", X), equal(N, count(FAR)))
        self.binds(equal(N, count(FAR)), equal(X, ONE))
        self.binds(call("p", X), equal(N, gather("sum", X, call("p", Y))))
        self.taken(with_names(allow("act", [X, Y], equal(N, gather("sum", X, negated(call("p", Y)))))), 2)

    def test_it_binds_nothing_around_it(self):
        self.unbound((1, "left"), equal(N, count(call("p", X))), FAR, call("p", N))
        self.unbound((1, "right", "count", 0, "left"), equal(N, count(call("p", X))), equal(M, count(FAR)))

    def test_it_binds_if_all_that_it_shares_is_bound(self):
        self.unbound((0, "left"), equal(N, count(call("p", X))), FAR)
        self.binds(equal(N, count(call("p", X))), FAR, call("p", X))
        self.unbound((0, "left"), equal(N, count(call("p", N))))
        self.binds(call("p", N), equal(N, count(call("p", N))))
        self.told(with_names(clause("q", [X], equal(N, count(call("p", X))))), 8, *WHERE, "args", 0)

    def test_what_stands_in_two_gatherings(self):
        self.binds(equal(N, count(call("p", X))), equal(M, count(call("p", X), FAR)))
        self.unbound((1, "right", "count", 0, "left"), equal(N, count(call("p", X))), equal(M, count(FAR)))

    def test_what_a_gathering_binds_binds_others(self):
        self.binds(equal(Y, added(N, "+", ONE)), equal(N, count(call("p", X), FAR)))
        self.binds(equal(M, count(compare(">", N, ONE))), equal(N, count(call("p", X))))
        self.unbound((0, "left"), equal(M, count(compare(">", N, ONE))), equal(N, count(compare(">", M, ONE))))

    def test_of_its_nodes_the_one_behind(self):
        self.unbound((2, "left"), call("p", N), equal(N, count(call("p", X))), FAR)

    def test_a_node_within_that_nothing_binds(self):
        self.unbound((1, "right", "count", 0, "left"), call("p", N), equal(N, count(FAR)), FAR)

    def test_deeper_gatherings(self):
        deep = equal(M, count(call("p", Y), compare("<", X, Y)))
        self.binds(equal(N, count(call("p", X), deep)))
        self.unbound((0, "right", "count", 0, "right", "count", 1, "left"), equal(N, count(deep)))
        self.binds(call("p", X), equal(N, count(deep)))

    def test_what_deeper_gatherings_share(self):
        deep = equal(N, count(equal(M, count(call("p", X)))))
        self.unbound((0, "left"), deep, FAR)
        self.binds(deep, FAR, equal(X, ONE))
        self.unbound((0, "right", "count", 0, "left"), equal(N, count(equal(M, count(call("p", X))), FAR)))
        self.binds(equal(N, count(equal(M, count(call("p", X))), FAR, call("p", X))))

    def test_what_stands_in_one_around_is_not_shared_with_another(self):
        self.binds(equal(N, count(equal(M, count(call("p", X))))), equal(Y, count(call("p", X), FAR)))

    def test_a_deeper_one_binds_only_with_what_stands_at_its_own_level(self):
        inner = equal(M, count(equal(Z, count(call("pp", X, Y)))))
        self.binds(equal(N, count(inner, call("p", M))))
        self.unbound((0, "right", "count", 0, "left"), equal(N, count(inner, compare(">", Y, ONE))))
        self.binds(equal(N, count(inner, compare(">", Y, M), within(Y, lst(ONE)))))


class TestFuns(BindingCase):
    def test_params(self):
        self.taken(with_names(fun("f", {"a": "number", "long_n": "number"}, "number",
                                  added(var("A"), "+", var("Long_n")))), 2)
        for name in ("B", "AA", "LONG_N", "Long_N", "X"):
            self.told(with_names(fun("f", {"a": "number", "long_n": "number"}, "number",
                                     added(var("A"), "+", var(name)))), 8, *WHERE, "body", "sum", 1, 1)

    def test_from_by(self):
        params = {"a": "number", "b": "number"}
        self.taken(with_names(fun_from("f", params, "number", var("B"), added(var("A"), "+", var("B")))), 2)
        self.told(with_names(fun_from("f", params, "number", var("A"), ONE)), 8, *WHERE, "from")
        self.told(with_names(fun_from("f", params, "number", var("C"), var("C"))), 8, *WHERE, "by")

    def test_comparisons_bind_nothing(self):
        self.told(with_names(fun("f", {}, "yesno", equal(X, ONE))), 8, *WHERE, "body", "left")

    def test_prev(self):
        params = {"a": "number"}
        self.taken(with_names(fun_from("f", params, "number", ONE, added("prev", "+", var("A")))), 2)
        self.told(with_names(fun_from("f", params, "number", lst("prev"), "prev")), 8, *WHERE, "from", "list", 0)
        self.told(with_names(fun("f", params, "number", added(ONE, "+", "prev"))), 8, *WHERE, "body", "sum", 1, 1)
        self.unbound((1,), call("p", X), "prev")
        self.unbound((0, "right"), equal(X, "prev"))
        self.unbound((0, "right", "of"), equal(N, gather("sum", "prev", call("p", X))))
        self.told(with_names(clause("q", ["prev"])), 8, *WHERE, "args", 0)
        self.told(with_names(allow("act", ["prev", X])), 8, *WHERE, "args", 0)
        self.told(with_names(slot(TEXT, "prev")), 8, *WHERE, "to")


class TestOrder(BindingCase):
    def test_the_first_node(self):
        self.told(with_names(clause("q", [N], call("p", X), negated(call("p", Y)))), 8, *WHERE, "args", 0)
        self.unbound((0, "right", "at"), equal(lst(), index(X, Y)))
        self.unbound((0, "else"), cond(X, Y, Z))
        self.told(with_names(fun("f", {}, "number", X), clause("q", [X])), 8, *WHERE, "body")
        self.told(with_names(clause("q", [ONE]), clause("q", [X]), clause("q", [Y])), 8, 0, "decls", len(NAMES) + 1,
                  "args", 0)

    def test_before_kinds(self):
        self.told(with_names(clause("q", [TEXT]), clause("q", [X])), 8, 0, "decls", len(NAMES) + 1, "args", 0)


if __name__ == "__main__":
    unittest.main()
