"""Kinds of expressions: fault 9."""

import unittest

from helper import (
    CheckCase, Id, M, Moment, N, ONE, X, Y, Z, action, added, all_of, allow, alone, any_of, call, clause, compare,
    cond, count, deny, equal, fact, field, fun, fun_from, gather, index, list_of, lst, minus, module, multiplied,
    must, negated, of_sort, rec, record_of, rule, slot, sort, val, var, within,
)

TEXT, BYTES, YES, NO, MOMENT, ID = val("x"), val(b"x"), val(True), val(False), val(Moment(5)), val(Id(1))
VALUES = {"yesno": YES, "number": ONE, "bytes": BYTES, "text": TEXT, "moment": MOMENT, "id": ID}
EMPTY = lst()
NAMES = [sort("s", "number"), sort("t", list_of("text")), fact("num", a="number"), fact("txt", a="text"),
         fact("two", a="number", b="text"), fact("nums", a=list_of("number")), fact("of_s", a=of_sort("s")),
         rule("q", a="number"), rule("own"), action("act", a="number", b="text"),
         fun("f", {"a": "number", "b": list_of("text")}, "text", TEXT)]
WHERE = (0, "decls", len(NAMES))


def with_names(*decls):
    return alone(*NAMES, *decls)


class KindCase(CheckCase):
    def fits(self, *literals):
        """That a clause's body is good."""
        self.taken(with_names(clause("own", [], *literals)), 2)

    def at_fault(self, path, *literals):
        """Which node in a clause's body is the first that's at fault."""
        self.told(with_names(clause("own", [], *literals)), 9, *WHERE, "if", *path)

    def is_of(self, word, expression):
        """That an expression is of one of the kinds' words, as it agrees with it alone."""
        for other, value in VALUES.items():
            literal = compare("<=", lst(expression), lst(value))
            if other == word:
                self.fits(literal)
            else:
                self.at_fault((0,), literal)

    def is_none(self, expression, *path):
        """That an expression is at fault, or the one at the path in it."""
        self.at_fault((0, "right", "list", 0) + path, equal(X, lst(expression)))


class TestAtomsOfKinds(KindCase):
    def test_values(self):
        for word, value in VALUES.items():
            self.is_of(word, value)
        self.is_of("yesno", NO)

    def test_lists(self):
        self.fits(equal(lst(ONE, ONE), EMPTY), equal(EMPTY, EMPTY), equal(lst(EMPTY, lst(ONE)), lst(lst(ONE))))
        self.is_none(lst(ONE, TEXT))
        self.is_none(lst(EMPTY, lst(ONE), lst(TEXT)))
        self.is_none(lst(lst(EMPTY, lst(ONE)), lst(lst(TEXT))))
        self.is_none(lst(ONE, lst(ONE, TEXT)), "list", 1)

    def test_records(self):
        self.fits(equal(rec(a=ONE, b=TEXT), rec(a=ONE, b=TEXT)), equal(rec(), rec()))
        self.fits(equal(rec(a=EMPTY, b=lst(ONE)), rec(a=lst(TEXT), b=EMPTY)))
        for other in (rec(a=ONE), rec(a=ONE, c=TEXT), rec(a=ONE, b=ONE), rec(a=ONE, b=TEXT, c=ONE), rec(), ONE):
            self.at_fault((0,), equal(rec(a=ONE, b=TEXT), other))
        for other in (rec(b=lst(ONE)), rec(a=lst(ONE), b=ONE), rec(), EMPTY, lst(EMPTY)):
            self.at_fault((0,), equal(rec(a=EMPTY), other))
            self.at_fault((0,), equal(other, rec(a=EMPTY)))

    def test_fields(self):
        self.is_of("text", field(rec(a=ONE, b=TEXT), "b"))
        self.is_none(field(rec(a=ONE), "b"))
        self.is_none(field(ONE, "a"))
        self.is_none(field(lst(rec(a=ONE)), "a"))
        for name in ("s", "m"):
            self.is_none(field(call("s", ONE), name))

    def test_places_in_lists(self):
        self.is_of("text", index(lst(TEXT), ONE))
        self.fits(equal(index(lst(EMPTY), ONE), lst(ONE)))
        self.is_none(index(lst(TEXT), TEXT))
        self.is_none(index(TEXT, ONE))
        self.is_none(index(BYTES, ONE))

    def test_nothing_by_itself(self):
        self.is_none(index(EMPTY, ONE))
        self.is_none(index(index(lst(EMPTY), ONE), ONE))
        self.at_fault((0, "right"), equal(X, index(EMPTY, ONE)), equal(Y, X), call("num", Y))
        self.at_fault((0, "left"), equal(index(EMPTY, ONE), ONE))


class TestCallsOfKinds(KindCase):
    def test_funs(self):
        self.is_of("text", call("f", ONE, lst(TEXT)))
        self.is_of("text", call("f", ONE, EMPTY))
        self.is_none(call("f", TEXT, lst(TEXT)))
        self.is_none(call("f", ONE, lst(ONE)))
        self.is_none(call("f", TEXT, lst(ONE, TEXT)), "args", 1)

    def test_sorts(self):
        self.fits(call("of_s", call("s", ONE)), equal(call("t", EMPTY), call("t", lst(TEXT))))
        self.is_none(call("s", TEXT))
        self.is_none(call("s", call("s", ONE)))
        self.is_none(call("t", lst(ONE)))

    def test_what_is_of_a_sort_is_not_of_its_kind(self):
        self.at_fault((0,), call("of_s", ONE))
        self.at_fault((0,), call("num", call("s", ONE)))
        self.at_fault((0,), equal(call("s", ONE), ONE))
        self.is_none(minus(call("s", ONE)))
        self.is_none(call("len", call("t", EMPTY)))
        self.is_none(index(call("t", EMPTY), ONE))

    def test_sorts_of_one_name(self):
        first = module("a", [], sort("s", "number"), fact("p", a=of_sort("s")))
        other = module("b", [], sort("s", "number"), fact("q", a=of_sort("s")))
        third = module("c", [], rule("own"), sort("u", "number"))
        self.taken([first, other, third, module("d", ["a"], slot(TEXT, ONE, call("p", call("s", ONE))))], 1)
        joint = module("b", [], sort("s", "number"), fun("g", {}, of_sort("s"), call("s", ONE)))
        last = [first, module("b2", ["a"], fun("made", {}, of_sort("s"), call("s", ONE))), joint]
        self.told(last + [module("d", ["b", "b2"], slot(TEXT, ONE, equal(call("made"), call("g"))))], 9,
                  3, "decls", 0, "if", 0)

    def test_raw(self):
        self.is_of("number", call("raw", call("s", ONE)))
        self.is_of("text", index(call("raw", call("t", EMPTY)), ONE))
        for value in list(VALUES.values()) + [EMPTY, rec()]:
            self.is_none(call("raw", value))

    def test_raw_of_a_sort_that_is_not_seen(self):
        self.taken([module("a", [], sort("s", "number")), module("b", ["a"], fact("p", a=of_sort("s"))),
                    module("c", ["b"], slot(TEXT, X, call("p", Y), equal(X, minus(call("raw", Y)))))], 0)

    def test_len(self):
        for value in (lst(ONE), EMPTY, TEXT, BYTES):
            self.is_of("number", call("len", value))
        for value in (ONE, YES, MOMENT, ID, rec()):
            self.is_none(call("len", value))

    def test_show_seconds_at_now(self):
        self.is_of("text", call("show", ONE))
        self.is_of("number", call("seconds", MOMENT))
        self.is_of("moment", call("at", ONE))
        self.is_of("moment", call("now"))
        for word, good in (("show", ONE), ("seconds", MOMENT), ("at", ONE)):
            for value in list(VALUES.values()) + [EMPTY]:
                if value != good:
                    self.is_none(call(word, value))

    def test_part(self):
        self.is_of("text", call("part", TEXT, ONE, ONE))
        self.is_of("bytes", call("part", BYTES, ONE, ONE))
        self.is_of("text", index(call("part", lst(TEXT), ONE, ONE), ONE))
        self.is_none(index(call("part", EMPTY, ONE, ONE), ONE))
        for args in ((ONE, ONE, ONE), (TEXT, TEXT, ONE), (TEXT, ONE, TEXT), (rec(), ONE, ONE), (ID, ONE, ONE)):
            self.is_none(call("part", *args))


class TestOperators(KindCase):
    def test_if(self):
        self.is_of("text", cond(YES, TEXT, TEXT))
        self.is_of("text", index(cond(NO, EMPTY, lst(TEXT)), ONE))
        self.is_none(cond(ONE, TEXT, TEXT))
        self.is_none(cond(YES, TEXT, ONE))

    def test_or_and_not(self):
        self.fits(any_of(YES, NO, YES), all_of(YES, NO), negated(YES))
        self.is_of("yesno", all_of(YES, any_of(NO, negated(NO))))
        self.is_none(any_of(YES, ONE))
        self.is_none(all_of(YES, YES, TEXT))
        self.is_none(negated(ONE))

    def test_comparisons(self):
        for sign in ("=", "!=", "<", "<=", ">", ">="):
            for value in list(VALUES.values()) + [EMPTY, rec(a=ONE), call("s", ONE)]:
                self.fits(compare(sign, value, value))
            self.is_of("yesno", compare(sign, ONE, ONE))
            self.is_none(compare(sign, ONE, TEXT))
            self.is_none(compare(sign, lst(ONE), lst(TEXT)))

    def test_in(self):
        self.fits(within(ONE, lst(ONE)), within(ONE, EMPTY), within(EMPTY, lst(lst(ONE))))
        self.is_none(within(ONE, lst(TEXT)))
        self.is_none(within(TEXT, TEXT))
        self.is_none(within(ONE, ONE))

    def test_like(self):
        self.fits(compare("like", TEXT, TEXT))
        for left, right in ((ONE, TEXT), (TEXT, ONE), (BYTES, BYTES), (EMPTY, EMPTY)):
            self.is_none(compare("like", left, right))

    def test_minus_and_products(self):
        self.is_of("number", minus(ONE))
        self.is_of("number", multiplied(ONE, "*", ONE, "/", ONE, "%", ONE))
        for value in (TEXT, MOMENT, YES, EMPTY):
            self.is_none(minus(value))
            self.is_none(multiplied(value, "*", ONE))
            self.is_none(multiplied(ONE, "*", ONE, "%", value))

    def test_sums(self):
        self.is_of("number", added(ONE, "+", ONE, "-", ONE))
        self.is_of("moment", added(MOMENT, "+", ONE, "-", ONE))
        self.is_of("number", added(MOMENT, "-", MOMENT))
        self.is_of("number", added(MOMENT, "+", ONE, "-", MOMENT, "+", ONE))
        self.is_none(added(ONE, "+", MOMENT))
        self.is_none(added(ONE, "-", MOMENT))
        self.is_none(added(MOMENT, "+", MOMENT))
        self.is_none(added(ONE, "+", ONE, "+", TEXT))
        self.is_none(added(MOMENT, "-", MOMENT, "-", MOMENT))
        self.is_none(added(TEXT, "+", TEXT))
        for sign in ("+", "-"):
            for value in (TEXT, YES, EMPTY, call("s", ONE)):
                self.is_none(added(MOMENT, sign, value))
                self.is_none(added(ONE, sign, value))
                self.is_none(added(value, sign, ONE))

    def test_putting_together(self):
        self.is_of("text", added(TEXT, "++", TEXT, "++", TEXT))
        self.is_of("bytes", added(BYTES, "++", BYTES))
        self.is_of("text", index(added(EMPTY, "++", lst(TEXT), "++", EMPTY), ONE))
        for left, right in ((TEXT, BYTES), (ONE, ONE), (lst(ONE), lst(TEXT)), (EMPTY, TEXT), (rec(), rec()),
                            (ID, ID), (call("t", EMPTY), call("t", EMPTY))):
            self.is_none(added(left, "++", right))
        self.is_none(added(TEXT, "++", TEXT, "+", ONE))

    def test_parts_without_kinds_put_nothing_around_at_fault(self):
        bad = added(ONE, "+", TEXT)
        self.is_none(lst(TEXT, bad, ONE), "list", 1)
        self.is_none(negated(minus(bad)), "not", "minus")
        self.is_none(cond(ONE, bad, TEXT), "then")
        self.is_none(index(TEXT, bad), "at")
        self.is_none(call("f", TEXT, bad), "args", 1)
        self.is_none(rec(a=bad, b=bad), "record", "a")


class TestPlaces(KindCase):
    def test_heads_arguments(self):
        self.told(with_names(clause("q", [TEXT])), 9, *WHERE, "args", 0)
        for decl in (allow("act", [ONE, ONE]), deny("act", [ONE, ONE]), must("act", [ONE, ONE], ONE)):
            self.told(with_names(decl), 9, *WHERE, "args", 1)
        self.told(with_names(allow("act", [TEXT, ONE])), 9, *WHERE, "args", 0)
        self.told(with_names(allow("act", [minus(TEXT), ONE])), 9, *WHERE, "args", 0)
        self.told(with_names(allow("act", [ONE, lst(minus(TEXT))])), 9, *WHERE, "args", 1, "list", 0)

    def test_what_must_and_slot_say(self):
        for value in list(VALUES.values()) + [EMPTY, rec()]:
            self.taken(with_names(must("act", [X, Y], value), slot(TEXT, value)), 2)
            if value != TEXT:
                self.told(with_names(slot(value, ONE)), 9, *WHERE, "slot")
        self.told(with_names(must("act", [X, Y], minus(TEXT))), 9, *WHERE, "what")
        self.told(with_names(slot(TEXT, minus(TEXT))), 9, *WHERE, "to")

    def test_funs_expressions(self):
        self.taken(with_names(fun("g", {}, list_of("text"), EMPTY)), 2)
        self.told(with_names(fun("g", {}, "text", ONE)), 9, *WHERE, "body")
        self.told(with_names(fun("g", {"a": "text"}, "number", var("A"))), 9, *WHERE, "body")
        self.told(with_names(fun("g", {}, "text", lst(minus(TEXT)))), 9, *WHERE, "body", "list", 0)

    def test_from_by(self):
        params = {"a": "number", "b": "text"}
        self.taken(with_names(fun_from("g", params, "text", var("B"), added("prev", "++", call("show", var("A"))))), 2)
        self.told(with_names(fun_from("g", params, "text", ONE, "prev")), 9, *WHERE, "from")
        self.told(with_names(fun_from("g", params, "text", TEXT, var("A"))), 9, *WHERE, "by")
        self.told(with_names(fun_from("g", params, "text", TEXT, added("prev", "+", ONE))), 9, *WHERE, "by")
        for kind in ("text", "moment", of_sort("s"), list_of("number")):
            self.told(with_names(fun_from("g", {"a": kind, "b": "number"}, "text", TEXT, "prev")), 9, *WHERE)
        self.told(with_names(fun_from("g", {"a": "text"}, "text", ONE, ONE)), 9, *WHERE)

    def test_members_of_bodies(self):
        self.fits(YES, call("txt", X), compare("=", X, TEXT))
        for literal in (ONE, TEXT, EMPTY, added(ONE, "+", ONE), call("f", ONE, EMPTY), call("s", ONE), call("now"),
                        cond(YES, ONE, ONE)):
            self.at_fault((1,), YES, literal)
            self.at_fault((0, "right", "count", 1), equal(N, count(YES, literal)))
        self.at_fault((1,), call("txt", X), X)
        self.at_fault((0, "not"), negated(added(ONE, "+", TEXT)))

    def test_members_of_a_sort_of_yesno(self):
        self.told(alone(sort("b", "yesno"), rule("own"), clause("own", [], call("b", YES))), 9,
                  0, "decls", 2, "if", 0)

    def test_atoms(self):
        self.at_fault((0,), call("two", ONE, ONE))
        self.at_fault((0, "not"), negated(call("two", TEXT, TEXT)))
        self.at_fault((0, "args", 1), call("two", TEXT, minus(TEXT)))
        self.at_fault((0, "right", "count", 0), equal(N, count(call("num", TEXT))))
        self.fits(call("nums", EMPTY), negated(call("nums", EMPTY)))

    def test_the_first(self):
        self.at_fault((0,), call("num", TEXT), call("txt", ONE))
        self.told(with_names(clause("q", [TEXT], ONE)), 9, *WHERE, "args", 0)
        self.told(with_names(slot(TEXT, ONE), slot(ONE, ONE), clause("q", [TEXT])), 9, 0, "decls", len(NAMES) + 1,
                  "slot")
        self.is_none(cond(minus(TEXT), minus(TEXT), minus(YES)), "else")
        self.told([module("a", []), module("b", [], slot(ONE, ONE)), module("c", [], slot(ONE, ONE))], 9,
                  1, "decls", 0, "slot")


class TestVariables(KindCase):
    def test_by_atoms(self):
        self.fits(call("two", X, Y), call("txt", Y), call("num", X))
        self.at_fault((1,), call("num", X), call("txt", X))
        self.at_fault((0,), call("two", X, X))
        self.at_fault((0,), equal(X, TEXT), call("num", X))
        self.at_fault((0,), compare("like", X, TEXT), call("num", X))

    def test_by_heads(self):
        self.taken(with_names(allow("act", [X, Y], call("two", X, Y), compare("like", Y, TEXT))), 2)
        self.told(with_names(deny("act", [X, X])), 9, *WHERE, "args", 1)
        self.told(with_names(must("act", [X, Y], ONE, call("txt", X))), 9, *WHERE, "if", 0)
        self.told(with_names(must("act", [X, Y], minus(Y))), 9, *WHERE, "what")

    def test_by_equals(self):
        self.fits(equal(X, TEXT), compare("like", X, TEXT))
        self.at_fault((1,), equal(X, TEXT), equal(X, ONE))
        self.at_fault((1, "right"), equal(X, Y), equal(Z, minus(X)), equal(Y, TEXT))

    def test_which_binds_first(self):
        self.at_fault((0,), equal(X, Y), equal(Y, ONE), equal(X, TEXT))
        self.at_fault((2,), equal(Y, ONE), equal(X, Y), equal(X, TEXT))

    def test_by_in(self):
        self.fits(within(X, lst(TEXT)), compare("like", X, TEXT))
        self.at_fault((1,), within(X, lst(TEXT)), compare("<", X, ONE))
        self.fits(within(X, lst(EMPTY)), equal(X, lst(ONE)))
        self.at_fault((0,), within(X, ONE))
        self.at_fault((0,), within(X, EMPTY))
        self.at_fault((0,), within(X, TEXT), equal(Y, minus(X)))
        self.at_fault((0, "right", "list", 0), within(X, lst(minus(TEXT))))

    def test_in_of_what_is_bound_is_a_test(self):
        self.fits(call("num", X), within(X, EMPTY))
        self.at_fault((1,), call("num", X), within(X, ONE))
        self.at_fault((0,), within(X, lst(TEXT)), call("num", X))

    def test_they_are_not_made_narrower(self):
        self.fits(equal(X, EMPTY), equal(X, lst(ONE)), equal(X, lst(TEXT)), negated(call("nums", X)))
        self.at_fault((2, "left"), equal(X, EMPTY), call("nums", Y), equal(index(X, ONE), ONE))

    def test_what_hangs_on_a_faulty_binder(self):
        bad = added(ONE, "+", TEXT)
        self.at_fault((1, "right"), call("num", minus(X)), equal(X, bad), compare("like", X, TEXT))
        self.at_fault((3, "right"), equal(Z, minus(Y)), equal(Y, lst(X)), X, equal(X, bad))
        self.at_fault((1,), equal(Y, added(X, "++", ONE)), within(X, ONE))

    def test_atoms_bind_whatever_else_is_wrong_there(self):
        self.at_fault((0,), compare("like", X, TEXT), call("two", X, ONE))
        self.at_fault((0,), compare("like", X, TEXT), call("two", X, minus(TEXT)))
        self.told(with_names(allow("act", [X, ONE], compare("like", X, TEXT))), 9, *WHERE, "args", 1)
        self.told(with_names(must("act", [X, Y], minus(X), compare("like", X, TEXT), call("txt", ONE))), 9,
                  *WHERE, "if", 0)


class TestGatherings(KindCase):
    def test_their_kinds(self):
        self.fits(equal(N, count(call("txt", X))), call("num", N))
        self.fits(equal(N, gather("sum", X, call("num", X))), call("num", N))
        for word in ("least", "greatest"):
            self.fits(equal(N, gather(word, X, call("txt", X))), call("txt", N))
            self.fits(equal(N, gather(word, EMPTY, YES)), call("nums", N))
            self.at_fault((1,), equal(N, gather(word, X, call("txt", X))), compare("<", N, ONE))
        self.at_fault((1,), equal(N, count(call("txt", X))), equal(N, TEXT))

    def test_sum_of_no_number(self):
        self.at_fault((0, "right"), equal(N, gather("sum", X, call("txt", X))))
        self.at_fault((0, "right"), equal(N, gather("sum", MOMENT, YES)), compare("like", N, TEXT))

    def test_of_what_is_bound_already(self):
        self.fits(call("num", N), equal(N, count(YES)))
        self.at_fault((1,), call("txt", N), equal(N, count(YES)))
        self.at_fault((0,), equal(N, gather("least", X, call("txt", X))), call("num", N))

    def test_what_is_at_fault_within(self):
        bad = added(ONE, "+", TEXT)
        self.at_fault((0, "right", "over", 1), equal(N, gather("sum", X, call("txt", X), call("num", TEXT))))
        self.at_fault((0, "right", "of"), equal(N, gather("sum", bad, YES)))
        self.at_fault((0, "right", "count", 0, "left"), equal(N, count(compare("<", bad, ONE))))
        self.at_fault((0, "right", "count", 0), equal(N, count(ONE)), call("txt", M), equal(M, N))

    def test_what_is_at_fault_within_takes_its_kind(self):
        self.at_fault((1, "right", "count", 0), equal(Y, minus(N)), equal(N, count(ONE)))
        self.at_fault((1, "right", "over", 0), call("nums", EMPTY), equal(N, gather("least", TEXT, ONE)), minus(N))

    def test_what_hangs_within_takes_no_kind_but_the_expressions(self):
        bad = added(ONE, "+", TEXT)
        self.at_fault((0,), compare("like", N, TEXT), equal(X, bad), equal(N, count(compare("<", X, ONE))))
        self.at_fault((1, "right"), compare("like", N, TEXT), equal(X, bad), equal(N, gather("least", X, YES)))
        self.at_fault((1, "right"), compare("like", N, TEXT), equal(X, bad), equal(N, gather("sum", X, YES)))
        for word in ("sum", "least", "greatest"):
            self.at_fault((1, "right"), equal(N, gather(word, X, YES)), equal(X, bad))

    def test_deeper(self):
        deep = equal(M, gather("sum", Y, call("txt", Y)))
        self.at_fault((0, "right", "count", 0, "right"), equal(N, count(deep)))
        self.at_fault((0, "right", "of"), equal(N, gather("greatest", minus(Y), equal(M, count(ONE)), call("txt", Y))))
        self.fits(equal(N, gather("least", M, equal(M, gather("least", Y, call("txt", Y))))), call("txt", N))

    def test_variables_around(self):
        self.fits(call("num", X), equal(N, count(call("num", X))))
        self.at_fault((1, "right", "count", 0), call("num", X), equal(N, count(call("txt", X))))
        self.at_fault((0, "right", "count", 0), equal(N, count(call("txt", X))), equal(X, ONE))
        self.fits(equal(N, count(call("txt", X))), equal(M, count(call("num", X))))
        self.told(with_names(allow("act", [X, Y], equal(N, count(call("txt", X))))), 9,
                  *WHERE, "if", 0, "right", "count", 0)


class TestDeepKinds(KindCase):
    def test_kinds_deeper_than_calls(self):
        literals = [equal(var("V0"), EMPTY), equal(var("W0"), lst(ONE))]
        for number in range(1, 81):
            for name in "VW":
                inner = var(f"{name}{number - 1}")
                for _ in range(8):
                    inner = lst(inner)
                literals.append(equal(var(f"{name}{number}"), inner))
        self.fits(*literals, equal(var("V80"), var("W80")), equal(var("W80"), var("V80")))
        self.at_fault((len(literals),), *literals, equal(var("V80"), var("W79")))

    def test_kinds_that_are_long(self):
        literals = [equal(var("V0"), EMPTY), equal(var("W0"), lst(ONE))]
        for number in range(1, 9):
            for name in "VW":
                inner = var(f"{name}{number - 1}")
                literals.append(equal(var(f"{name}{number}"), rec(a=inner, b=inner)))
        self.fits(*literals, equal(var("V8"), var("W8")))
        self.at_fault((len(literals),), *literals, equal(var("W8"), var("V7")))


if __name__ == "__main__":
    unittest.main()
