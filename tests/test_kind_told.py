"""What kind answers: the kinds of expressions by the places of their nodes."""

import unittest

from helper import (
    EDGE, M, N, ONE, X, Y, Z, Id, KindCase, Moment, NothingChangedOrKept, action, added, all_of, allow, alone, any_of,
    bytes_of, call, clause, compare, cond, count, deny, equal, expression_paths, fact, field, fun, fun_from, gather,
    index, list_of, lst, minus, module, multiplied, must, negated, of_sort, place_in, rec, record_of, rule, slot,
    sort, val, var, within,
)
from judgedrules.desk import kind

TEXT, BYTES, YES, NO, MOMENT, ID = val("x"), val(b"x"), val(True), val(False), val(Moment(5)), val(Id(1))
VALUES = {"yesno": YES, "number": ONE, "bytes": BYTES, "text": TEXT, "moment": MOMENT, "id": ID}
EMPTY = lst()
OF_NOTHING = list_of("nothing")
IN_S, IN_T = {"in": "m", "sort": "s"}, {"in": "m", "sort": "t"}
NAMES = [sort("s", "number"), sort("t", record_of(a=list_of(of_sort("s")))), fact("p", a="number"),
         fact("ps", a=list_of("number"), b="text"), rule("own"), rule("q", a="number", b=of_sort("s")),
         action("act", a="number", b=of_sort("t")), fun("f", {"a": "number", "b": list_of("text")}, "text", TEXT),
         fun("g", {}, list_of(of_sort("s")), EMPTY)]
WHERE = (0, "decls", len(NAMES))


def with_names(*decls):
    return alone(*NAMES, *decls)


# Declarations in which an expression of any kind may stand, each with where it stands.
IN_FUNS = [
    lambda e: (fun("h", {}, "yesno", equal(e, e)), ("body", "left")),
    lambda e: (fun("h", {}, "yesno", equal(e, e)), ("body", "right")),
    lambda e: (fun("h", {"x": "text"}, "yesno", equal(lst(e), EMPTY)), ("body", "left", "list", 0)),
    lambda e: (fun_from("h", {"n": "number"}, "yesno", equal(e, e), "prev"), ("from", "left")),
    lambda e: (fun_from("h", {"n": "number"}, "yesno", YES, all_of("prev", equal(e, e))), ("by", "and", 1, "right")),
]
IN_CLAUSES = [
    lambda e: (slot(TEXT, e), ("to",)),
    lambda e: (slot(index(lst(TEXT), call("len", lst(e))), ONE), ("slot", "at", "args", 0, "list", 0)),
    lambda e: (must("act", [X, Y], e), ("what",)),
    lambda e: (clause("q", [call("len", lst(e)), call("s", ONE)]), ("args", 0, "args", 0, "list", 0)),
    lambda e: (allow("act", [call("len", lst(e)), X]), ("args", 0, "args", 0, "list", 0)),
    lambda e: (clause("own", [], equal(e, e)), ("if", 0, "left")),
    lambda e: (deny("act", [X, Y], equal(Z, e)), ("if", 0, "right")),
    lambda e: (slot(TEXT, Z, equal(Z, e)), ("to",)),
    lambda e: (slot(TEXT, Z, equal(Z, e)), ("if", 0, "left")),
    lambda e: (slot(TEXT, ONE, within(Z, lst(e))), ("if", 0, "left")),
    lambda e: (slot(TEXT, ONE, within(Z, lst(e))), ("if", 0, "right", "list", 0)),
    lambda e: (clause("own", [], call("p", call("len", lst(e)))), ("if", 0, "args", 0, "args", 0, "list", 0)),
    lambda e: (clause("own", [], negated(call("p", call("len", lst(e))))),
               ("if", 0, "not", "args", 0, "args", 0, "list", 0)),
    lambda e: (clause("own", [], equal(N, count(equal(e, e)))), ("if", 0, "right", "count", 0, "left")),
    lambda e: (clause("own", [], equal(N, count(equal(Z, e)))), ("if", 0, "right", "count", 0, "left")),
    lambda e: (clause("own", [], equal(N, gather("least", e, YES))), ("if", 0, "right", "of")),
    lambda e: (clause("own", [], equal(N, gather("greatest", e, YES))), ("if", 0, "right")),
    lambda e: (slot(TEXT, N, equal(N, gather("least", Z, within(Z, lst(e))))), ("to",)),
    lambda e: (slot(TEXT, N, equal(N, gather("least", M, equal(M, gather("greatest", e, YES))))), ("if", 0, "left")),
    lambda e: (slot(TEXT, N, equal(N, gather("least", M, equal(M, gather("greatest", e, YES))))),
               ("if", 0, "right", "over", 0, "right", "of")),
]


class TableCase(KindCase):
    def everywhere(self, as_told, expression, places):
        for around in places:
            declaration, path = around(expression)
            self.is_of(as_told, with_names(declaration), *WHERE, *path)

    def is_each(self, as_told, *expressions):
        """That expressions are of a kind wherever they may stand."""
        for expression in expressions:
            self.everywhere(as_told, expression, IN_FUNS + IN_CLAUSES)

    def within_is(self, as_told, expression, *path):
        """That what's in an expression is of a kind."""
        self.is_of(as_told, with_names(slot(TEXT, expression)), *WHERE, "to", *path)


class TestTheTable(TableCase):
    def test_values(self):
        for word, value in VALUES.items():
            self.is_each(word, value)
        self.is_each("yesno", NO)
        self.is_each("text", val(""), val("no"))
        self.is_each("number", val(0), val(256 ** 20))

    def test_lists(self):
        self.is_each(OF_NOTHING, EMPTY)
        self.is_each(list_of("number"), lst(ONE), lst(ONE, ONE))
        self.is_each(list_of(OF_NOTHING), lst(EMPTY), lst(EMPTY, EMPTY))
        self.is_each(list_of(list_of("number")), lst(lst(ONE)), lst(EMPTY, lst(ONE)), lst(lst(ONE), EMPTY),
                     lst(EMPTY, lst(ONE), EMPTY))

    def test_lists_place_by_place(self):
        both = record_of(a=list_of("number"), b=list_of("text"))
        self.is_each(list_of(both), lst(rec(a=lst(ONE), b=EMPTY), rec(a=EMPTY, b=lst(TEXT))),
                     lst(rec(a=EMPTY, b=EMPTY), rec(a=EMPTY, b=lst(TEXT)), rec(a=lst(ONE), b=EMPTY)))
        self.is_each(list_of(record_of(a=list_of("number"), b=OF_NOTHING)),
                     lst(rec(a=lst(ONE), b=EMPTY), rec(a=EMPTY, b=EMPTY)))

    def test_what_stands_in_a_list_keeps_its_own_kind(self):
        self.within_is(OF_NOTHING, lst(EMPTY, lst(ONE)), "list", 0)
        self.within_is(list_of("number"), lst(EMPTY, lst(ONE)), "list", 1)
        self.within_is(record_of(a=OF_NOTHING), lst(rec(a=lst(ONE)), rec(a=EMPTY)), "list", 1)
        self.within_is(list_of(OF_NOTHING), lst(lst(EMPTY), lst(lst(ONE))), "list", 0)
        self.within_is(OF_NOTHING, call("f", ONE, EMPTY), "args", 1)
        self.within_is(OF_NOTHING, cond(YES, EMPTY, lst(ONE)), "then")
        self.within_is(OF_NOTHING, added(EMPTY, "++", lst(ONE)), "sum", 0)
        self.within_is(OF_NOTHING, equal(lst(ONE), EMPTY), "right")

    def test_records_and_fields(self):
        self.is_each(record_of(), rec())
        self.is_each(record_of(a="number", b=record_of(a=OF_NOTHING)), rec(b=rec(a=EMPTY), a=ONE))
        self.is_each(record_of(a="id", a_b="number", ab="text", b="bytes"), rec(ab=TEXT, b=BYTES, a=ID, a_b=ONE))
        self.is_each("text", field(rec(a=ONE, b=TEXT), "b"), field(field(rec(a=rec(c=TEXT)), "a"), "c"))
        self.is_each(OF_NOTHING, field(rec(a=EMPTY), "a"))

    def test_places_in_lists(self):
        self.is_each("text", index(lst(TEXT), ONE), index(index(lst(lst(TEXT)), ONE), ONE))
        self.is_each(OF_NOTHING, index(lst(EMPTY), ONE))
        self.is_each(record_of(a=OF_NOTHING), index(lst(rec(a=EMPTY)), ONE))
        self.is_each(list_of("id"), index(lst(EMPTY, lst(ID)), ONE))
        self.is_each(IN_S, index(call("g"), ONE))

    def test_calls_of_funs(self):
        self.is_each("text", call("f", ONE, EMPTY), call("f", ONE, lst(TEXT)))
        self.is_each(list_of(IN_S), call("g"))

    def test_sorts_and_raw(self):
        of_t = call("t", rec(a=lst(call("s", ONE))))
        self.is_each(IN_S, call("s", ONE))
        self.is_each(IN_T, of_t, call("t", rec(a=EMPTY)))
        self.is_each("number", call("raw", call("s", ONE)))
        self.within_is("number", call("raw", index(field(call("raw", of_t), "a"), ONE)))
        self.is_each(record_of(a=list_of(IN_S)), call("raw", of_t), call("raw", call("t", rec(a=EMPTY))))
        self.within_is(record_of(a=OF_NOTHING), call("t", rec(a=EMPTY)), "args", 0)

    def test_other_own_words(self):
        self.is_each("number", call("len", EMPTY), call("len", TEXT), call("len", BYTES), call("len", lst(ID)))
        self.is_each("text", call("show", ONE))
        self.is_each("number", call("seconds", MOMENT))
        self.is_each("moment", call("at", ONE))
        self.is_each("text", call("part", TEXT, ONE, ONE))
        self.is_each("bytes", call("part", BYTES, ONE, ONE))
        self.is_each(list_of("id"), call("part", lst(ID), ONE, ONE))
        self.is_each(OF_NOTHING, call("part", EMPTY, ONE, ONE))
        self.everywhere("moment", call("now"), IN_CLAUSES)

    def test_if(self):
        self.is_each("text", cond(YES, TEXT, TEXT))
        self.is_each(list_of("text"), cond(YES, EMPTY, lst(TEXT)), cond(YES, lst(TEXT), EMPTY))
        self.is_each(OF_NOTHING, cond(YES, EMPTY, EMPTY))
        self.is_each(record_of(a=list_of("text"), b=list_of("number")),
                     cond(YES, rec(a=EMPTY, b=lst(ONE)), rec(a=lst(TEXT), b=EMPTY)))
        for part, as_told in (("if", "yesno"), ("then", "number"), ("else", "number")):
            self.within_is(as_told, cond(YES, ONE, ONE), part)

    def test_yes_and_no(self):
        self.is_each("yesno", any_of(YES, NO), all_of(YES, NO, YES), negated(YES), negated(negated(NO)))
        for sign in ("=", "!=", "<", "<=", ">", ">="):
            self.is_each("yesno", compare(sign, ONE, ONE), compare(sign, EMPTY, lst(ONE)), compare(sign, rec(), rec()))
        self.is_each("yesno", within(ONE, lst(ONE)), within(ONE, EMPTY), within(EMPTY, lst(lst(ONE))),
                     compare("like", TEXT, TEXT))
        for path in (("or", 1), ("or", 1, "not")):
            self.within_is("yesno", any_of(NO, negated(YES)), *path)
        self.within_is("yesno", all_of(NO, YES), "and", 1)
        self.within_is("text", compare("like", TEXT, TEXT), "right")

    def test_numbers(self):
        self.is_each("number", minus(ONE), minus(minus(ONE)), added(ONE, "+", ONE), added(ONE, "-", ONE, "+", ONE))
        for sign in ("*", "/", "%"):
            self.is_each("number", multiplied(ONE, sign, ONE), multiplied(ONE, sign, ONE, sign, ONE))
        self.within_is("number", minus(ONE), "minus")
        self.within_is("number", added(ONE, "+", ONE, "-", minus(ONE)), "sum", 2, 1, "minus")
        self.within_is("number", multiplied(ONE, "*", ONE), "product", 1, 1)

    def test_moments(self):
        self.is_each("moment", added(MOMENT, "+", ONE), added(MOMENT, "-", ONE), added(MOMENT, "+", ONE, "-", ONE))
        self.is_each("number", added(MOMENT, "-", MOMENT), added(MOMENT, "-", MOMENT, "+", ONE),
                     added(MOMENT, "+", ONE, "-", MOMENT), added(MOMENT, "-", MOMENT, "-", ONE))
        self.is_each("moment", added(MOMENT, "+", added(MOMENT, "-", MOMENT)))

    def test_joined(self):
        self.is_each("text", added(TEXT, "++", TEXT), added(TEXT, "++", TEXT, "++", TEXT))
        self.is_each("bytes", added(BYTES, "++", BYTES))
        self.is_each(list_of("id"), added(lst(ID), "++", lst(ID)), added(EMPTY, "++", lst(ID)),
                     added(lst(ID), "++", EMPTY), added(EMPTY, "++", EMPTY, "++", lst(ID)),
                     added(EMPTY, "++", lst(ID), "++", EMPTY))
        self.is_each(OF_NOTHING, added(EMPTY, "++", EMPTY))
        self.is_each(list_of(list_of("id")), added(lst(EMPTY), "++", lst(lst(ID))))


class TestVariables(KindCase):
    def test_of_funs(self):
        whole = fun_from("h", {"n": "number", "b": of_sort("s"), "c_d": list_of("id")}, "text",
                         index(lst(TEXT), call("len", var("C_d"))), cond(equal(lst(N, var("B")), EMPTY), "prev", TEXT))
        whole["by"] = cond(all_of(equal(N, ONE), equal(var("B"), var("B")), equal(var("C_d"), EMPTY)), "prev", TEXT)
        program = with_names(whole)
        self.is_of(list_of("id"), program, *WHERE, "from", "at", "args", 0)
        self.is_of("number", program, *WHERE, "by", "if", "and", 0, "left")
        self.is_of(IN_S, program, *WHERE, "by", "if", "and", 1, "right")
        self.is_of(list_of("id"), program, *WHERE, "by", "if", "and", 2, "left")
        self.is_of(OF_NOTHING, program, *WHERE, "by", "if", "and", 2, "right")
        self.is_of("text", program, *WHERE, "by", "then")
        self.is_of("text", program, *WHERE, "by")
        self.is_of("text", program, *WHERE, "from")

    def test_prev_of_each_kind(self):
        for as_told, in_tree, start in ((list_of(IN_S), list_of(of_sort("s")), EMPTY), ("id", "id", ID),
                                        (IN_S, of_sort("s"), call("s", ONE))):
            program = with_names(fun_from("h", {"n": "number"}, in_tree, start, cond(YES, "prev", start)))
            self.is_of(as_told, program, *WHERE, "by", "then")
            self.is_of(as_told, program, *WHERE, "by")

    def test_a_fun_s_expressions_are_not_of_its_kind(self):
        program = with_names(fun_from("h", {"n": "number"}, list_of("text"), EMPTY, EMPTY),
                             fun("i", {}, list_of("id"), EMPTY))
        for path in ((len(NAMES), "from"), (len(NAMES), "by"), (len(NAMES) + 1, "body")):
            self.is_of(OF_NOTHING, program, 0, "decls", *path)

    def test_of_heads(self):
        for declaration in (allow("act", [X, Y]), deny("act", [X, Y]), must("act", [X, Y], Y)):
            program = with_names(declaration)
            self.is_of("number", program, *WHERE, "args", 0)
            self.is_of(IN_T, program, *WHERE, "args", 1)
        self.is_of(IN_T, program, *WHERE, "what")

    def test_of_a_clause_s_head(self):
        program = with_names(clause("q", [X, Y], call("p", X), equal(Y, call("s", X))), rule("r", a=list_of("id")),
                             clause("r", [EMPTY]))
        self.is_of("number", program, *WHERE, "args", 0)
        self.is_of(IN_S, program, *WHERE, "args", 1)
        self.is_of(OF_NOTHING, program, 0, "decls", len(NAMES) + 2, "args", 0)

    def test_of_atoms(self):
        program = with_names(slot(TEXT, Y, call("ps", X, Y), call("q", Z, N), negated(call("q", Z, call("s", ONE)))))
        for path, as_told in ((("to",), "text"), (("if", 0, "args", 0), list_of("number")),
                              (("if", 0, "args", 1), "text"), (("if", 1, "args", 0), "number"),
                              (("if", 1, "args", 1), IN_S), (("if", 2, "not", "args", 0), "number"),
                              (("if", 2, "not", "args", 1), IN_S),
                              (("if", 2, "not", "args", 1, "args", 0), "number")):
            self.is_of(as_told, program, *WHERE, *path)

    def test_an_atom_s_argument_keeps_its_own_kind(self):
        program = with_names(slot(TEXT, ONE, call("ps", EMPTY, TEXT), negated(call("ps", EMPTY, TEXT))))
        self.is_of(OF_NOTHING, program, *WHERE, "if", 0, "args", 0)
        self.is_of(OF_NOTHING, program, *WHERE, "if", 1, "not", "args", 0)

    def test_what_binds_first_says_which(self):
        nums = call("ps", X, Y)
        for body, as_told in (((equal(X, EMPTY), nums), list_of("number")),
                              ((nums, equal(X, EMPTY)), list_of("number")),
                              ((equal(X, EMPTY), equal(X, lst(ONE))), OF_NOTHING),
                              ((equal(X, lst(ONE)), equal(X, EMPTY)), list_of("number")),
                              ((equal(X, Y), equal(Y, EMPTY), equal(X, lst(ONE))), list_of("number")),
                              ((equal(X, gather("least", EMPTY, YES)), equal(X, lst(ID))), OF_NOTHING),
                              ((equal(X, gather("least", lst(Y), YES)), equal(X, EMPTY), equal(Y, ONE)), OF_NOTHING),
                              ((equal(X, lst(ID)), equal(X, gather("least", EMPTY, YES))), list_of("id")),
                              ((within(X, lst(EMPTY)), equal(X, lst(ID))), OF_NOTHING),
                              ((equal(X, gather("least", EMPTY, YES)), within(X, lst(lst(ID)))), OF_NOTHING)):
            program = with_names(slot(TEXT, X, *body))
            with self.subTest(body=body):
                self.is_of(as_told, program, *WHERE, "to")
                for at, literal in enumerate(body):
                    if "compare" in literal:
                        if literal["left"] is X:
                            self.is_of(as_told, program, *WHERE, "if", at, "left")
                        self.is_of("yesno", program, *WHERE, "if", at)
                    else:
                        self.is_of(as_told, program, *WHERE, "if", at, "args", 0)

    def test_of_gatherings_and_what_is_around_them(self):
        inner = equal(M, gather("greatest", Z, call("q", X, Z), within(Y, lst(TEXT))))
        outer = equal(N, gather("least", rec(x=X, m=M), call("p", X), inner))
        program = with_names(slot(TEXT, N, outer, equal(Y, TEXT)))
        deep = ("if", 0, "right", "over", 1)
        kinds = {("to",): record_of(m=IN_S, x="number"), ("if", 0, "left"): record_of(m=IN_S, x="number"),
                 ("if", 0, "right"): record_of(m=IN_S, x="number"), ("if", 0): "yesno", deep: "yesno",
                 ("if", 0, "right", "of", "record", "m"): IN_S, ("if", 0, "right", "of", "record", "x"): "number",
                 ("if", 0, "right", "over", 0, "args", 0): "number", deep + ("left",): IN_S, deep + ("right",): IN_S,
                 deep + ("right", "of"): IN_S, deep + ("right", "over", 0, "args", 0): "number",
                 deep + ("right", "over", 0, "args", 1): IN_S, deep + ("right", "over", 1): "yesno",
                 deep + ("right", "over", 1, "left"): "text", deep + ("right", "over", 1, "right"): list_of("text")}
        for path, as_told in kinds.items():
            self.is_of(as_told, program, *WHERE, *path)

    def test_one_name_in_two_gatherings(self):
        last = equal(Z, gather("least", X, equal(X, TEXT)))
        program = with_names(slot(TEXT, N, equal(N, count(call("p", X))), equal(M, count(call("q", Y, X))), last))
        self.is_of("number", program, *WHERE, "if", 0, "right", "count", 0, "args", 0)
        self.is_of(IN_S, program, *WHERE, "if", 1, "right", "count", 0, "args", 1)
        self.is_of("text", program, *WHERE, "if", 2, "right", "over", 0, "left")
        self.is_of("text", program, *WHERE, "if", 2, "right", "of")

    def test_sorts_of_other_modules(self):
        program = [module("a", [], sort("s", "number")), module("b", ["a"], fact("p", a=of_sort("s"))),
                   module("c", ["b"], sort("s", "text"),
                          slot(TEXT, lst(X), call("p", X), equal(Y, call("raw", X)), equal(Z, call("s", TEXT))))]
        where = (2, "decls", 1)
        self.is_of(list_of({"in": "a", "sort": "s"}), program, *where, "to")
        self.is_of("number", program, *where, "if", 1, "left")
        self.is_of({"in": "c", "sort": "s"}, program, *where, "if", 2, "left")


class TestLiterals(KindCase):
    def each_is(self, as_told, literal, *before):
        """That a literal is of a kind: of a body's, of a gathering's, of one's within one."""
        for number, body in enumerate([[*before, literal], [equal(var("C"), count(*before, literal))],
                                       [equal(var("C"), count(equal(var("D"), count(*before, literal))))]]):
            path = [("if", len(before)), ("if", 0, "right", "count", len(before)),
                    ("if", 0, "right", "count", 0, "right", "count", len(before))][number]
            program = with_names(clause("own", [], *body))
            if as_told is None:
                self.none_at(program, *WHERE, *path)
            else:
                self.is_of(as_told, program, *WHERE, *path)

    def test_atoms_have_none(self):
        self.each_is(None, call("p", X))
        self.each_is(None, call("q", X, Y))
        self.each_is(None, negated(call("p", ONE)))
        self.each_is(None, negated(call("q", ONE, call("s", ONE))))
        for body in ([negated(call("p", ONE))], [equal(N, count(negated(call("p", ONE))))]):
            path = ("if", 0, "not") if len(body[0]) == 1 else ("if", 0, "right", "count", 0, "not")
            self.none_at(with_names(clause("own", [], *body)), *WHERE, *path)

    def test_bindings_are_yesno(self):
        self.each_is("yesno", equal(X, ONE))
        self.each_is("yesno", within(X, lst(ONE)))
        for gathered in (count(YES), gather("sum", ONE, YES), gather("least", TEXT, YES), gather("greatest", ID, YES)):
            self.each_is("yesno", equal(X, gathered))

    def test_tests_are_yesno(self):
        number = call("p", X)
        for test in (equal(X, ONE), within(X, EMPTY), equal(X, count(YES)), YES, negated(YES), compare("<", X, ONE),
                     equal(ONE, X), any_of(YES, NO), field(rec(a=YES), "a"), negated(negated(equal(X, ONE)))):
            self.each_is("yesno", test, number)

    def test_a_test_that_calls_a_fun(self):
        body = [call("f"), negated(call("f")), index(lst(YES), ONE)]
        program = alone(fun("f", {}, "yesno", YES), slot(TEXT, ONE, *body))
        for path in ((0,), (1,), (1, "not"), (2,)):
            self.is_of("yesno", program, 0, "decls", 1, "if", *path)

    def test_gatherings(self):
        for gathered, as_told in ((count(YES), "number"), (gather("sum", ONE, YES), "number"),
                                  (gather("least", EMPTY, YES), OF_NOTHING),
                                  (gather("greatest", MOMENT, YES), "moment"),
                                  (gather("least", call("s", ONE), YES), IN_S), (count(equal(X, EMPTY)), "number")):
            for literals in ([equal(N, gathered)], [equal(M, count(equal(N, gathered)))]):
                path = ("if", 0, "right") if literals[0]["left"] is N else ("if", 0, "right", "count", 0, "right")
                self.is_of(as_told, with_names(clause("own", [], *literals)), *WHERE, *path)

    def test_a_gathering_in_a_test(self):
        program = with_names(slot(TEXT, ONE, call("ps", X, Y), equal(X, gather("least", EMPTY, YES))))
        self.is_of(OF_NOTHING, program, *WHERE, "if", 1, "right")
        self.is_of(list_of("number"), program, *WHERE, "if", 1, "left")
        self.is_of("yesno", program, *WHERE, "if", 1)


WHOLE = [
    module("a", [], sort("s", "number"), fact("p", a="number", b=of_sort("s")),
           fun("k", {"a": "text"}, "text", var("A"))),
    module("m", ["a"], EDGE, rule("path", a="text", b="text"), action("act", a="text", b="number"),
           fun_from("f", {"n": "number", "t": "text"}, list_of("text"), lst(var("T")),
                    added("prev", "++", lst(call("k", call("show", N))), "++", EMPTY)),
           clause("path", [X, Y], call("edge", X, Y)), clause("path", [X, Z], call("edge", X, Y), call("path", Y, Z)),
           allow("act", [X, Y], call("path", X, val("x")), negated(call("path", val("y"), X)), compare("<", Y, ONE)),
           deny("act", [call("k", X), minus(Y)], equal(X, val("d")), within(Y, lst(ONE, added(ONE, "-", ONE)))),
           must("act", [X, Y], rec(a=X, b=lst(), c=rec(d=Y)), call("p", Y, Z), equal(call("raw", Z), Y)),
           slot(index(call("f", ONE, val("z")), N), cond(any_of(YES, NO, negated(NO)), N, multiplied(N, "%", N)),
                equal(N, count(call("edge", X, Y), equal(M, gather("sum", Z, within(Z, lst(ONE)), negated(
                    call("edge", X, field(rec(x=Y), "x"))))), all_of(YES, equal(M, ONE)))))),
]


class TestPlaces(KindCase):
    def test_each_place_of_a_program(self):
        for program, count_of_all in ((WHOLE, 93), (with_names(clause("own", []), slot(TEXT, EMPTY)), 4)):
            codes = bytes_of(program)
            places = {place_in(program, *path): path for path in expression_paths(program)}
            self.assertEqual(len(places), count_of_all)
            for place in range(-3, len(codes) + 3):
                answer = kind(place, codes)
                if place in places:
                    self.assertEqual(answer[0], 0, places[place])
                else:
                    self.assertEqual(answer, [-4], place)

    def test_what_is_no_expression(self):
        program = WHOLE
        for path in ((), (0,), (0, "decls"), (0, "name"), (1, "uses"), (1, "uses", 0), (0, "decls", 0),
                     (0, "decls", 0, "kind"), (0, "decls", 0, "sort"), (0, "decls", 1, "params"),
                     (0, "decls", 1, "params", 0), (0, "decls", 1, "params", 0, 0), (0, "decls", 1, "params", 0, 1),
                     (0, "decls", 1, "params", 1, 1), (0, "decls", 2, "fun"), (0, "decls", 2, "body", "var"),
                     (1, "decls", 3, "kind"), (1, "decls", 3, "from", "list"), (1, "decls", 3, "by", "sum"),
                     (1, "decls", 3, "by", "sum", 1), (1, "decls", 3, "by", "sum", 1, 0), (1, "decls", 4, "args"),
                     (1, "decls", 4, "if"), (1, "decls", 4, "if", 0), (1, "decls", 6, "if", 1),
                     (1, "decls", 6, "if", 1, "not"), (1, "decls", 6, "if", 0, "args"),
                     (1, "decls", 6, "if", 0, "call"),
                     (1, "decls", 6, "if", 0, "args", 1, "value"), (1, "decls", 8, "what", "record"),
                     (1, "decls", 6, "if", 2, "compare"), (1, "decls", 9, "if", 0, "right", "count"),
                     (1, "decls", 9, "if", 0, "right", "count", 0),
                     (1, "decls", 9, "if", 0, "right", "count", 1, "right", "all")):
            self.none_at(program, *path)

    def test_places_outside(self):
        for codes in (bytes_of(WHOLE), bytes_of(alone())):
            for place in (-1, -2, -10 ** 18, 10 ** 18, len(codes), len(codes) + 1, 0, 1):
                self.assertEqual(kind(place, codes), [-4])

    def test_places_told_from_behind_are_none(self):
        program = alone(slot(TEXT, ONE))
        codes = bytes_of(program)
        self.assertEqual(kind(place_in(program, 0, "decls", 0, "to") - len(codes), codes), [-4])

    def test_the_bytes(self):
        program = alone(sort("s", "text"), slot(TEXT, lst(rec(a=call("s", TEXT), b=EMPTY))))
        place = place_in(program, 0, "decls", 1, "to")
        self.assertEqual(kind(place, bytes_of(program)), [
            0, 6, 1, 4, *b"list", 6, 1, 6, *b"record", 6, 2, 1, *b"a", 6, 2, 2, *b"in", 4, 1, *b"m", 4, *b"sort",
            4, 1, *b"s", 1, *b"b", 6, 1, 4, *b"list", 4, 7, *b"nothing"])

    def test_deeper_than_a_value_may_be(self):
        depth = 3000
        body = [equal(var("X0"), EMPTY)]
        for number in range(1, depth):
            value = var(f"X{number - 1}")
            body.append(equal(var(f"X{number}"), lst(value) if number % 2 else rec(a=value)))
        program = alone(slot(TEXT, var(f"X{depth - 1}"), *body))
        expected = []
        for number in range(depth - 1, 0, -1):
            expected += [6, 1, 4, *b"list"] if number % 2 else [6, 1, 6, *b"record", 6, 1, 1, *b"a"]
        expected += [6, 1, 4, *b"list", 4, 7, *b"nothing"]
        codes = bytes_of(program)
        for path in (("to",), ("if", depth - 1, "left"), ("if", depth - 1, "right")):
            self.assertTrue(kind(place_in(program, 0, "decls", 0, *path), codes) == [0] + expected)


class TestRefusals(unittest.TestCase):
    def test_no_programs(self):
        for place in (-1, 0, 1, 10 ** 18):
            self.assertEqual(kind(place, []), [-6])
            for codes in ([5], [0], [5, 0], [9], [255] * 9, bytes_of(ONE), bytes_of([]), bytes_of([1]),
                          bytes_of([module("m", [])] * 65), bytes_of(alone()) + [0], bytes_of(alone())[:-1]):
                self.assertEqual(kind(place, codes), [-6])

    def test_each_kind_of_fault(self):
        up, said = rule("up", n="number"), slot(TEXT, ONE)
        for program in ([module("m", [], said, ONE)], [module("m", ["x"], said)],
                        [module("m", [], said), module("m", [])], alone(said, fact("p"), fact("p")),
                        alone(said, fact("p", a=of_sort("s"))), alone(said, slot(TEXT, call("p"))),
                        alone(said, up, clause("up", [ONE, ONE])), alone(said, up, clause("up", [N])),
                        alone(said, up, clause("up", [TEXT])),
                        alone(said, rule("p"), clause("p", [], negated(call("p")))),
                        alone(said, up, clause("up", [added(N, "+", ONE)], call("up", N)))):
            codes = bytes_of(program)
            place = place_in(program, 0, "decls", 0, "to")
            self.assertEqual(kind(place, codes), [-6])
            self.assertEqual(kind(-1, codes), [-6])

    def test_too_long(self):
        for place in (-1, 0, 5):
            self.assertEqual(kind(place, [0] * 4194304), [-6])
            self.assertEqual(kind(place, [0] * 4194305), [-2])


class TestNothingChangedOrKept(NothingChangedOrKept, unittest.TestCase):
    def asked(self, place, codes):
        return kind(place, codes)

    def arguments(self):
        places = [place_in(WHOLE, *path) for path in list(expression_paths(WHOLE))[::9]] + [-1, 0, 7]
        programs = [[module("m", ["x"])], alone(fact("p"), fact("p"))]
        faulty = [[], [5, 1]] + [bytes_of(program) for program in programs]
        return [[place, bytes_of(WHOLE)] for place in places] + [[0, codes] for codes in faulty]

    def test_answers_of_each_form(self):
        self.assertEqual({kind(*given)[0] for given in self.arguments()}, {0, -4, -6})


if __name__ == "__main__":
    unittest.main()
