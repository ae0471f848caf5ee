"""What told answers: declarations with their kinds, and rules with their strata."""

import random
import unittest

from helper import (
    EDGE, M, N, ONE, X, Y, Z, Bytes, NothingChangedOrKept, action, added, allow, alone, bytes_of, call, clause, count,
    deny, equal, fact, fun, fun_from, gather, list_of, lst, module, must, negated, of_sort, record_of, rule, slot,
    sort, val, var, within,
)
from judgedrules.desk import told

NOTHING_DECLARED = {"actions": [], "facts": [], "funs": [], "module": "m", "rules": [], "sorts": []}
ONE_OF_EACH = [
    rule("r", a="text", b="number"), sort("s", "number"), fun("f", {"a": of_sort("s")}, "text", val("x")),
    slot(val("x"), ONE), fact("p", a="text"), action("act", a="number"), clause("r", [X, ONE], call("p", X)),
    fun_from("g", {"n": "number", "b": "yesno"}, list_of("text"), lst(), "prev"), allow("act", [X]),
    sort("t", list_of(of_sort("s"))), deny("act", [ONE]), must("act", [X], X), rule("q"), fact("o"), action("b"),
]
MIXED = [module("m", [], *ONE_OF_EACH), module("a_2", ["m"], rule("z", a=of_sort("t")), fact("y", a=of_sort("s")))]
MIXED_TOLD = [
    {"actions": [["act", ["number"]], ["b", []]], "facts": [["p", ["text"]], ["o", []]],
     "funs": [["f", [{"in": "m", "sort": "s"}], "text"], ["g", ["number", "yesno"], {"list": "text"}]],
     "module": "m", "rules": [["r", ["text", "number"], 0], ["q", [], 0]],
     "sorts": [["s", "number"], ["t", {"list": {"in": "m", "sort": "s"}}]]},
    {"actions": [], "facts": [["y", [{"in": "m", "sort": "s"}]]], "funs": [], "module": "a_2",
     "rules": [["z", [{"in": "m", "sort": "t"}], 0]], "sorts": []},
]


class ToldCase(unittest.TestCase):
    def is_told(self, program, value):
        self.assertEqual(told(bytes_of(program)), [0] + bytes_of(value))

    def alone_told(self, decls, **lists):
        """What's told of a program of one module, that has nothing but these lists."""
        self.is_told(alone(*decls), [{**NOTHING_DECLARED, **lists}])

    def is_refused(self, program):
        self.assertEqual(told(bytes_of(program)), [-6])


class TestDeclarations(ToldCase):
    def test_the_bytes_of_a_module_that_declares_nothing(self):
        codes = [5, 1, 6, 3, 5, *b"decls", 5, 0, 4, *b"name", 4, 2, *b"ab", 4, *b"uses", 5, 0]
        self.assertEqual(told(codes), [
            0, 5, 1, 6, 6, 7, *b"actions", 5, 0, 5, *b"facts", 5, 0, 4, *b"funs", 5, 0, 6, *b"module", 4, 2, *b"ab",
            5, *b"rules", 5, 0, 5, *b"sorts", 5, 0])

    def test_the_bytes_of_a_rule_and_a_sort(self):
        program = [module("x", [], sort("s", "id"), fact("p"), rule("r", a=of_sort("s")),
                          clause("r", [X], call("r", X), negated(call("p"))))]
        self.assertEqual(told(bytes_of(program)), [
            0, 5, 1, 6, 6, 7, *b"actions", 5, 0, 5, *b"facts", 5, 1, 5, 2, 4, 1, *b"p", 5, 0, 4, *b"funs", 5, 0,
            6, *b"module", 4, 1, *b"x", 5, *b"rules", 5, 1, 5, 3, 4, 1, *b"r", 5, 1, 6, 2, 2, *b"in", 4, 1, *b"x",
            4, *b"sort", 4, 1, *b"s", 2, 2, 1, 5, *b"sorts", 5, 1, 5, 2, 4, 1, *b"s", 4, 2, *b"id"])

    def test_nothing_declared(self):
        self.alone_told([])
        self.is_told([module(name, []) for name in ("b", "a", "c_1")],
                     [{**NOTHING_DECLARED, "module": name} for name in ("b", "a", "c_1")])

    def test_all_forms_in_mixed_order_in_several_modules(self):
        self.is_told(MIXED, MIXED_TOLD)

    def test_one_form_alone(self):
        self.alone_told([sort("s", "text")], sorts=[["s", "text"]])
        self.alone_told([fact("p", b="text", a="number")], facts=[["p", ["text", "number"]]])
        self.alone_told([rule("p", b="text", a="number")], rules=[["p", ["text", "number"], 0]])
        self.alone_told([action("p", b="text", a="number")], actions=[["p", ["text", "number"]]])
        self.alone_told([fun("p", {"b": "text"}, "number", ONE)], funs=[["p", ["text"], "number"]])
        self.alone_told([fun("p", {}, "number", ONE)], funs=[["p", [], "number"]])
        self.alone_told([fun_from("p", {"b": "number"}, "number", ONE, "prev")], funs=[["p", ["number"], "number"]])

    def test_what_has_no_name_is_not_told(self):
        self.alone_told([slot(val("x"), ONE), slot(val("y"), ONE)])
        decls = [action("act"), rule("r"), clause("r", []), allow("act", []), deny("act", []), must("act", [], ONE)]
        self.alone_told(decls, actions=[["act", []]], rules=[["r", [], 0]])

    def test_the_order_of_declarations(self):
        names = ["b", "a", "c1", "c", "c_", "ba"]
        for names in (names, names[::-1]):
            self.alone_told([fact(name) for name in names], facts=[[name, []] for name in names])
            self.alone_told([action(name) for name in names], actions=[[name, []] for name in names])
            self.alone_told([rule(name) for name in names], rules=[[name, [], 0] for name in names])
            self.alone_told([sort(name, "id") for name in names], sorts=[[name, "id"] for name in names])
            self.alone_told([fun(name, {}, "number", ONE) for name in names],
                            funs=[[name, [], "number"] for name in names])

    def test_a_module_tells_its_own_declarations_alone(self):
        first = module("m", [], fact("p"), sort("s", "text"), rule("r"), action("act"), fun("f", {}, "number", ONE))
        own = {"actions": [["act", []]], "facts": [["p", []]], "funs": [["f", [], "number"]], "module": "m",
               "rules": [["r", [], 0]], "sorts": [["s", "text"]]}
        others = [{**NOTHING_DECLARED, "module": name} for name in ("n", "o")]
        self.is_told([first, module("n", ["m"]), module("o", ["n"])], [own] + others)

    def test_many_and_long_names(self):
        for size in (127, 128, 129, 255, 256, 301, 16511):
            names = [f"n{number}" for number in range(size)]
            self.alone_told([fact(name) for name in names], facts=[[name, []] for name in names])
        long = "a" * 64
        self.is_told([module(long, [], fact(long, **{long: "text"}))],
                     [{**NOTHING_DECLARED, "module": long, "facts": [[long, ["text"]]]}])
        self.is_told([module(f"m{number}", []) for number in range(64)],
                     [{**NOTHING_DECLARED, "module": f"m{number}"} for number in range(64)])
        params = {f"a{number}": "text" for number in range(130)}
        self.alone_told([fact("p", **params)], facts=[["p", ["text"] * 130]])


class TestKinds(ToldCase):
    def each_told(self, kind, as_told, *before, **lists):
        """That a kind is told so of params and declarations of each form."""
        decls = [fact("p", a=kind), rule("q", a=kind), action("act", a="id", b=kind),
                 fun("g", {"a": kind}, "yesno", val(True)), fun("h", {"x": kind}, kind, X)]
        if "sorts" in lists:
            lists["sorts"] = lists["sorts"] + [["last", as_told]]
        self.alone_told([*before, *decls, sort("last", kind)], **{
            "facts": [["p", [as_told]]], "rules": [["q", [as_told], 0]], "actions": [["act", ["id", as_told]]],
            "funs": [["g", [as_told], "yesno"], ["h", [as_told], as_told]], "sorts": [["last", as_told]], **lists})

    def test_plain_kinds(self):
        for word in ("yesno", "number", "bytes", "text", "moment", "id"):
            self.each_told(word, word)

    def test_lists(self):
        self.each_told(list_of("text"), {"list": "text"})
        self.each_told(list_of(list_of(list_of("id"))), {"list": {"list": {"list": "id"}}})

    def test_records(self):
        for kind in (record_of(), record_of(a="text"),
                     record_of(b="text", a="number", a_b="id", ab="bytes", a1="yesno"),
                     record_of(x=record_of(y=record_of())),
                     record_of(a=list_of(record_of(b=list_of("moment"))), b=list_of(record_of()))):
            self.each_told(kind, kind)

    def test_sorts(self):
        before = [sort("s", "number")]
        sorts = [["s", "number"]]
        as_told = {"in": "m", "sort": "s"}
        self.each_told(of_sort("s"), as_told, *before, sorts=sorts)
        self.each_told(list_of(of_sort("s")), {"list": as_told}, *before, sorts=sorts)
        self.each_told(record_of(b=of_sort("s"), a=list_of(of_sort("s"))),
                       {"record": {"a": {"list": as_told}, "b": as_told}}, *before, sorts=sorts)

    def test_a_sort_by_its_module_and_name(self):
        first = module("a", [], sort("s", "number"), sort("t", record_of(x=of_sort("s"))))
        second = module("b", [], sort("s", "text"), fact("p", a=of_sort("s")))
        third = module("c", ["a"], sort("u", list_of(of_sort("t"))),
                       rule("q", a=of_sort("s"), b=of_sort("u"), c=of_sort("t")))
        in_a = [{"in": "a", "sort": name} for name in ("s", "t")]
        self.is_told([first, second, third], [
            {**NOTHING_DECLARED, "module": "a", "sorts": [["s", "number"], ["t", {"record": {"x": in_a[0]}}]]},
            {**NOTHING_DECLARED, "module": "b", "sorts": [["s", "text"]], "facts": [["p", [{"in": "b", "sort": "s"}]]]},
            {**NOTHING_DECLARED, "module": "c", "sorts": [["u", {"list": in_a[1]}]],
             "rules": [["q", [in_a[0], {"in": "c", "sort": "u"}, in_a[1]], 0]]}])

    def test_a_sort_declared_behind(self):
        self.alone_told([fact("p", a=of_sort("s")), sort("s", "number")], facts=[["p", [{"in": "m", "sort": "s"}]]],
                        sorts=[["s", "number"]])

    def test_as_deep_as_trees_are(self):
        kind = "text"
        for _ in range(6):
            kind = list_of(record_of(a=kind))
        self.alone_told([fact("p", a=kind)], facts=[["p", [kind]]])
        self.is_refused(alone(fact("p", a=list_of(kind))))

    def test_longer_than_a_value_may_be(self):
        name = "m" * 64
        fields = [f"a{number}" for number in range(100, 1000)]
        kind = record_of(**{field: of_sort("s") for field in fields})
        as_told = record_of(**{field: {"in": name, "sort": "s"} for field in fields})
        program = [module(name, [], sort("s", "text"), *[fact(f"p{number}", a=kind) for number in range(224)])]
        answer = told(bytes_of(program))
        self.assertGreater(len(answer), 16777217)
        self.assertTrue(answer == [0] + bytes_of([{
            **NOTHING_DECLARED, "module": name, "facts": [[f"p{number}", [as_told]] for number in range(224)],
            "sorts": [["s", "text"]]}]))


class StrataCase(unittest.TestCase):
    def strata(self, program):
        """The strata of a program's rules, by their modules' names and theirs."""
        answer = told(bytes_of(program))
        self.assertEqual(answer[0], 0)
        told_bytes = Bytes(answer[1:])
        modules = told_bytes.value()
        self.assertEqual(told_bytes.at, len(answer) - 1)
        return {(one["module"], name): stratum for one in modules for name, kinds, stratum in one["rules"]}

    def of_bodies(self, **bodies):
        """The strata, in order, of rules without params, whose clauses have these bodies; o and x are facts."""
        rules = [rule(name) for name in bodies]
        clauses = [clause(name, [], *body) for name in bodies for body in bodies[name]]
        return list(self.strata(alone(fact("o"), fact("x", a="number"), *rules, *clauses)).values())


def counted(name, *over):
    return equal(var(name), count(*over))


O, P, Q, R = call("o"), call("p"), call("q"), call("r")


class TestStrata(StrataCase):
    def test_the_example(self):
        program = alone(EDGE, rule("path", a="text", b="text"), rule("far", a="text", n="number"),
                        clause("path", [X, Y], call("edge", X, Y)),
                        clause("path", [X, Z], call("edge", X, Y), call("path", Y, Z)),
                        clause("far", [X, N], call("edge", X, Y), equal(N, count(call("path", X, Z)))))
        self.assertEqual(self.strata(program), {("m", "path"): 0, ("m", "far"): 1})

    def test_none(self):
        self.assertEqual(self.of_bodies(p=[]), [0])
        self.assertEqual(self.of_bodies(p=[[]]), [0])
        self.assertEqual(self.of_bodies(p=[[O]], q=[[P]], r=[[Q], [P]]), [0, 0, 0])
        self.assertEqual(self.of_bodies(p=[[P]]), [0])
        self.assertEqual(self.of_bodies(p=[[negated(val(True))]]), [0])
        self.assertEqual(self.of_bodies(p=[[counted("N", val(True))]]), [0])
        self.assertEqual(self.of_bodies(p=[[equal(X, ONE), within(Y, lst(X))]]), [0])

    def test_strictly_on_a_fact(self):
        self.assertEqual(self.of_bodies(p=[[negated(O)]]), [1])
        self.assertEqual(self.of_bodies(p=[[counted("N", O)]]), [1])
        self.assertEqual(self.of_bodies(p=[[counted("N", negated(O))]]), [1])

    def test_strictly_on_a_rule(self):
        self.assertEqual(self.of_bodies(p=[], q=[[negated(P)]]), [0, 1])
        self.assertEqual(self.of_bodies(p=[[negated(O)]], q=[[negated(P)]], r=[[counted("N", Q)]]), [1, 2, 3])
        self.assertEqual(self.of_bodies(p=[[negated(Q)]], q=[[negated(R)]], r=[[negated(O)]]), [3, 2, 1])

    def test_by_what_is_not_strict(self):
        self.assertEqual(self.of_bodies(p=[[negated(O)]], q=[[P]], r=[[Q, O]]), [1, 1, 1])
        self.assertEqual(self.of_bodies(p=[[Q]], q=[[R]], r=[[negated(O)]]), [1, 1, 1])

    def test_each_form_of_gathering(self):
        for word in ("sum", "least", "greatest"):
            gathered = equal(N, gather(word, X, call("x", X)))
            self.assertEqual(self.of_bodies(p=[[gathered]], q=[[P, gathered]], r=[[counted("N", P)]]), [1, 1, 2])

    def test_a_gathering_that_is_a_test(self):
        self.assertEqual(self.of_bodies(p=[[call("x", N), counted("N", O)]]), [1])

    def test_gatherings_within_gatherings(self):
        deep = counted("N", counted("M", Q))
        self.assertEqual(self.of_bodies(q=[], p=[[deep]]), [0, 1])
        self.assertEqual(self.of_bodies(q=[[negated(O)]], p=[[deep]]), [1, 2])
        deeper = counted("N", call("x", X), equal(M, gather("sum", Y, call("x", Y), counted("Z", negated(Q)))))
        self.assertEqual(self.of_bodies(q=[[negated(O)]], p=[[deeper]], r=[[negated(P)]]), [1, 2, 3])

    def test_one_step_has_one_strict_at_most(self):
        twice = counted("N", negated(O), counted("M", negated(O)))
        self.assertEqual(self.of_bodies(p=[[twice, negated(O)]]), [1])

    def test_the_greatest_of_several_ways(self):
        self.assertEqual(self.of_bodies(p=[[negated(O)]], q=[[P, negated(P)]], r=[[P], [Q], [O]]), [1, 2, 2])
        self.assertEqual(self.of_bodies(p=[[O], [negated(O)], [O]], q=[[P], [negated(O)]]), [1, 1])
        self.assertEqual(self.of_bodies(p=[[negated(O)]], q=[[negated(P)], [P]], r=[[negated(P), Q]]), [1, 2, 2])

    def test_a_step_that_is_strict_in_one_clause_only(self):
        self.assertEqual(self.of_bodies(p=[[O]], q=[[P], [negated(P)]], r=[[negated(P)], [P]]), [0, 1, 1])

    def test_rules_that_come_back_to_themselves(self):
        self.assertEqual(self.of_bodies(p=[[P], [negated(O)]]), [1])
        self.assertEqual(self.of_bodies(p=[[Q]], q=[[P], [R]], r=[[negated(O)]]), [1, 1, 1])
        self.assertEqual(self.of_bodies(p=[[Q]], q=[[R]], r=[[P], [negated(O)]]), [1, 1, 1])
        self.assertEqual(self.of_bodies(p=[[Q], [negated(O)]], q=[[P]], r=[[negated(Q), R]]), [1, 1, 2])
        self.assertEqual(self.of_bodies(r=[[negated(P)], [R]], p=[[Q]], q=[[P], [negated(O)], [Q]]), [2, 1, 1])

    def test_several_rings_one_behind_another(self):
        bodies = {"p": [[call("q")], [negated(call("s"))]], "q": [[P]], "r": [[call("s")], [negated(O)]],
                  "s": [[R]], "t": [[call("u")], [Q]], "u": [[call("t")], [counted("N", R, P)]]}
        self.assertEqual(self.of_bodies(**bodies), [2, 2, 1, 1, 3, 3])

    def test_what_is_settled_last_counts_not(self):
        program = alone(fact("o"), rule("p"), action("act"), allow("act", [], negated(P)), deny("act", [], negated(P)),
                        must("act", [], ONE, negated(P)), slot(val("x"), ONE, negated(P), counted("N", P)))
        self.assertEqual(self.strata(program), {("m", "p"): 0})

    def test_calls_of_funs_are_no_leanings(self):
        program = alone(fun("f", {}, "yesno", val(True)), rule("p"), clause("p", [], negated(call("f"))))
        self.assertEqual(self.strata(program), {("m", "p"): 0})

    def test_across_modules(self):
        program = [
            module("a", [], fact("o"), rule("p"), clause("p", [], negated(O))),
            module("b", ["a"], rule("q"), clause("q", [], negated(P)), rule("r"), clause("r", [], P, O)),
            module("c", ["b"], rule("p"), clause("p", [], negated(Q)), rule("o")),
            module("d", ["c", "b"], rule("x"), clause("x", [], P, negated(R)), clause("x", [], call("x")))]
        self.assertEqual(self.strata(program), {
            ("a", "p"): 1, ("b", "q"): 2, ("b", "r"): 1, ("c", "p"): 3, ("c", "o"): 0, ("d", "x"): 3})

    def test_many_strata(self):
        names = [f"p{number}" for number in range(1200)]
        for order in (names, names[::-1], names[::2] + names[1::2]):
            clauses = [clause(name, [], negated(call(before)))
                       for name, before in zip(names, ["o"] + names)]
            found = self.strata(alone(fact("o"), *[rule(name) for name in order], *clauses))
            self.assertEqual(found, {("m", name): number + 1 for number, name in enumerate(names)})

    def test_the_bytes_of_strata(self):
        names = [f"p{number}" for number in range(257)]
        clauses = [clause(name, [], negated(call(before))) for name, before in zip(names, ["o"] + names)]
        answer = bytes(told(bytes_of(alone(fact("o"), *[rule(name) for name in names], *clauses))))
        for name, stratum in (("p0", [1, 1]), ("p126", [1, 127]), ("p127", [1, 128]), ("p254", [1, 255]),
                              ("p255", [2, 0, 1]), ("p256", [2, 1, 1])):
            codes = [5, 3, 4, len(name), *name.encode(), 5, 0, 2, 2 * stratum[0], *stratum[1:]]
            self.assertEqual(answer.count(bytes(codes)), 1)

    def test_a_long_ring(self):
        names = [f"p{number}" for number in range(1500)]
        clauses = [clause(name, [], call(before)) for name, before in zip(names, names[-1:] + names)]
        for strict in (0, 700, 1499):
            program = alone(fact("o"), *[rule(name) for name in names], *clauses,
                            clause(names[strict], [], negated(O)))
            self.assertEqual(set(self.strata(program).values()), {1})


class TestRandomStrata(StrataCase):
    """Strata as they are found by going on till nothing changes."""

    def test_random_programs(self):
        chance = random.Random(5)
        found = []
        for _ in range(300):
            size = chance.randint(1, 8)
            names = [f"p{number}" for number in range(size)]
            heights = [chance.randint(0, 3) for _ in names]
            steps = []
            for _ in range(chance.randint(0, 16)):
                start, end = chance.randrange(size), chance.randrange(size)
                if heights[start] >= heights[end]:
                    steps.append((start, end, heights[start] > heights[end] and chance.random() < 0.7))
                if chance.random() < 0.2 and heights[start] > 0:
                    steps.append((start, None, True))
            clauses = [clause(names[start], [], self.literal("o" if end is None else names[end], strict, chance))
                       for start, end, strict in steps]
            program = alone(fact("o"), *[rule(name) for name in names], *clauses)
            strata = list(self.strata(program).values())
            self.assertEqual(strata, self.gone_on(size, steps))
            found.append(max(strata))
        self.assertEqual(set(found), {0, 1, 2, 3})

    def literal(self, name, strict, chance):
        if not strict:
            return call(name)
        return chance.choice([negated(call(name)), counted("N", call(name)), counted("N", counted("M", call(name)))])

    def gone_on(self, size, steps):
        strata = [0] * size
        for _ in range(size):
            for start, end, strict in steps:
                strata[start] = max(strata[start], (0 if end is None else strata[end]) + strict)
        return strata


class TestRefusals(ToldCase):
    def test_no_programs(self):
        self.assertEqual(told([]), [-6])
        for codes in ([5], [0], [5, 0], [9], [255] * 9, bytes_of(ONE), bytes_of([]), bytes_of([1]),
                      bytes_of([module("m", [])] * 65), bytes_of(alone()) + [0], bytes_of(alone())[:-1],
                      bytes_of(module("m", []))):
            self.assertEqual(told(codes), [-6])

    def test_each_kind_of_fault(self):
        up = rule("up", n="number")
        self.is_refused([module("m", [], ONE)])
        self.is_refused([module("m", ["x"])])
        self.is_refused([module("m", []), module("m", [])])
        self.is_refused(alone(fact("p"), fact("p")))
        self.is_refused(alone(fact("p", a=of_sort("s"))))
        self.is_refused(alone(slot(val("x"), call("p"))))
        self.is_refused(alone(up, clause("up", [ONE, ONE])))
        self.is_refused(alone(up, clause("up", [N])))
        self.is_refused(alone(up, clause("up", [val("x")])))
        self.is_refused(alone(rule("p"), clause("p", [], negated(P))))
        self.is_refused(alone(up, clause("up", [added(N, "+", ONE)], call("up", N))))

    def test_too_long(self):
        self.assertEqual(told([0] * 4194304), [-6])
        self.assertEqual(told([0] * 4194305), [-2])
        self.assertEqual(told(bytes_of(alone(slot(val("x" * 4194305), ONE)))), [-2])


class TestNothingChangedOrKept(NothingChangedOrKept, unittest.TestCase):
    def asked(self, codes):
        return told(codes)

    def arguments(self):
        programs = [[module("m", ["x"])], alone(fact("p"), fact("p")), MIXED, alone(EDGE), alone(rule("edge"))]
        return [[codes] for codes in [[], [5, 1]] + [bytes_of(program) for program in programs]]

    def test_bytes_behind_the_number(self):
        for codes, in self.arguments():
            self.assertTrue(all(0 <= number < 256 for number in told(codes)[1:]))


if __name__ == "__main__":
    unittest.main()
