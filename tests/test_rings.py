"""Strata and what's made: faults 10 and 11."""

import itertools
import random
import unittest

from helper import (
    CheckCase, EDGE, M, N, ONE, X, Y, Z, action, added, allow, alone, call, clause, compare, cond, count, equal, fact,
    field, fun, gather, index, list_of, lst, minus, module, multiplied, negated, of_sort, rec, record_of, rule, slot,
    sort, val, within,
)
from judgedrules.ringsearch import least_ring


def leaning(rules, *clauses):
    """A program of rules without params; a clause is told by its rule and what it leans on, strictly after a dash."""
    decls = [rule(name) for name in rules]
    for name, *others in clauses:
        decls.append(clause(name, [], *[negated(call(other[1:])) if other[0] == "-" else call(other)
                                        for other in others]))
    return alone(*decls)


class TestStrictRings(CheckCase):
    def told_clause(self, program, number):
        """That a strict ring is told at the clause of this number."""
        rules = len([decl for decl in program[0]["decls"] if "rule" in decl])
        self.told(program, 10, 0, "decls", rules + number)

    def test_rings_that_are_not_strict(self):
        self.taken(leaning("abc", "aa", "ab", "bc", "ca"), 3)
        self.taken(leaning("abc", ("a", "-b"), ("b", "-c"), "c"), 3)
        self.taken(leaning("abc", ("a", "-b"), "bc", "cb"), 3)

    def test_by_itself(self):
        self.told_clause(leaning("ab", "ab", ("b", "-b")), 1)

    def test_around(self):
        self.told_clause(leaning("abc", "a", ("b", "a", "-c"), "ca", "ab"), 1)
        self.told_clause(leaning("ab", ("b", "-a"), ("a", "b")), 0)

    def test_gatherings_are_strict(self):
        for body in ([equal(N, count(call("b")))], [equal(N, count(equal(M, count(call("b")))))],
                     [equal(N, gather("sum", ONE, val(True), negated(call("b"))))]):
            self.told(alone(rule("a"), rule("b"), clause("a", [], *body), clause("b", [], call("a"))), 10,
                      0, "decls", 2)

    def test_actions_and_slots_are_settled_last(self):
        self.taken(alone(rule("p"), action("act"), allow("act", [], negated(call("p"))),
                         slot(val("x"), ONE, negated(call("p")))), 1)

    def test_any_clause_with_the_step(self):
        self.told_clause(leaning("ab", "ba", "ab", ("a", "-b")), 0)
        self.told_clause(leaning("ab", ("a", "-b"), "ab", "ba"), 0)
        self.told_clause(leaning("abc", ("a", "c"), ("a", "c", "b"), ("a", "-b"), "ba"), 1)

    def test_the_fewest_steps(self):
        self.told_clause(leaning("abcde", ("a", "-b"), "bc", "ca", ("d", "-e"), "ed"), 3)

    def test_those_that_come_first(self):
        self.told_clause(leaning("abcd", ("c", "-d"), "dc", ("a", "-b"), "ba"), 2)
        self.told_clause(leaning("abc", ("c", "-a"), ("b", "-a"), "ac", "ab"), 1)
        self.told_clause(leaning("bca", ("c", "-a"), ("b", "-a"), "ac", "ab"), 1)
        self.told_clause(leaning("cab", ("c", "-a"), ("b", "-a"), "ac", "ab"), 0)

    def test_from_its_least_one_on(self):
        self.told_clause(leaning("abcdz", "ac", "cd", ("d", "-a"), "ab", "bz", ("z", "-a")), 3)
        self.told_clause(leaning("azdcb", "ac", "cd", ("d", "-a"), "ab", "bz", ("z", "-a")), 0)

    def test_modules(self):
        first = module("m", [], rule("p"), rule("q"), clause("p", [], call("q")))
        ring = [rule("r"), rule("s"), clause("r", [], call("p"), negated(call("s"))), clause("s", [], call("r"))]
        self.told([first, module("n", ["m"], *ring)], 10, 1, "decls", 2)
        self.told([module("k", [], *ring[:2], clause("r", [], call("s")), clause("s", [], negated(call("r")))),
                   first, module("n", ["m"], *ring)], 10, 0, "decls", 2)

    def test_before_made_rings(self):
        up = [rule("up", n="number"), clause("up", [added(N, "+", ONE)], call("up", N))]
        self.told(alone(*up, rule("p"), clause("p", [], negated(call("p")))), 10, 0, "decls", 3)

    def test_after_kinds(self):
        self.told(alone(rule("p"), clause("p", [], negated(call("p"))), slot(ONE, ONE)), 9, 0, "decls", 2, "slot")


UP = rule("up", n="number")


class TestMadeRings(CheckCase):
    def made(self, *decls):
        """That a made ring is told at the last declaration."""
        self.told(alone(*decls), 11, 0, "decls", len(decls) - 1)

    def not_made(self, *decls):
        self.assertEqual(self.kind_told(alone(*decls)), 0)

    def test_made(self):
        for argument in (added(N, "+", ONE), minus(N), multiplied(N, "*", ONE), added(ONE, "+", N), call("f", N),
                         cond(val(True), N, ONE), cond(val(True), ONE, N), call("len", lst(N)), index(lst(N), ONE),
                         field(rec(a=N), "a"), call("seconds", call("at", N)), call("raw", call("s", minus(N)))):
            self.made(UP, sort("s", "number"), fun("f", {"a": "number"}, "number", ONE),
                      clause("up", [argument], call("up", N)))

    def test_not_made(self):
        for argument in (N, ONE, call("raw", call("s", N)), index(lst(ONE), N),
                         cond(compare("<", N, ONE), ONE, ONE)):
            self.not_made(UP, sort("s", "number"), clause("up", [argument], call("up", N)))

    def test_lists_and_records(self):
        rows = rule("rows", a=list_of("text"))
        self.made(rows, clause("rows", [call("part", X, ONE, ONE)], call("rows", X)))
        self.made(rows, clause("rows", [lst(index(X, ONE))], call("rows", X)))
        self.made(rows, clause("rows", [added(X, "++", X)], call("rows", X)))
        tree = rule("tree", a=record_of(a="number", b=list_of("number")))
        self.made(tree, clause("tree", [rec(a=field(X, "a"), b=lst())], call("tree", X)))

    def test_taking_apart(self):
        tree, leaf = rule("tree", a=list_of(record_of(a="number"))), rule("leaf", a="number")
        self.not_made(tree, leaf, clause("leaf", [field(index(X, ONE), "a")], call("tree", X)),
                      clause("leaf", [field(Y, "a")], call("tree", X), within(Y, X)))

    def test_by_equals_and_in(self):
        self.not_made(UP, clause("up", [N], call("up", M), equal(N, M)))
        self.not_made(UP, clause("up", [N], call("up", M), equal(N, X), equal(X, Y), equal(Y, M)))
        self.made(UP, clause("up", [N], call("up", M), equal(N, added(M, "+", ONE))))
        self.made(UP, clause("up", [N], call("up", M), equal(N, X), equal(X, minus(Y)), equal(Y, M)))
        self.made(UP, clause("up", [minus(N)], call("up", M), equal(N, X), equal(X, M)))
        self.made(UP, clause("up", [N], call("up", M), within(N, lst(M))))
        nest = [rule("nest", a=list_of("number")), clause("nest", [Y], call("nest", X), within(Y, lst(X)))]
        self.made(*nest)
        self.not_made(nest[0], fact("of_lists", a=list_of(list_of("number"))),
                      clause("nest", [Y], call("of_lists", X), within(Y, X)))

    def test_in_by_itself_is_not_made(self):
        outer, inner = rule("outer", a=list_of("number")), rule("inner", a="number")
        self.not_made(outer, inner, clause("inner", [Y], call("outer", X), within(Y, X)),
                      clause("inner", [Y], call("inner", Y)))

    def test_two_ways(self):
        self.made(UP, clause("up", [N], call("up", M), equal(N, cond(val(True), M, ONE))))
        self.told(alone(rule("two", a="number", b="number"),
                        clause("two", [Y, X], call("two", X, Y)),
                        clause("two", [X, Y], call("two", X, Z), equal(Y, minus(X)))), 11, 0, "decls", 1)

    def test_by_gatherings_from_nothing(self):
        self.not_made(UP, fact("p", a="number"),
                      clause("up", [N], call("up", M), equal(N, count(call("p", X), compare("<", X, M)))))

    def test_conditions_and_places_are_not_come_from(self):
        self.not_made(UP, clause("up", [minus(index(lst(ONE), N))], call("up", N)))
        self.not_made(UP, clause("up", [minus(cond(compare("<", N, ONE), ONE, ONE))], call("up", N)))

    def test_only_arguments_by_themselves(self):
        first = fact("first", n="number")
        self.not_made(UP, first, clause("up", [minus(N)], call("first", N), call("up", minus(N))))
        self.made(UP, first, clause("up", [minus(N)], call("first", N), call("up", N)))
        self.made(UP, first, clause("up", [minus(N)], call("up", N), call("first", N)))

    def test_tests_are_no_ways(self):
        self.not_made(UP, fact("first", n="number"),
                      clause("up", [N], call("first", N), call("up", M), equal(N, minus(M))))
        self.made(UP, fact("first", n="number"),
                  clause("up", [N], call("first", X), call("up", M), equal(N, minus(M))))

    def test_not_and_gatherings_give_no_edges(self):
        down = rule("down", n="number")
        self.not_made(UP, down, clause("up", [minus(N)], call("down", N)))
        self.not_made(UP, down, fact("first", n="number"), clause("down", [minus(N)], call("first", N)),
                      clause("up", [minus(N)], call("first", N), negated(call("down", N))),
                      clause("up", [minus(N)], call("first", N), equal(M, count(call("down", N)))))

    def test_only_rules_have_positions(self):
        self.not_made(UP, action("act", a="number"), fact("first", n="number"),
                      allow("act", [minus(N)], call("first", N)), clause("up", [minus(N)], call("first", N)))

    def test_positions_are_apart(self):
        two = rule("two", a="number", b="number")
        self.not_made(two, clause("two", [X, minus(X)], call("two", X, Y)))
        self.made(two, clause("two", [minus(Y), minus(X)], call("two", X, Y)))
        self.made(two, clause("two", [X, minus(Y)], call("two", X, Y)))

    def test_around(self):
        a, b = rule("a", n="number"), rule("b", n="number")
        self.told(alone(a, b, clause("a", [N], call("b", N)), clause("b", [minus(N)], call("a", N))), 11,
                  0, "decls", 2)
        self.taken(alone(a, b, clause("a", [N], call("b", N)), clause("b", [N], call("a", N)),
                         rule("c", n="number"), clause("c", [minus(N)], call("a", N))), 3)

    def test_any_clause_with_the_edge(self):
        two = [clause("up", [N], call("up", N)), clause("up", [minus(N)], call("up", N))]
        self.told(alone(UP, *two), 11, 0, "decls", 1)
        self.told(alone(UP, *reversed(two)), 11, 0, "decls", 1)

    def test_the_least_ring(self):
        a, b, c = [rule(name, n="number") for name in "abc"]
        long = [clause("a", [minus(N)], call("b", N)), clause("b", [N], call("a", N))]
        self.told(alone(a, b, c, *long, clause("c", [minus(N)], call("c", N))), 11, 0, "decls", 5)
        two = rule("two", a="number", b="number")
        self.told(alone(two, clause("two", [ONE, minus(X)], call("two", Y, X)),
                        clause("two", [minus(X), ONE], call("two", X, Y))), 11, 0, "decls", 2)

    def test_the_first_in_order_of_declarations(self):
        a, b = rule("a", n="number"), rule("b", n="number")
        rings = [clause("a", [minus(N)], call("a", N)), clause("b", [minus(N)], call("b", N))]
        self.told(alone(a, b, *rings), 11, 0, "decls", 2)
        self.told(alone(b, a, *rings), 11, 0, "decls", 3)
        self.told([module("m", [], b, rings[1]), module("n", [], a, rings[0])], 11, 0, "decls", 1)

    def test_the_first_place_on_the_whole_ring(self):
        a, b = rule("a", n="number"), rule("b", n="number")
        self.told(alone(clause("b", [minus(N)], call("a", N)), a, b, clause("a", [N], call("b", N))), 11,
                  0, "decls", 0)

    def test_with_sorts(self):
        first, own = sort("s", "number"), rule("own", a=of_sort("s"))
        self.not_made(first, own, clause("own", [call("s", call("raw", X))], call("own", X)))
        self.made(first, own, clause("own", [call("s", minus(call("raw", X)))], call("own", X)))

    def test_paths(self):
        path = rule("path", a="text", b="text")
        self.not_made(EDGE, path, clause("path", [X, Y], call("edge", X, Y)),
                      clause("path", [X, Z], call("edge", X, Y), call("path", Y, Z)))


def brute_ring(heavy, things):
    """The least ring, found by trying all."""
    for length in range(1, things + 1):
        rings = []
        for ring in itertools.permutations(range(things), length):
            steps = list(zip(ring, ring[1:] + ring[:1]))
            if ring[0] == min(ring) and all(step in heavy for step in steps) and any(heavy[step] for step in steps):
                rings.append(list(ring))
        if rings:
            return min(rings)
    return []


class TestLeastRing(unittest.TestCase):
    def test_all_ways_tried(self):
        chances = random.Random(7)
        for _ in range(1500):
            things = chances.randint(1, 5)
            many, most = chances.random() * 0.6, chances.random() * 0.5
            steps = [(start, end) for start in range(things) for end in range(things) if chances.random() < many]
            chances.shuffle(steps)
            heavy = {step: chances.random() < most for step in steps}
            self.assertEqual(least_ring(heavy), brute_ring(heavy, things), heavy)

    def test_long_rings(self):
        heavy = {(at, at + 1): False for at in range(5000)}
        self.assertEqual(least_ring(heavy), [])
        heavy[(5000, 0)] = True
        self.assertEqual(least_ring(heavy), list(range(5001)))


if __name__ == "__main__":
    unittest.main()
