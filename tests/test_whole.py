"""What holds of all calls together: nothing is kept from one call to the next."""

import importlib
import itertools
import sys
import unittest

from helper import (
    EDGE, N, ONE, X, Y, Z, added, alone, bytes_of, call, clause, count, equal, fact, list_of, lst, module, negated,
    of_module, of_sort, place_in, rec, record_of, rule, slot, sort, val,
)
from judgedrules import desk

EMPTY = list_of("nothing")
SORTED = alone(sort("s", "number"), sort("t", list_of(of_sort("s"))), fact("p", a=of_sort("t")), rule("q"),
               slot(val("x"), rec(a=call("s", ONE), b=lst())))
AS_TEXTS = alone(sort("s", "text"), sort("t", of_sort("s")), rule("p", a=of_sort("t")),
                 slot(val("x"), rec(a=call("s", val("x")), b=lst())))
PATHS = alone(EDGE, rule("path", a="text", b="text"), rule("far", a="text", n="number"),
              clause("path", [X, Y], call("edge", X, Y)),
              clause("path", [X, Z], call("edge", X, Y), call("path", Y, Z)),
              clause("far", [X, N], call("edge", X, Y), equal(N, count(call("path", X, Z)))))
FAULTY = [
    [], [module("m", ["x"])], [module("m", []), module("m", [])], alone(fact("p"), fact("p")),
    alone(fact("p", a=of_sort("s"))), alone(slot(val("x"), call("f"))), alone(rule("p"), clause("p", [ONE])),
    alone(slot(val("x"), X)), alone(slot(ONE, ONE)), alone(rule("p"), clause("p", [], negated(call("p")))),
    alone(rule("up", n="number"), clause("up", [added(N, "+", ONE)], call("up", N))),
]
PLACES = [place_in(SORTED, 0, "decls", 4, "to"), place_in(SORTED, 0, "decls", 4, "slot"),
          place_in(AS_TEXTS, 0, "decls", 3, "to"), 0, -1]
KINDS = ["number", "text", "nothing", EMPTY, 0, of_module("s"), of_module("t"), of_module("gone"),
         record_of(a=of_module("t"), b=EMPTY)]
VALUES = [5, "x", [5], {"a": "x", "b": []}]


def all_calls():
    """Calls of all functions: their names, and their arguments as they're handed in."""
    programs = [bytes_of(program) for program in [SORTED, AS_TEXTS, PATHS] + FAULTY]
    kinds = [bytes_of(one) for one in KINDS] + [[9]]
    values = [bytes_of(one) for one in VALUES] + [[]]
    found = [(name, [codes]) for name in ("check", "told") for codes in programs]
    found += [("kind", [place, codes]) for codes in programs[:5] for place in PLACES]
    found += [("agree", [one, other]) for one, other in itertools.combinations_with_replacement(kinds, 2)]
    found += [("fits", list(three)) for three in itertools.product(programs[:4], kinds, values)]
    return found


def for_the_first_time(name, given):
    """What a call answers of the program read anew."""
    kept = {name: sys.modules.pop(name) for name in list(sys.modules) if name.partition(".")[0] == "judgedrules"}
    try:
        return getattr(importlib.import_module("judgedrules.desk"), name)(*given)
    finally:
        for added_name in [name for name in sys.modules if name.partition(".")[0] == "judgedrules"]:
            del sys.modules[added_name]
        sys.modules.update(kept)


class TestNothingKept(unittest.TestCase):
    def test_each_answer_is_the_same_whatever_was_called_before(self):
        calls = all_calls()[::3]
        first = [for_the_first_time(name, given) for name, given in calls]
        for step in (1, 2, 5, 7, len(calls) - 1):
            order = sorted(range(len(calls)), key=lambda at: at * step % len(calls))
            for at in order:
                name, given = calls[at]
                self.assertEqual(getattr(desk, name)(*given), first[at], (name, given))

    def test_after_each_call_of_another_form(self):
        calls = all_calls()
        few = [calls[at] for at in range(0, len(calls), len(calls) // 40)]
        first = [for_the_first_time(name, given) for name, given in few]
        for before, (at, (name, given)) in itertools.product(few, enumerate(few)):
            getattr(desk, before[0])(*before[1])
            self.assertEqual(getattr(desk, name)(*given), first[at], (before, name, given))

    def test_one_list_handed_to_all(self):
        for codes in [bytes_of(SORTED), bytes_of(PATHS), bytes_of(FAULTY[5]), bytes_of("text"), [9], []]:
            before = list(codes)
            answers = [[desk.check(codes), desk.told(codes), desk.kind(0, codes), desk.agree(codes, codes),
                        desk.fits(codes, codes, codes)] for _ in range(2)]
            self.assertEqual(answers[0], answers[1])
            self.assertEqual(codes, before)

    def test_answers_of_each_form(self):
        found = {(name, getattr(desk, name)(*given)[0]) for name, given in all_calls()}
        self.assertEqual(found, {
            ("check", 1), ("check", 2), ("check", -6), ("told", 0), ("told", -6), ("kind", 0),
            ("kind", -4), ("kind", -6), ("agree", 0), ("agree", -5), ("agree", -6), ("agree", -9), ("fits", 0),
            ("fits", 1), ("fits", -5), ("fits", -6)})


class TestCallsTogether(unittest.TestCase):
    def test_the_kinds_that_kind_tells_are_told_kinds(self):
        for program, at in ((SORTED, 4), (AS_TEXTS, 3)):
            codes = bytes_of(program)
            told = desk.kind(place_in(program, 0, "decls", at, "to"), codes)[1:]
            self.assertEqual(desk.agree(told, told), [0] + told)
            value = {"a": 5 if program is SORTED else "x", "b": []}
            self.assertEqual(desk.fits(codes, told, bytes_of(value)), [1])
            self.assertEqual(desk.fits(codes, told, bytes_of({**value, "b": [5]})), [0])

    def test_what_fits_one_of_two_that_agree_fits_what_they_agree_on(self):
        codes = bytes_of(SORTED)
        kinds = [one for one in KINDS if one not in (0, of_module("gone"))]
        for one, other in itertools.product(kinds, repeat=2):
            answer = desk.agree(bytes_of(one), bytes_of(other))
            for value in VALUES + [[]]:
                if answer[0] == 0 and desk.fits(codes, bytes_of(one), bytes_of(value)) == [1]:
                    self.assertEqual(desk.fits(codes, answer[1:], bytes_of(value)), [1])


if __name__ == "__main__":
    unittest.main()
