"""What fits answers: whether values are of told kinds."""

import itertools
import random
import unittest

from helper import (
    KEYWORDS, ONE, PLAIN, X, Id, Moment, NothingChangedOrKept, action, alone, around_kinds, bytes_of, call, clause,
    fact, fun, list_of, module, negated, no_told_kinds, no_values, of_module, of_sort, record_of, rule, slot, sort,
    val, varying,
)
from judgedrules.desk import fits

BARE = alone()
ATOMS = {
    "yesno": [False, True], "number": [0, 1, -1, 255, -256, 10 ** 18, -10 ** 18, 256 ** 4096 - 1, 1 - 256 ** 4096],
    "bytes": [b"", b"x", b"text", bytes(range(256)), b"\xff" * 5000], "id": [Id(0), Id(255)],
    "text": ["", "x", "text", "nothing", "\U0010ffff\ud7ff\ue000\x00#", "x" * 5000],
    "moment": [Moment(0), Moment(-1), Moment(2 ** 63 - 1), Moment(-2 ** 63)],
}
ALL_ATOMS = [value for values in ATOMS.values() for value in values]
ONE_EACH = [values[-1] for values in ATOMS.values()]
EMPTY = list_of("nothing")

BASE = module("base", [], sort("amount", "number"), fact("paid", a=of_sort("amount")), sort("again", of_sort("amount")),
              sort("third", of_sort("again")), sort("amounts", list_of(of_sort("third"))))
USER = module("user", ["base"], sort("name", "text"),
              sort("person", record_of(n=of_sort("name"), a=of_sort("amounts"))),
              rule("known", p=of_sort("person")), fun("half", {}, "number", ONE), action("pay"),
              sort("group", list_of(of_sort("person"))), sort("groups", list_of(of_sort("group"))),
              sort("none", record_of()), sort("text_", record_of(a="text", b=list_of("text"))))
OTHER = module("other", [], sort("amount", "text"), sort("name", of_sort("amount")), sort("time", "moment"),
               sort("key", "id"), sort("raw_", "bytes"), sort("said", "yesno"))
SORTS = [BASE, USER, OTHER]


def others_than(word):
    """Values that aren't of a plain kind."""
    return [value for other, values in ATOMS.items() if other != word for value in values]


def nested(value, times, around):
    for _ in range(times):
        value = around(value)
    return value


class FitsCase(unittest.TestCase):
    def answered(self, program, kind, value, answer):
        self.assertEqual(fits(bytes_of(program), bytes_of(kind), bytes_of(value)), [answer], (kind, value))

    def is_one(self, kind, *values, program=SORTS):
        for value in values:
            self.answered(program, kind, value, 1)

    def is_none(self, kind, *values, program=SORTS):
        for value in values:
            self.answered(program, kind, value, 0)

    def no_kind(self, kind, *values, program=SORTS):
        """That a kind is none that the program has, whatever the value is."""
        for value in values or (0, "x", [], {}, {"a": []}):
            self.answered(program, kind, value, -5)


class TestPlainKinds(FitsCase):
    def test_each_with_each(self):
        for word, other in itertools.product(PLAIN, repeat=2):
            for value in ATOMS[other]:
                self.answered(BARE, word, value, int(word == other))

    def test_lists_and_records_are_of_no_plain_kind(self):
        for word in PLAIN:
            self.is_none(word, [], {}, [[]], [{}], {"a": []}, [ATOMS[word][0]], {"a": ATOMS[word][0]}, [word])

    def test_numbers_of_each_size(self):
        for power in (1, 7, 8, 31, 32, 63, 64, 1000):
            self.is_one("number", 2 ** power, 2 ** power - 1, -2 ** power, 1 - 2 ** power)
            self.is_none("moment", 2 ** power, -2 ** power)

    def test_the_bytes(self):
        program = [5, 1, 6, 3, 5, *b"decls", 5, 0, 4, *b"name", 4, 1, *b"m", 4, *b"uses", 5, 0]
        number = [4, 6, *b"number"]
        for value, answer in (([2, 0], 1), ([2, 2, 9], 1), ([2, 3, 9], 1), ([0], 0), ([1], 0), ([3, 1, 9], 0),
                              ([4, 1, 48], 0), ([5, 0], 0), ([6, 0], 0), ([7] + [0] * 8, 0), ([8] + [0] * 32, 0)):
            self.assertEqual(fits(program, number, value), [answer])


class TestNothing(FitsCase):
    def test_of_nothing_none_is(self):
        self.is_none("nothing", *ALL_ATOMS, [], {}, [[]], {"a": []}, "nothing")

    def test_of_a_list_of_nothing_an_empty_list_is(self):
        self.is_one(EMPTY, [])
        self.is_none(EMPTY, *ALL_ATOMS, {}, [[]], [{}], ["nothing"], *[[value] for value in ONE_EACH])

    def test_within_others(self):
        self.is_one(list_of(EMPTY), [], [[]], [[], []])
        self.is_none(list_of(EMPTY), [[0]], [[], [[]]], [{}], [0])
        self.is_none(record_of(a="nothing"), {"a": 0}, {"a": []}, {}, {"a": {}})
        self.is_one(record_of(a=EMPTY), {"a": []})
        self.is_none(record_of(a=EMPTY), {"a": [0]}, {"a": {}}, {}, [])
        self.is_one(list_of(record_of(a="nothing")), [])
        self.is_none(list_of(record_of(a="nothing")), [{"a": 0}], [{}])


class TestLists(FitsCase):
    def test_of_each_plain_kind(self):
        for word in PLAIN:
            self.is_one(list_of(word), [], ATOMS[word], *[[value] for value in ATOMS[word]])
            self.is_none(list_of(word), {}, *ONE_EACH)
            for other in others_than(word):
                self.is_none(list_of(word), [other], ATOMS[word] + [other], [other] + ATOMS[word],
                             ATOMS[word] + [other] + ATOMS[word])

    def test_within_one_another(self):
        kind = list_of(list_of("number"))
        self.is_one(kind, [], [[]], [[1]], [[], [1, 2], [], [3]])
        self.is_none(kind, [1], [[], 1], [[[]]], [["x"]], [[1], [2, "x"]], [[1, "x"], [2]], 1, {}, [{}])

    def test_long_ones(self):
        for size in (127, 128, 3000):
            self.is_one(list_of("number"), [5] * size)
            self.is_none(list_of("number"), [5] * size + [""], [""] + [5] * size)
            self.is_one(list_of(list_of("number")), [[]] * size)
            self.is_one(EMPTY, [])
            self.is_none(EMPTY, [[]] * size)


class TestRecords(FitsCase):
    def test_of_each_plain_kind(self):
        for word, other in itertools.product(PLAIN, repeat=2):
            for value in ATOMS[other]:
                self.answered(SORTS, record_of(a=word), {"a": value}, int(word == other))

    def test_just_the_kind_s_names(self):
        kind = record_of(a="number", b="text")
        self.is_one(kind, {"a": 1, "b": "x"})
        self.is_none(kind, {}, {"a": 1}, {"b": "x"}, {"a": 1, "c": "x"}, {"a": 1, "b": "x", "c": 1},
                     {"A": 0, "a": 1, "b": "x"}, {"a": 1, "aa": 1, "b": "x"}, {"a": "x", "b": 1}, {"a": 1, "b": 1},
                     {"a": "x", "b": "x"}, {"c": 1, "d": "x"}, {"a": 1, "bb": "x"})
        self.is_none(kind, *ALL_ATOMS, [], [1, "x"], [["a", 1], ["b", "x"]], [{"a": 1, "b": "x"}])

    def test_without_names(self):
        self.is_one({"record": {}}, {})
        self.is_none({"record": {}}, {"a": 1}, {"a": {}}, [], [{}], *ALL_ATOMS)

    def test_names_that_kinds_have_not(self):
        for name in ("A", "list", "a b", "\u00e9", "\x00", "a\x00", "#97;", "a" * 65, "a" * 255, "aa"):
            self.is_none(record_of(a="number"), {name: 1}, {name: 1, "a": 1})

    def test_names_of_values_that_look_like_others(self):
        for name in ("\x00", "#0;", "\u00e9", "#195;#169;"):
            self.is_none({"record": {"a0": "number"}}, {name: 1})

    def test_longest_name(self):
        self.is_one({"record": {"a" * 64: "number"}}, {"a" * 64: 1})
        self.is_none({"record": {"a" * 64: "number"}}, {"a" * 65: 1}, {"a" * 63: 1}, {"a" * 63 + "b": 1})

    def test_many_names(self):
        names = [f"n{number}" for number in range(300)]
        kind, value = {"record": dict.fromkeys(names, "number")}, dict.fromkeys(names, 1)
        self.is_one(kind, value)
        for name in names[::60]:
            self.is_none(kind, {**value, name: "x"}, {other: 1 for other in names if other != name})

    def test_within_one_another(self):
        kind = record_of(a=record_of(b=list_of(record_of(c="id"))), d=list_of(record_of()))
        self.is_one(kind, {"a": {"b": []}, "d": []}, {"a": {"b": [{"c": Id(1)}, {"c": Id(2)}]}, "d": [{}, {}]})
        self.is_none(kind, {"a": {"b": [{"c": Id(1)}, {"c": 2}]}, "d": [{}, {}]},
                     {"a": {"b": [{"c": Id(1)}, {}]}, "d": []}, {"a": {"b": [{"c": Id(1), "d": 0}]}, "d": []},
                     {"a": {"b": []}, "d": [{}, {"a": 1}]}, {"a": {"b": {}}, "d": []}, {"a": [], "d": []},
                     {"a": {}, "d": []}, {"a": {"b": []}, "d": {}}, {"a": {"b": []}}, {"d": []})


class TestSorts(FitsCase):
    def test_of_plain_kinds(self):
        for name, word in (("time", "moment"), ("key", "id"), ("raw_", "bytes"), ("said", "yesno"), ("amount", "text")):
            kind = of_module(name, "other")
            self.is_one(kind, *ATOMS[word])
            self.is_none(kind, [], {}, *others_than(word))

    def test_of_one_name_in_several_modules(self):
        self.is_one(of_module("amount", "base"), 5, 0, -5)
        self.is_none(of_module("amount", "base"), "x", [5])
        self.is_one(of_module("amount", "other"), "x")
        self.is_none(of_module("amount", "other"), 5, ["x"])
        self.is_one(record_of(a=of_module("amount", "base"), b=of_module("amount", "other")), {"a": 5, "b": "x"})
        self.is_none(record_of(a=of_module("amount", "base"), b=of_module("amount", "other")), {"a": "x", "b": 5})

    def test_declared_as_sorts(self):
        for name in ("amount", "again", "third"):
            self.is_one(of_module(name, "base"), 5, -5)
            self.is_none(of_module(name, "base"), "x", [], [5], {}, {name: 5})
        self.is_one(of_module("name", "other"), "x")
        self.is_none(of_module("name", "other"), 5)

    def test_declared_as_lists_of_sorts(self):
        self.is_one(of_module("amounts", "base"), [], [5], [5, 6, -7])
        self.is_none(of_module("amounts", "base"), 5, ["x"], [5, "x"], [[5]], {})

    def test_declared_as_records_of_sorts(self):
        kind = of_module("person", "user")
        self.is_one(kind, {"a": [], "n": "x"}, {"a": [5, 6], "n": ""})
        self.is_none(kind, {"a": ["x"], "n": "x"}, {"a": [5], "n": 5}, {"a": 5, "n": "x"}, {"n": "x"}, {"a": []}, {},
                     {"a": [], "m": 0, "n": "x"}, [], "x", [{"a": [], "n": "x"}])
        self.is_one(of_module("none", "user"), {})
        self.is_none(of_module("none", "user"), [], {"a": 1})

    def test_declared_as_lists_of_lists_of_records(self):
        person = {"a": [5], "n": "x"}
        self.is_one(of_module("group", "user"), [], [person], [person, person])
        self.is_none(of_module("group", "user"), person, [[person]], [person, {"a": [5], "n": 1}])
        self.is_one(of_module("groups", "user"), [], [[]], [[person], [], [person, person]])
        self.is_none(of_module("groups", "user"), [person], [[person], [{}]])

    def test_declared_as_kinds_without_sorts(self):
        kind = of_module("text_", "user")
        self.is_one(kind, {"a": "x", "b": []}, {"a": "x", "b": ["y", ""]})
        self.is_none(kind, {"a": "x", "b": [1]}, {"a": "x"})

    def test_in_the_midst_of_a_kind(self):
        kind = list_of(record_of(a=list_of(of_module("again", "base")), b=of_module("amount", "other")))
        self.is_one(kind, [], [{"a": [], "b": "x"}], [{"a": [5, 6], "b": "x"}, {"a": [7], "b": ""}])
        self.is_none(kind, [{"a": ["x"], "b": "x"}], [{"a": [5, 6], "b": "x"}, {"a": [7], "b": 7}])
        for around, value in zip(around_kinds(of_module("name", "user")), (
                ["x"], {"a": "x"}, {"a": "x", "b": "x", "c": []}, [{"a": [["x"]]}])):
            self.is_one(around, value)
        for around, value in zip(around_kinds(of_module("name", "user")), (
                [5], {"a": 5}, {"a": "x", "b": 5, "c": []}, [{"a": [[5]]}])):
            self.is_none(around, value)

    def test_sorts_that_nothing_in_the_program_names(self):
        program = alone(sort("s", "number"), sort("t", "text"))
        self.is_one(of_module("t"), "x", program=program)
        self.is_none(of_module("t"), 5, program=program)
        self.is_one(of_module("s"), 5, program=program)

    def test_sorts_of_clauses_and_funs_alone(self):
        program = alone(sort("s", "number"), rule("r", a=of_sort("s")), clause("r", [call("s", ONE)]),
                        slot(val("x"), call("raw", call("s", ONE))))
        self.is_one(of_module("s"), 5, program=program)
        self.is_none(of_module("s"), "x", program=program)

    def test_the_last_of_64_modules(self):
        program = [module("m0", [], sort("s", "number"))]
        for number in range(1, 64):
            program.append(module(f"m{number}", [f"m{number - 1}"], sort(f"s{number}", of_sort(
                "s" if number == 1 else f"s{number - 1}"))))
        self.is_one(of_module("s63", "m63"), 5, program=program)
        self.is_none(of_module("s63", "m63"), "x", program=program)
        self.no_kind(of_module("s62", "m63"), 5, program=program)
        self.no_kind(of_module("s64", "m64"), 5, program=program)

    def test_a_long_way_of_sorts(self):
        decls = [sort("s0", "number")]
        for number in range(1, 3000):
            decls.append(sort(f"s{number}", of_sort(f"s{number - 1}")))
        program = alone(*decls)
        self.is_one(of_module("s2999"), 5, program=program)
        self.is_none(of_module("s2999"), "x", program=program)
        self.is_one(list_of(of_module("s2999")), [5] * 2000, program=program)

    def test_sorts_that_are_large_when_told_in_full(self):
        decls = [sort("s0", list_of("number"))]
        for number in range(1, 60):
            inner = of_sort(f"s{number - 1}")
            decls.append(sort(f"s{number}", list_of(record_of(a=inner, b=inner))))
        program = alone(*decls)
        self.is_one(of_module("s59"), [], [{"a": [], "b": []}], program=program)
        self.is_none(of_module("s59"), [{"a": [], "b": [5]}], [{"a": []}], program=program)


class TestDeepOnes(FitsCase):
    def test_as_deep_as_a_value_may_be(self):
        for inner, value, other in (("text", "x", 5), (of_module("name", "user"), "x", 5)):
            lists = 63 if isinstance(inner, str) else 62
            kind = nested(inner, lists, list_of)
            self.is_one(kind, nested(value, lists, lambda one: [one]), nested([], lists - 1, lambda one: [one]))
            self.is_none(kind, nested(other, lists, lambda one: [one]), nested(value, lists - 1, lambda one: [one]))
        self.is_one(nested("text", 31, lambda one: record_of(a=one)), nested("x", 31, lambda one: {"a": one}))
        self.is_none(nested("text", 31, lambda one: record_of(a=one)), nested(5, 31, lambda one: {"a": one}),
                     nested("x", 32, lambda one: {"a": one}))

    def test_values_deeper_than_kinds(self):
        deep = nested([], 63, lambda one: [one])
        self.is_none("text", deep)
        self.is_none(list_of("text"), deep)
        self.is_none(EMPTY, deep)

    def test_through_sorts_as_deep_as_a_value_may_be(self):
        decls = [sort("s0", "text")] + [sort(f"s{at}", list_of(of_sort(f"s{at - 1}"))) for at in range(1, 70)]
        program = alone(*decls)
        self.is_one(of_module("s63"), nested("x", 63, lambda one: [one]), program=program)
        self.is_none(of_module("s63"), nested(5, 63, lambda one: [one]), nested("x", 62, lambda one: [one]),
                     program=program)
        self.is_one(of_module("s69"), nested([], 63, lambda one: [one]), program=program)

    def test_deeper_than_a_value_may_be(self):
        self.answered(SORTS, nested("text", 64, list_of), "x", -6)
        self.answered(SORTS, "text", nested("x", 64, lambda one: [one]), -6)
        self.answered(SORTS, nested(0, 64, list_of), nested("x", 64, lambda one: [one]), -6)


class TestNoKindOfTheProgram(FitsCase):
    def test_no_told_kinds(self):
        for kind in no_told_kinds():
            self.no_kind(kind, 0, [])

    def test_no_told_kinds_within_others(self):
        for value in no_told_kinds():
            for kind in around_kinds(value):
                self.no_kind(kind, [])

    def test_keywords(self):
        for word in KEYWORDS:
            self.no_kind({"record": {word: "number"}}, {word: 1}, program=BARE)
            self.no_kind(of_module(word), program=BARE)

    def test_sorts_told_as_in_trees(self):
        self.no_kind(of_sort("amount"))
        self.no_kind(list_of(of_sort("amount")))

    def test_a_sort_that_the_module_has_not(self):
        for name in ("a", "amoun", "amounts_", "person", "base", "number", "nothing"):
            self.no_kind(of_module(name, "base"))
        for name in ("amount", "again", "time", "known", "half", "pay", "user", "p", "n"):
            self.no_kind(of_module(name, "user"))

    def test_names_of_facts_rules_funs_and_actions(self):
        for name, home in (("paid", "base"), ("known", "user"), ("half", "user"), ("pay", "user")):
            self.no_kind(of_module(name, home))

    def test_sorts_that_a_module_only_sees(self):
        for name in ("amount", "again", "third", "amounts"):
            self.no_kind(of_module(name, "user"), 5, [])

    def test_a_module_that_is_not_there(self):
        for home in ("m", "bas", "basee", "amount", "use_r"):
            for name in ("amount", "again", "name", "s"):
                self.no_kind(of_module(name, home))

    def test_a_program_without_sorts(self):
        for program in (BARE, alone(fact("s", a="number")), [module("s", []), module("m", ["s"])]):
            self.no_kind(of_module("s"), program=program)
            self.no_kind(of_module("m", "s"), program=program)
            self.is_one(list_of("number"), [5], program=program)

    def test_anywhere_in_it(self):
        for kind in around_kinds(of_module("person", "base")):
            self.no_kind(kind)
        for kind in around_kinds(list_of(record_of(x=of_module("amount", "base"), y=of_module("amount", "user")))):
            self.no_kind(kind)

    def test_where_the_value_would_not_be_looked_at_so_far(self):
        gone = of_module("gone", "base")
        self.no_kind(list_of(gone), [], 5, "x", {})
        self.no_kind(record_of(a="number", b=gone), {"a": "x", "b": 5}, {"a": 5}, {}, {"b": 5}, [])
        self.no_kind(record_of(a=gone, b="number"), {"a": 5, "b": "x"}, {"b": "x"})
        self.no_kind(record_of(a=list_of(gone), b="nothing"), {"a": [], "b": 5})
        self.no_kind(list_of(list_of(gone)), [[]], [[], []], [5])
        self.no_kind(nested(gone, 62, list_of), [], 5)

    def test_no_told_kinds_where_the_value_would_not_be_looked_at_so_far(self):
        self.no_kind(record_of(a="number", b="numbers"), {"a": "x", "b": 5}, {"a": 5})
        self.no_kind(list_of("numbers"), [], 5)

    def test_long_kinds(self):
        for kind in (b"x" * 5000, "x" * 5000, 256 ** 4096 - 1, {"a" * 255: "text"}, {"record": {"a" * 255: "text"}}):
            self.no_kind(kind, 5)


class TestByChance(FitsCase):
    def a_kind(self, chance, level, homes):
        turn = chance.randrange(5 if level else 3)
        if turn < 2:
            return chance.choice(PLAIN)
        if turn == 2:
            home = chance.choice(sorted(homes))
            return of_module(chance.choice(sorted(homes[home])), home) if homes[home] else "text"
        if turn == 3:
            return list_of(self.a_kind(chance, level - 1, homes))
        names = chance.choice(["", "a", "ab", "bc"])
        return record_of(**{name: self.a_kind(chance, level - 1, homes) for name in names})

    def as_in_trees(self, kind):
        if isinstance(kind, str):
            return kind
        if "in" in kind:
            return of_sort(kind["sort"])
        if "list" in kind:
            return list_of(self.as_in_trees(kind["list"]))
        return {"record": {name: self.as_in_trees(part) for name, part in kind["record"].items()}}

    def some_modules(self, chance):
        """A program of two modules, the second of which uses the first, and what its sorts are declared as."""
        homes = {"one": {}, "two": {}}
        for home, names in (("one", "abcd"), ("two", "efgh")):
            for name in names:
                homes[home]["s" + name] = self.a_kind(chance, 2, homes)
        homes["three"] = {name: self.a_kind(chance, 1, {"three": {}}) for name in ("sa", "se")}
        program = [module(home, ["one"] if home == "two" else [], *[
            sort(name, self.as_in_trees(kind)) for name, kind in homes[home].items()]) for home in homes]
        return program, homes

    def one_of(self, chance, homes, kind):
        if isinstance(kind, str):
            return chance.choice(ATOMS[kind][:4])
        if "in" in kind:
            return self.one_of(chance, homes, homes[kind["in"]][kind["sort"]])
        if "list" in kind:
            return [self.one_of(chance, homes, kind["list"]) for _ in range(chance.randrange(3))]
        return {name: self.one_of(chance, homes, part) for name, part in kind["record"].items()}

    def is_said_anew(self, homes, kind, value):
        if isinstance(kind, str):
            return any(value is one for one in ATOMS[kind])
        if "in" in kind:
            return self.is_said_anew(homes, homes[kind["in"]][kind["sort"]], value)
        if "list" in kind:
            return isinstance(value, list) and all(self.is_said_anew(homes, kind["list"], one) for one in value)
        fields = kind["record"]
        return isinstance(value, dict) and set(value) == set(fields) and all(
            self.is_said_anew(homes, fields[name], value[name]) for name in fields)

    def changed(self, chance, homes, value):
        """A value that's another one somewhere."""
        if isinstance(value, list) and value and chance.randrange(4):
            at = chance.randrange(len(value))
            return value[:at] + [self.changed(chance, homes, value[at])] + value[at + 1:]
        if isinstance(value, dict) and value and chance.randrange(4):
            name = chance.choice(sorted(value))
            return {**value, name: self.changed(chance, homes, value[name])}
        return self.one_of(chance, homes, self.a_kind(chance, 1, homes))

    def test_as_said_anew(self):
        chance = random.Random(7)
        found = [0, 0]
        for _ in range(150):
            program, homes = self.some_modules(chance)
            codes = bytes_of(program)
            for _ in range(20):
                kind = self.a_kind(chance, 3, homes)
                value = self.one_of(chance, homes, kind)
                if chance.randrange(2):
                    value = self.changed(chance, homes, value)
                expected = int(self.is_said_anew(homes, kind, value))
                found[expected] += 1
                self.assertEqual(fits(codes, bytes_of(kind), bytes_of(value)), [expected], (program, kind, value))
        self.assertGreater(min(found), 700)


class TestRefusals(FitsCase):
    FAULTY = [alone(fact("p"), fact("p")), [module("m", ["x"])], alone(slot(val("x"), X)),
              alone(rule("p"), clause("p", [], negated(call("p")))), alone(sort("s", of_sort("t"))),
              [module("m", []), module("m", [])], [], [0], 5, module("m", []), alone(slot(val(1), ONE))]

    def test_a_program_that_is_not_taken(self):
        for program in self.FAULTY:
            for kind, value in (("number", 5), ("text", 5), (0, 5), (of_module("s"), 5), (of_module("x"), [])):
                self.answered(program, kind, value, -6)

    def test_a_program_s_bytes_that_are_no_value_s(self):
        for codes in no_values() + [bytes_of(SORTS)[:-1], bytes_of(SORTS) + [0]]:
            self.assertEqual(fits(codes, bytes_of("text"), bytes_of("x")), [-6])
            self.assertEqual(fits(codes, bytes_of(0), bytes_of("x")), [-6])

    def test_bytes_that_are_no_value_s(self):
        program = bytes_of(SORTS)
        for codes in no_values():
            for other in ("number", 5, "x", 0, [], of_module("gone")):
                self.assertEqual(fits(program, codes, bytes_of(other)), [-6], codes)
                self.assertEqual(fits(program, bytes_of(other), codes), [-6], codes)
            self.assertEqual(fits(program, codes, codes), [-6], codes)

    def test_all_at_once(self):
        program, no_program = bytes_of(SORTS), bytes_of(self.FAULTY[0])
        for codes in no_values():
            self.assertEqual(fits(no_program, codes, bytes_of(5)), [-6])
            self.assertEqual(fits(no_program, bytes_of(0), codes), [-6])
            self.assertEqual(fits(codes, codes, codes), [-6])
        self.assertEqual(fits(program, bytes_of(0), [9]), [-6])
        self.assertEqual(fits(program, [9], bytes_of(0)), [-6])

    def test_no_bytes(self):
        program, kind, value = bytes_of(SORTS), bytes_of("number"), bytes_of(5)
        for given in itertools.product(([], program), ([], kind), ([], value)):
            self.assertEqual(fits(*given), [1] if [] not in given else [-6])

    def test_a_program_too_long(self):
        kind, value = bytes_of("number"), bytes_of(5)
        for others in ((kind, value), ([], []), (bytes_of(0), value), ([9], [9])):
            self.assertEqual(fits([0] * 4194304, *others), [-6])
            self.assertEqual(fits([0] * 4194305, *others), [-2])

    def test_others_too_long(self):
        most, more = [0] * 16777216, [0] * 16777217
        program, kind, value = bytes_of(SORTS), bytes_of("number"), bytes_of(5)
        for codes, other in ((program, kind), (program, []), ([9], bytes_of(0)), ([], value)):
            self.assertEqual(fits(codes, other, most), [-6])
            self.assertEqual(fits(codes, most, other), [-6])
            self.assertEqual(fits(codes, other, more), [-2])
            self.assertEqual(fits(codes, more, other), [-2])
        self.assertEqual(fits(most, more, more), [-2])
        self.assertEqual(fits(more, most, most), [-2])

    def test_kinds_and_values_longer_than_a_program_may_be(self):
        text = [4] + varying(4194304) + [97] * 4194304
        program = bytes_of(SORTS)
        self.assertEqual(fits(program, bytes_of("text"), text), [1])
        self.assertEqual(fits(program, bytes_of("number"), text), [0])
        self.assertEqual(fits(program, text, bytes_of("x")), [-5])


class TestOneList(FitsCase):
    def test_one_list_twice_or_thrice(self):
        program = bytes_of(SORTS)
        for value in ("text", "number", "nothing", 0, [], SORTS, EMPTY, of_module("gone")):
            codes = bytes_of(value)
            for given, again in (((program, codes, codes), (list(program), list(codes), list(codes))),
                                 ((codes, codes, codes), (list(codes), list(codes), list(codes))),
                                 ((codes, bytes_of("text"), codes), (list(codes), bytes_of("text"), list(codes))),
                                 ((codes, codes, bytes_of(5)), (list(codes), list(codes), bytes_of(5)))):
                self.assertEqual(fits(*given), fits(*again))
                self.assertEqual(given, again)

    def test_a_kind_told_is_a_text(self):
        for word in PLAIN + ["nothing"]:
            codes = bytes_of(word)
            self.assertEqual(fits(bytes_of(SORTS), codes, codes), [int(word == "text")])

    def test_a_program_is_a_value(self):
        codes = bytes_of(BARE)
        kind = list_of(record_of(decls=EMPTY, name="text", uses=list_of("text")))
        self.assertEqual(fits(codes, bytes_of(kind), codes), [1])
        self.assertEqual(fits(codes, codes, codes), [-5])


class TestNothingChangedOrKept(NothingChangedOrKept, unittest.TestCase):
    def asked(self, program, kind, value):
        return fits(program, kind, value)

    def arguments(self):
        programs = [bytes_of(SORTS), bytes_of(BARE), bytes_of(alone(fact("p"), fact("p"))), []]
        kinds = ["text", "nothing", EMPTY, 0, of_module("amounts", "base"), of_module("amount", "base"),
                 record_of(a=of_module("person", "user"), b=list_of("id"))]
        values = [5, "x", [], [5], {"a": {"a": [5], "n": "x"}, "b": [Id(1)]}]
        told = [bytes_of(kind) for kind in kinds] + [[9]]
        given = [bytes_of(value) for value in values] + [[]]
        return [[list(one) for one in three] for three in itertools.product(programs, told, given)]

    def test_answers_of_each_form(self):
        self.assertEqual({fits(*given)[0] for given in self.arguments()}, {0, 1, -5, -6})


if __name__ == "__main__":
    unittest.main()
