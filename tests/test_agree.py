"""What agree answers: on which kind two told kinds agree."""

import itertools
import random
import unittest

from helper import (
    KEYWORDS, PLAIN, Bytes, Id, NothingChangedOrKept, around_kinds, bytes_of, no_told_kinds, no_values, of_module,
    varying,
)
from judgedrules.desk import agree

EMPTY = {"list": "nothing"}
NUMBERS, TEXTS = {"list": "number"}, {"list": "text"}
DIFFERENT = PLAIN + [
    {"list": "number"}, {"list": "text"}, {"list": {"list": "number"}}, {"list": {"record": {}}}, {"record": {}},
    {"record": {"a": "number"}}, {"record": {"a": "text"}}, {"record": {"b": "number"}}, {"record": {"a": NUMBERS}},
    {"record": {"a": "number", "b": "number"}}, {"record": {"a": "number", "b": "text"}},
    {"record": {"aa": "number"}}, of_module("a"), of_module("b"), of_module("a", "k"), of_module("m", "a"),
    {"list": of_module("a")}, {"list": of_module("a", "k")}, {"record": {"a": of_module("a")}},
]
DEEP = 63


def nested(kind, times, *forms):
    """A kind within so many lists and records, in turns."""
    for _, form in zip(range(times), itertools.cycle(forms)):
        kind = {"list": kind} if form == "list" else {"record": {form: kind}}
    return kind


def agreed(one, other):
    """On what two kinds agree, said anew: None, if they don't."""
    if one == "nothing" or other == "nothing":
        return one if other == "nothing" else other
    if isinstance(one, str) or isinstance(other, str) or set(one) != set(other) or "in" in one:
        return one if one == other else None
    if "list" in one:
        within = agreed(one["list"], other["list"])
        return None if within is None else {"list": within}
    fields, others = one["record"], other["record"]
    both = {name: agreed(fields[name], others[name]) for name in fields if name in others}
    return {"record": both} if set(fields) == set(others) and None not in both.values() else None


class AgreeCase(unittest.TestCase):
    def answered(self, one, other, answer):
        """What's answered of two, whichever is the first."""
        self.assertEqual(agree(bytes_of(one), bytes_of(other)), answer, (one, other))
        self.assertEqual(agree(bytes_of(other), bytes_of(one)), answer, (other, one))

    def on(self, one, other, both):
        self.answered(one, other, [0] + bytes_of(both))

    def not_alike(self, one, other):
        self.answered(one, other, [-9])


class TestAgreeing(AgreeCase):
    def test_the_bytes(self):
        self.assertEqual(agree([4, 4, *b"text"], [4, 4, *b"text"]), [0, 4, 4, *b"text"])
        self.assertEqual(agree([6, 1, 4, *b"list", 4, 7, *b"nothing"], [6, 1, 4, *b"list", 4, 2, *b"id"]),
                         [0, 6, 1, 4, *b"list", 4, 2, *b"id"])
        sort = [6, 2, 2, *b"in", 4, 1, *b"m", 4, *b"sort", 4, 2, *b"sx"]
        self.assertEqual(agree(sort, sort), [0] + sort)
        record = [6, 1, 6, *b"record", 6, 2, 1, *b"a", *sort, 2, *b"ab", 6, 1, 6, *b"record", 6, 0]
        self.assertEqual(agree([4, 7, *b"nothing"], record), [0] + record)

    def test_the_same(self):
        for kind in DIFFERENT + ["nothing", EMPTY, {"list": EMPTY}, {"record": {"a": "nothing", "b": EMPTY}}]:
            self.on(kind, kind, kind)

    def test_different_ones(self):
        for one, other in itertools.combinations(DIFFERENT, 2):
            self.not_alike(one, other)

    def test_nothing_with_each(self):
        for kind in DIFFERENT + [EMPTY, {"record": {"a": "nothing"}}, {"list": EMPTY}]:
            self.on("nothing", kind, kind)
            self.on(EMPTY, {"list": kind}, {"list": kind})
            self.on({"record": {"a": "nothing"}}, {"record": {"a": kind}}, {"record": {"a": kind}})

    def test_a_list_of_nothing_with_no_list(self):
        for kind in DIFFERENT:
            if "list" not in kind:
                self.not_alike(EMPTY, kind)

    def test_within_others(self):
        for one, other in itertools.product(DIFFERENT[:9] + [EMPTY, "nothing"], repeat=2):
            for around, around_other in zip(around_kinds(one), around_kinds(other)):
                both = agreed(one, other)
                if both is None:
                    self.not_alike(around, around_other)
                else:
                    place = around_kinds(one).index(around)
                    self.on(around, around_other, around_kinds(both)[place])

    def test_nothing_on_both_sides(self):
        self.on({"record": {"a": EMPTY, "b": NUMBERS}}, {"record": {"a": TEXTS, "b": EMPTY}},
                {"record": {"a": TEXTS, "b": NUMBERS}})
        self.on({"record": {"a": "nothing", "b": "nothing", "c": "id"}},
                {"record": {"a": "nothing", "b": "text", "c": "nothing"}},
                {"record": {"a": "nothing", "b": "text", "c": "id"}})
        self.on({"list": {"record": {"a": {"list": EMPTY}, "b": "nothing"}}},
                {"list": {"record": {"a": {"list": "nothing"}, "b": NUMBERS}}},
                {"list": {"record": {"a": {"list": EMPTY}, "b": NUMBERS}}})
        self.on({"record": {"a": {"record": {"b": "nothing", "c": of_module("s")}}, "d": NUMBERS}},
                {"record": {"a": {"record": {"b": of_module("t"), "c": "nothing"}}, "d": "nothing"}},
                {"record": {"a": {"record": {"b": of_module("t"), "c": of_module("s")}}, "d": NUMBERS}})

    def test_one_place_that_is_not_alike_is_enough(self):
        self.not_alike({"record": {"a": "nothing", "b": "text"}}, {"record": {"a": "text", "b": "number"}})
        self.not_alike({"record": {"a": "text", "b": "nothing"}}, {"record": {"a": "number", "b": "number"}})
        self.not_alike({"record": {"a": EMPTY, "b": EMPTY}}, {"record": {"a": NUMBERS, "b": "number"}})
        self.not_alike({"list": {"record": {"a": EMPTY}}}, {"list": {"record": {"a": {"record": {}}}}})

    def test_records_with_other_names(self):
        for names, others in (("a", ""), ("a", "b"), ("ab", "a"), ("ab", "ac"), ("ab", "abc"), ("abc", "acd")):
            for kind, other in itertools.product(["nothing", "text", EMPTY], repeat=2):
                self.not_alike({"record": dict.fromkeys(names, kind)}, {"record": dict.fromkeys(others, other)})

    def test_sorts_are_alike_by_module_and_name(self):
        self.on(of_module("s", "a"), of_module("s", "a"), of_module("s", "a"))
        self.not_alike(of_module("s", "a"), of_module("s", "b"))
        self.not_alike(of_module("s", "a"), of_module("t", "a"))
        self.not_alike(of_module("s", "t"), of_module("t", "s"))
        self.not_alike({"list": of_module("s", "a")}, {"list": of_module("s", "b")})
        self.on({"record": {"a": of_module("s", "a"), "b": "nothing"}},
                {"record": {"a": "nothing", "b": of_module("s", "b")}},
                {"record": {"a": of_module("s", "a"), "b": of_module("s", "b")}})

    def test_sorts_are_no_records(self):
        self.not_alike(of_module("s"), {"record": {"a": "text", "b": "text"}})
        self.not_alike(of_module("s"), {"record": {}})
        self.not_alike(of_module("s"), {"list": "text"})

    def test_names(self):
        for name in ("a", "z", "a1", "a_", "a_b_9", "nothing", "record", "in_", "len", "raw", "now", "decls", "a" * 64):
            self.on({"record": {name: EMPTY}}, {"record": {name: TEXTS}}, {"record": {name: TEXTS}})
            self.on(of_module(name), of_module(name), of_module(name))
            self.on(of_module("s", name), "nothing", of_module("s", name))

    def test_many_names(self):
        names = sorted(f"n{number}" for number in range(400))
        one = {"record": {name: "nothing" if at % 2 else "text" for at, name in enumerate(names)}}
        other = {"record": {name: "number" if at % 2 else "nothing" for at, name in enumerate(names)}}
        both = {"record": {name: "number" if at % 2 else "text" for at, name in enumerate(names)}}
        self.on(one, other, both)
        other["record"][names[7]] = "nothing"
        other["record"][names[-2]] = "number"
        self.not_alike(one, other)


class TestDeepKinds(AgreeCase):
    def test_as_deep_as_a_value_may_be(self):
        for forms, times in ((["list"], DEEP), (["a"], 31), (["list", "a"], 42)):
            self.on(nested("text", times, *forms), nested("text", times, *forms), nested("text", times, *forms))
            self.on(nested("nothing", times, *forms), nested("text", times, *forms), nested("text", times, *forms))
            self.not_alike(nested("id", times, *forms), nested("text", times, *forms))
            self.on("nothing", nested("id", times, *forms), nested("id", times, *forms))

    def test_a_record_without_names_and_a_sort_in_the_depth(self):
        for kind in ({"record": {}}, of_module("s")):
            self.on(nested(kind, DEEP - 1, "list"), nested("nothing", 40, "list"), nested(kind, DEEP - 1, "list"))

    def test_deeper_than_a_value_may_be(self):
        for kind in (nested("text", DEEP + 1, "list"), nested("text", 32, "a"), nested(of_module("s"), DEEP, "list"),
                     nested("text", 300, "list")):
            self.answered(kind, "text", [-6])
            self.answered(kind, 0, [-6])
            self.answered(kind, kind, [-6])


class TestByChance(AgreeCase):
    def a_kind(self, chance, level):
        turn = chance.randrange(4 if level else 2)
        if turn == 0:
            return chance.choice(["nothing", "text", "number"])
        if turn == 1:
            return chance.choice(["nothing", "id", of_module(chance.choice("st"), chance.choice("ab")), {"record": {}}])
        if turn == 2:
            return {"list": self.a_kind(chance, level - 1)}
        names = chance.choice(["a", "ab", "ab", "abc"])
        return {"record": {name: self.a_kind(chance, level - 1) for name in names}}

    def like_it(self, chance, kind):
        """A kind that has nothing at some places of a kind."""
        if chance.randrange(5) == 0:
            return "nothing" if chance.randrange(12) else "bytes"
        if isinstance(kind, str) or "in" in kind:
            return kind
        if "list" in kind:
            return {"list": self.like_it(chance, kind["list"])}
        return {"record": {name: self.like_it(chance, part) for name, part in kind["record"].items()}}

    def test_as_said_anew(self):
        chance = random.Random(5)
        agreeing = 0
        for _ in range(4000):
            kind = self.a_kind(chance, 4)
            one = self.like_it(chance, kind)
            other = self.like_it(chance, kind) if chance.randrange(5) else self.a_kind(chance, 4)
            both = agreed(one, other)
            agreeing += both is not None
            self.answered(one, other, [-9] if both is None else [0] + bytes_of(both))
        self.assertGreater(agreeing, 1000)
        self.assertLess(agreeing, 3600)

    def test_on_what_two_agree_each_agrees(self):
        chance = random.Random(6)
        for _ in range(600):
            kind = self.a_kind(chance, 4)
            one, other = self.like_it(chance, kind), self.like_it(chance, kind)
            answer = agree(bytes_of(one), bytes_of(other))
            if answer[0] == 0:
                both = Bytes(answer[1:]).value()
                self.on(one, both, both)
                self.on(other, both, both)
                self.on(both, both, both)


class TestNoToldKinds(AgreeCase):
    def test_each(self):
        for value in no_told_kinds():
            for kind in ("text", "nothing", EMPTY):
                self.answered(value, kind, [-5])
            self.answered(value, value, [-5])

    def test_two(self):
        values = no_told_kinds()
        for one, other in zip(values, values[7:]):
            self.answered(one, other, [-5])

    def test_within_kinds(self):
        for value in no_told_kinds():
            for kind in around_kinds(value):
                self.answered(kind, "nothing", [-5])
                self.answered(kind, kind, [-5])

    def test_where_it_would_not_be_looked_at_so_far(self):
        for value in (0, "texts", [], {"sort": "s"}):
            self.answered({"record": {"a": "text", "b": value}}, {"record": {"a": "number", "b": "text"}}, [-5])
            self.answered({"list": value}, {"record": {}}, [-5])
            self.answered({"list": value}, "number", [-5])
            self.answered({"record": {"a": "text", "b": value}}, {"record": {"a": "text"}}, [-5])

    def test_keywords_are_no_names(self):
        for word in KEYWORDS:
            self.answered({"record": {word: "text"}}, "nothing", [-5])
            self.answered(of_module(word), "nothing", [-5])
            self.answered(of_module("s", word), "nothing", [-5])

    def test_values_that_are_long_or_odd(self):
        for value in (256 ** 4096 - 1, -1, b"x" * 5000, "x" * 127, "x" * 128, "x" * 5000, ["text"] * 1500, Id(0),
                      {"a" * 255: "text"}, {"record": {"a" * 255: "text"}}, {"record": {"a": 0, "a" * 255: "text"}}):
            self.answered(value, "text", [-5])

    def test_deep_values(self):
        for value in (nested(5, DEEP, "list"), nested("txt", DEEP, "list"), nested({}, DEEP, "list")):
            self.answered(value, "nothing", [-5])


class TestNoValues(AgreeCase):
    def test_as_the_first_and_as_the_second(self):
        for codes in no_values():
            for other in [bytes_of(kind) for kind in ("text", "nothing", EMPTY)] + [codes]:
                self.assertEqual(agree(codes, other), [-6], codes)
                self.assertEqual(agree(other, codes), [-6], codes)

    def test_the_other_no_told_kind(self):
        for codes in no_values():
            for value in (0, "texts", [], {"sort": "s"}):
                self.assertEqual(agree(codes, bytes_of(value)), [-6], codes)
                self.assertEqual(agree(bytes_of(value), codes), [-6], codes)

    def test_two(self):
        for one, other in itertools.combinations(no_values(), 2):
            self.assertEqual(agree(one, other), [-6])

    def test_no_bytes(self):
        self.assertEqual(agree([], []), [-6])
        self.assertEqual(agree([], bytes_of("text")), [-6])
        self.assertEqual(agree(bytes_of(0), []), [-6])

    def test_each_beginning_of_a_kind(self):
        whole = bytes_of({"record": {"a": {"list": of_module("s")}, "b": EMPTY}})
        for size in range(len(whole)):
            self.assertEqual(agree(whole[:size], whole), [-6])
            self.assertEqual(agree(whole, whole[:size]), [-6])


class TestTooLong(AgreeCase):
    def test_too_long(self):
        most, more = [0] * 16777216, [0] * 16777217
        for other in (bytes_of("text"), bytes_of(0), [9], []):
            self.assertEqual(agree(most, other), [-6])
            self.assertEqual(agree(other, most), [-6])
            self.assertEqual(agree(more, other), [-2])
            self.assertEqual(agree(other, more), [-2])
        self.assertEqual(agree(more, more), [-2])
        self.assertEqual(agree(most, more), [-2])

    def test_longer_than_a_program_may_be(self):
        text = [4] + varying(4194304) + [97] * 4194304
        self.assertEqual(agree(text, bytes_of("text")), [-5])
        self.assertEqual(agree(bytes_of("text"), text), [-5])


class TestOneList(AgreeCase):
    def test_one_list_as_both(self):
        for value in DIFFERENT + [EMPTY, 0, "texts"]:
            codes = bytes_of(value)
            before = list(codes)
            answer = agree(codes, codes)
            self.assertEqual(codes, before)
            self.assertEqual(answer, agree(list(before), list(before)))


class TestNothingChangedOrKept(NothingChangedOrKept, unittest.TestCase):
    def asked(self, one, other):
        return agree(one, other)

    def arguments(self):
        kinds = [bytes_of(kind) for kind in ["nothing", EMPTY, 0, "texts", of_module("s", "s")] + DIFFERENT[4:11]]
        kinds += [[], [9], bytes_of(nested("nothing", 20, "list", "a")), bytes_of(nested("text", 20, "list", "a"))]
        return [[list(one), list(other)] for one, other in itertools.product(kinds, repeat=2)]

    def test_answers_of_each_form(self):
        self.assertEqual({agree(*given)[0] for given in self.arguments()}, {0, -5, -6, -9})


if __name__ == "__main__":
    unittest.main()
