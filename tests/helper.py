"""Trees written in short, their bytes, and what's asked of every call."""

import io
import unittest
from contextlib import redirect_stdout

from judgedrules.desk import check, kind


class Id:
    """An id: 32 bytes, all the same."""

    def __init__(self, code):
        self.codes = [code] * 32


class Moment:
    """A moment."""

    def __init__(self, number):
        self.number = number


def varying(number):
    codes = []
    while number > 127:
        codes.append(number % 128 + 128)
        number //= 128
    return codes + [number]


def put(value, codes, places, path):
    """Put a value's bytes behind the others, and its place and those of all in it into places."""
    places[path] = len(codes)
    if value is False or value is True:
        codes.append(int(value))
    elif isinstance(value, int):
        amount = list(abs(value).to_bytes((abs(value).bit_length() + 7) // 8, "little"))
        codes += [2] + varying(2 * len(amount) + (value < 0)) + amount
    elif isinstance(value, bytes):
        codes += [3] + varying(len(value)) + list(value)
    elif isinstance(value, str):
        told = list(value.encode())
        codes += [4] + varying(len(told)) + told
    elif isinstance(value, Moment):
        codes += [7] + list(value.number.to_bytes(8, "little", signed=True))
    elif isinstance(value, Id):
        codes += [8] + value.codes
    elif isinstance(value, (list, tuple)):
        codes += [5] + varying(len(value))
        for number, member in enumerate(value):
            put(member, codes, places, path + (number,))
    else:
        codes += [6] + varying(len(value))
        for name in sorted(value, key=str.encode):
            codes += varying(len(name.encode())) + list(name.encode())
            put(value[name], codes, places, path + (name,))


def bytes_of(value):
    codes = []
    put(value, codes, {}, ())
    return codes


class Bytes:
    """Bytes of a value that's told, gone through from the front."""

    def __init__(self, codes):
        self.codes = codes
        self.at = 0

    def take(self, count):
        self.at += count
        return bytes(self.codes[self.at - count:self.at])

    def varying(self):
        code = self.take(1)[0]
        return code if code < 128 else code - 128 + 128 * self.varying()

    def value(self):
        """The value of a told kind or program: numbers, texts, lists and records alone."""
        kind = self.take(1)[0]
        size = self.varying()
        if kind == 2:
            return int.from_bytes(self.take(size // 2), "little")
        if kind == 4:
            return self.take(size).decode()
        if kind == 5:
            return [self.value() for _ in range(size)]
        return {self.take(self.varying()).decode(): self.value() for _ in range(size)}


PLAIN = ["yesno", "number", "bytes", "text", "moment", "id"]
KEYWORDS = """module use sort fact rule fun action allow deny must slot if then else not and or like in of list count
sum least greatest over from by prev yes no yesno number bytes text moment id""".split()
NAMES_NOT_TO_BE = ["", "A", "aB", "1a", "_a", "a-b", "a b", "a.b", "a\n", " a", "a" * 65, "\u00e9", "a\u0000", "a#",
                   "\U0001d51e", 0, 5, False, [], ["a"], {}, b"a", Id(97), Moment(1)] + KEYWORDS


def of_module(name, module_name="m"):
    """A sort's kind as it's told."""
    return {"in": module_name, "sort": name}


def around_kinds(kind):
    """Kinds with a kind somewhere within."""
    return [{"list": kind}, {"record": {"a": kind}}, {"record": {"a": "text", "b": kind, "c": {"list": "id"}}},
            {"list": {"record": {"a": {"list": {"list": kind}}}}}]


def no_told_kinds():
    """Values that are no told kinds, none of them with another in it."""
    found = [False, True, 0, 5, -1, b"text", b"", Moment(0), Id(1), [], ["text"], [{"list": "text"}], {}]
    found += ["", "Text", "text ", "textt", "tex", "none", "anything", "sort", "list", "record", "yes", "no", "prev",
              "\u0000", "nothing ", "Nothing", "noth", "#116;ext", "t\u00e9xt"]
    found += [{"text": "text"}, {"kind": "text"}, {"lis": "text"}, {"lists": "text"}, {"List": "text"}]
    found += [{"list": "text", "record": {}}, {"list": "text", "z": "text"}, {"a": "text", "list": "text"},
              {"record": {"a": "text"}, "z": 0}, {"list": "text", "of": "text"}, {"records": {}},
              {"nothing": "nothing"}]
    found += [{"record": one} for one in ("text", "", 0, False, [], ["text"], [["a", "text"]], b"", Id(2), Moment(2))]
    found += [{"sort": "s"}, {"in": "m"}, {"in": "m", "name": "s"}, {"in": "m", "of": "s"}, {"on": "m", "sort": "s"},
              {"in": "m", "sort": "s", "a": "text"}, {"in": "m", "sort": "s", "z": "text"}, {"in": "m", "sorts": "s"},
              {"in": "m", "sort": "s", "list": "text"}, {"module": "m", "sort": "s"},
              {"sort": {"in": "m", "sort": "s"}}]
    found += [of_module(name) for name in NAMES_NOT_TO_BE] + [of_module("s", name) for name in NAMES_NOT_TO_BE]
    for name in NAMES_NOT_TO_BE:
        if isinstance(name, str) and name:
            found += [{"record": {name: "text"}}, {"record": {"b": "text", name: {"list": "nothing"}}}]
    return found


def no_values():
    """Bytes that are no value's, for each of the faults of bytes."""
    text, whole = bytes_of("text"), bytes_of({"list": "text"})
    found = [[], text[:-1], whole[:-1], whole[:1], [5, 2, 0], [7] + [0] * 7, [8] + [0] * 31]
    found += [[9], [255], [5, 1, 9], [6, 1, 4] + list(b"list") + [9], [5, 255, 255, 255, 255, 15]]
    found += [[4, 132, 0] + list(b"text"), [5, 255, 255, 255, 255, 16], [5, 128, 128, 128, 128, 128]]
    found += [[2] + varying(2 * 4097) + [1] * 4097, [2, 2, 0], [2, 4, 1, 0], [2, 1]]
    found += [[4, 1, 128], [4, 2, 194, 97], [4, 1, 194], [4, 3, 237, 160, 128], [6, 1, 1, 255, 0]]
    found += [[6, 1, 0, 0], [6, 1] + varying(256) + [97] * 256 + [0], [6, 2, 1, 98, 0, 1, 97, 0],
              [6, 2, 1, 97, 0, 1, 97, 0]]
    found += [[5, 1] * 64 + [0], [6, 1, 1, 97] * 64 + [4, 0], bytes_of({"list": 0})[:-2] * 64 + text]
    found += [text + [0], text + text, whole + [255]]
    return found


def place_in(value, *path):
    places = {}
    put(value, [], places, ())
    return places[path]


class CheckCase(unittest.TestCase):
    """A test of what check says of programs."""

    def taken(self, program, rules):
        self.assertEqual(check(bytes_of(program)), [rules])

    def told(self, program, kind, *path):
        self.assertEqual(check(bytes_of(program)), [-6, kind, place_in(program, *path)])

    def kind_told(self, program):
        """The kind of a program's fault; 0 of one that's taken."""
        answer = check(bytes_of(program))
        return answer[1] if len(answer) == 3 else 0


class KindCase(unittest.TestCase):
    """A test of the kinds of what stands in programs."""

    def is_of(self, as_told, program, *path):
        self.assertEqual(kind(place_in(program, *path), bytes_of(program)), [0] + bytes_of(as_told), (program, path))

    def none_at(self, program, *path):
        self.assertEqual(kind(place_in(program, *path), bytes_of(program)), [-4], (program, path))


class Frozen(list):
    """A list that can't be changed, not for a while either."""

    def changed(self, *words):
        raise AssertionError("changed")

    append = extend = insert = pop = remove = clear = sort = reverse = changed
    __setitem__ = __delitem__ = __iadd__ = __imul__ = changed


class NothingChangedOrKept:
    """Tests of a call, `asked`, with each of the arguments that `arguments` gives anew."""

    def test_what_is_handed_in_is_the_same_after(self):
        for given, before in zip(self.arguments(), self.arguments()):
            self.asked(*given)
            self.assertEqual(given, before)

    def test_what_is_handed_in_is_not_changed_for_a_while(self):
        for given in self.arguments():
            frozen = [Frozen(one) if isinstance(one, list) else one for one in given]
            self.assertEqual(self.asked(*frozen), self.asked(*given))

    def test_a_second_call_answers_the_same(self):
        first = [self.asked(*given) for given in self.arguments()]
        again = [self.asked(*given) for given in reversed(self.arguments())]
        self.assertEqual(first, again[::-1])

    def test_each_answer_is_its_own_list(self):
        for given in self.arguments():
            answer = self.asked(*given)
            before = list(answer)
            answer.append(5)
            self.assertEqual(self.asked(*given), before)

    def test_whole_numbers_alone(self):
        for given in self.arguments():
            answer = self.asked(*given)
            self.assertIs(type(answer), list)
            self.assertEqual({type(number) for number in answer}, {int})

    def test_it_prints_nothing(self):
        printed = io.StringIO()
        with redirect_stdout(printed):
            for given in self.arguments():
                self.asked(*given)
        self.assertEqual(printed.getvalue(), "")


def expression_paths(program):
    """The paths of all nodes that have kinds, in a program whose facts and rules have no fun's or sort's name."""
    atoms = [decl[form] for one in program for decl in one["decls"] for form in ("fact", "rule") if form in decl]
    for number, one in enumerate(program):
        for at, decl in enumerate(one["decls"]):
            where = (number, "decls", at)
            for key in ("args", "if"):
                for place, node in enumerate(decl.get(key, [])):
                    yield from (paths_in_literal if key == "if" else paths_in)(atoms, node, where + (key, place))
            for key in ("body", "by", "from", "slot", "to", "what"):
                if key in decl:
                    yield from paths_in(atoms, decl[key], where + (key,))


def paths_in_literal(atoms, node, path):
    """The paths in a body's member."""
    inner = node.get("not", node) if isinstance(node, dict) else node
    if isinstance(inner, dict) and inner.get("call") in atoms:
        path += ("not", "args") if inner is not node else ("args",)
        for place, part in enumerate(inner["args"]):
            yield from paths_in(atoms, part, path + (place,))
    else:
        yield from paths_in(atoms, node, path)


def paths_in(atoms, node, path):
    """An expression's path and those of all in it."""
    yield path
    if node == "prev" or "value" in node or "var" in node:
        return
    for key, part in node.items():
        if key in ("compare", "call", "field", "all"):
            continue
        if key in ("count", "over"):
            for place, literal in enumerate(part):
                yield from paths_in_literal(atoms, literal, path + (key, place))
        elif key in ("sum", "product"):
            yield from paths_in(atoms, part[0], path + (key, 0))
            for place, pair in enumerate(part[1:], 1):
                yield from paths_in(atoms, pair[1], path + (key, place, 1))
        elif key == "record" or isinstance(part, list):
            for place, inner in part.items() if key == "record" else enumerate(part):
                yield from paths_in(atoms, inner, path + (key, place))
        else:
            yield from paths_in(atoms, part, path + (key,))


def module(name, uses, *decls):
    return {"decls": list(decls), "name": name, "uses": list(uses)}


def alone(*decls):
    """A program of one module."""
    return [module("m", [], *decls)]


def sort(name, kind):
    return {"kind": kind, "sort": name}


def pairs(params):
    return [[name, kind] for name, kind in params.items()]


def fact(name, **params):
    return {"fact": name, "params": pairs(params)}


def rule(name, **params):
    return {"params": pairs(params), "rule": name}


def action(name, **params):
    return {"action": name, "params": pairs(params)}


def fun(name, params, kind, body):
    return {"body": body, "fun": name, "kind": kind, "params": pairs(params)}


def fun_from(name, params, kind, start, by):
    return {"by": by, "from": start, "fun": name, "kind": kind, "params": pairs(params)}


def clause(name, args, *body):
    return {"args": list(args), "clause": name, "if": list(body)}


def allow(name, args, *body):
    return {"allow": name, "args": list(args), "if": list(body)}


def deny(name, args, *body):
    return {"args": list(args), "deny": name, "if": list(body)}


def must(name, args, what, *body):
    return {"args": list(args), "if": list(body), "must": name, "what": what}


def slot(name, to, *body):
    return {"if": list(body), "slot": name, "to": to}


def list_of(kind):
    return {"list": kind}


def record_of(**kinds):
    return {"record": kinds}


def of_sort(name):
    return {"sort": name}


def val(value):
    return {"value": value}


def var(name):
    return {"var": name}


def call(name, *args):
    return {"args": list(args), "call": name}


def lst(*members):
    return {"list": list(members)}


def rec(**members):
    return {"record": members}


def field(of, name):
    return {"field": name, "of": of}


def index(of, at):
    return {"at": at, "of": of}


def cond(asked, then, otherwise):
    return {"else": otherwise, "if": asked, "then": then}


def any_of(*parts):
    return {"or": list(parts)}


def all_of(*parts):
    return {"and": list(parts)}


def negated(part):
    return {"not": part}


def minus(part):
    return {"minus": part}


def compare(sign, left, right):
    return {"compare": sign, "left": left, "right": right}


def equal(left, right):
    return compare("=", left, right)


def within(left, right):
    return compare("in", left, right)


def chain(word, first, signs_and_parts):
    rest = [[signs_and_parts[at], signs_and_parts[at + 1]] for at in range(0, len(signs_and_parts), 2)]
    return {word: [first] + rest}


def added(first, *signs_and_parts):
    return chain("sum", first, signs_and_parts)


def multiplied(first, *signs_and_parts):
    return chain("product", first, signs_and_parts)


def count(*over):
    return {"count": list(over)}


def gather(word, of, *over):
    return {"all": word, "of": of, "over": list(over)}


X, Y, Z, N, M = var("X"), var("Y"), var("Z"), var("N"), var("M")
ONE = val(1)
EDGE = fact("edge", a="text", b="text")
