"""Trees written in short, their bytes, and what check says of them."""

import unittest

from judgedrules.desk import check


class Id:
    """An id: 32 bytes, all the same."""

    def __init__(self, code):
        self.codes = [code] * 32


class Moment:
    """A moment."""

    def __init__(self, number):
        self.number = number


def varying(number):
    codes = []
    while number > 127:
        codes.append(number % 128 + 128)
        number //= 128
    return codes + [number]


def put(value, codes, places, path):
    """Put a value's bytes behind the others, and its place and those of all in it into places."""
    places[path] = len(codes)
    if value is False or value is True:
        codes.append(int(value))
    elif isinstance(value, int):
        amount = list(abs(value).to_bytes((abs(value).bit_length() + 7) // 8, "little"))
        codes += [2] + varying(2 * len(amount) + (value < 0)) + amount
    elif isinstance(value, bytes):
        codes += [3] + varying(len(value)) + list(value)
    elif isinstance(value, str):
        told = list(value.encode())
        codes += [4] + varying(len(told)) + told
    elif isinstance(value, Moment):
        codes += [7] + list(value.number.to_bytes(8, "little", signed=True))
    elif isinstance(value, Id):
        codes += [8] + value.codes
    elif isinstance(value, (list, tuple)):
        codes += [5] + varying(len(value))
        for number, member in enumerate(value):
            put(member, codes, places, path + (number,))
    else:
        codes += [6] + varying(len(value))
        for name in sorted(value, key=str.encode):
            codes += varying(len(name.encode())) + list(name.encode())
            put(value[name], codes, places, path + (name,))


def bytes_of(value):
    codes = []
    put(value, codes, {}, ())
    return codes


class Bytes:
    """Bytes of a value that's told, gone through from the front."""

    def __init__(self, codes):
        self.codes = codes
        self.at = 0

    def take(self, count):
        self.at += count
        return bytes(self.codes[self.at - count:self.at])

    def varying(self):
        code = self.take(1)[0]
        return code if code < 128 else code - 128 + 128 * self.varying()

    def value(self):
        """The value of a told kind or program: numbers, texts, lists and records alone."""
        kind = self.take(1)[0]
        size = self.varying()
        if kind == 2:
            return int.from_bytes(self.take(size // 2), "little")
        if kind == 4:
            return self.take(size).decode()
        if kind == 5:
            return [self.value() for _ in range(size)]
        return {self.take(self.varying()).decode(): self.value() for _ in range(size)}


def place_in(value, *path):
    places = {}
    put(value, [], places, ())
    return places[path]


class CheckCase(unittest.TestCase):
    """A test of what check says of programs."""

    def taken(self, program, rules):
        self.assertEqual(check(bytes_of(program)), [rules])

    def told(self, program, kind, *path):
        self.assertEqual(check(bytes_of(program)), [-6, kind, place_in(program, *path)])

    def kind_told(self, program):
        """The kind of a program's fault; 0 of one that's taken."""
        answer = check(bytes_of(program))
        return answer[1] if len(answer) == 3 else 0


def module(name, uses, *decls):
    return {"decls": list(decls), "name": name, "uses": list(uses)}


def alone(*decls):
    """A program of one module."""
    return [module("m", [], *decls)]


def sort(name, kind):
    return {"kind": kind, "sort": name}


def pairs(params):
    return [[name, kind] for name, kind in params.items()]


def fact(name, **params):
    return {"fact": name, "params": pairs(params)}


def rule(name, **params):
    return {"params": pairs(params), "rule": name}


def action(name, **params):
    return {"action": name, "params": pairs(params)}


def fun(name, params, kind, body):
    return {"body": body, "fun": name, "kind": kind, "params": pairs(params)}


def fun_from(name, params, kind, start, by):
    return {"by": by, "from": start, "fun": name, "kind": kind, "params": pairs(params)}


def clause(name, args, *body):
    return {"args": list(args), "clause": name, "if": list(body)}


def allow(name, args, *body):
    return {"allow": name, "args": list(args), "if": list(body)}


def deny(name, args, *body):
    return {"args": list(args), "deny": name, "if": list(body)}


def must(name, args, what, *body):
    return {"args": list(args), "if": list(body), "must": name, "what": what}


def slot(name, to, *body):
    return {"if": list(body), "slot": name, "to": to}


def list_of(kind):
    return {"list": kind}


def record_of(**kinds):
    return {"record": kinds}


def of_sort(name):
    return {"sort": name}


def val(value):
    return {"value": value}


def var(name):
    return {"var": name}


def call(name, *args):
    return {"args": list(args), "call": name}


def lst(*members):
    return {"list": list(members)}


def rec(**members):
    return {"record": members}


def field(of, name):
    return {"field": name, "of": of}


def index(of, at):
    return {"at": at, "of": of}


def cond(asked, then, otherwise):
    return {"else": otherwise, "if": asked, "then": then}


def any_of(*parts):
    return {"or": list(parts)}


def all_of(*parts):
    return {"and": list(parts)}


def negated(part):
    return {"not": part}


def minus(part):
    return {"minus": part}


def compare(sign, left, right):
    return {"compare": sign, "left": left, "right": right}


def equal(left, right):
    return compare("=", left, right)


def within(left, right):
    return compare("in", left, right)


def chain(word, first, signs_and_parts):
    rest = [[signs_and_parts[at], signs_and_parts[at + 1]] for at in range(0, len(signs_and_parts), 2)]
    return {word: [first] + rest}


def added(first, *signs_and_parts):
    return chain("sum", first, signs_and_parts)


def multiplied(first, *signs_and_parts):
    return chain("product", first, signs_and_parts)


def count(*over):
    return {"count": list(over)}


def gather(word, of, *over):
    return {"all": word, "of": of, "over": list(over)}


X, Y, Z, N, M = var("X"), var("Y"), var("Z"), var("N"), var("M")
ONE = val(1)
EDGE = fact("edge", a="text", b="text")
