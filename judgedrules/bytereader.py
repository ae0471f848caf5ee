"""Values read from their bytes, each with its place."""

from judgedrules.faults import NO_PROGRAM, Fault, need
from judgedrules.spelling import plain_signs, spelled
from judgedrules.utfeight import broken_at

NUMBER = 2
BYTES = 3
TEXT = 4
LIST = 5
RECORD = 6
MOMENT = 7
ID = 8
DEEPEST = 64
LARGEST_VARYING = 4294967295
LONGEST_NUMBER = 4096
LONGEST_RECORD_NAME = 255


class Raw:
    """A value as it lies in the bytes."""

    def __init__(self, kind, place):
        self.kind = kind
        self.place = place
        self.text = ""
        self.below = False
        self.names = []
        self.members = []
        self.last_codes = []
        self.missing = 0
        self.deep = 1


class Reader:
    """Goes through bytes from the front, and stops at the first that's wrong."""

    def __init__(self, codes):
        self.codes = codes
        self.at = 0
        self.signs = plain_signs()

    def take(self, count):
        """Go past so many bytes; the place of the first of them."""
        need(count <= len(self.codes) - self.at, len(self.codes))
        self.at += count
        return self.at - count

    def varying(self):
        """A varying number; a sixth byte isn't looked at."""
        start = self.at
        number = 0
        for turn in range(5):
            code = self.codes[self.take(1)]
            number += (code & 127) << (7 * turn)
            if code < 128:
                need((code > 0 or turn == 0) and number <= LARGEST_VARYING, start)
                return number
        raise Fault(NO_PROGRAM, start)

    def begin(self, level):
        """A value's kind and what's behind it, up to a list's or record's members."""
        place = self.take(1)
        kind = self.codes[place]
        need(kind <= ID and level <= DEEPEST, place)
        raw = Raw(kind, place)
        if kind == NUMBER:
            raw.below = self.number_is_below(place)
        elif kind == BYTES:
            self.take(self.varying())
        elif kind == TEXT:
            raw.text = self.read_text(self.varying())
        elif kind == LIST or kind == RECORD:
            raw.missing = self.varying()
        elif kind == MOMENT:
            self.take(8)
        elif kind == ID:
            self.take(32)
        return raw

    def number_is_below(self, place):
        """Go past a number's size and amount; whether it is below 0."""
        size_and_sign = self.varying()
        size = size_and_sign >> 1
        need(size <= LONGEST_NUMBER and size_and_sign != 1, place)
        start = self.take(size)
        need(size == 0 or self.codes[start + size - 1] != 0, place)
        return size_and_sign & 1 == 1

    def read_text(self, count):
        """So many bytes of UTF-8, spelled."""
        start = self.take(count)
        broken = broken_at(self.codes, start, self.at)
        if broken is not None:
            raise Fault(NO_PROGRAM, broken)
        return spelled(self.signs, self.codes[start:self.at])

    def read_name(self, record):
        """The name of a record's next member, that must come behind the one before it."""
        start = self.at
        count = self.varying()
        need(1 <= count <= LONGEST_RECORD_NAME, start)
        record.names.append(self.read_text(count))
        codes = self.codes[self.at - count:self.at]
        need(record.last_codes < codes, start)
        record.last_codes = codes


def read_value(codes):
    """The value whose bytes these are."""
    reader = Reader(codes)
    whole = reader.begin(1)
    opened = [whole]
    while opened:
        current = opened[-1]
        if current.missing > 0:
            current.missing -= 1
            if current.kind == RECORD:
                reader.read_name(current)
            member = reader.begin(len(opened) + 1)
            current.members.append(member)
            opened.append(member)
        else:
            opened.pop()
            if opened:
                outer = opened[-1]
                outer.deep = max(outer.deep, current.deep + 1)
    need(reader.at == len(codes), reader.at)
    return whole
