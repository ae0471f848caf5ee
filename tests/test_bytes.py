"""Values and their bytes: appendix A, and which values are programs at all."""

import itertools
import unittest

from helper import CheckCase, Id, Moment, alone, bytes_of, clause, equal, module, rule, val, varying
from judgedrules.desk import check


def is_utf_8(codes):
    try:
        return bytes(codes).decode() is not None
    except UnicodeDecodeError:
        return False


def goes_on_to(codes):
    """Where no UTF-8 goes on with what's read so far, whatever may come behind it."""
    for at in range(len(codes)):
        read = codes[:at + 1]
        if not any(is_utf_8(read + [tail] * many) for tail in (128, 191) for many in range(4)):
            return at
    return len(codes)


class BytesCase(unittest.TestCase):
    def told_at(self, codes, place):
        self.assertEqual(check(codes), [-6, 1, place], codes)

    def goes_on(self, codes):
        """What's good in itself, so that only what stands behind it is told."""
        self.told_at([5, 2] + codes + [9], 2 + len(codes))


class TestGoodValues(BytesCase):
    def test_atoms(self):
        for codes in ([0], [1], [2, 0], [2, 2, 7], [2, 3, 7], [2, 4, 0, 1], [3, 0], [3, 2, 0, 255], [4, 0],
                      [4, 1, 120], [7] + [255] * 8, [8] + [200] * 32):
            self.goes_on(codes)

    def test_lists_and_records(self):
        for codes in ([5, 0], [5, 2, 0, 1], [6, 0], [6, 1, 1, 97, 0], [6, 2, 1, 97, 0, 2, 97, 97, 0]):
            self.goes_on(codes)

    def test_varying_numbers(self):
        for count in (127, 128, 129, 16383, 16384):
            self.goes_on([3] + varying(count) + [0] * count)
            self.goes_on([5] + varying(count) + [0] * count)

    def test_longest_number(self):
        self.goes_on([2] + varying(2 * 4096) + [1] * 4096)
        self.goes_on([2] + varying(2 * 4096 + 1) + [1] * 4096)

    def test_longest_name(self):
        self.goes_on([6, 1] + varying(255) + [97] * 255 + [0])

    def test_64_deep(self):
        self.goes_on([5, 1] * 62 + [0])
        self.goes_on([6, 1, 1, 97] * 62 + [6, 0])


class TestFaultsOfBytes(BytesCase):
    def test_end_too_soon(self):
        for codes in ([], [5], [5, 1], [5, 2, 0], [5, 128], [5, 255, 255, 255, 255], [5, 1, 2], [5, 1, 2, 4, 1],
                      [5, 1, 3, 2, 0], [5, 1, 4, 3, 97, 97], [6], [6, 1], [6, 1, 2, 97], [6, 1, 1, 97],
                      [5, 1, 7] + [0] * 7, [5, 1, 8] + [0] * 31):
            self.told_at(codes, len(codes))

    def test_end_before_what_is_missing_is_looked_at(self):
        self.told_at([5, 1, 4, 2, 255], 5)
        self.told_at([5, 1, 2, 6, 0, 0], 6)
        self.told_at([6, 1, 2, 255], 4)

    def test_many_members_are_gone_through_one_by_one(self):
        self.told_at([5, 255, 255, 255, 255, 15], 6)
        self.told_at([5, 255, 255, 255, 255, 15, 0, 9], 7)
        self.told_at([6, 255, 255, 255, 255, 15, 1, 97, 0], 9)

    def test_kind_above_8(self):
        self.told_at([9], 0)
        self.told_at([255], 0)
        self.told_at([5, 2, 0, 9], 3)
        self.told_at([6, 1, 1, 97, 10], 4)

    def test_varying_numbers(self):
        self.told_at([5, 128, 0], 1)
        self.told_at([5, 255, 128, 0], 1)
        self.told_at([5, 255, 255, 255, 255, 16], 1)
        self.told_at([5, 128, 128, 128, 128, 16], 1)
        self.told_at([5, 255, 255, 255, 255, 128], 1)
        self.told_at([5, 255, 255, 255, 255, 143, 0], 1)
        self.told_at([5, 1, 4, 129, 0], 3)
        self.told_at([6, 1, 129, 0, 97, 0], 2)

    def test_numbers(self):
        self.told_at([5, 2, 2, 1, 9], 2)
        self.told_at([5, 2, 2, 2, 0, 9], 2)
        self.told_at([5, 2, 2, 5, 1, 0, 9], 2)
        self.told_at([5, 2, 0, 2] + varying(2 * 4097), 3)
        self.told_at([5, 1, 2] + varying(2 * 4097 + 1) + [1] * 4097, 2)

    def test_utf_8_that_is_good(self):
        for text in ("\x00\x7f", "\x80\u07ff", "\u0800\ud7ff\ue000\uffff", "\U00010000\U0010ffff"):
            self.goes_on(bytes_of(text))

    def test_utf_8(self):
        for codes, at in (([128], 0), ([97, 191], 1), ([192, 128], 0), ([193, 191], 0), ([245, 128, 128, 128], 0),
                          ([255], 0), ([194, 97], 1), ([194, 192], 1), ([224, 159, 191], 1), ([224, 160, 97], 2),
                          ([237, 160, 128], 1), ([240, 143, 191, 191], 1), ([244, 144, 128, 128], 1),
                          ([241, 128, 128, 97], 3), ([97, 194, 128, 128], 3)):
            self.told_at([5, 1, 4, len(codes)] + codes, 4 + at)

    def test_utf_8_as_it_goes_on_elsewhere(self):
        edges = [0, 97, 127, 128, 143, 144, 159, 160, 191, 192, 255]
        for lead in range(256):
            for further in itertools.product(edges, repeat=2):
                codes = [lead] + list(further) + [128]
                self.told_at([5, 2, 4, 4] + codes + [9], 4 + goes_on_to(codes))

    def test_utf_8_of_four_bytes(self):
        for lead in (239, 240, 241, 243, 244, 245):
            for further in itertools.product([127, 128, 143, 144, 191, 192], repeat=3):
                codes = [lead] + list(further)
                self.told_at([5, 2, 4, 4] + codes + [9], 4 + goes_on_to(codes))

    def test_utf_8_that_ends_too_soon(self):
        for codes in ([194], [224], [224, 160], [97, 240, 144, 128]):
            self.told_at([5, 2, 4, len(codes)] + codes + [128], 4 + len(codes))
            self.told_at([5, 1, 4, len(codes)] + codes, 4 + len(codes))

    def test_utf_8_of_names(self):
        self.told_at([6, 1, 2, 97, 128, 0], 4)
        self.told_at([6, 1, 1, 194, 0], 4)

    def test_names(self):
        self.told_at([6, 1, 0, 0], 2)
        self.told_at([6, 1] + varying(256), 2)
        self.told_at([6, 1] + varying(256) + [255] * 256, 2)
        self.told_at([6, 2, 1, 98, 0, 1, 97, 0], 5)
        self.told_at([6, 2, 1, 97, 0, 1, 97, 0], 5)
        self.told_at([6, 2, 2, 97, 97, 0, 1, 97, 0], 6)

    def test_names_are_compared_when_they_are_there_and_utf_8(self):
        self.told_at([6, 2, 1, 98, 0, 1], 6)
        self.told_at([6, 2, 1, 98, 0, 2, 97, 255, 0], 7)

    def test_65_deep(self):
        self.told_at([5, 1] * 64 + [0], 128)
        self.told_at([5, 1] * 64 + [5, 128, 0], 128)
        self.told_at([6, 1, 1, 97] * 64 + [4, 9], 256)
        self.told_at([5, 1] * 64 + [9], 128)

    def test_bytes_behind(self):
        self.told_at([5, 0, 0], 2)
        self.told_at([5, 0, 255], 2)
        self.told_at(bytes_of(alone()) + [0, 0], len(bytes_of(alone())))

    def test_the_first_from_the_front(self):
        self.told_at([5, 3, 2, 1, 9, 9], 2)
        self.told_at([5, 3, 0, 9, 2, 1], 3)


class TestPrograms(CheckCase):
    def test_no_list(self):
        for value in (False, 5, b"x", "text", Moment(1), Id(2), {}, module("m", [])):
            self.told(value, 1)

    def test_none_or_too_many_members(self):
        self.told([], 1)
        self.told([module(f"m{number}", []) for number in range(65)], 1)
        self.told([0] * 65, 1)

    def test_one_to_64_members(self):
        self.taken([module("m", [])], 0)
        self.taken([module(f"m{number}", []) for number in range(64)], 0)

    def test_too_long(self):
        self.assertEqual(check([0] * 4194305), [-2])
        self.assertEqual(check([0] * 4194304), [-6, 1, 1])

    def test_values_of_all_kinds(self):
        for value in (True, False, 0, 256 ** 4096 - 1, b"", b"x" * 300, "", "\U0010ffff%#", Moment(-2 ** 63), Id(255)):
            self.taken(alone(rule("p"), clause("p", [], equal(val(value), val(value)))), 1)


if __name__ == "__main__":
    unittest.main()
