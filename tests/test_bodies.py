import copy
import random
import unittest

from helpers import (SMALL, WORD, Found, change_of, end_body_of, fault_of, head_of, index_of,
                     some_presentation, steps, tags_of, told_content, told_end, told_head, told_index, told_tags)
from spoolbox.model.bodies import (end_body, head_body, index_body, read_content, read_end, read_head, read_index,
                                   read_tags, tags_body, unit_body)

TOP = 2 ** 40 - 1
BAD = ("BadBody", 0)
# All characters of a name, in rows of at most 32.
SIGNS = [chr(byte) for byte in range(32, 127) if byte != 37]
NAMES = ["", "x", "~" * 32] + ["".join(SIGNS[at:at + 32]) for at in range(0, len(SIGNS), 32)]
UNIT = (0, 1, [5], False)


def unit_at(number):
    return (number, 1, [], False)


def heads():
    """Presentations with no tracks, with 15 of them, and with everything at both ends of its range."""
    found = [(1, 0, [], []), (90000, TOP, [], []), (127, 128, [], [("a", "b")]), SMALL]
    found.append((128, 16383, [("", "a", [])], []))
    found.append((44100, 1, [("n" * 32, "abcdefghijklmnop", [unit_at(k) for k in range(300)])], []))
    found.append((1, 0, [("", "qrstuvwxyz", [UNIT])] * 15, []))
    found.append((1, 0, [(name, "k", [unit_at(k) for k in range(127 + at)]) for at, name in enumerate(NAMES)], []))
    return found


def cut_offs(body):
    return [body[:size] for size in range(len(body))]


class TestBody(unittest.TestCase):
    def check_bad(self, function, bodies, *args):
        for body in bodies:
            self.assertEqual(fault_of(function, body, *args), BAD, body)

    def check_as(self, function, told, body, *args):
        """The function takes a body as the reckoning of the helpers does."""
        try:
            expected = told(body, *args)
        except Found:
            self.assertEqual(fault_of(function, body, *args), BAD, body)
            return False
        self.assertEqual(function(body, *args), expected)
        return True

    def check_with_faults(self, function, told, bodies, seed):
        """Bodies with a byte changed, taken out or put in are taken as the helpers do."""
        chance = random.Random(seed)
        taken = 0
        for body in bodies:
            for _ in range(150):
                at = chance.randrange(len(body) + 1)
                more = [chance.choice((0, 1, 2, 97, 127, 128, 255))] * chance.randrange(2)
                taken += self.check_as(function, told, body[:at] + more + body[at + chance.randrange(2):])
        self.assertGreater(taken, 0)


class TestHead(TestBody):
    def test_written_out(self):
        tracks = [("ab", "c", [UNIT]), ("", "de", [])]
        body = head_body((1000, 0, tracks, [("key", "value")]))
        expected = [115, 112, 111, 111, 108, 1, 232, 7, 0, 2, 2, 97, 98, 1, 99, 1, 0, 2, 100, 101, 0]
        self.assertEqual(body, expected)
        self.assertEqual(read_head(expected), (1000, 0, [("ab", "c", 1), ("", "de", 0)]))

    def test_there_and_back(self):
        for presentation in heads():
            body = head_of(presentation)
            self.assertEqual(head_body(presentation), body)
            rows = [(name, kind, len(units)) for name, kind, units in presentation[2]]
            self.assertEqual(read_head(body), (presentation[0], presentation[1], rows))

    def test_cut_off_and_followed(self):
        for presentation in heads():
            body = head_of(presentation)
            self.check_bad(read_head, cut_offs(body) + [body + [byte] for byte in (0, 1, 97, 128)])

    def test_another_text(self):
        body = head_of(SMALL)
        for at in range(5):
            self.check_bad(read_head, [body[:at] + [byte] + body[at + 1:] for byte in (0, 32, 83, 120, 255)])
        self.check_bad(read_head, [list(b"SPOOL") + body[5:], body[5:], list(b"spools") + body[5:], body[1:]])

    def test_numbers_out_of_their_ranges(self):
        def head(number, ticks, skip, many):
            return list(b"spool") + number + ticks + skip + many
        self.assertEqual(read_head(head([1], [1], [0], [0])), (1, 0, []))
        self.assertEqual(read_head(head([1], steps(90000), steps(TOP), [0])), (90000, TOP, []))
        self.check_bad(read_head, [head([number], [1], [0], [0]) for number in (0, 2, 127)])
        self.check_bad(read_head, [head([1], steps(ticks), [0], [0]) for ticks in (0, 90001, 2 ** 32, TOP)])
        self.check_bad(read_head, [head([1], [1], skip, [0]) for skip in (steps(TOP + 1), [255] * 6, [255] * 7)])
        for many in (15, 16, 17):
            body = head([1], [1], [0], [many]) + [0, 1, 97, 0] * many
            if many == 15:
                self.assertEqual(read_head(body), (1, 0, [("", "a", 0)] * 15))
            else:
                self.check_bad(read_head, [body])

    def test_tracks_out_of_their_forms(self):
        def head(name, kind, units):
            return list(b"spool\1\1\0\1") + name + kind + units
        name, kind = [2, 97, 32], [1, 97]
        self.assertEqual(read_head(head(name, kind, steps(300))), (1, 0, [("a ", "a", 300)]))
        self.check_bad(read_head, [head(name, kind, steps(units)) for units in (301, 302, 4096, TOP)])
        self.check_bad(read_head, [head([33] + [97] * 33, kind, [0]), head(name, [17] + [97] * 17, [0])])
        self.check_bad(read_head, [head(steps(200) + [97] * 200, kind, [0]), head(name, [0], [0])])
        for byte in range(256):
            named = head([3, 97, byte, 97], kind, [0])
            if 32 <= byte <= 126 and byte != 37:
                self.assertEqual(read_head(named)[2], [("a" + chr(byte) + "a", "a", 0)])
            else:
                self.check_bad(read_head, [named])
            for at in range(3):
                word = [97] * at + [byte] + [98] * (2 - at)
                if 97 <= byte <= 122:
                    self.assertEqual(read_head(head(name, [3] + word, [0]))[2][0][1], bytes(word).decode("ascii"))
                else:
                    self.check_bad(read_head, [head(name, [3] + word, [0])])

    def test_a_number_with_more_bytes_than_it_needs(self):
        loose = (list(b"spool\x81\0\1\0\0"), list(b"spool\1\x81\0\0\0"), list(b"spool\1\1\x80\0\0"),
                 list(b"spool\1\1\0\x80\0"), list(b"spool\1\1\0\1\x80\0\1a\0"), list(b"spool\1\1\0\1\0\x81\0a\0"),
                 list(b"spool\1\1\0\1\0\1a\x80\0"))
        self.check_bad(read_head, loose)

    def test_with_faults(self):
        self.check_with_faults(read_head, told_head, [head_of(found) for found in heads()[:4]], 209)

    def test_nothing_is_modified_and_each_list_is_new(self):
        presentation = copy.deepcopy(SMALL)
        body = head_body(presentation)
        read_head(body)[2].clear()
        self.assertEqual(body, head_of(SMALL))
        head_body(presentation).clear()
        self.assertEqual(presentation, SMALL)
        self.assertEqual(len(read_head(body)[2]), 3)


class TestTags(TestBody):
    ONE = [("a", "")]
    SEVERAL = [("a", "x"), ("ab", "~ !"), ("b", "v" * 100), ("z" * 16, "")]

    def full(self, size):
        """Tags whose body has this many bytes."""
        tags = [("ab" + letter, "v" * 98) for letter in "abcdefghi"]
        return tags + [("b", "v" * (size - len(tags_of(tags)) - 3))]

    def test_written_out(self):
        self.assertEqual(tags_body([("a", "bc"), ("d", "")]), [2, 1, 97, 2, 98, 99, 1, 100, 0])
        self.assertEqual(read_tags([2, 1, 97, 2, 98, 99, 1, 100, 0]), [("a", "bc"), ("d", "")])

    def test_there_and_back(self):
        rows = ["".join(SIGNS), "v" * 100]
        found = [self.ONE, self.SEVERAL, SMALL[3], self.full(1000)] + [[("k", row)] for row in rows]
        # No more tags than these have room: each one takes at least three bytes.
        found.append([("a" + chr(97 + k // 26) + chr(97 + k % 26), "") for k in range(200)])
        for tags in found:
            body = tags_of(tags)
            self.assertEqual(tags_body(tags), body)
            self.assertEqual(read_tags(body), tags)

    def test_no_tags(self):
        self.check_bad(read_tags, [[0], [], [0, 0], [0, 1, 97, 0]])

    def test_cut_off_and_followed(self):
        for tags in (self.ONE, self.SEVERAL):
            body = tags_of(tags)
            self.check_bad(read_tags, cut_offs(body) + [body + [byte] for byte in (0, 1, 97)])
            self.check_bad(read_tags, [steps(number) + body[1:] for number in (0, len(tags) + 1, 200, TOP)])

    def test_the_order_of_the_keys(self):
        pairs = [("a", "a"), ("b", "a"), ("b", "b"), ("b", "aa"), ("ab", "a"), ("ba", "b"), ("aa", "b"), ("ab", "b")]
        for first in pairs:
            for second in pairs:
                taken = self.check_as(read_tags, told_tags, tags_of([first, second]))
                self.assertEqual(taken, first[0] < second[0])
        self.check_bad(read_tags, [tags_of(self.SEVERAL[::-1]), tags_of(self.SEVERAL + self.SEVERAL[-1:])])

    def test_keys_and_values_out_of_their_forms(self):
        self.check_bad(read_tags, [tags_of([(key, "v")]) for key in ("", "A", "a1", "a b", "z" * 17, "z" * 100)])
        self.check_bad(read_tags, [tags_of([("a", "v" * size)]) for size in (101, 102, 127, 128, 500)])
        for byte in range(256):
            for body in ([1, 1, byte, 0], [1, 1, 97, 1, byte], [1, 2, 97, byte, 0], [1, 1, 97, 2, byte, 98]):
                self.check_as(read_tags, told_tags, body)

    def test_the_size_of_the_body(self):
        for size in (1023, 1024, 1025, 1026):
            tags = self.full(size)
            body = tags_of(tags)
            self.assertEqual(len(body), size)
            if size <= 1024:
                self.assertEqual(read_tags(body), tags)
            else:
                self.check_bad(read_tags, [body])
        self.check_bad(read_tags, [tags_of(self.ONE) + [0] * 1100])

    def test_with_faults(self):
        loose = ([129, 0, 1, 97, 0], [1, 129, 0, 97, 0], [1, 1, 97, 128, 0])
        self.check_bad(read_tags, loose)
        self.check_with_faults(read_tags, told_tags, [tags_of(self.ONE), tags_of(self.SEVERAL)], 213)

    def test_nothing_is_modified_and_each_list_is_new(self):
        tags = list(self.SEVERAL)
        body = tags_body(tags)
        read_tags(body).clear()
        self.assertEqual((tags, body), (self.SEVERAL, tags_of(self.SEVERAL)))
        tags_body(tags).clear()
        self.assertEqual(tags_body(tags), body)
        self.assertEqual(read_tags(body), tags)


class TestIndex(TestBody):
    ONE = [(1, 300, 70)]
    MANY = [(k % 16, TOP - k * 2 ** 33, k * k) for k in range(99)] + [(15, TOP, TOP)]

    def test_written_out(self):
        self.assertEqual(index_body([]), [0])
        self.assertEqual(index_body(self.ONE), [1, 1, 172, 2, 70])
        self.assertEqual(index_body([(2, 0, 128), (1, 5, 6)]), [2, 2, 0, 128, 1, 1, 5, 6])
        self.assertEqual(read_index([2, 2, 0, 128, 1, 1, 5, 6]), [(2, 0, 128), (1, 5, 6)])

    def test_there_and_back(self):
        for entries in ([], self.ONE, self.MANY, self.MANY[:2], [(0, 0, 0)], [(0, 0, 0)] * 100):
            body = index_of(entries)
            self.assertEqual(index_body(entries), body)
            self.assertEqual(read_index(body), entries)

    def test_bad_bodies(self):
        for entries in ([], self.ONE, self.MANY):
            body = index_of(entries)
            self.check_bad(read_index, cut_offs(body) + [body + [byte] for byte in (0, 1, 128)])
        self.check_bad(read_index, [index_of([(1, 0, k) for k in range(many)]) for many in (101, 102, 128)])
        for track in (16, 17, 127, 128, TOP):
            self.check_bad(read_index, [index_of([(track, 0, 0)]), index_of([(1, 1, 1), (track, 0, 0)])])
        for wrong in (steps(2 ** 40), [255] * 5 + [127], [255] * 6 + [0], [128, 0], [129, 128, 0]):
            self.check_bad(read_index, [[1, 1] + wrong + [5], [1, 1, 5] + wrong, [1] + wrong + [5, 5]])
        self.check_bad(read_index, [[128, 0], [129, 0, 1, 1, 1]])

    def test_with_faults(self):
        bodies = [index_of(self.ONE), index_of(self.MANY[-7:]), index_of(self.MANY[:3])]
        self.check_with_faults(read_index, told_index, bodies, 211)

    def test_nothing_is_modified_and_each_list_is_new(self):
        entries = list(self.ONE)
        body = index_body(entries)
        read_index(body).clear()
        index_body(entries).clear()
        index_body([]).clear()
        read_index([0]).append(5)
        self.assertEqual((entries, body), (self.ONE, index_of(self.ONE)))
        self.assertEqual((index_body([]), read_index([0]), read_index(body)), ([0], [], self.ONE))


class TestEnd(TestBody):
    def test_there_and_back(self):
        self.assertEqual(end_body(300, 0x01020304), [172, 2, 4, 3, 2, 1])
        for count in (0, 1, 127, 128, 16384, WORD - 2, WORD - 1):
            for total in (0, 1, 255, 256, 0xEDB88320, 2 ** 31, WORD - 1):
                body = end_body_of(count, total)
                self.assertEqual(end_body(count, total), body)
                self.assertEqual(read_end(body), (count, total))

    def test_bad_bodies(self):
        for count in (0, 300, WORD - 1):
            body = end_body_of(count, 0x80818283)
            self.check_bad(read_end, cut_offs(body) + [body + [byte] for byte in (0, 1, 128)])
        self.check_bad(read_end, [end_body_of(count, 7) for count in (WORD, WORD + 1, TOP, TOP + 1)])
        self.check_bad(read_end, [[128, 0, 1, 2, 3, 4], [255] * 6 + [1, 2, 3, 4], [0] * 4, [0] * 6])

    def test_with_faults(self):
        self.check_with_faults(read_end, told_end, [end_body_of(5, 0), end_body_of(300, WORD - 1)], 212)

    def test_each_list_is_new(self):
        end_body(1, 2).clear()
        body = [1, 2, 0, 0, 0]
        read_end(body)
        self.assertEqual((end_body(1, 2), body), ([1, 2, 0, 0, 0], [1, 2, 0, 0, 0]))


class TestUnit(TestBody):
    CONTENTS = [[], [0], [1, 2, 3], [1, 2, 4], [7] * 130, [7] * 131, [255] * 200, list(range(200)), [1] + [7] * 199]

    def test_a_unit_that_does_not_lean(self):
        for content in self.CONTENTS:
            for before in [None] + self.CONTENTS:
                self.assertEqual(unit_body((5, 1, content, False), before), content)
            self.assertEqual(read_content(content, None), content)

    def test_written_out(self):
        self.assertEqual(unit_body((9, 1, [1, 2, 4], True), [1, 2, 3]), [2, 0, 4])
        self.assertEqual(unit_body((9, 1, [1, 9, 8, 3], True), [1, 2, 3]), [1, 1, 9, 8])
        self.assertEqual(unit_body((9, 1, [], True), []), [0, 0])
        self.assertEqual(unit_body((9, 1, [], True), [5]), [0, 0])
        self.assertEqual(unit_body((9, 1, [7] * 200, True), [7] * 200), [200, 1, 0])
        self.assertEqual(read_content([1, 1, 9, 8], [1, 2, 3]), [1, 9, 8, 3])

    def test_a_unit_that_leans_there_and_back(self):
        for before in self.CONTENTS:
            for content in self.CONTENTS:
                front, back, middle = change_of(before, content)
                body = steps(front) + steps(back) + middle
                self.assertEqual(unit_body((0, 1, content, True), before), body)
                self.assertEqual(read_content(body, before), content)

    def test_by_chance_there_and_back(self):
        chance = random.Random(210)
        for _ in range(50):
            for _, _, units in some_presentation(chance)[2]:
                before = None
                for unit in units:
                    body = unit_body(unit, before)
                    self.assertEqual(read_content(body, before if unit[3] else None), unit[2])
                    before = unit[2]

    def test_a_body_that_does_not_begin_with_two_numbers(self):
        for body in ([], [0], [128], [0, 128], [128, 0], [128, 0, 0], [0, 128, 0], [255] * 6 + [0], [0] + [255] * 6,
                     steps(2 ** 40) + [0], [0] + steps(2 ** 40)):
            self.check_bad(read_content, [body], [])
            self.check_bad(read_content, [body], [1, 2, 3])

    def test_front_plus_back_are_more_than_there_is(self):
        for before in self.CONTENTS:
            size = len(before)
            for front, back in ((size + 1, 0), (0, size + 1), (size, 1), (1, size), (TOP, TOP), (TOP, 0)):
                self.check_bad(read_content, [steps(front) + steps(back), steps(front) + steps(back) + [1]], before)

    def test_a_change_that_is_not_proper(self):
        bodies = ([0, 0, 1], [0, 0, 3], [0, 0, 1, 9, 3], [1, 1, 2, 9], [1, 1, 9, 2], [2, 1], [0, 3], [1, 2])
        self.check_bad(read_content, bodies, [1, 2, 3])
        self.assertEqual(read_content([1, 1], [1, 2, 3]), [1, 3])
        self.check_bad(read_content, [[0, 2, 7], [1, 1], [0, 0, 7]], [7, 7])

    def test_every_short_body(self):
        taken = 0
        for before in ([], [0], [1], [1, 0], [0, 0], [2, 2, 1]):
            for first in range(4):
                for second in range(4):
                    for middle in [[]] + [[a] for a in range(3)] + [[a, b] for a in range(3) for b in range(3)]:
                        taken += self.check_as(read_content, told_content, [first, second] + middle, before)
        self.assertGreater(taken, 100)

    def test_too_much_content(self):
        for size in (201, 202, 1024):
            self.check_bad(read_content, [[5] * size], None)
        self.assertEqual(read_content([0, 0] + [5] * 200, []), [5] * 200)
        self.check_bad(read_content, [[0, 0] + [5] * 201, [0, 0] + [5] * 1000], [])
        before = [1] * 100 + [2] * 100
        self.assertEqual(read_content([99, 100, 9], before[1:]), before[1:100] + [9] + before[100:])
        self.check_bad(read_content, [[100, 100, 9], [100, 100, 9, 9]], before)
        self.assertEqual(read_content([100, 99, 9], before), before[:100] + [9] + before[101:])
        self.check_bad(read_content, [[100, 99, 9, 9]], before)

    def test_nothing_is_modified_and_each_list_is_new(self):
        content, before = [1, 2], [1, 3]
        unit = (0, 1, content, False)
        unit_body(unit, before).append(9)
        unit_body((0, 1, content, True), before).append(9)
        unit_body((0, 1, [1, 2, 9], True), content).append(9)
        body = [2, 0]
        read_content(body, content).append(9)
        read_content(body, None).append(9)
        fault_of(read_content, body, [])
        self.assertEqual((content, before, body), ([1, 2], [1, 3], [2, 0]))


if __name__ == "__main__":
    unittest.main()
