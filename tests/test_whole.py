import copy
import random
import unittest

from faults import LEAVES, SOUND, STAMP, all_faults, found_at_the_end, wrong_leaves
from helpers import (SMALL, SMALL_ORDER, WORD, Reading, all_leaves, any_file, fault_of, file_of, order_by_time, sealed,
                     some_layout, some_presentation, spoil, with_index)
from spoolbox.reading.parts import Reader
from spoolbox.reading.whole import is_file, read
from spoolbox.wire.files import write_leaves
from spoolbox.writing.writer import leaves_of, write

FAULTS = all_faults() + list(found_at_the_end())
# Without tracks, without units, without and with tags, with leaning units.
PRESENTATIONS = (
    (1, 0, [], []),
    (90000, 2 ** 40 - 1, [], [("a", ""), ("b", "x")]),
    (1, 0, [("", "a", [])], []),
    (7, 1, [("one", "a", []), ("two", "b", [])] * 7 + [("~" * 32, "z" * 16, [])], [("a", "v" * 100)]),
    (25, 0, [("", "a", [(5, 1, [], False), (6, 1, [0], True), (7, 2, [0], True)])], []),
    (25, 0, [("", "a", [(2 ** 40 - 1, 2 ** 24 - 1, [255] * 200, False)])], [("a", "b")]),
    SMALL,
)


def told_by_reader(data):
    """What a reader that is fed the whole list tells: the presentation, or the error as a pair."""
    reader = Reader()
    fault = fault_of(reader.feed, data) or fault_of(reader.close)
    return fault or reader.close()


class TestRead(unittest.TestCase):
    def check_sound(self, data, presentation):
        self.assertEqual(read(data), presentation)
        self.assertIs(is_file(data), True)
        self.assertEqual(told_by_reader(data), presentation)

    def check_fault(self, data, name, at):
        self.assertEqual(fault_of(read, data), (name, at))
        self.assertIs(is_file(data), False)
        self.assertEqual(told_by_reader(data), (name, at))

    def test_presentations(self):
        for presentation in PRESENTATIONS:
            for stamp in (0, 5, WORD - 1):
                leaves = all_leaves(presentation, stamp, order_by_time(presentation), [])
                self.check_sound(file_of(leaves), presentation)

    def test_other_orders_and_other_indexes(self):
        chance = random.Random(303)
        presentations = [SMALL] * 30 + [some_presentation(chance) for _ in range(100)]
        for presentation in presentations:
            self.check_sound(any_file(chance, presentation), presentation)

    def test_any_part_of_the_index_that_is_allowed(self):
        for entries in ([], [(1, 2)], [(3, 1)], [(3, 3)], [(1, 2), (3, 1)], [(1, 2), (3, 3)], [(3, 1), (3, 3)],
                        [(1, 2), (3, 1), (3, 3)]):
            self.check_sound(file_of(all_leaves(SMALL, 1, SMALL_ORDER, entries)), SMALL)

    def test_a_hundred_entries_are_let(self):
        presentation = (1, 0, [("", "a", [(k, 1, [], False) for k in range(102)])], [])
        order = [(1, k) for k in range(102)]
        self.check_sound(file_of(all_leaves(presentation, 3, order, order[2:])), presentation)
        self.check_fault(file_of(all_leaves(presentation, 3, order, order[1:])), "BadBody", 103)

    def test_what_is_written_is_read_back(self):
        chance = random.Random(304)
        for presentation in list(PRESENTATIONS) + [some_presentation(chance) for _ in range(100)]:
            for most in (0, 1, 100):
                self.check_sound(write(presentation, chance.randrange(WORD), most), presentation)
            leaves = leaves_of(presentation, *some_layout(chance, presentation))
            self.check_sound(write_leaves(leaves), presentation)

    def test_the_greatest(self):
        units = [(2 ** 40 - 400 + k, 1, [k % 256] * 20, k % 7 > 0) for k in range(300)]
        presentation = (90000, 2 ** 40 - 1, [("", "a", units), ("~" * 32, "z" * 16, units[:1])], [("a", "v" * 100)])
        self.check_sound(write(presentation, WORD - 1), presentation)


class TestFaults(unittest.TestCase):
    check_sound = TestRead.check_sound
    check_fault = TestRead.check_fault

    def test_each_error_of_point_305(self):
        for name, at, data in FAULTS:
            self.check_fault(data, name, at)

    def test_the_empty_list_and_lists_of_one_byte(self):
        self.check_fault([], "BadStart", 0)
        self.check_fault([0], "NoEnd", 0)
        for byte in (1, 127, 255):
            self.check_fault([byte], "BadStart", 0)

    def test_the_first_one_of_several_errors(self):
        # A byte that is changed breaks the checksum of its leaf and of the file, and nothing before it.
        for at in range(0, len(SOUND), 3):
            data = list(SOUND)
            data[at] ^= 64
            outcome = Reading(data).outcome
            self.check_fault(data, *outcome)
            self.check_fault(data + [0], *Reading(data + [0]).outcome)

    def test_faults_on_top_of_faults(self):
        chance = random.Random(310)
        names = set()
        for _ in range(600):
            data = file_of(wrong_leaves(chance))
            if chance.random() < 0.3:
                at = chance.randrange(len(data))
                data[at:at + chance.randrange(3)] = [chance.choice((0, 0, 1, 128, 255))] * chance.randrange(3)
            outcome = Reading(data).outcome
            if len(outcome) == 2:
                self.check_fault(data, *outcome)
                names.add(outcome[0])
            else:
                self.check_sound(data, outcome)
                names.add("sound")
        self.assertGreater(len(names), 12)
        self.assertIn("sound", names)

    def test_the_beginning_of_a_file_and_two_files(self):
        for size in range(len(SOUND)):
            name, at = Reading(SOUND[:size]).outcome
            self.assertIn(name, ("BadStart", "CutOff", "NoEnd"))
            self.check_fault(SOUND[:size], name, at)
        self.check_fault(SOUND + SOUND, "Behind", 11)
        self.check_fault(SOUND + SOUND[1:], "Behind", 11)

    def test_an_index_that_names_a_unit_of_another_track(self):
        """The entry has the offset of one key and the time and the track of another one at the same time."""
        order = SMALL_ORDER[:5] + [(3, 3), (1, 2)]
        leaves = all_leaves(SMALL, STAMP, order, [])[:9]
        for wrong in ((1, 50), (3, 50)):
            right = with_index(leaves, [(wrong[0], 2 if wrong[0] == 1 else 3)])
            self.check_sound(file_of(sealed(right)), SMALL)
            body = right[-1][8]
            other = body[:1] + [4 - wrong[0]] + body[2:]
            data = file_of(sealed(leaves + [(3, STAMP, 9, 0, 0, 0, 0, 0, other)]))
            self.check_fault(data, "WrongEntry", 9)


class TestArguments(unittest.TestCase):
    def test_nothing_is_modified_and_each_list_is_new(self):
        data = list(SOUND)
        for _ in range(2):
            presentation = read(data)
            self.assertEqual(presentation, SMALL)
            spoil(presentation)
        self.assertIs(is_file(data), True)
        self.assertEqual(data, SOUND)
        for _, _, data in FAULTS[::40]:
            before = copy.copy(data)
            is_file(data)
            fault_of(read, data)
            self.assertEqual(data, before)

    def test_the_leaves_of_the_sound_file_are_those_of_the_small_presentation(self):
        self.assertEqual(len(LEAVES), 11)
        self.assertEqual(read(SOUND), SMALL)


if __name__ == "__main__":
    unittest.main()
