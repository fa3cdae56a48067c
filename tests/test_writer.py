import copy
import random
import unittest

from helpers import (SMALL, SMALL_ORDER, WORD, Reading, all_leaves, best_of, fault_of, file_of, keys_by_track,
                     names_of, order_by_time, some_layout, some_order, some_presentation, sum_of, told_end, told_index)
from spoolbox.model.presentation import is_presentation
from spoolbox.writing.writer import leaves_of, write

EMPTY = (1, 0, [], [])
NO_UNITS = (90000, 2 ** 40 - 1, [("", "a", []), ("x", "b", [])], [("a", "b")])
UNTAGGED = (25, 0, [("", "a", [(5, 1, [], False), (6, 1, [0], True)])], [])
# Units of several tracks at the same times, tracks in another order than their first times.
SAME_TIMES = (10, 0, [
    ("", "a", [(5, 1, [1], False), (6, 2, [2], False), (9, 1, [3], True)]),
    ("", "b", [(0, 1, [4], False), (5, 1, [5], False), (6, 1, [6], False)]),
    ("", "c", [(5, 4, [7], False), (9, 1, [8], False)]),
], [])
SAME_TIMES_ORDER = [(2, 0), (1, 0), (2, 1), (3, 0), (1, 1), (2, 2), (1, 2), (3, 1)]
NAMED = (EMPTY, NO_UNITS, UNTAGGED, SAME_TIMES, SMALL)


def expected_leaves(presentation, stamp, most):
    index, _ = best_of(keys_by_track(presentation), most)
    return all_leaves(presentation, stamp, order_by_time(presentation), index)


def many_keys(tracks, units):
    """A presentation in which each unit is a key; its files are long enough for offsets of three bytes."""
    rows = [("", "a", [(3 * k, 2, [track, k % 256, 0] * 5, False) for k in range(units)]) for track in range(tracks)]
    return (1, 0, rows, [])


class TestWrite(unittest.TestCase):
    def test_written_out(self):
        units = [(0, 2, [1, 0], False), (2, 2, [1], True)]
        data = write((1, 0, [("n", "k", units)], []), 0x01020300)
        pieces = bytes(data[1:-1]).split(b"\0")
        self.assertEqual(len(pieces), 5)
        self.assertEqual(pieces[0][:-4], b"\1\1\4\3\2\1" + b"\1" * 8 + b"\x09\x0espool\1\1\x0b\1\1n\1k\2")
        self.assertEqual(data, file_of(expected_leaves((1, 0, [("n", "k", units)], []), 0x01020300, 100)))

    def test_no_tracks_no_units_and_no_tags(self):
        for presentation, many in ((EMPTY, 3), (NO_UNITS, 4), (UNTAGGED, 5), (SAME_TIMES, 11), (SMALL, 11)):
            data = write(presentation, 9)
            leaves = expected_leaves(presentation, 9, 100)
            self.assertEqual(len(leaves), many)
            self.assertEqual(data, file_of(leaves))
            self.assertEqual(Reading(data).outcome, presentation)

    def test_the_order_of_the_units(self):
        for presentation, order in ((SAME_TIMES, SAME_TIMES_ORDER), (SMALL, SMALL_ORDER)):
            found = [(leaf[3], leaf[4]) for leaf in Reading(write(presentation, 1)).leaves if leaf[0] == 2]
            self.assertEqual(found, order)

    def test_each_stamp(self):
        for stamp in (0, 1, 255, 256, 2 ** 31, WORD - 1):
            for presentation in NAMED:
                data = write(presentation, stamp)
                self.assertEqual(data, file_of(expected_leaves(presentation, stamp, 100)))
                self.assertEqual({leaf[1] for leaf in Reading(data).leaves}, {stamp})

    def test_each_number_of_entries(self):
        for presentation in NAMED:
            for most in (0, 1, 2, 3, 4, 5, 99, 100):
                data = write(presentation, 5, most)
                self.assertEqual(data, file_of(expected_leaves(presentation, 5, most)))
                self.assertEqual(write(presentation, 5, most=most), data)
                entries = told_index(Reading(data).leaves[-2][8])
                self.assertLessEqual(len(entries), most)
                self.assertEqual([entry[2] for entry in entries], sorted(entry[2] for entry in entries))
            self.assertEqual(write(presentation, 5), write(presentation, 5, 100))
        # With a hundred entries each unit of this one can be shown by itself, with fewer ones it can not.
        presentation = many_keys(1, 101)
        for most, many in ((100, 100), (99, 50)):
            data = write(presentation, 5, most)
            self.assertEqual(data, file_of(expected_leaves(presentation, 5, most)))
            self.assertEqual(len(told_index(Reading(data).leaves[-2][8])), many)
        self.assertEqual(write(presentation, 5), write(presentation, 5, 100))

    def test_the_entries_stand_in_the_order_of_the_offsets(self):
        # The best index names the last unit of each track; in the file, that of the second track stands first.
        slow = ("", "a", [(0, 1, [], False), (10, 1, [], False), (20, 1, [], False)])
        fast = ("", "a", [(0, 1, [], False), (5, 1, [], False), (7, 1, [], False)])
        entries = told_index(Reading(write((1, 0, [slow, fast], []), 5, 2)).leaves[-2][8])
        self.assertEqual([entry[:2] for entry in entries], [(2, 7), (1, 20)])
        entries = told_index(Reading(write((1, 0, [slow, fast], []), 5)).leaves[-2][8])
        self.assertEqual([entry[:2] for entry in entries], [(2, 5), (2, 7), (1, 10), (1, 20)])

    def test_presentations_by_chance(self):
        chance = random.Random(304)
        for _ in range(150):
            presentation = some_presentation(chance)
            stamp, most = chance.randrange(WORD), chance.choice((0, 1, 2, 100))
            data = write(presentation, stamp, most)
            self.assertEqual(data, file_of(expected_leaves(presentation, stamp, most)))
            self.assertEqual(Reading(data).outcome, presentation)

    def test_many_units(self):
        for presentation in (many_keys(2, 300), many_keys(15, 20)):
            for most in (100, 7):
                self.assertEqual(write(presentation, 3, most), file_of(expected_leaves(presentation, 3, most)))

    def test_the_count_and_the_sum(self):
        for presentation in NAMED:
            data = write(presentation, 8)
            reading = Reading(data)
            count, _ = told_end(reading.leaves[-1][8])
            self.assertEqual(count, len(reading.leaves))
            # Nothing but a right sum is read.
            self.assertEqual(reading.outcome, presentation)

    def test_what_is_no_presentation(self):
        wrong = [(0, 0, [], []), (90001, 0, [], []), (1, -1, [], []), (1, 0, [("", "", [])], []),
                 (1, 0, [("", "a", [])] * 16, []), (1, 0, [], [("b", ""), ("a", "")]),
                 (1, 0, [("", "a", [(0, 1, [], True)])], []), (1, 0, [("", "a", [(0, 0, [], False)])], []),
                 (1, 0, [("", "a", [(0, 1, [256], False)])], []), (1, 0, [("", "a", [(0, 1, [5] * 201, False)])], [])]
        for value in wrong:
            self.assertFalse(is_presentation(value))
            self.assertEqual(fault_of(write, value, 0), ("NotAPresentation", 0))
            self.assertEqual(fault_of(write, value, -1, -1), ("NotAPresentation", 0))

    def test_stamps_and_numbers_of_entries_out_of_range(self):
        for stamp in (-1, -(10 ** 20), WORD, WORD + 1, 10 ** 20):
            self.assertEqual(fault_of(write, SMALL, stamp), ("OutOfRange", 1))
            self.assertEqual(fault_of(write, SMALL, stamp, 101), ("OutOfRange", 1))
            self.assertEqual(fault_of(write, SMALL, stamp, -1), ("OutOfRange", 1))
        for most in (-1, -(10 ** 20), 101, 102, 10 ** 20):
            self.assertEqual(fault_of(write, SMALL, 0, most), ("OutOfRange", 2))
            self.assertEqual(fault_of(write, EMPTY, WORD - 1, most), ("OutOfRange", 2))

    def test_nothing_is_modified_and_each_file_is_new(self):
        presentation = copy.deepcopy(SMALL)
        data = write(presentation, 1)
        expected = list(data)
        data.clear()
        self.assertEqual(presentation, SMALL)
        self.assertEqual(write(presentation, 1), expected)


class TestLeavesOf(unittest.TestCase):
    def check(self, presentation, stamp, order, entries):
        leaves = leaves_of(presentation, stamp, order, entries)
        self.assertEqual(leaves, all_leaves(presentation, stamp, order, entries))
        reading = Reading(file_of(leaves))
        self.assertEqual(reading.outcome, presentation)
        return leaves

    def test_written_out(self):
        units = [(0, 2, [1, 0], False), (2, 2, [1], True), (9, 1, [], False)]
        leaves = leaves_of((1, 0, [("n", "k", units)], [("t", "")]), 6, [(1, 0), (1, 1), (1, 2)], [(1, 2)])
        self.assertEqual(leaves[:-1], [
            (0, 6, 0, 0, 0, 0, 0, 0, [*b"spool\1\1\0\1\1n\1k\3"]),
            (1, 6, 1, 0, 0, 0, 0, 0, [1, 1, 116, 0]),
            (2, 6, 2, 1, 0, 0, 2, 1, [1, 0]),
            (2, 6, 3, 1, 1, 2, 2, 0, [1, 0]),
            (2, 6, 4, 1, 2, 9, 1, 1, []),
            # One byte, and the pieces of four leaves with 34, 24, 22 and 22 bytes, each with a 0 behind it.
            (3, 6, 5, 0, 0, 0, 0, 0, [1, 1, 9, 107]),
        ])
        self.assertEqual(leaves[-1][:8], (4, 6, 6, 0, 0, 0, 0, 0))
        self.assertEqual(leaves[-1][8], [7, *sum_of(file_of(leaves[:-1]))])

    def test_no_units(self):
        self.check(EMPTY, 0, [], [])
        self.check(NO_UNITS, WORD - 1, [], [])

    def test_orders_and_entries_by_chance(self):
        chance = random.Random(301)
        presentations = list(NAMED) + [some_presentation(chance) for _ in range(100)]
        for presentation in presentations:
            for _ in range(5):
                self.check(presentation, *some_layout(chance, presentation))

    def test_the_entries_in_any_order(self):
        names = names_of(keys_by_track(SAME_TIMES))
        self.assertEqual(names, [(1, 1), (2, 1), (2, 2), (3, 1)])
        expected = self.check(SAME_TIMES, 4, SAME_TIMES_ORDER, names)
        for _ in range(4):
            names = names[1:] + names[:1]
            self.assertEqual(leaves_of(SAME_TIMES, 4, SAME_TIMES_ORDER, names), expected)
            self.assertEqual(leaves_of(SAME_TIMES, 4, SAME_TIMES_ORDER, names[::-1]), expected)
        rows = told_index(expected[-2][8])
        self.assertEqual([row[:2] for row in rows], [(2, 5), (1, 6), (2, 6), (3, 9)])
        self.assertEqual([row[2] for row in rows], sorted(row[2] for row in rows))

    def test_offsets_of_one_byte_and_more(self):
        short = (1, 0, [("", "a", [(k, 1, [], False) for k in range(2)])], [])
        first = told_index(self.check(short, 0, [(1, 0), (1, 1)], [(1, 1)])[-2][8])[0][2]
        self.assertLess(first, 128)
        presentation = many_keys(2, 300)
        order = some_order(random.Random(2), presentation)
        chance = random.Random(100)
        entries = chance.sample(names_of(keys_by_track(presentation)), 100)
        leaves = leaves_of(presentation, 0, order, entries)
        self.assertEqual(leaves, all_leaves(presentation, 0, order, entries))
        rows = told_index(leaves[-2][8])
        self.assertEqual(len(rows), 100)
        self.assertLess(rows[0][2], 16384)
        self.assertGreater(rows[-1][2], 16384)

    def test_nothing_is_modified_and_each_list_is_new(self):
        presentation, order, entries = copy.deepcopy(SMALL), list(SMALL_ORDER), [(3, 1), (1, 2)]
        for leaf in leaves_of(presentation, 1, order, entries):
            leaf[8].append(5)
        leaves_of(presentation, 1, order, entries).clear()
        self.assertEqual((presentation, order, entries), (SMALL, SMALL_ORDER, [(3, 1), (1, 2)]))
        self.assertEqual(leaves_of(presentation, 1, order, entries), all_leaves(SMALL, 1, SMALL_ORDER, entries))


if __name__ == "__main__":
    unittest.main()
