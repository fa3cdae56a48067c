import copy
import random
import unittest

from edits import Opened, best_file, cut_of, show_of, units_in, with_bodies
from faults import SOUND, all_faults, found_at_the_end
from helpers import (SMALL, SMALL_ORDER, WORD, Reading, all_leaves, any_file, best_of, fault_of, file_of, order_by_time,
                     some_presentation, told_index)
from spoolbox.editing.cutting import cut
from spoolbox.editing.entering import enter
from spoolbox.editing.shown import whole_show
from spoolbox.reading.whole import read

# One track: keys at 10 and 40, leaning units at 20, 30 and 50; from 25 to 30 and from 35 to 40 there is nothing.
UNITS = [(10, 10, [1], False), (20, 5, [1, 2], True), (30, 5, [1, 3], True), (40, 10, [4], False), (50, 10, [5], True)]
ONE = (1000, 12, [("", "a", UNITS)], [("k", "v")])
DATA = best_file(ONE, 5, 100)
COUNTS = (0, 1, 2, 64)
BAD = [7] * 201


def times_of(presentation):
    """The times at which something begins or ends, and those beside them."""
    edges = [time + more for _, _, units in presentation[2] for time, span, _, _ in units for more in (0, span)]
    return sorted({0} | {edge + more for edge in edges for more in (-1, 0, 1)} - {-1})


class CutCase(unittest.TestCase):
    def check(self, data, start, stop, count=64, stamp=9):
        """The cut file has the bytes that it has to have; return its presentation."""
        found = cut(data, start, stop, count, stamp)
        self.assertEqual(found, cut_of(data, start, stop, count, stamp))
        return Reading(found).outcome


class TestOneTrack(CutCase):
    def check_units(self, start, stop, skip, units):
        presentation = self.check(DATA, start, stop)
        self.assertEqual(presentation, (1000, skip, [("", "a", units)], [("k", "v")]))

    def test_the_start(self):
        moved = [(time - 10, *rest) for time, *rest in UNITS]
        # At the skip, within a unit, at the time of one that leans, between units.
        for start in (12, 19, 20, 22, 25, 27, 30, 35, 39):
            self.check_units(start, 100, start - 10, moved)
        # At the time of a key, within it, within the last unit, behind it.
        for start in (40, 41, 50, 59, 60, 1000, 2 ** 40 - 1):
            self.check_units(start, 2 ** 40 - 1, start - 40, [(0, 10, [4], False), (10, 10, [5], True)])

    def test_the_stop(self):
        moved = [(time - 10, *rest) for time, *rest in UNITS]
        for stop, many in ((15, 1), (20, 1), (21, 2), (30, 2), (31, 3), (40, 3), (41, 4), (50, 4), (51, 5), (60, 5),
                           (61, 5), (2 ** 40 - 1, 5)):
            self.check_units(15, stop, 5, moved[:many])

    def test_the_stop_equals_the_start(self):
        self.check_units(12, 12, 2, [(0, 10, [1], False)])
        self.check_units(20, 20, 10, [(0, 10, [1], False)])
        self.check_units(21, 21, 11, [(0, 10, [1], False), (10, 5, [1, 2], True)])
        # At the time of a key, from which the track would be taken, nothing is taken.
        self.check_units(40, 40, 0, [])
        self.check_units(41, 41, 1, [(0, 10, [4], False)])
        self.check_units(60, 60, 20, [(0, 10, [4], False), (10, 10, [5], True)])

    def test_the_first_unit_is_behind_the_start(self):
        late = (1000, 0, [("", "a", UNITS)], [])
        data = best_file(late, 5, 100)
        for start in (0, 9, 10):
            # The base is the start.
            presentation = self.check(data, start, 100)
            self.assertEqual(presentation[1], 0)
            self.assertEqual(presentation[2][0][2], [(time - start, *rest) for time, *rest in UNITS])
        self.assertEqual(self.check(data, 11, 100)[1], 1)
        for stop in (3, 9, 10):
            self.assertEqual(self.check(data, 3, stop), (1000, 0, [("", "a", [])], []))
        self.assertEqual(self.check(data, 3, 11), (1000, 0, [("", "a", [(7, 10, [1], False)])], []))

    def test_the_rest_of_the_fields(self):
        found = Opened(cut(DATA, 45, 100, 64, 2 ** 32 - 1))
        self.assertEqual({leaf[1] for leaf in found.leaves}, {2 ** 32 - 1})
        self.assertEqual([leaf[2] for leaf in found.leaves], list(range(6)))
        self.assertEqual([leaf[3:] for leaf in units_in(found.leaves)],
                         [(1, 0, 0, 10, 1, [4]), (1, 1, 10, 10, 0, [0, 0, 5])])
        self.assertEqual((found.ticks, found.skip, found.rows, found.tags), (1000, 5, [("", "a", 2)], [("k", "v")]))


class TestTracks(CutCase):
    def test_tracks_of_which_nothing_is_taken(self):
        data = best_file(SMALL, 5, 100)
        units = [(0, 9, [], False)]
        self.assertEqual(self.check(data, 50, 51)[2], [("left one", "sound", [(0, 5, [0, 0], False)]), ("", "b", []),
                                                       ("z", "picture", units)])
        self.assertEqual(self.check(data, 50, 50)[2], [("left one", "sound", []), ("", "b", []), ("z", "picture", [])])
        self.assertEqual(self.check(data, 3, 3)[2],
                         [("left one", "sound", [(0, 20, [1, 2, 3], False)]), ("", "b", []), ("z", "picture", [])])

    def test_the_base_is_the_least_time_of_all_tracks(self):
        data = best_file(SMALL, 5, 100)
        # From the key at 0 of the first track and that at 20 of the third one.
        presentation = self.check(data, 30, 60)
        self.assertEqual(presentation[1], 30)
        self.assertEqual([unit[0] for unit in presentation[2][0][2]], [0, 20, 50])
        self.assertEqual([unit[0] for unit in presentation[2][2][2]], [20, 25, 50])
        # From the keys at 50 of both.
        presentation = self.check(data, 52, 60)
        self.assertEqual(presentation[1], 2)
        self.assertEqual([[unit[0] for unit in units] for _, _, units in presentation[2]], [[0], [], [0]])
        # The first unit of the third one is behind the start.
        presentation = self.check(data, 5, 15)
        self.assertEqual((presentation[1], presentation[2][2][2]), (5, [(10, 10, [9] * 200, False)]))

    def test_tags_stay(self):
        for tags in ([], [("a", "")], SMALL[3], [("a" * k, "v" * 100) for k in range(1, 9)]):
            presentation = SMALL[:3] + (tags,)
            data = file_of(all_leaves(presentation, 5, SMALL_ORDER, []))
            for start, stop in ((3, 60), (3, 3), (50, 50)):
                self.assertEqual(self.check(data, start, stop)[3], tags)

    def test_no_tracks_and_no_units(self):
        for presentation in ((1, 0, [], []), (7, 2 ** 40 - 1, [], [("a", "b")]), (1, 5, [("", "a", [])] * 15, [])):
            data = best_file(presentation, 5, 100)
            for start in (presentation[1], 2 ** 40 - 1):
                found = self.check(data, start, 2 ** 40 - 1, 0)
                self.assertEqual(found, (presentation[0], 0, presentation[2], presentation[3]))

    def test_any_order_and_any_index_give_the_same_file(self):
        chance = random.Random(603)
        for _ in range(60):
            presentation = (1000, 0) + some_presentation(chance)[2:]
            start = chance.choice(times_of(presentation))
            stop = start + chance.choice((0, 1, 5, 300, 3000))
            both = [cut(any_file(chance, presentation), start, stop, 3, 8) for _ in range(2)]
            self.assertEqual(both[0], both[1])

    def test_the_index_is_the_best_one_of_so_many_entries(self):
        units = [(k, 1, [k], k % 3 > 0) for k in range(120)]
        presentation = (1000, 0, [("", "a", units), ("", "b", units[:50])], [])
        data = best_file(presentation, 5, 100)
        for start in (0, 7, 60):
            for count in (0, 1, 2, 5, 63, 64):
                self.check(data, start, 119, count)
                leaves = Reading(cut(data, start, 119, count, 1)).leaves
                keys = [[leaf[7] == 1 for leaf in units_in(leaves, track)] for track in (1, 2)]
                self.assertEqual(len(told_index(leaves[-2][8])), len(best_of(keys, count)[0]))
        many = [(k, 1, [], False) for k in range(100)]
        data = best_file((1, 0, [("", "a", many)], []), 5, 100)
        self.assertEqual(len(told_index(Reading(cut(data, 20, 85, 64, 1)).leaves[-2][8])), 64)
        self.assertEqual(len(told_index(Reading(cut(data, 20, 86, 64, 1)).leaves[-2][8])), 32)

    def test_files_by_chance(self):
        chance = random.Random(604)
        for _ in range(250):
            presentation = some_presentation(chance)
            data = any_file(chance, presentation)
            times = [time for time in times_of(presentation) if time >= presentation[1]] + [presentation[1]]
            for _ in range(4):
                start = chance.choice(times)
                stop = max(start, chance.choice(times))
                self.check(data, start, stop, chance.choice(COUNTS), chance.randrange(WORD))


class TestWhatIsShown(CutCase):
    def test_what_the_cut_file_shows(self):
        chance = random.Random(605)
        for _ in range(200):
            presentation = some_presentation(chance)
            presentation = (presentation[0], chance.choice((0, 2, 7))) + presentation[2:]
            data = best_file(presentation, 5, 100)
            times = [time for time in times_of(presentation) if time >= presentation[1]] + [presentation[1]]
            for _ in range(4):
                start = chance.choice(times)
                stop = max(start, chance.choice(times))
                found = read(cut(data, start, stop, chance.choice(COUNTS), 1))
                self.assertEqual(whole_show(found), show_of(presentation, start, stop))

    def test_a_cut_of_a_cut(self):
        chance = random.Random(606)
        for _ in range(200):
            presentation = some_presentation(chance)
            presentation = (presentation[0], 0) + presentation[2:]
            data = best_file(presentation, 5, 100)
            times = sorted(chance.choice(times_of(presentation)) for _ in range(4))
            first = cut(data, times[0], times[3], 5, 1)
            base = times[0] - read(first)[1]
            second = cut(first, times[1] - base, times[2] - base, 3, 2)
            self.assertEqual(second, cut(data, times[1], times[2], 3, 2))
            self.assertEqual(whole_show(read(second)), show_of(presentation, times[1], times[2]))
            self.assertEqual(fault_of(cut, first, times[0] - base - 1, times[3], 3, 2), ("OutOfRange", 0))

    def test_a_cut_from_the_skip_to_the_end_changes_nothing_but_the_beginning(self):
        data = best_file(SMALL, 5, 64)
        self.assertEqual(cut(data, 3, 1000, 64, 5), data)

    def test_a_cut_file_is_entered(self):
        chance = random.Random(607)
        for _ in range(100):
            presentation = some_presentation(chance)
            presentation = (presentation[0], 0) + presentation[2:]
            data = best_file(presentation, 5, 100)
            start, stop = sorted(chance.choice(times_of(presentation)) for _ in range(2))
            found = cut(data, start, stop, chance.choice(COUNTS), 1)
            skip = read(found)[1]
            self.assertEqual(enter(found, skip), show_of(presentation, start, stop))
            for more in (1, 5, 300):
                self.assertEqual(enter(found, skip + more), show_of(read(found), skip + more))


class TestFaults(CutCase):
    def test_a_start_below_the_skip(self):
        for start in (11, 10, 0, -1, -(10 ** 20)):
            for stop in (100, 11, 0, -5):
                self.assertEqual(fault_of(cut, DATA, start, stop, 5, 5), ("OutOfRange", 0))
        self.assertIsNone(fault_of(cut, DATA, 12, 12, 5, 5))

    def test_a_stop_below_the_start(self):
        for start, stop in ((12, 11), (12, 0), (12, -1), (100, 99), (2 ** 40 - 1, 2 ** 40 - 2)):
            self.assertEqual(fault_of(cut, DATA, start, stop, 5, 5), ("OutOfRange", 1))

    def test_the_errors_of_the_file_come_first(self):
        for _, _, data in all_faults()[::5] + list(found_at_the_end())[::20]:
            outcome = Reading(data, with_bodies=False).outcome
            if len(outcome) == 2:
                for start, stop in ((3, 20), (0, 20), (5, 4)):
                    self.assertEqual(fault_of(cut, data, start, stop, 5, 5), outcome)

    def test_a_bad_body_stays_as_it_is(self):
        presentation = (1000, 12, [("", "a", UNITS), ("", "b", UNITS)], [])
        order = order_by_time(presentation)
        leaves = all_leaves(presentation, 5, order, [])
        for bad in ({(1, 0): BAD}, {(2, 1): []}, {(1, 3): [7] * 1024, (2, 4): BAD}, {pair: BAD for pair in order}):
            data = file_of(with_bodies(leaves, bad, [(1, 3)]))
            self.assertEqual(Reading(data).outcome[0], "BadBody")
            for start, stop in ((12, 100), (22, 31), (45, 46), (45, 100)):
                found = cut(data, start, stop, 2, 9)
                self.assertEqual(found, cut_of(data, start, stop, 2, 9))
                bodies = [leaf[8] for leaf in units_in(Opened(found).leaves)]
                first = 3 if start >= 40 else 0
                taken = [pair for pair in order if pair[1] >= first and UNITS[pair[1]][0] < stop]
                old = {leaf[3:5]: leaf[8] for leaf in units_in(leaves)}
                self.assertEqual(bodies, [bad.get(pair, old[pair]) for pair in taken])


class TestArguments(unittest.TestCase):
    def test_nothing_is_modified_and_each_list_is_new(self):
        data = copy.copy(SOUND)
        found = cut(data, 5, 51, 3, 4)
        expected = list(found)
        found.clear()
        self.assertEqual(cut(data, 5, 51, 3, 4), expected)
        self.assertEqual(data, SOUND)


if __name__ == "__main__":
    unittest.main()
