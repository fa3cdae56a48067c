import copy
import random
import unittest

from edits import show_of, units_in, with_bodies
from faults import LEAVES, SOUND, all_faults, found_at_the_end
from helpers import (SMALL, SMALL_ORDER, Reading, all_leaves, any_file, fault_of, file_of, some_presentation,
                     told_index)
from spoolbox.editing.entering import decoded, enter, entries
from spoolbox.writing.writer import write

# A key every 20 ticks, with a unit that leans behind each of them; each ends 5 ticks before the next one.
UNITS = [(10 * k, 5, [k], k % 2 == 1) for k in range(8)]
OTHERS = [(7, 1, [100], False)]
TWO = (1000, 0, [("", "a", UNITS), ("", "b", OTHERS), ("", "c", [])], [])
TWO_ORDER = [(1, 0), (2, 0)] + [(1, k) for k in range(1, 8)]
BAD_TIMES = (-1, -2, -(2 ** 40), -(10 ** 20))


def file_with(names):
    return file_of(all_leaves(TWO, 3, TWO_ORDER, names))


def places_of(data, time):
    """Point 602: for each track the ordinal of the last named unit up to this time."""
    leaves = Reading(data, with_bodies=False).leaves
    named = [(track, at) for track, at, _ in told_index(leaves[-2][8])]
    places = []
    for track in range(1, 16):
        units = units_in(leaves, track)
        found = [leaf[4] for leaf in units if (track, leaf[5]) in named and leaf[5] <= time]
        places.append(max(found, default=0 if units else None))
    return places


class TestEntries(unittest.TestCase):
    def test_times_ahead_of_at_and_behind_the_named_units(self):
        data = file_with([(1, 2), (1, 6)])
        rows = ((0, 0), (1, 0), (19, 0), (20, 2), (21, 2), (40, 2), (59, 2), (60, 6), (61, 6), (10 ** 9, 6))
        for time, place in rows:
            self.assertEqual(entries(data, time), [place, 0, None])

    def test_an_index_that_names_nothing(self):
        data = file_with([])
        for time in (0, 20, 75, 2 ** 40 - 1):
            self.assertEqual(entries(data, time), [0, 0, None])

    def test_keys_that_are_not_named_play_no_part(self):
        self.assertEqual(entries(file_with([(1, 4)]), 39), [0, 0, None])
        self.assertEqual(entries(file_with([(1, 4)]), 40), [4, 0, None])
        self.assertEqual(entries(file_with([(1, 4)]), 70), [4, 0, None])
        self.assertEqual(entries(file_with([(1, 2), (1, 4), (1, 6)]), 50), [4, 0, None])

    def test_each_track_by_itself(self):
        data = file_of(all_leaves(SMALL, 1, SMALL_ORDER, [(1, 2), (3, 1), (3, 3)]))
        for time, places in ((0, [0, None, 0]), (19, [0, None, 0]), (20, [0, None, 1]), (49, [0, None, 1]),
                             (50, [2, None, 3]), (51, [2, None, 3])):
            self.assertEqual(entries(data, time), places)
        data = file_of(all_leaves(SMALL, 1, SMALL_ORDER, [(1, 2), (3, 1)]))
        self.assertEqual(entries(data, 50), [2, None, 1])

    def test_tracks_without_units_and_with_one(self):
        self.assertEqual(entries(file_of(all_leaves((1, 0, [], []), 1, [], [])), 5), [])
        nothing = (1, 0, [("", "a", []), ("", "b", [])], [("a", "b")])
        self.assertEqual(entries(file_of(all_leaves(nothing, 1, [], [])), 5), [None, None])
        one = (1, 0, [("", "a", [(50, 1, [], False)]), ("", "b", [])], [])
        for time in (0, 49, 50, 51, 52):
            self.assertEqual(entries(file_of(all_leaves(one, 1, [(1, 0)], [])), time), [0, None])

    def test_files_by_chance(self):
        chance = random.Random(602)
        for _ in range(150):
            presentation = some_presentation(chance)
            data = any_file(chance, presentation)
            times = [0] + [unit[0] + more for _, _, units in presentation[2] for unit in units for more in (-1, 0, 1)]
            for time in times:
                self.assertEqual(entries(data, max(time, 0)), places_of(data, max(time, 0))[:len(presentation[2])])

    def test_bodies_of_units_are_not_looked_at(self):
        bad = {pair: [1] * 201 for pair in TWO_ORDER}
        data = file_of(with_bodies(all_leaves(TWO, 3, TWO_ORDER, []), bad, [(1, 2), (1, 6)]))
        for time, place in ((0, 0), (20, 2), (60, 6)):
            self.assertEqual(entries(data, time), [place, 0, None])

    def test_the_errors_of_the_file(self):
        for _, _, data in all_faults()[::5] + list(found_at_the_end())[::20]:
            outcome = Reading(data, with_bodies=False).outcome
            expected = outcome if len(outcome) == 2 else None
            self.assertEqual(fault_of(entries, data, 5), expected)


class TestEnter(unittest.TestCase):
    def check(self, data, presentation, time):
        self.assertEqual(enter(data, time), show_of(presentation, time))

    def test_written_out(self):
        data = file_with([(1, 2), (1, 6)])
        tail = [(60 - 24, 5, [6]), (70 - 24, 5, [7])]
        self.assertEqual(enter(data, 24), [[(-4, 5, [2]), (6, 5, [3]), (16, 5, [4]), (26, 5, [5]), *tail], [], []])
        self.assertEqual(enter(data, 25)[0][0], (5, 5, [3]))
        self.assertEqual(enter(data, 7), [[(10 * k - 7, 5, [k]) for k in range(1, 8)], [(0, 1, [100])], []])
        self.assertEqual(enter(data, 74), [[(-4, 5, [7])], [], []])
        self.assertEqual(enter(data, 75), [[], [], []])

    def test_each_time_and_each_index(self):
        names = [(1, 2), (1, 4), (1, 6)]
        for entry_names in ([], names[:1], names[1:2], names[2:], names[:2], names[1:], names):
            data = file_with(entry_names)
            for time in range(0, 80):
                self.check(data, TWO, time)
            self.check(data, TWO, 2 ** 40 - 1)

    def test_the_skip_plays_no_part(self):
        for skip in (0, 30, 2 ** 40 - 1):
            presentation = (1000, skip, TWO[2], [])
            data = file_of(all_leaves(presentation, 3, TWO_ORDER, [(1, 2)]))
            for time in (0, 15, 25, 30, 31):
                self.check(data, presentation, time)

    def test_files_by_chance(self):
        chance = random.Random(603)
        for _ in range(150):
            presentation = some_presentation(chance)
            data = any_file(chance, presentation)
            times = [0] + [unit[0] + more for _, _, units in presentation[2] for unit in units
                           for more in (0, 1, unit[1])]
            for time in times[::3]:
                self.check(data, presentation, time)
            self.check(write(presentation, 1, 2), presentation, chance.choice(times))

    def test_no_tracks_and_no_units(self):
        self.assertEqual(enter(file_of(all_leaves((1, 0, [], []), 1, [], [])), 5), [])
        nothing = (1, 0, [("", "a", []), ("", "b", [])], [("a", "b")])
        self.assertEqual(enter(file_of(all_leaves(nothing, 1, [], [])), 0), [[], []])


class TestFaults(unittest.TestCase):
    def test_a_negative_time(self):
        for time in BAD_TIMES:
            self.assertEqual(fault_of(enter, SOUND, time), ("OutOfRange", 0))
            self.assertEqual(fault_of(enter, file_of(all_leaves((1, 0, [], []), 1, [], [])), time), ("OutOfRange", 0))

    def test_the_errors_of_the_file_come_first(self):
        for _, _, data in all_faults()[::5] + list(found_at_the_end())[::20]:
            outcome = Reading(data, with_bodies=False).outcome
            for time in (0, -1, 2 ** 40 - 1):
                if len(outcome) == 2:
                    self.assertEqual(fault_of(enter, data, time), outcome)
                elif time < 0:
                    self.assertEqual(fault_of(enter, data, time), ("OutOfRange", 0))

    def test_a_bad_body_ahead_of_the_place_raises_nothing(self):
        for ordinal in range(8):
            for body in ([7] * 201, [7] * 1024):
                data = file_of(with_bodies(all_leaves(TWO, 3, TWO_ORDER, []), {(1, ordinal): body}, [(1, 2), (1, 6)]))
                number = 1 + TWO_ORDER.index((1, ordinal))
                for time, place in ((0, 0), (19, 0), (20, 2), (59, 2), (60, 6), (79, 6), (2 ** 40 - 1, 6)):
                    if ordinal < place:
                        self.assertEqual(enter(data, time), show_of(TWO, time))
                    else:
                        self.assertEqual(fault_of(enter, data, time), ("BadBody", number))

    def test_a_body_that_is_decoded_but_not_shown(self):
        """The unit has ended before the time, but the one behind it leans on it."""
        data = file_of(with_bodies(all_leaves(TWO, 3, TWO_ORDER, []), {(1, 6): [7] * 201}, []))
        self.assertEqual(fault_of(enter, data, 75), ("BadBody", 8))
        self.assertEqual(fault_of(enter, data, 2 ** 40 - 1), ("BadBody", 8))

    def test_a_body_that_is_no_proper_change(self):
        for body in ([], [0], [0, 0], [1, 1, 5], [1, 0, 5], [2, 0], [0, 0, 2], [128, 0], [0, 0, 2, 5], [1, 0]):
            data = file_of(with_bodies(all_leaves(TWO, 3, TWO_ORDER, []), {(1, 3): body}, [(1, 4)]))
            good = Reading(data).outcome
            if len(good) == 4:
                self.assertEqual(enter(data, 0), show_of(good, 0))
            else:
                self.assertEqual(fault_of(enter, data, 39), ("BadBody", 5))
            self.assertEqual(enter(data, 40), show_of(TWO, 40))

    def test_the_least_number_first(self):
        tracks = [("", "a", UNITS), ("", "b", UNITS)]
        both = (1000, 0, tracks, [("a", "b")])
        order = [(1, 0), (2, 0), (2, 1), (2, 2), (1, 1), (1, 2), (1, 3), (2, 3)]
        order += [(track, ordinal) for ordinal in range(4, 8) for track in (1, 2)]
        leaves = all_leaves(both, 3, order, [])
        names = [(1, 4), (2, 4), (1, 2)]
        chance = random.Random(604)
        for _ in range(100):
            bad = {pair: [7] * 201 for pair in chance.sample(order, chance.randrange(5))}
            data = file_of(with_bodies(leaves, bad, names))
            for time, places in ((0, (0, 0)), (20, (2, 0)), (39, (2, 0)), (40, (4, 4)), (90, (4, 4))):
                numbers = [2 + order.index(pair) for pair in bad if pair[1] >= places[pair[0] - 1]]
                if numbers:
                    self.assertEqual(fault_of(enter, data, time), ("BadBody", min(numbers)))
                else:
                    self.assertEqual(enter(data, time), show_of(both, time))

    def test_it_comes_behind_the_negative_time_and_the_errors_of_leaves(self):
        bad = {(1, 0): [7] * 201}
        data = file_of(with_bodies(all_leaves(TWO, 3, TWO_ORDER, []), bad, []))
        self.assertEqual(fault_of(enter, data, 0), ("BadBody", 1))
        self.assertEqual(fault_of(enter, data, -1), ("OutOfRange", 0))
        self.assertEqual(fault_of(enter, data + [0], 0), ("Behind", 12))
        self.assertEqual(fault_of(enter, data + [0], -1), ("Behind", 12))
        self.assertEqual(fault_of(enter, data[:-1], 0), ("CutOff", 11))
        self.assertEqual(fault_of(enter, data[:-20], -1), ("CutOff", 11))

    def test_the_bytes_of_the_decoded_part_alone_play_a_part(self):
        """A unit ahead of the place may have any body; that of the place need not fit it."""
        bad = {(1, 0): [], (1, 1): [9, 9, 9]}
        data = file_of(with_bodies(all_leaves(TWO, 3, TWO_ORDER, []), bad, [(1, 2)]))
        self.assertEqual(enter(data, 20), show_of(TWO, 20))
        self.assertEqual(fault_of(enter, data, 19), ("BadBody", 3))


class TestArguments(unittest.TestCase):
    def test_nothing_is_modified_and_each_list_is_new(self):
        data = copy.copy(SOUND)
        for call in (lambda: entries(data, 20), lambda: enter(data, 12)):
            expected = copy.deepcopy(call())
            found = call()
            for part in found:
                if isinstance(part, list):
                    for _, _, content in part:
                        content.append(5)
                    part.clear()
            found.clear()
            self.assertEqual(call(), expected)
        self.assertEqual(data, SOUND)

    def test_what_is_decoded(self):
        self.assertEqual(decoded(LEAVES, [0, None, 0]), [units for _, _, units in SMALL[2]])
        self.assertEqual(decoded(LEAVES, [2, None, 1]), [SMALL[2][0][2][2:], [], SMALL[2][2][2][1:]])

    def test_the_leaves_are_those_of_the_small_presentation(self):
        self.assertEqual([leaf[3:5] for leaf in units_in(LEAVES)], SMALL_ORDER)


if __name__ == "__main__":
    unittest.main()
