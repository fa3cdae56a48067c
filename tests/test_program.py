"""The parts of the program together: what one makes, the others take."""

import copy
import random
import unittest

from faults import LEAVES, SOUND, STAMP
from helpers import SMALL, SMALL_ORDER, any_file, file_of, keys_by_track, some_layout, some_presentation
from spoolbox.editing.cutting import cut
from spoolbox.editing.entering import enter, entries
from spoolbox.editing.joining import join
from spoolbox.editing.shown import shown, whole_show
from spoolbox.model.bodies import read_index
from spoolbox.model.presentation import end_of
from spoolbox.order.delay import check_delay, delay, file_delay, in_order, witness
from spoolbox.order.index import best_index, check_index, index_witness
from spoolbox.reading.parts import Reader
from spoolbox.reading.whole import is_file, read
from spoolbox.saving.rebuild import rebuild, rebuilt, sound
from spoolbox.saving.salvage import gaps, roll, salvage, stamps
from spoolbox.wire.files import places, write_leaves
from spoolbox.wire.leaves import UNIT, bulk
from spoolbox.writing.writer import leaves_of, write


def without_skip(presentation):
    return (presentation[0], 0) + presentation[2:]


def in_halves(chance):
    """A presentation whose tracks all have a key at one time, up to which they have a unit, and this time."""
    half = chance.randrange(1, 300)
    tracks = []
    for _, kind, units in some_presentation(chance)[2]:
        units = [unit for unit in units if unit[0] + unit[1] < half]
        last = units[-1][0] + units[-1][1] if units else 0
        late = [(half + 2 * k, chance.choice((1, 2)), [k], k % 2 == 1) for k in range(chance.randrange(1, 5))]
        tracks.append(("", kind, units + [(last, half - last, [9], False)] + late))
    return ((1000, 0, tracks, [("a", "b")]), half)


class TestTogether(unittest.TestCase):
    def test_written_read_in_parts_and_written_again(self):
        chance = random.Random(1)
        for _ in range(60):
            presentation = some_presentation(chance)
            file = any_file(chance, presentation)
            reader = Reader()
            pairs = []
            for at in range(0, len(file), 33):
                pairs += reader.feed(file[at:at + 33])
            self.assertEqual(reader.close(), presentation)
            self.assertEqual(write(reader.close(), 5, 3), write(presentation, 5, 3))
            for track in range(len(presentation[2])):
                self.assertEqual([unit for other, unit in pairs if other == track + 1], presentation[2][track][2])

    def test_cut_in_two_and_joined(self):
        chance = random.Random(2)
        for _ in range(60):
            presentation, half = in_halves(chance)
            file = write(presentation, 6, 10)
            parts = [cut(file, 0, half, 0, 1), cut(file, half, half + end_of(presentation), 64, 2)]
            self.assertEqual(join(*parts, 10, 6), file)
            self.assertEqual([whole_show(read(part)) for part in parts],
                             [shown(presentation, 0, half), shown(presentation, half)])

    def test_joined_and_cut_in_two(self):
        chance = random.Random(3)
        for _ in range(60):
            one = without_skip(some_presentation(chance))
            other = (one[0], 0, [(name, kind, units[:chance.randrange(9)]) for name, kind, units in one[2]], [])
            both = join(any_file(chance, one), any_file(chance, other), 5, 5)
            end = end_of(one)
            self.assertEqual(shown(read(both), 0, end), shown(one, 0))
            self.assertEqual(enter(both, end), shown(other, 0))
            self.assertEqual(whole_show(read(cut(both, end, end + end_of(other), 5, 5))), shown(other, 0))
            self.assertEqual(cut(both, 0, end, 3, 3), write(one, 3, 3))

    def test_what_was_rebuilt_is_a_file_for_all_of_them(self):
        chance = random.Random(4)
        for _ in range(60):
            presentation = without_skip(some_presentation(chance))
            leaves = leaves_of(presentation, *some_layout(chance, presentation))
            kept = leaves[:1] + [leaf for leaf in leaves[1:] if chance.random() < 0.7]
            file = rebuild([7] + write_leaves(kept) + [9], leaves[0][1], 5)
            found = read(file)
            self.assertEqual(found, rebuilt(kept))
            time = chance.randrange(end_of(presentation) + 1)
            self.assertEqual(enter(file, time), shown(found, time))
            self.assertEqual(whole_show(read(cut(file, time, time + 50, 5, 5))), shown(found, time, time + 50))
            self.assertIs(is_file(join(file, file, 5, 5)), True)

    def test_the_order_and_the_index_of_a_written_file_pass_their_checks(self):
        chance = random.Random(5)
        for _ in range(60):
            presentation = some_presentation(chance)
            most = chance.choice((0, 1, 3, 100))
            leaves = [leaf for _, _, leaf in salvage(write(presentation, 5, most))]
            sizes = [(leaf[5], leaf[3], bulk(leaf)) for leaf in leaves if leaf[0] == UNIT]
            self.assertEqual(in_order(sizes), sizes)
            pairs = [(time, size) for time, _, size in sizes]
            for rate in (1, 9, 200):
                number = file_delay(write(presentation, 5, most), rate)
                self.assertEqual(number, delay(pairs, rate))
                self.assertIs(check_delay(pairs, rate, number, witness(pairs, rate)), True)
                self.assertLessEqual(number, file_delay(any_file(chance, presentation), rate))
            keys = keys_by_track(presentation)
            named = [(leaf[3], leaf[4]) for start, _, leaf in salvage(write(presentation, 5, most))
                     if start in [offset for _, _, offset in read_index(leaves[-2][8])]]
            index, number = best_index(keys, most)
            self.assertEqual(sorted(named), index)
            self.assertIs(check_index(keys, most, sorted(named), number, index_witness(keys, most)), True)

    def test_no_unit_is_decoded_from_further_away_than_the_reach(self):
        chance = random.Random(6)
        for _ in range(60):
            presentation = some_presentation(chance)
            most = chance.choice((0, 1, 3))
            file = write(presentation, 5, most)
            _, number = best_index(keys_by_track(presentation), most)
            for track, (_, _, units) in enumerate(presentation[2]):
                for place, unit in enumerate(units):
                    self.assertLessEqual(place - entries(file, unit[0])[track] + 1, number)


class TestNothingIsModified(unittest.TestCase):
    def test_all_functions_over_files(self):
        """Each call gives the same once more after its answer was changed; its arguments stay."""
        other = write(without_skip(SMALL), 3)
        finds = salvage(SOUND)
        calls = [
            (read, SOUND), (salvage, SOUND), (places, SOUND), (enter, SOUND, 12), (entries, SOUND, 50),
            (cut, SOUND, 5, 51, 3, 4), (join, SOUND, other, 3, 4), (rebuild, SOUND, STAMP, 3), (stamps, finds),
            (roll, finds, STAMP), (gaps, LEAVES[2:5]), (sound, LEAVES), (rebuilt, LEAVES), (write_leaves, LEAVES),
            (shown, SMALL, 5, 50), (whole_show, SMALL), (write, SMALL, 5), (in_order, [(5, 1, 2), (3, 2, 1)]),
            (leaves_of, SMALL, 5, SMALL_ORDER, [(3, 1)]),
        ]
        for function, *arguments in calls:
            before = copy.deepcopy(arguments)
            expected = copy.deepcopy(function(*arguments))
            self.assertEqual(arguments, before)
            self.spoil(function(*arguments))
            self.assertEqual(arguments, before)
            self.assertEqual(function(*arguments), expected)

    def spoil(self, value):
        """Change each list in a value, however deep."""
        if isinstance(value, (list, tuple)):
            for part in list(value):
                self.spoil(part)
        if isinstance(value, list):
            value.append(7)

    def test_the_file_of_the_tests_is_a_file(self):
        self.assertIs(is_file(SOUND), True)
        self.assertEqual(file_of(LEAVES), SOUND)


if __name__ == "__main__":
    unittest.main()
