import copy
import random
import unittest

from edits import best_file, finds_of, gaps_of, roll_of
from faults import LEAVES, SOUND, STAMP
from helpers import (SMALL, WORD, all_leaves, file_of, joined, order_by_time, parts_of, some_presentation, stuffed,
                     with_field)
from spoolbox.saving.salvage import gaps, roll, salvage, stamps
from spoolbox.wire.files import places


def piece_of(leaf):
    return stuffed(joined(parts_of(leaf)))


def plain(number, kind=2, stamp=7, body=()):
    """Some leaf with this number."""
    return (kind, stamp, number, 1, number % 9, 5, 1, 1, list(body))


def finds_with(leaves):
    """A list of finds with these leaves."""
    return [(10 * at + 1, 10 * at + 9, leaf) for at, leaf in enumerate(leaves)]


class TestSalvage(unittest.TestCase):
    def check(self, row):
        found = salvage(row)
        self.assertEqual(found, finds_of(row))
        self.assertLessEqual({find[:2] for find in found}, set(places(row)))
        self.assertEqual([find[0] for find in found], sorted(find[0] for find in found))
        return [leaf for _, _, leaf in found]

    def test_rows_without_finds(self):
        for row in ([], [0], [0, 0, 0], [5], [1, 2, 3] * 20, [0, 5, 0], [0, 1, 0], [0, 255, 0], [0, 3, 1, 1, 0]):
            self.assertEqual(salvage(row), [])
        self.assertEqual(salvage([byte for byte in SOUND if byte != 0]), [])
        self.assertEqual(salvage(piece_of(LEAVES[0])), [])

    def test_written_out(self):
        leaf = (2, 7, 3, 1, 0, 4, 5, 1, [8, 0, 9])
        piece = piece_of(leaf)
        stop = len(piece) + 3
        self.assertEqual(salvage([9, 9, 0] + piece + [0, 9]), [(3, stop, leaf)])
        self.assertEqual(salvage([9, 9, 0] + piece + [0] + piece + [0, 9]),
                         [(3, stop, leaf), (stop + 1, stop + 1 + len(piece), leaf)])

    def test_a_file(self):
        self.assertEqual(self.check(SOUND), LEAVES)
        chance = random.Random(702)
        for _ in range(60):
            presentation = some_presentation(chance)
            leaves = all_leaves(presentation, chance.randrange(WORD), order_by_time(presentation), [])
            self.assertEqual(self.check(file_of(leaves)), leaves)

    def test_other_bytes_ahead_and_behind(self):
        for ahead in ([], [0], [0, 0, 0], [5, 5], [0, 5], [5, 0], [1, 0, 1, 0]):
            for behind in ([], [0], [0, 0], [7], [7, 0], [0, 7, 0]):
                self.assertEqual(self.check(ahead + SOUND + behind), LEAVES)

    def test_a_piece_without_a_zero_at_an_end(self):
        # The first piece has no 0 ahead of it, or another byte joins it; the last one has none behind it.
        self.assertEqual(self.check(SOUND[1:]), LEAVES[1:])
        self.assertEqual(self.check([5] + SOUND[1:]), LEAVES[1:])
        self.assertEqual(self.check(SOUND[:-1]), LEAVES[:-1])
        self.assertEqual(self.check(SOUND[:-1] + [5]), LEAVES[:-1])
        self.assertEqual(self.check(SOUND[:-1] + [5, 0]), LEAVES[:-1])
        # Two pieces without a 0 between them are one piece.
        pieces = [piece_of(leaf) for leaf in LEAVES]
        self.assertEqual(self.check([0] + pieces[0] + pieces[1] + [0] + pieces[2] + [0]), LEAVES[2:3])

    def test_pieces_left_out_changed_cut_doubled_and_moved(self):
        chance = random.Random(701)
        pieces = [piece_of(leaf) for leaf in LEAVES]
        for _ in range(200):
            row, expected = [chance.choice((0, 5))] * chance.randrange(2) + [0], []
            for at in [chance.randrange(11) for _ in range(chance.randrange(9))]:
                piece, what = list(pieces[at]), chance.randrange(5)
                place = chance.randrange(len(piece))
                if what == 0:
                    piece[place] = chance.choice([byte for byte in range(1, 256) if byte != piece[place]])
                elif what == 1:
                    piece[place:] = []
                elif what == 2:
                    piece[place] = 0
                else:
                    expected.append(LEAVES[at])
                row += piece + [0] * chance.randrange(1, 3)
            self.assertEqual(self.check(row), expected)

    def test_each_changed_byte(self):
        size = len(file_of(LEAVES[:3]))
        zeros = [at for at in range(size) if SOUND[at] == 0]
        for at in range(size):
            row = SOUND[:at] + [SOUND[at] ^ 16] + SOUND[at + 1:size]
            hit = len([zero for zero in zeros if zero < at]) - 1
            # With a 0 the pieces at both sides of it are lost.
            lost = (hit, hit + 1) if at in zeros else (hit,)
            self.assertEqual(self.check(row), [leaf for k, leaf in enumerate(LEAVES[:3]) if k not in lost])

    def test_two_files_mixed(self):
        chance = random.Random(703)
        other = all_leaves(SMALL, 5, order_by_time(SMALL), [])
        for _ in range(50):
            mixed = LEAVES + other
            chance.shuffle(mixed)
            self.assertEqual(self.check(file_of(mixed)), mixed)

    def test_any_leaf_is_found_whatever_it_says(self):
        leaves = [(4, 0, 0, 15, 2 ** 24 - 1, 2 ** 40 - 1, 2 ** 24 - 1, 1, [0] * 1024),
                  (0, WORD - 1, WORD - 1, 0, 0, 0, 0, 1, []), (2, 5, 5, 0, 7, 7, 0, 0, [1] * 300)]
        self.assertEqual(self.check(file_of(leaves)), leaves)

    def test_rows_by_chance(self):
        chance = random.Random(704)
        for _ in range(300):
            self.check([chance.choice((0, 1, 2, 255, chance.randrange(256))) for _ in range(chance.randrange(300))])

    def test_the_greatest_row(self):
        row = (SOUND * 50)[:16384]
        self.assertGreater(len(self.check(row)), 200)


class TestStamps(unittest.TestCase):
    def test_they_are_ascending_without_duplicates(self):
        self.assertEqual(stamps([]), [])
        self.assertEqual(stamps(finds_with([plain(0)])), [7])
        leaves = [plain(0, stamp=stamp) for stamp in (9, 5, WORD - 1, 9, 0, 5, 300, 9)]
        self.assertEqual(stamps(finds_with(leaves)), [0, 5, 9, 300, WORD - 1])
        self.assertEqual(stamps(finds_with(leaves[::-1])), [0, 5, 9, 300, WORD - 1])

    def test_of_files(self):
        self.assertEqual(stamps(salvage(SOUND)), [STAMP])
        both = best_file(SMALL, 5, 3) + SOUND + best_file(SMALL, 4, 3)
        self.assertEqual(stamps(salvage(both)), [4, 5, STAMP])


class TestRoll(unittest.TestCase):
    def test_ascending_numbers_of_one_stamp(self):
        leaves = [plain(5), plain(2), plain(2, stamp=8), plain(WORD - 1), plain(0, stamp=8), plain(3), plain(0)]
        self.assertEqual(roll(finds_with(leaves), 7), [plain(0), plain(2), plain(3), plain(5), plain(WORD - 1)])
        self.assertEqual(roll(finds_with(leaves), 8), [plain(0, stamp=8), plain(2, stamp=8)])

    def test_the_first_one_of_several_with_one_number(self):
        first, second, third = [plain(4, body=[k]) for k in (9, 1, 5)]
        for rows in ([first, second, third], [second, third, first], [third, second, first], [first, first, second]):
            leaves = [plain(4, stamp=6)] + rows[:1] + [plain(1)] + rows[1:] + [plain(9)]
            self.assertEqual(roll(finds_with(leaves), 7), [plain(1), rows[0], plain(9)])

    def test_a_stamp_that_no_find_has(self):
        self.assertEqual(roll([], 7), [])
        for stamp in (6, 8, 0, WORD - 1):
            self.assertEqual(roll(finds_with([plain(0), plain(1)]), stamp), [])

    def test_files_never_mix(self):
        chance = random.Random(705)
        other = all_leaves(SMALL, 5, order_by_time(SMALL), [])
        for _ in range(50):
            mixed = LEAVES + other + LEAVES[:4]
            chance.shuffle(mixed)
            finds = salvage(file_of(mixed))
            self.assertEqual(roll(finds, STAMP), LEAVES)
            self.assertEqual(roll(finds, 5), other)

    def test_finds_by_chance(self):
        chance = random.Random(706)
        for _ in range(200):
            leaves = [plain(chance.randrange(9), stamp=chance.randrange(3), body=[chance.randrange(256)])
                      for _ in range(chance.randrange(20))]
            for stamp in range(4):
                self.assertEqual(roll(finds_with(leaves), stamp), roll_of(finds_with(leaves), stamp))


class TestGaps(unittest.TestCase):
    def test_written_out(self):
        self.assertEqual(gaps([]), [])
        self.assertEqual(gaps([plain(0)]), [(1, -1)])
        self.assertEqual(gaps([plain(0, kind=4)]), [])
        self.assertEqual(gaps([plain(3, kind=4)]), [(0, 3)])
        self.assertEqual(gaps([plain(3)]), [(0, 3), (4, -1)])
        self.assertEqual(gaps([plain(k) for k in (0, 1, 4, 5, 7)]), [(2, 4), (6, 7), (8, -1)])
        self.assertEqual(gaps([plain(k) for k in (1, 2, 9)] + [plain(10, kind=4)]), [(0, 1), (3, 9)])

    def test_an_end_that_is_not_the_last_leaf(self):
        self.assertEqual(gaps([plain(0), plain(1, kind=4), plain(2)]), [(3, -1)])
        self.assertEqual(gaps([plain(0), plain(1, kind=4), plain(3, kind=4)]), [(2, 3)])

    def test_each_kind_of_the_last_leaf(self):
        for kind in range(4):
            self.assertEqual(gaps([plain(0), plain(1, kind=kind)]), [(2, -1)])
        self.assertEqual(gaps([plain(0), plain(1, kind=4)]), [])

    def test_great_numbers(self):
        self.assertEqual(gaps([plain(0), plain(WORD - 1)]), [(1, WORD - 1), (WORD, -1)])

    def test_a_whole_file_and_parts_of_it(self):
        self.assertEqual(gaps(roll(salvage(SOUND), STAMP)), [])
        for number in range(11):
            rest = LEAVES[:number] + LEAVES[number + 1:]
            self.assertEqual(gaps(rest), [(number, number + 1 if number < 10 else -1)])

    def test_rolls_by_chance(self):
        chance = random.Random(707)
        for _ in range(300):
            numbers = sorted(chance.sample(range(12), chance.randrange(13)))
            leaves = [plain(number, kind=chance.randrange(5)) for number in numbers]
            self.assertEqual(gaps(leaves), gaps_of(leaves))


class TestArguments(unittest.TestCase):
    def test_nothing_is_modified_and_each_list_is_new(self):
        row = list(SOUND)
        finds = salvage(row)
        for _, _, leaf in finds:
            leaf[8].append(5)
        finds.clear()
        self.assertEqual(row, SOUND)
        finds = salvage(row)
        before = copy.deepcopy(finds)
        for _ in range(2):
            found = roll(finds, STAMP)
            self.assertEqual(found, LEAVES)
            for leaf in found:
                leaf[8].append(5)
            found.clear()
            stamps(finds).clear()
        self.assertEqual(finds, before)
        leaves = [with_field(plain(4), 8, [1, 2]), plain(6)]
        kept = copy.deepcopy(leaves)
        gaps(leaves).clear()
        self.assertEqual((leaves, gaps(leaves)), (kept, [(0, 4), (5, 6), (7, -1)]))


if __name__ == "__main__":
    unittest.main()
