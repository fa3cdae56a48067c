import copy
import random
import unittest

from helpers import fault_of, file_of, joined, parts_of, stuffed, with_field
from spoolbox.wire.files import places, write_leaves

LEAVES = [
    (0, 9, 0, 0, 0, 0, 0, 0, [1, 2]),
    (2, 9, 1, 15, 0, 10, 5, 1, [0] * 300),
    (2, 2 ** 32 - 1, 2 ** 32 - 1, 2, 7, 2 ** 40 - 1, 5, 1, [255] * 1024),
    (4, 0, 5, 0, 0, 0, 0, 0, []),
]
# For each field one that is out of its range, by the index of the field.
WORSE = (5, 2 ** 32, -1, 16, 2 ** 24, 2 ** 40, -1, 2, [0] * 1025)


def brute_places(row):
    """Point 109, by trying all pairs of indexes."""
    return [(start, stop) for start in range(1, len(row)) for stop in range(start + 1, len(row))
            if row[start - 1] == 0 and row[stop] == 0 and 0 not in row[start:stop]]


class TestWriteLeaves(unittest.TestCase):
    def test_no_leaf(self):
        self.assertEqual(write_leaves([]), [0])

    def test_one_leaf(self):
        for leaf in LEAVES:
            self.assertEqual(write_leaves([leaf]), [0] + stuffed(joined(parts_of(leaf))) + [0])

    def test_several_leaves(self):
        self.assertEqual(write_leaves(LEAVES), file_of(LEAVES))
        self.assertEqual(write_leaves(LEAVES[::-1] * 2), file_of(LEAVES[::-1] * 2))
        self.assertEqual(write_leaves(LEAVES).count(0), 5)

    def test_the_first_leaf_with_an_error(self):
        for at, worse in enumerate(WORSE):
            bad = with_field(LEAVES[1], at, worse)
            for later, worst in enumerate(WORSE):
                behind = with_field(LEAVES[2], later, worst)
                self.assertEqual(fault_of(write_leaves, [bad]), ("OutOfRange", at))
                self.assertEqual(fault_of(write_leaves, [bad, behind]), ("OutOfRange", at))
                self.assertEqual(fault_of(write_leaves, LEAVES + [bad, LEAVES[0], behind]), ("OutOfRange", at))
                both = with_field(bad, later, worst)
                self.assertEqual(fault_of(write_leaves, LEAVES + [both]), ("OutOfRange", min(at, later)))

    def test_nothing_is_modified_and_each_file_is_new(self):
        leaves = copy.deepcopy(LEAVES)
        write_leaves(leaves).clear()
        write_leaves([]).append(1)
        self.assertEqual(leaves, LEAVES)
        self.assertEqual((write_leaves([]), write_leaves(leaves)), ([0], file_of(LEAVES)))


class TestPlaces(unittest.TestCase):
    def test_written_out(self):
        self.assertEqual(places([]), [])
        self.assertEqual(places([5, 1, 255]), [])
        self.assertEqual(places([0]), [])
        self.assertEqual(places([7, 7, 0, 7]), [])
        self.assertEqual(places([0, 0]), [])
        self.assertEqual(places([0, 0, 0, 0]), [])
        self.assertEqual(places([0, 5, 0]), [(1, 2)])
        self.assertEqual(places([0, 5, 6, 0, 7, 0]), [(1, 3), (4, 5)])
        self.assertEqual(places([0, 0, 5, 6, 0, 0, 0, 7, 0, 0]), [(2, 4), (7, 8)])
        self.assertEqual(places([3, 4, 0, 5, 0, 6, 7]), [(3, 4)])
        self.assertEqual(places([3, 0, 5, 5]), [])
        self.assertEqual(places([0, 5, 5]), [])
        self.assertEqual(places([5, 5, 0]), [])

    def test_all_short_rows(self):
        for size in range(9):
            for number in range(2 ** size):
                row = [9 * (number >> k & 1) for k in range(size)]
                self.assertEqual(places(row), brute_places(row), row)

    def test_rows_by_chance(self):
        chance = random.Random(109)
        for _ in range(200):
            row = [chance.choice((0, 1, 2, 255)) for _ in range(chance.randrange(40))]
            self.assertEqual(places(row), brute_places(row))

    def test_the_pieces_of_a_file(self):
        row = write_leaves(LEAVES)
        found = places(row)
        self.assertEqual([row[start:stop] for start, stop in found], [stuffed(joined(parts_of(x))) for x in LEAVES])
        self.assertEqual(places(write_leaves([])), [])
        ahead = [0, 0, 5, 0] + row + [7]
        self.assertEqual(places(ahead), [(2, 3)] + [(start + 4, stop + 4) for start, stop in found])

    def test_nothing_is_modified_and_each_list_is_new(self):
        row = [0, 5, 0, 0, 6, 7, 0]
        places(row).clear()
        self.assertEqual(row, [0, 5, 0, 0, 6, 7, 0])
        self.assertEqual(places(row), [(1, 2), (4, 6)])


if __name__ == "__main__":
    unittest.main()
