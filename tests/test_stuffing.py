import random
import unittest

from helpers import fault_of
from spoolbox.wire.stuffing import stuff, unstuff


def blocks_of(row):
    """The blocks of point 105, found from the zeros: each run up to a 0, in full blocks and a rest."""
    runs = [[]]
    for byte in row:
        if byte == 0:
            runs.append([])
        else:
            runs[-1].append(byte)
    blocks = []
    for run in runs:
        full = len(run) // 254
        blocks += [[255] + run[254 * k:254 * k + 254] for k in range(full)]
        blocks.append([len(run) % 254 + 1] + run[254 * full:])
    return blocks


def run_of(many):
    """A row without a 0."""
    return [k % 255 + 1 for k in range(many)]


ROWS = [[], [0], [0, 0], [0] * 300, [1], [1, 0], [0, 1], [255], [255, 255, 0], [1, 2, 0, 0, 3], list(range(256))]
for size in (1, 252, 253, 254, 255, 256, 507, 508, 509, 762, 763):
    ROWS += [run_of(size), run_of(size) + [0], [0] + run_of(size), run_of(size) + [0, 0]]
for size in (254, 508):
    ROWS += [run_of(size) + [0] + run_of(3), run_of(size) + [0] + run_of(254), run_of(size) + [0, 0] + run_of(254)]
ROWS += [run_of(16384), [0] * 16384, [255] * 16384]


class TestStuff(unittest.TestCase):
    def test_written_out(self):
        self.assertEqual(stuff([]), [1])
        self.assertEqual(stuff([0]), [1, 1])
        self.assertEqual(stuff([0, 0, 0]), [1, 1, 1, 1])
        self.assertEqual(stuff([7]), [2, 7])
        self.assertEqual(stuff([7, 0]), [2, 7, 1])
        self.assertEqual(stuff([7, 0, 8, 9]), [2, 7, 3, 8, 9])
        self.assertEqual(stuff(run_of(253)), [254] + run_of(253))
        self.assertEqual(stuff(run_of(254)), [255] + run_of(254) + [1])
        self.assertEqual(stuff(run_of(254) + [0]), [255] + run_of(254) + [1, 1])
        self.assertEqual(stuff(run_of(254) + [9]), [255] + run_of(254) + [2, 9])
        self.assertEqual(stuff([9] * 508), [255] + [9] * 254 + [255] + [9] * 254 + [1])
        self.assertEqual(stuff([9] * 509), [255] + [9] * 254 + [255] + [9] * 254 + [2, 9])

    def test_each_row_has_the_one_piece(self):
        for row in ROWS:
            blocks = blocks_of(row)
            piece = stuff(row)
            self.assertEqual(piece, [byte for block in blocks for byte in block])
            self.assertNotIn(0, piece)
            self.assertEqual(len(piece), len(row) + 1 + len([block for block in blocks if block[0] == 255]))
            self.assertEqual(unstuff(piece), row)

    def test_rows_by_chance(self):
        chance = random.Random(104)
        for _ in range(300):
            row = [chance.choice((0, 1, 255, chance.randrange(256))) for _ in range(chance.randrange(40))]
            row += run_of(chance.choice((0, 253, 254, 255))) + row
            self.assertEqual(stuff(row), [byte for block in blocks_of(row) for byte in block])
            self.assertEqual(unstuff(stuff(row)), row)

    def test_the_row_is_not_modified_and_each_piece_is_new(self):
        row = [1, 0, 2]
        stuff(row).clear()
        self.assertEqual(row, [1, 0, 2])
        self.assertEqual(stuff(row), [2, 1, 2, 2])


class TestUnstuff(unittest.TestCase):
    def test_a_zero_is_ahead_of_everything_else(self):
        self.assertEqual(fault_of(unstuff, [0]), ("BadStuffing", 0))
        self.assertEqual(fault_of(unstuff, [1, 0]), ("BadStuffing", 1))
        self.assertEqual(fault_of(unstuff, [2, 7, 1, 0, 1, 0]), ("BadStuffing", 3))
        self.assertEqual(fault_of(unstuff, [200, 7, 1, 0]), ("BadStuffing", 3))
        self.assertEqual(fault_of(unstuff, [255] + [1] * 254 + [0]), ("BadStuffing", 255))

    def test_empty(self):
        self.assertEqual(fault_of(unstuff, []), ("BadStuffing", 0))

    def test_a_block_that_is_not_whole(self):
        self.assertEqual(fault_of(unstuff, [2]), ("BadStuffing", 0))
        self.assertEqual(fault_of(unstuff, [3, 9]), ("BadStuffing", 0))
        self.assertEqual(fault_of(unstuff, [255]), ("BadStuffing", 0))
        self.assertEqual(fault_of(unstuff, [255] + [1] * 253), ("BadStuffing", 0))
        self.assertEqual(fault_of(unstuff, [1, 2]), ("BadStuffing", 1))
        self.assertEqual(fault_of(unstuff, [3, 9, 9, 1, 4, 9, 9]), ("BadStuffing", 4))
        self.assertEqual(fault_of(unstuff, [255] + [1] * 254 + [2]), ("BadStuffing", 255))
        self.assertEqual(fault_of(unstuff, [255] + [1] * 254 + [255] + [1] * 100), ("BadStuffing", 255))

    def test_the_last_block_is_full(self):
        self.assertEqual(fault_of(unstuff, [255] + [1] * 254), ("BadStuffing", 255))
        self.assertEqual(fault_of(unstuff, [1] + [255] + [1] * 254), ("BadStuffing", 256))
        self.assertEqual(fault_of(unstuff, ([255] + [1] * 254) * 2), ("BadStuffing", 510))

    def test_a_piece_that_is_read_is_what_stuff_gives(self):
        chance = random.Random(105)
        read = 0
        for _ in range(2000):
            piece = [chance.choice((1, 1, 2, 2, 3, 4, 255)) for _ in range(chance.randrange(1, 9))]
            if fault_of(unstuff, piece) is None:
                self.assertEqual(stuff(unstuff(piece)), piece)
                read += 1
        self.assertGreater(read, 200)

    def test_every_short_piece(self):
        stuffed = {}
        for row in [[]] + [[a] for a in range(5)] + [[a, b] for a in range(5) for b in range(5)]:
            stuffed[tuple(stuff(row))] = row
        for first in range(1, 5):
            for piece in [[first]] + [[first, b] for b in range(1, 5)]:
                if tuple(piece) in stuffed:
                    self.assertEqual(unstuff(piece), stuffed[tuple(piece)])
                else:
                    self.assertEqual(fault_of(unstuff, piece)[0], "BadStuffing")

    def test_the_piece_is_not_modified_and_each_row_is_new(self):
        piece = [2, 1, 2, 2]
        unstuff(piece).clear()
        self.assertEqual(piece, [2, 1, 2, 2])
        self.assertEqual(unstuff(piece), [1, 0, 2])


if __name__ == "__main__":
    unittest.main()
