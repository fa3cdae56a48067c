import copy
import unittest

from spoolbox.editing.leaves import numbered, placed, unit_leaves

LEAVES = [
    (0, 9, 0, 0, 0, 0, 0, 0, [1, 2]),
    (2, 9, 1, 1, 0, 10, 5, 1, [3]),
    (2, 9, 2, 2, 0, 11, 5, 1, []),
    (2, 9, 3, 1, 1, 15, 6, 0, [0, 0, 4]),
    (3, 9, 4, 0, 0, 0, 0, 0, [0]),
    (4, 9, 5, 0, 0, 0, 0, 0, [6, 1, 2, 3, 4]),
]


class TestEditingLeaves(unittest.TestCase):
    def test_unit_leaves_are_those_of_units_in_their_order(self):
        self.assertEqual(unit_leaves(LEAVES), LEAVES[1:4])
        self.assertEqual(unit_leaves([]), [])
        self.assertEqual(unit_leaves(LEAVES[4:]), [])

    def test_placed_changes_the_ordinal_and_the_time_alone(self):
        self.assertEqual(placed(LEAVES[3], 7, 100), (2, 9, 3, 1, 7, 100, 6, 0, [0, 0, 4]))
        self.assertEqual(placed(LEAVES[3], 1, 15), LEAVES[3])

    def test_numbered_gives_the_stamp_and_the_numbers(self):
        found = numbered([LEAVES[3], LEAVES[1], LEAVES[0]], 77)
        self.assertEqual(found, [
            (2, 77, 0, 1, 1, 15, 6, 0, [0, 0, 4]),
            (2, 77, 1, 1, 0, 10, 5, 1, [3]),
            (0, 77, 2, 0, 0, 0, 0, 0, [1, 2]),
        ])
        self.assertEqual(numbered([], 77), [])
        self.assertEqual(numbered(LEAVES, 9), LEAVES)

    def test_nothing_is_modified_and_each_list_is_new(self):
        leaves = copy.deepcopy(LEAVES)
        for found in (unit_leaves(leaves), numbered(leaves, 1), [placed(leaves[3], 0, 0)]):
            for leaf in found:
                leaf[8].append(99)
            found.clear()
        self.assertEqual(leaves, LEAVES)


if __name__ == "__main__":
    unittest.main()
