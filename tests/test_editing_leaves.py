import copy
import unittest

from edits import best_file, units_in
from helpers import SMALL, SMALL_ORDER, all_leaves
from spoolbox.editing.leaves import file_of, numbered, placed, sketch_of, unit_leaves

LEAVES = [
    (0, 9, 0, 0, 0, 0, 0, 0, [1, 2]),
    (2, 9, 1, 1, 0, 10, 5, 1, [3]),
    (2, 9, 2, 2, 0, 11, 5, 1, []),
    (2, 9, 3, 1, 1, 15, 6, 0, [0, 0, 4]),
    (3, 9, 4, 0, 0, 0, 0, 0, [0]),
    (4, 9, 5, 0, 0, 0, 0, 0, [6, 1, 2, 3, 4]),
]


class TestEditingLeaves(unittest.TestCase):
    def test_unit_leaves_are_those_of_units_in_their_order(self):
        self.assertEqual(unit_leaves(LEAVES), LEAVES[1:4])
        self.assertEqual(unit_leaves([]), [])
        self.assertEqual(unit_leaves(LEAVES[4:]), [])

    def test_placed_changes_the_ordinal_and_the_time_alone(self):
        self.assertEqual(placed(LEAVES[3], 7, 100), (2, 9, 3, 1, 7, 100, 6, 0, [0, 0, 4]))
        self.assertEqual(placed(LEAVES[3], 1, 15), LEAVES[3])

    def test_numbered_gives_the_stamp_and_the_numbers(self):
        found = numbered([LEAVES[3], LEAVES[1], LEAVES[0]], 77)
        self.assertEqual(found, [
            (2, 77, 0, 1, 1, 15, 6, 0, [0, 0, 4]),
            (2, 77, 1, 1, 0, 10, 5, 1, [3]),
            (0, 77, 2, 0, 0, 0, 0, 0, [1, 2]),
        ])
        self.assertEqual(numbered([], 77), [])
        self.assertEqual(numbered(LEAVES, 9), LEAVES)

    def test_sketch_of_has_the_leaves_in_place_of_the_units(self):
        for tags in (SMALL[3], []):
            presentation = SMALL[:3] + (tags,)
            leaves = all_leaves(presentation, 9, SMALL_ORDER, [])
            tracks = [(name, kind, units_in(leaves, at + 1)) for at, (name, kind, _) in enumerate(SMALL[2])]
            self.assertEqual(sketch_of(leaves), (SMALL[0], SMALL[1], tracks, tags))
        self.assertEqual(sketch_of(all_leaves((7, 6, [], []), 9, [], [])), (7, 6, [], []))

    def test_file_of_a_sketch(self):
        for presentation in (SMALL, (7, 6, [], []), (7, 6, [("", "a", [])], [("a", "b")])):
            for order in (SMALL_ORDER, sorted(SMALL_ORDER)):
                leaves = all_leaves(presentation, 9, order if presentation == SMALL else [], [])
                for count in (0, 1, 2, 64):
                    self.assertEqual(file_of(sketch_of(leaves), count, 4), best_file(presentation, 4, count))

    def test_nothing_is_modified_and_each_list_is_new(self):
        leaves = copy.deepcopy(LEAVES)
        for found in (unit_leaves(leaves), numbered(leaves, 1), [placed(leaves[3], 0, 0)]):
            for leaf in found:
                leaf[8].append(99)
            found.clear()
        self.assertEqual(leaves, LEAVES)


if __name__ == "__main__":
    unittest.main()
