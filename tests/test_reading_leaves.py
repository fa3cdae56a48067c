import random
import unittest

from faults import LEAVES, SOUND, all_faults, found_at_the_end
from helpers import (SMALL, Reading, all_leaves, fault_of, file_of, order_by_time, sealed, some_presentation,
                     with_field)
from spoolbox.reading.leaves import Walk, leaves_in


class TestLeavesIn(unittest.TestCase):
    def test_the_leaves_of_a_file(self):
        self.assertEqual(leaves_in(SOUND), LEAVES)
        chance = random.Random(301)
        for _ in range(60):
            presentation = some_presentation(chance)
            leaves = all_leaves(presentation, chance.randrange(2 ** 32), order_by_time(presentation), [])
            self.assertEqual(leaves_in(file_of(leaves)), leaves)

    def test_the_first_error_without_those_of_the_bodies_of_units(self):
        for name, at, data in all_faults() + list(found_at_the_end()):
            reading = Reading(data, with_bodies=False)
            if name == "BadBody" and 2 <= at <= 8:
                # What is found instead depends on the offsets and the sum; there may be no error at all.
                self.assertIn(reading.outcome[0], ("WrongEntry", "WrongSum", SMALL[0]))
            else:
                self.assertEqual(reading.outcome, (name, at))
            if reading.outcome[0] == SMALL[0]:
                self.assertEqual(leaves_in(data), reading.leaves)
            else:
                self.assertEqual(fault_of(leaves_in, data), reading.outcome)

    def test_bad_bodies_of_units_are_not_looked_at(self):
        for number, body in ((2, [1] * 201), (4, []), (4, [0, 0, 1]), (6, [0, 0] + [7] * 1022)):
            leaves = list(LEAVES[:10])
            leaves[number] = with_field(leaves[number], 8, body)
            leaves[9] = with_field(leaves[9], 8, [0])
            leaves = sealed(leaves)
            self.assertEqual(leaves_in(file_of(leaves)), leaves)

    def test_nothing_is_modified_and_each_list_is_new(self):
        data = list(SOUND)
        for leaf in leaves_in(data):
            leaf[8].append(5)
        leaves_in(data).clear()
        self.assertEqual(data, SOUND)
        self.assertEqual(leaves_in(data), LEAVES)


class TestWalk(unittest.TestCase):
    def test_leaf_before_changes_nothing(self):
        walk = Walk()
        for byte in SOUND:
            state = {name: str(value) for name, value in vars(walk).items()}
            leaf = walk.leaf_before(byte)
            self.assertEqual(walk.leaf_before(byte), leaf)
            fault_of(walk.leaf_before, 0)
            self.assertEqual({name: str(value) for name, value in vars(walk).items()}, state)
            walk.pass_on(byte, leaf)
        self.assertIsNone(walk.check_whole())

    def test_a_copy_has_all_of_the_state_for_its_own(self):
        walk = Walk()
        for byte in SOUND[:-30]:
            walk.pass_on(byte, walk.leaf_before(byte))
        other = walk.copy()
        self.assertEqual(vars(other), vars(walk))
        state = {name: str(value) for name, value in vars(walk).items()}
        for byte in SOUND[-30:]:
            other.pass_on(byte, other.leaf_before(byte))
        self.assertEqual({name: str(value) for name, value in vars(walk).items()}, state)
        self.assertIsNone(other.check_whole())
        self.assertEqual((other.ticks, other.skip, other.tags), (SMALL[0], SMALL[1], SMALL[3]))


if __name__ == "__main__":
    unittest.main()
