import itertools
import random
import unittest

from helpers import change_of, fault_of
from spoolbox.model.patches import change, changed


def short_lists(most):
    """All lists of up to `most` bytes that are 0 or 1."""
    return [list(row) for size in range(most + 1) for row in itertools.product((0, 1), repeat=size)]


class TestChange(unittest.TestCase):
    def test_alike(self):
        self.assertEqual(change([], []), (0, 0, []))
        self.assertEqual(change([5], [5]), (1, 0, []))
        self.assertEqual(change([5, 6, 5, 6], [5, 6, 5, 6]), (4, 0, []))

    def test_one_is_empty(self):
        self.assertEqual(change([], [1, 2]), (0, 0, [1, 2]))
        self.assertEqual(change([1, 2], []), (0, 0, []))

    def test_one_is_the_beginning_of_the_other(self):
        self.assertEqual(change([1, 2], [1, 2, 3, 4]), (2, 0, [3, 4]))
        self.assertEqual(change([1, 2, 3, 4], [1, 2]), (2, 0, []))

    def test_one_is_the_end_of_the_other(self):
        self.assertEqual(change([3, 4], [1, 2, 3, 4]), (0, 2, [1, 2]))
        self.assertEqual(change([1, 2, 3, 4], [3, 4]), (0, 2, []))

    def test_the_same_byte_many_times(self):
        self.assertEqual(change([7] * 3, [7] * 5), (3, 0, [7, 7]))
        self.assertEqual(change([7] * 5, [7] * 3), (3, 0, []))
        self.assertEqual(change([7, 7, 7], [7, 7, 8, 7, 7]), (2, 1, [8, 7]))
        self.assertEqual(change([7, 7, 8, 7, 7], [7, 7, 7]), (2, 1, []))
        self.assertEqual(change([1, 2, 1], [1, 2, 1, 2, 1]), (3, 0, [2, 1]))
        self.assertEqual(change([1, 2, 1, 2, 1], [1, 2, 1]), (3, 0, []))
        self.assertEqual(change([1, 1, 2], [1, 2]), (1, 1, []))
        self.assertEqual(change([1, 2], [1, 1, 2]), (1, 1, [1]))

    def test_a_difference_in_the_middle(self):
        self.assertEqual(change([1, 2, 3, 4], [1, 9, 9, 9, 4]), (1, 1, [9, 9, 9]))
        self.assertEqual(change([1, 2, 3, 4], [1, 4]), (1, 1, []))
        self.assertEqual(change([1, 4], [1, 0, 4]), (1, 1, [0]))
        self.assertEqual(change([1, 2, 3], [1, 9, 3]), (1, 1, [9]))

    def test_nothing_alike(self):
        self.assertEqual(change([1, 2], [3, 4]), (0, 0, [3, 4]))
        self.assertEqual(change([1, 2], [2, 1]), (0, 0, [2, 1]))

    def test_all_short_lists_and_back(self):
        for old in short_lists(5):
            for new in short_lists(5):
                parts = change(old, new)
                self.assertEqual(parts, change_of(old, new), (old, new))
                self.assertEqual(changed(old, parts), new, (old, new))

    def test_long_lists_by_chance(self):
        chance = random.Random(206)
        for _ in range(300):
            old = [chance.choice((0, 1, 255)) for _ in range(chance.randrange(200))]
            cut, stop = sorted((chance.randrange(len(old) + 1), chance.randrange(len(old) + 1)))
            new = old[:cut] + [chance.randrange(3) for _ in range(chance.randrange(4))] + old[stop:]
            self.assertEqual(change(old, new), change_of(old, new))
            self.assertEqual(changed(old, change(old, new)), new)

    def test_nothing_is_modified_and_each_list_is_new(self):
        old, new = [], [1, 2]
        change(old, new)[2].append(3)
        change(new, new)[2].append(3)
        self.assertEqual((old, new), ([], [1, 2]))
        self.assertEqual(change(old, new), (0, 0, [1, 2]))


class TestChanged(unittest.TestCase):
    def test_front_and_back_are_more_than_there_is(self):
        self.assertEqual(fault_of(changed, [], (1, 0, [])), ("BadChange", 0))
        self.assertEqual(fault_of(changed, [], (0, 1, [])), ("BadChange", 0))
        self.assertEqual(fault_of(changed, [1, 2, 3], (2, 2, [])), ("BadChange", 0))
        self.assertEqual(fault_of(changed, [1, 2, 3], (4, 0, [])), ("BadChange", 0))
        self.assertEqual(fault_of(changed, [1, 2, 3], (0, 4, [])), ("BadChange", 0))
        self.assertEqual(fault_of(changed, [1, 2, 3], (2 ** 32 - 1, 2 ** 32 - 1, [1])), ("BadChange", 0))
        self.assertEqual(fault_of(changed, [1, 2, 3], (3, 1, [1, 2, 3])), ("BadChange", 0))

    def test_front_and_back_are_all_there_is(self):
        self.assertEqual(changed([1, 2, 3], (2, 1, [9])), [1, 2, 9, 3])
        self.assertEqual(changed([1, 2, 3], (3, 0, [])), [1, 2, 3])
        self.assertEqual(changed([1, 2, 3], (0, 3, [9])), [9, 1, 2, 3])

    def test_the_front_could_be_greater(self):
        self.assertEqual(fault_of(changed, [1, 2, 3], (0, 0, [1, 9])), ("BadChange", 1))
        self.assertEqual(fault_of(changed, [1, 2, 3], (1, 0, [2])), ("BadChange", 1))
        self.assertEqual(fault_of(changed, [1, 2, 3], (2, 1, [])), ("BadChange", 1))
        self.assertEqual(fault_of(changed, [7, 7], (0, 2, [7])), ("BadChange", 1))
        self.assertEqual(fault_of(changed, [7, 7, 7], (0, 2, [])), ("BadChange", 1))

    def test_the_back_could_be_greater(self):
        self.assertEqual(fault_of(changed, [1, 2, 3], (0, 0, [9, 3])), ("BadChange", 1))
        self.assertEqual(fault_of(changed, [1, 2, 3], (0, 1, [9, 2])), ("BadChange", 1))
        self.assertEqual(fault_of(changed, [1, 2, 3], (1, 0, [9, 9, 3])), ("BadChange", 1))

    def test_the_middle_holds_what_the_front_or_the_back_would_have_to_hold(self):
        self.assertEqual(changed([1, 2, 3, 4], (1, 1, [9])), [1, 9, 4])
        self.assertEqual(fault_of(changed, [1, 2, 3, 4], (1, 1, [2, 9])), ("BadChange", 1))
        self.assertEqual(fault_of(changed, [1, 2, 3, 4], (1, 1, [9, 3])), ("BadChange", 1))
        self.assertEqual(fault_of(changed, [1, 2, 3, 4], (1, 1, [2, 3])), ("BadChange", 1))

    def test_exactly_the_proper_changes_are_taken(self):
        lists = short_lists(4)
        for old in lists:
            proper = {tuple(new): change_of(old, new) for new in short_lists(8)}
            for front, back, middle in itertools.product(range(6), range(6), short_lists(3)):
                parts = (front, back, middle)
                if front + back > len(old):
                    self.assertEqual(fault_of(changed, old, parts), ("BadChange", 0))
                    continue
                new = old[:front] + middle + old[len(old) - back:]
                if proper[tuple(new)] == parts:
                    self.assertEqual(changed(old, parts), new)
                else:
                    self.assertEqual(fault_of(changed, old, parts), ("BadChange", 1))

    def test_nothing_is_modified_and_each_list_is_new(self):
        old, middle = [1, 2, 3], [9]
        changed(old, (1, 1, middle)).append(0)
        changed([], (0, 0, middle)).append(0)
        changed(old, (3, 0, [])).append(0)
        fault_of(changed, old, (0, 0, [1]))
        self.assertEqual((old, middle), ([1, 2, 3], [9]))
        self.assertEqual(changed(old, (1, 1, middle)), [1, 9, 3])


if __name__ == "__main__":
    unittest.main()
