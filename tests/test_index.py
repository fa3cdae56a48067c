import copy
import itertools
import random
import unittest

from helpers import best_of, fault_of, greedy_of, names_of
from spoolbox.order.index import best_index, check_index, greedy, index_witness, reach

ROW = [True, False, True, False, False, True, True]


def tracks_of(most):
    """All lists of booleans of up to `most` units that are empty or begin with True."""
    rows = [[]]
    for size in range(most):
        rows += [[True, *row] for row in itertools.product((True, False), repeat=size)]
    return rows


def all_indexes(keys, most=None):
    names = names_of(keys)
    most = len(names) if most is None else min(most, len(names))
    for many in range(most + 1):
        yield from map(list, itertools.combinations(names, many))


def way_reach(keys, index):
    """Point 502, unit by unit."""
    ways = [0]
    for at, row in enumerate(keys):
        for place in range(len(row)):
            ways.append(place - max(e for e in range(place + 1) if e == 0 or (at + 1, e) in index) + 1)
    return max(ways)


def witness_of(keys, count):
    """Point 505."""
    v = best_of(keys, count)[1] - 1
    if v < 1:
        return []
    stretches = []
    for at, row in enumerate(keys):
        start = 0
        while start is not None and start + v < len(row):
            stretches.append((at + 1, start + 1))
            start = max([place for place in range(start + 1, start + v + 1) if row[place]], default=None)
        if start is None:
            return stretches[-1:]
    return stretches[:count + 1]


def some_keys(chance):
    share = chance.choice((0.1, 0.5, 0.9))
    rows = []
    for _ in range(chance.randrange(5)):
        size = chance.choice((0, 1, 2, 9, 40))
        rows.append([place == 0 or chance.random() < share for place in range(size)])
    return rows


SMALL_ROWS = tracks_of(5)
SMALL_KEYS = [[]] + [[row] for row in SMALL_ROWS]
SMALL_KEYS += [[first, second] for first in tracks_of(4) for second in tracks_of(3)]
SMALL_KEYS += [[[], [True, True, True], [], [True, False, True]], [[True]] * 15, [[]] * 15, [[True, True]] * 15]


class TestReach(unittest.TestCase):
    def test_written_out(self):
        self.assertEqual(reach([], []), 0)
        self.assertEqual(reach([[]], []), 0)
        self.assertEqual(reach([[], [], []], []), 0)
        self.assertEqual(reach([[True]], []), 1)
        self.assertEqual(reach([[], [True]], []), 1)
        self.assertEqual(reach([ROW], []), 7)
        self.assertEqual(reach([ROW], [(1, 2)]), 5)
        self.assertEqual(reach([ROW], [(1, 5)]), 5)
        self.assertEqual(reach([ROW], [(1, 6)]), 6)
        self.assertEqual(reach([ROW], [(1, 2), (1, 5), (1, 6)]), 3)
        self.assertEqual(reach([ROW, ROW], [(1, 2), (1, 5)]), 7)
        self.assertEqual(reach([ROW, ROW], [(1, 2), (2, 5)]), 5)

    def test_all_indexes_of_small_keys(self):
        for keys in SMALL_KEYS[:-1]:
            for index in all_indexes(keys, most=4):
                self.assertEqual(reach(keys, index), way_reach(keys, index), (keys, index))

    def test_all_keys_are_named(self):
        keys = [ROW] * 3
        self.assertEqual(reach(keys, names_of(keys)), 3)
        self.assertEqual(reach([[True] * 300], [(1, place) for place in range(1, 300)]), 1)
        self.assertEqual(reach([[True, True]] * 15, names_of([[True, True]] * 15)), 1)

    def test_pairs_that_name_nothing(self):
        keys = [ROW, [], [True], [True, True]]
        wrong = [(0, 0), (0, 2), (-1, 2), (-4, 1), (5, 1), (5, 0), (2 ** 40, 1), (-(10 ** 20), 1), (2, 0), (2, 1),
                 (2, -1), (3, 0), (3, 1), (3, -1), (1, 0), (1, 1), (1, 3), (1, 4), (1, 7), (1, 8), (1, -1), (1, -2), (1, -5),
                 (1, 10 ** 20), (1, -(10 ** 20)), (4, 0), (4, 2), (4, -1)]
        for pair in wrong:
            self.assertEqual(fault_of(reach, keys, [pair]), ("OutOfRange", 0), pair)
            self.assertEqual(fault_of(reach, keys, [(1, 2), (1, 5), pair]), ("OutOfRange", 2), pair)
            self.assertEqual(fault_of(reach, keys, [(1, 2), pair, (1, 5), pair]), ("OutOfRange", 1), pair)
            self.assertEqual(fault_of(reach, [], [pair]), ("OutOfRange", 0), pair)

    def test_pairs_that_are_not_greater(self):
        keys = [ROW, ROW]
        self.assertEqual(fault_of(reach, keys, [(1, 2), (1, 2)]), ("OutOfRange", 1))
        self.assertEqual(fault_of(reach, keys, [(1, 5), (1, 2)]), ("OutOfRange", 1))
        self.assertEqual(fault_of(reach, keys, [(2, 2), (1, 5)]), ("OutOfRange", 1))
        self.assertEqual(fault_of(reach, keys, [(1, 2), (1, 5), (2, 6), (2, 6), (1, 0)]), ("OutOfRange", 3))
        self.assertEqual(fault_of(reach, keys, [(1, 2), (2, 2), (1, 5), (9, 9)]), ("OutOfRange", 2))
        self.assertEqual(fault_of(reach, keys, [(1, 2), (1, 0), (1, 2)]), ("OutOfRange", 1))


class TestGreedy(unittest.TestCase):
    def test_written_out(self):
        self.assertEqual(greedy(ROW, 1), None)
        self.assertEqual(greedy(ROW, 2), None)
        self.assertEqual(greedy(ROW, 3), [2, 5])
        self.assertEqual(greedy(ROW, 4), [2, 6])
        self.assertEqual(greedy(ROW, 5), [5])
        self.assertEqual(greedy(ROW, 6), [6])
        self.assertEqual(greedy(ROW, 7), [])
        self.assertEqual(greedy(ROW, 8), [])

    def test_no_unit_and_a_single_one(self):
        for w in (1, 2, 300, 2 ** 32 - 1):
            self.assertEqual(greedy([], w), [])
            self.assertEqual(greedy([True], w), [])

    def test_against_point_503(self):
        for row in tracks_of(8):
            for w in range(1, len(row) + 3):
                self.assertEqual(greedy(row, w), greedy_of(row, w), (row, w))

    def test_the_fewest_entries_of_all_indexes(self):
        for row in tracks_of(7):
            found = [(way_reach([row], index), len(index)) for index in all_indexes([row])]
            for w in range(1, len(row) + 3):
                sizes = [size for longest, size in found if longest <= w]
                if sizes:
                    self.assertEqual(len(greedy(row, w)), min(sizes))
                else:
                    self.assertIsNone(greedy(row, w))

    def test_long_rows(self):
        for keys in ([True] * 300, [True] + [False] * 299, ([True] + [False] * 6) * 42):
            for w in range(1, 302):
                self.assertEqual(greedy(keys, w), greedy_of(keys, w))


class TestBestIndex(unittest.TestCase):
    def test_no_units(self):
        for keys in ([], [[]], [[]] * 15):
            for count in (0, 1, 100):
                self.assertEqual(best_index(keys, count), ([], 0))
                self.assertEqual(index_witness(keys, count), [])

    def test_written_out(self):
        self.assertEqual(best_index([ROW], 0), ([], 7))
        self.assertEqual(best_index([ROW], 1), ([(1, 5)], 5))
        self.assertEqual(best_index([ROW], 2), ([(1, 2), (1, 5)], 3))
        self.assertEqual(best_index([ROW], 3), ([(1, 2), (1, 5)], 3))
        self.assertEqual(best_index([ROW], 100), ([(1, 2), (1, 5)], 3))
        self.assertEqual(best_index([[True, True], ROW, []], 1), ([(2, 5)], 5))
        self.assertEqual(best_index([[True]], 5), ([], 1))

    def test_against_all_indexes(self):
        for keys in SMALL_KEYS[:-1]:
            found = [(way_reach(keys, index), len(index)) for index in all_indexes(keys)]
            for count in range(len(names_of(keys)) + 2):
                index, number = best_index(keys, count)
                self.assertIn(index, list(all_indexes(keys)))
                self.assertLessEqual(len(index), count)
                self.assertEqual(way_reach(keys, index), number)
                self.assertEqual((number, len(index)), min(pair for pair in found if pair[1] <= count))
                self.assertEqual((index, number), best_of(keys, count))

    def test_longer_ones_by_chance(self):
        chance = random.Random(504)
        for _ in range(150):
            keys = some_keys(chance)
            for count in (0, 1, 2, 5, 20, 200):
                self.assertEqual(best_index(keys, count), best_of(keys, count))

    def test_the_greatest(self):
        keys = [[True] * 300] * 15
        index, number = best_index(keys, 100)
        self.assertEqual((number, len(index)), (43, 90))
        self.assertEqual(best_index([[True] + [False] * 299], 100), ([], 300))
        self.assertEqual(best_index([[True] * 300], 299)[1], 1)


class TestWitness(unittest.TestCase):
    def test_written_out(self):
        self.assertEqual(index_witness([ROW], 0), [(1, 1)])
        self.assertEqual(index_witness([ROW], 1), [(1, 1), (1, 3)])
        # No index has a reach of 2, because the units 3 and 4 are no keys.
        self.assertEqual(index_witness([ROW], 2), [(1, 3)])
        self.assertEqual(index_witness([[True, True, True]], 1), [(1, 1), (1, 2)])
        self.assertEqual(index_witness([[True, True, True]], 2), [])
        self.assertEqual(index_witness([[True]], 0), [])

    def test_a_stretch_without_a_key_stands_alone(self):
        self.assertEqual(index_witness([[True] * 3, [True, False]], 5), [(2, 1)])
        many = [True] * 9
        self.assertEqual(index_witness([many, [], [True] * 3], 3), [(1, 1), (1, 3), (1, 5), (1, 7)])
        # It plays no part that there are enough stretches ahead of it.
        self.assertEqual(index_witness([many, [], [True, True, True, False, False]], 3), [(3, 3)])
        self.assertEqual(index_witness([many, [], [True] * 5, [True, False]], 20), [(4, 1)])
        # The first one of several stands alone.
        self.assertEqual(index_witness([many, [True, False, True, False], [True, False]], 20), [(2, 1)])

    def test_against_point_505_and_the_check(self):
        chance = random.Random(505)
        for keys in SMALL_KEYS + [some_keys(chance) for _ in range(150)]:
            for count in (0, 1, 2, 3, 5, 20, 200):
                index, number = best_index(keys, count)
                witness = index_witness(keys, count)
                self.assertEqual(witness, witness_of(keys, count), (keys, count))
                self.assertIs(check_index(keys, count, index, number, witness), True)
                if number <= 1:
                    self.assertEqual(witness, [])
                elif len(witness) != count + 1:
                    (track, first), = witness
                    self.assertNotIn(True, keys[track - 1][first:first + number - 1])


class TestCheckIndex(unittest.TestCase):
    KEYS = [ROW, [], [True, True, True]]

    def check(self, expected, index, number, witness, count=1, keys=None):
        found = check_index(self.KEYS if keys is None else keys, count, index, number, witness)
        self.assertIs(found, expected, (index, number, witness, count))

    def test_it_passes(self):
        self.check(True, [(1, 5)], 5, [(1, 1), (1, 3)])
        self.check(True, [(1, 5)], 5, [(1, 3), (1, 1)])
        self.check(True, [(1, 2)], 5, [(1, 1), (1, 3)])
        self.check(True, [], 7, [(1, 1)], count=0)
        self.check(True, [(1, 2), (1, 5)], 3, [(1, 3)], count=9)
        self.check(True, [(1, 2), (1, 5)], 3, [(1, 1), (1, 3), (1, 3)], count=9)

    def test_no_index(self):
        for index in ([(1, 5), (1, 2)], [(1, 5), (1, 5)], [(3, 1), (1, 5)], [(1, 4)], [(1, 0)], [(0, 5)], [(4, 1)],
                      [(2, 0)], [(1, -2)], [(-1, 1)], [(1, 7)], [(1, 5), (1, 7)]):
            for number in range(-1, 9):
                self.check(False, index, number, [(1, 1), (1, 3)], count=5)
                self.check(False, index, number, [(1, 3)], count=5)

    def test_too_many_entries(self):
        self.check(True, [(1, 2), (1, 5)], 3, [(1, 3)], count=2)
        self.check(False, [(1, 2), (1, 5)], 3, [(1, 3)], count=1)
        self.check(False, [(1, 5)], 5, [(1, 1), (1, 3)], count=0)

    def test_another_number(self):
        for number in (-(2 ** 40), -1, 0, 1, 2, 3, 4, 6, 7, 2 ** 40):
            self.check(False, [(1, 5)], number, [(1, 1), (1, 3)])
            self.check(False, [(1, 5)], number, [])
        for number in (-1, 1, 2):
            self.check(False, [], number, [], keys=[])

    def test_a_small_number_needs_no_witness(self):
        for witness in ([], [(0, 0)], [(1, 1), (1, 1)], [(-5, 10 ** 20)]):
            self.check(True, [], 0, witness, keys=[])
            self.check(True, [], 0, witness, keys=[[], []])
            self.check(True, [], 1, witness, keys=[[True], []])
            self.check(True, [(1, 1), (1, 2)], 1, witness, keys=[[True] * 3], count=2)

    def test_what_is_no_stretch(self):
        for pair in ((1, 0), (1, -1), (1, 4), (1, 5), (1, 10 ** 20), (0, 1), (-1, 1), (-3, 1), (2, 1), (3, 1), (4, 1),
                     (10 ** 20, 1), (2, 0), (1, -(10 ** 20))):
            self.check(False, [(1, 5)], 5, [(1, 1), (1, 3), pair])
            self.check(False, [(1, 5)], 5, [pair, (1, 1), (1, 3)])

    def test_a_stretch_without_a_key_does_not_make_up_for_what_is_none(self):
        for pair in ((1, 0), (1, 6), (2, 1), (3, 2), (0, 1), (4, 1)):
            self.check(False, [(1, 2), (1, 5)], 3, [(1, 3), pair], count=2)
            self.check(False, [(1, 2), (1, 5)], 3, [pair, (1, 3)], count=2)

    def test_the_ends_of_a_track(self):
        self.check(True, [], 7, [(1, 1)], count=0)
        self.check(False, [], 7, [(1, 2)], count=0)
        self.check(True, [], 3, [(1, 1)], count=0, keys=[[True] * 3])
        self.check(True, [(1, 1)], 2, [(1, 1), (1, 2)], keys=[[True] * 3])
        self.check(False, [(1, 1)], 2, [(1, 1), (1, 3)], keys=[[True] * 3])

    def test_too_few_stretches(self):
        self.check(False, [(1, 5)], 5, [])
        self.check(False, [(1, 5)], 5, [(1, 1)])
        self.check(False, [(1, 5)], 5, [(1, 1), (1, 3)], count=2)

    def test_stretches_that_share_a_key(self):
        keys = [[True] * 9, [True] * 9]
        index = [(1, 3), (1, 6), (2, 3), (2, 6)]
        self.check(True, index, 3, [(1, 1), (1, 3), (1, 5), (2, 1), (2, 3)], count=4, keys=keys)
        self.check(True, index, 3, [(1, 1), (1, 3), (1, 5), (1, 7), (2, 7)], count=4, keys=keys)
        self.check(False, index, 3, [(1, 1), (1, 3), (1, 5), (1, 5), (2, 3)], count=4, keys=keys)
        self.check(False, index, 3, [(1, 1), (1, 3), (1, 5), (2, 1), (2, 2)], count=4, keys=keys)
        self.check(False, index, 3, [(1, 1), (1, 3), (1, 5), (2, 1), (2, 3), (2, 3)], count=4, keys=keys)
        # A place that is no key may be in two of them.
        self.check(True, [(1, 5)], 5, [(1, 1), (1, 3)])
        self.check(False, [(1, 5)], 5, [(1, 2), (1, 3)])

    def test_a_check_that_passes_is_right(self):
        for keys in [[row] for row in tracks_of(5)] + [[[True, True, True], [True, False, True]]]:
            least = {count: min(way_reach(keys, index) for index in all_indexes(keys, count)) for count in range(3)}
            pairs = [(track, first) for track in range(len(keys) + 2) for first in range(-1, 6)]
            witnesses = [[], *([pair] for pair in pairs), *([one, two] for one in pairs for two in pairs)]
            for count in range(3):
                for index in all_indexes(keys, count):
                    number = way_reach(keys, index)
                    passed = any(check_index(keys, count, index, number, witness) for witness in witnesses)
                    if passed:
                        self.assertEqual(number, least[count])
                    if number > least[count]:
                        self.assertFalse(passed)


class TestArguments(unittest.TestCase):
    def test_nothing_is_modified_and_each_list_is_new(self):
        keys = [list(ROW), [], [True, True, True]]
        index, witness = [(1, 5)], [(1, 1), (1, 3)]
        before = copy.deepcopy((keys, index, witness))
        reach(keys, index)
        check_index(keys, 1, index, 5, witness)
        greedy(keys[0], 3).append(1)
        best_index(keys, 1)[0].append(1)
        best_index([], 1)[0].append(1)
        index_witness(keys, 1).append(1)
        index_witness([], 1).append(1)
        fault_of(reach, keys, [(9, 9)])
        self.assertEqual((keys, index, witness), before)
        self.assertEqual((greedy(keys[0], 3), best_index([], 1), index_witness([], 1)), ([2, 5], ([], 0), []))
        self.assertEqual((best_index(keys, 1), index_witness(keys, 1)), (([(1, 5)], 5), [(1, 1), (1, 3)]))


if __name__ == "__main__":
    unittest.main()
