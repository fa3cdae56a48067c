import copy
import random
import unittest

from faults import LEAVES, SOUND, all_faults, found_at_the_end
from helpers import (Reading, all_leaves, fault_of, file_of, joined, order_by_time, parts_of, sealed, some_layout,
                     some_order, some_presentation, with_field, with_index)
from spoolbox.order.delay import check_delay, delay, file_delay, in_order, witness

RATES = (1, 2, 3, 7, 100, 999999, 1000000)
BAD_RATES = (0, -1, 1000001, -(10 ** 20), 10 ** 20)


def in_time(leaves, rate, d):
    """The property of point 402, from its words."""
    return all(sum(size for _, size in leaves[:at + 1]) <= rate * (leaves[at][0] + d) for at in range(len(leaves)))


def least_delay(leaves, rate):
    """The least number with the property; it halves, because more delay never hurts."""
    low, high = 0, sum(size for _, size in leaves) + 1
    while low < high:
        middle = (low + high) // 2
        if in_time(leaves, rate, middle):
            high = middle
        else:
            low = middle + 1
    return low


def up_to(leaves, time):
    return sum(size for at, size in leaves if at <= time)


def least_witness(leaves, rate):
    """Point 404, from its words."""
    d = least_delay(sorted(leaves), rate)
    if d == 0:
        return None
    return min(time for time, _ in leaves if up_to(leaves, time) > rate * (time + d - 1))


def passes(leaves, rate, number, told):
    """Point 405, from its words."""
    if not in_time(leaves, rate, number):
        return False
    return number == 0 or (told is not None and up_to(leaves, told) > rate * (told + number - 1))


def some_leaves(chance):
    top, most = chance.choice(((5, 9), (30, 40), (1000, 3000), (2 ** 40 - 1, 2 ** 40)))
    return [(chance.randrange(top + 1), chance.choice((0, 1, chance.randrange(most))))
            for _ in range(chance.randrange(9))]


class TestInOrder(unittest.TestCase):
    def test_written_out(self):
        units = [(5, 2, 10), (0, 3, 7), (5, 1, 30), (0, 1, 0), (2, 1, 4)]
        expected = [(0, 1, 0), (0, 3, 7), (2, 1, 4), (5, 1, 30), (5, 2, 10)]
        self.assertEqual(in_order(units), expected)
        self.assertEqual(in_order(units[::-1]), expected)
        self.assertEqual(in_order([]), [])
        self.assertEqual(in_order([(1, 1, 1)]), [(1, 1, 1)])

    def test_equal_times_are_in_the_order_of_the_tracks(self):
        self.assertEqual(in_order([(4, 15, 1), (4, 2, 2), (4, 9, 3)]), [(4, 2, 2), (4, 9, 3), (4, 15, 1)])

    def test_equal_tracks_are_in_the_order_of_the_times(self):
        self.assertEqual(in_order([(10, 2, 1), (9, 2, 2), (11, 2, 3)]), [(9, 2, 2), (10, 2, 1), (11, 2, 3)])

    def test_with_equal_times_and_tracks_they_stay_in_their_order(self):
        units = [(3, 1, 9), (3, 1, 2), (3, 1, 5), (0, 2, 4), (3, 1, 2), (0, 2, 3)]
        self.assertEqual(in_order(units), [(0, 2, 4), (0, 2, 3), (3, 1, 9), (3, 1, 2), (3, 1, 5), (3, 1, 2)])

    def test_great_numbers(self):
        units = [(2 ** 40, 1, 2 ** 70), (2 ** 40 - 1, 15, 0), (2 ** 70, 0, 1)]
        self.assertEqual(in_order(units), [units[1], units[0], units[2]])

    def test_the_list_stays_and_the_answer_is_new(self):
        for units in ([(5, 2, 10), (0, 3, 7)], [(0, 3, 7), (5, 2, 10)], []):
            before = list(units)
            found = in_order(units)
            found.append(9)
            self.assertEqual(units, before)
            self.assertIsNot(in_order(units), units)
            self.assertEqual(len(in_order(units)), len(before))


class TestDelay(unittest.TestCase):
    def test_written_out(self):
        self.assertEqual(delay([], 1), 0)
        self.assertEqual(delay([(0, 0)], 1), 0)
        self.assertEqual(delay([(0, 1)], 1), 1)
        self.assertEqual(delay([(9, 10)], 1), 1)
        self.assertEqual(delay([(10, 10)], 1), 0)
        self.assertEqual(delay([(0, 10)], 3), 4)
        self.assertEqual(delay([(0, 9)], 3), 3)
        self.assertEqual(delay([(1, 9), (2, 0), (2, 4)], 3), 3)
        self.assertEqual(delay([(2, 4), (1, 9)], 3), 4)
        self.assertEqual(delay([(0, 1000000), (5, 1)], 1000000), 1)
        self.assertEqual(delay([(0, 1000001)], 1000000), 2)

    def test_each_sum_is_there_in_time_and_with_one_less_some_sum_is_not(self):
        chance = random.Random(402)
        above = 0
        for _ in range(400):
            leaves, rate = some_leaves(chance), chance.choice(RATES)
            for order in (leaves, sorted(leaves), sorted(leaves)[::-1]):
                number = delay(order, rate)
                self.assertEqual(number, least_delay(order, rate))
                self.assertTrue(in_time(order, rate, number))
                if number > 0:
                    above += 1
                    self.assertFalse(in_time(order, rate, number - 1))
        self.assertGreater(above, 300)

    def test_the_order_of_the_times_has_the_least_delay(self):
        chance = random.Random(403)
        for _ in range(150):
            units = [(time, chance.randrange(1, 4), size) for time, size in some_leaves(chance)]
            rate = chance.choice(RATES)
            best = delay([(time, size) for time, _, size in in_order(units)], rate)
            for _ in range(5):
                chance.shuffle(units)
                self.assertLessEqual(best, delay([(time, size) for time, _, size in units], rate))

    def test_rates_that_are_out_of_range(self):
        for rate in BAD_RATES:
            for leaves in ([], [(0, 5)], [(3, 1), (2, 9)]):
                self.assertEqual(fault_of(delay, leaves, rate), ("OutOfRange", 0))
                self.assertEqual(fault_of(witness, leaves, rate), ("OutOfRange", 0))
        for rate in (1, 1000000):
            self.assertIsNone(fault_of(delay, [(0, 5)], rate))
            self.assertIsNone(fault_of(witness, [(0, 5)], rate))

    def test_nothing_is_modified(self):
        leaves = [(5, 9), (0, 3), (2, 8)]
        delay(leaves, 2)
        witness(leaves, 2)
        check_delay(leaves, 2, 5, 3)
        self.assertEqual(leaves, [(5, 9), (0, 3), (2, 8)])


class TestWitness(unittest.TestCase):
    def test_written_out(self):
        self.assertIsNone(witness([], 1))
        self.assertIsNone(witness([(0, 0), (5, 5)], 1))
        self.assertEqual(witness([(0, 1)], 1), 0)
        # The first one needs a delay of 3, and so do both together.
        self.assertEqual(witness([(0, 3), (4, 4)], 1), 0)
        # The first one needs a delay of 3, both together one of 4.
        self.assertEqual(witness([(0, 3), (4, 5)], 1), 4)
        self.assertEqual(witness([(4, 5), (0, 3)], 1), 4)
        # Each of two at the same time serves only with the other one.
        self.assertEqual(witness([(7, 10), (7, 10), (30, 0)], 1), 7)
        self.assertEqual(witness([(0, 10)], 3), 0)

    def test_it_is_none_only_without_a_delay(self):
        self.assertIsNone(witness([(10, 10)], 1))
        self.assertEqual(witness([(9, 10)], 1), 9)
        self.assertIsNone(witness([(1, 1000000)], 1000000))
        self.assertEqual(witness([(1, 1000001)], 1000000), 1)

    def test_the_delay_is_that_of_the_order_of_the_times(self):
        leaves = [(20, 20), (5, 0)]
        self.assertGreater(delay(leaves, 1), 0)
        self.assertIsNone(witness(leaves, 1))

    def test_the_least_time(self):
        chance = random.Random(404)
        times = 0
        for _ in range(500):
            leaves, rate = some_leaves(chance), chance.choice(RATES)
            expected = least_witness(leaves, rate)
            for order in (leaves, sorted(leaves), sorted(leaves)[::-1]):
                self.assertEqual(witness(order, rate), expected)
            times += expected is not None
        self.assertGreater(times, 100)


class TestCheckDelay(unittest.TestCase):
    def test_the_order_of_the_times_with_its_delay_and_its_witness(self):
        chance = random.Random(405)
        for _ in range(300):
            leaves, rate = sorted(some_leaves(chance)), chance.choice(RATES)
            number, told = delay(leaves, rate), witness(leaves, rate)
            self.assertIs(check_delay(leaves, rate, number, told), True)
            self.assertIs(check_delay(leaves, rate, number + 1, told), False)
            if number > 0:
                self.assertIs(check_delay(leaves, rate, number - 1, told), False)
                self.assertIs(check_delay(leaves, rate, number, None), False)

    def test_written_out(self):
        leaves = [(0, 3), (4, 5), (9, 1)]
        self.assertIs(check_delay(leaves, 1, 4, 4), True)
        self.assertIs(check_delay(leaves, 1, 4, 0), False)
        self.assertIs(check_delay(leaves, 1, 4, 9), False)
        self.assertIs(check_delay(leaves, 1, 4, None), False)
        self.assertIs(check_delay(leaves, 1, 3, 4), False)
        self.assertIs(check_delay(leaves, 1, 5, 4), False)
        self.assertIs(check_delay([], 1, 0, None), True)
        self.assertIs(check_delay([], 1, 1, 0), False)
        self.assertIs(check_delay([], 1, 1, None), False)

    def test_the_witness_need_not_be_the_time_of_a_leaf(self):
        """Such a witness never serves: the sum up to it is that up to the leaf ahead of it, which is in time."""
        rows = (([(2, 29)], 10), ([(0, 25), (9, 0)], 3), ([(0, 25), (9, 1)], 1), ([(1, 100), (3, 26)], 10))
        for leaves, rate in rows:
            number = delay(leaves, rate)
            serve = [told for told in range(50) if check_delay(leaves, rate, number, told)]
            self.assertEqual(serve[0], witness(leaves, rate))
            self.assertLessEqual(set(serve), {time for time, _ in leaves})
            self.assertIs(check_delay(leaves, rate, number, 10 ** 20), False)

    def test_several_leaves_that_serve(self):
        leaves = [(1, 100), (2, 4), (3, 1)]
        # 100 bytes are more than 10 * (1 + 8), 104 are more than 10 * (2 + 8), 105 are not more than 10 * (3 + 8).
        self.assertEqual((delay(leaves, 10), witness(leaves, 10)), (9, 1))
        self.assertEqual([told for told in range(50) if check_delay(leaves, 10, 9, told)], [1, 2])

    def test_the_bounds_themselves(self):
        # 10 ticks bring 50 bytes, 11 ticks 55.
        for size, number in ((49, 6), (50, 6), (51, 7)):
            self.assertEqual(delay([(4, size)], 5), number)
            self.assertIs(check_delay([(4, size)], 5, number, 4), True)
            self.assertIs(check_delay([(4, size)], 5, number - 1, 4), False)
            self.assertIs(check_delay([(4, size)], 5, number + 1, 4), False)
        # 45 bytes are not more than 5 * (4 + 6 - 1), 46 are.
        self.assertIs(check_delay([(4, 45)], 5, 5, 4), True)
        self.assertIs(check_delay([(4, 45)], 5, 6, 4), False)
        self.assertIs(check_delay([(4, 46)], 5, 6, 4), True)

    def test_it_is_not_looked_at_if_the_number_is_0(self):
        for told in (None, 0, 3, 10 ** 20):
            self.assertIs(check_delay([(5, 5), (9, 4)], 1, 0, told), True)
            self.assertIs(check_delay([(5, 6), (9, 4)], 1, 0, told), False)

    def test_other_orders(self):
        # The order counts for the number, but not for the witness.
        leaves = [(9, 2), (0, 3)]
        self.assertEqual((delay(leaves, 1), delay(leaves[::-1], 1)), (5, 3))
        self.assertIs(check_delay(leaves, 1, 5, 0), False)
        self.assertIs(check_delay(leaves, 1, 3, 0), False)
        self.assertIs(check_delay(leaves[::-1], 1, 3, 0), True)
        # Two with the same time in either order.
        for order in ([(4, 8), (4, 3)], [(4, 3), (4, 8)]):
            self.assertIs(check_delay(order, 1, 7, 4), True)

    def test_against_the_words_of_the_point(self):
        chance = random.Random(406)
        found = {True: 0, False: 0}
        for _ in range(2000):
            leaves, rate = some_leaves(chance), chance.choice(RATES)
            number = max(0, delay(leaves, rate) + chance.choice((0, 0, 0, -1, 1)))
            times = [time for time, _ in leaves]
            told = chance.choice([None, 0, witness(leaves, rate)] + times + [time + 1 for time in times])
            expected = passes(leaves, rate, number, told)
            self.assertIs(check_delay(leaves, rate, number, told), expected)
            found[expected] += 1
        self.assertGreater(min(found.values()), 300)

    def test_no_order_has_a_smaller_delay_if_the_check_passes(self):
        chance = random.Random(407)
        for _ in range(400):
            leaves, rate, told = some_leaves(chance), chance.choice(RATES[:4]), chance.randrange(40)
            number = delay(leaves, rate)
            if check_delay(leaves, rate, number, told):
                self.assertEqual(number, least_delay(sorted(leaves), rate))


def sizes_of(leaves):
    """The times of the units and the sizes of their writings, in the order of the file."""
    return [(leaf[5], len(joined(parts_of(leaf)))) for leaf in leaves if leaf[0] == 2]


class TestFileDelay(unittest.TestCase):
    def test_no_units(self):
        for presentation in ((1, 0, [], []), (1, 5, [("", "a", [])], [("a", "b")])):
            data = file_of(all_leaves(presentation, 4, [], []))
            self.assertEqual(file_delay(data, 1), 0)
            for rate in BAD_RATES:
                self.assertEqual(fault_of(file_delay, data, rate), ("OutOfRange", 0))

    def test_written_out(self):
        # Each leaf has 14 bytes, five short step numbers and its body: 22 and 19 bytes.
        units = [(0, 20, [1, 0, 0], False), (20, 20, [], False)]
        data = file_of(all_leaves((1, 0, [("", "a", units)], []), 4, [(1, 0), (1, 1)], []))
        self.assertEqual(file_delay(data, 1), 22)
        self.assertEqual(file_delay(data, 2), 11)
        self.assertEqual(file_delay(data, 21), 2)
        self.assertEqual(file_delay(data, 22), 1)
        self.assertEqual(file_delay(data, 1000000), 1)

    def test_the_sizes_are_those_before_stuffing_in_the_order_of_the_file(self):
        chance = random.Random(401)
        for _ in range(150):
            presentation = some_presentation(chance)
            leaves = all_leaves(presentation, *some_layout(chance, presentation))
            data = file_of(leaves)
            for rate in (1, 2, 25, 1000000):
                self.assertEqual(file_delay(data, rate), least_delay(sizes_of(leaves), rate))

    def test_the_order_of_the_times_is_the_best_one(self):
        chance = random.Random(408)
        less = 0
        for _ in range(60):
            presentation = some_presentation(chance)
            best = file_of(all_leaves(presentation, 3, order_by_time(presentation), []))
            other = file_of(all_leaves(presentation, 3, some_order(chance, presentation), []))
            self.assertLessEqual(file_delay(best, 1), file_delay(other, 1))
            less += file_delay(best, 1) < file_delay(other, 1)
        self.assertGreater(less, 3)

    def test_many_bytes_in_one_block(self):
        """A content without a 0 takes a second block in its piece: this byte is not counted."""
        units = [(0, 1, [7] * 200, False)]
        leaves = all_leaves((1, 0, [("", "a", units)], []), 2 ** 32 - 1, [(1, 0)], [])
        self.assertEqual(file_delay(file_of(leaves), 1), 220)

    def test_the_errors_of_the_file_come_before_that_of_the_rate(self):
        for _, _, data in all_faults()[::7] + list(found_at_the_end())[::30]:
            outcome = Reading(data, with_bodies=False).outcome
            expected = outcome if len(outcome) == 2 else None
            self.assertEqual(fault_of(file_delay, data, 1), expected)
            for rate in BAD_RATES:
                self.assertEqual(fault_of(file_delay, data, rate), expected or ("OutOfRange", 0))
        for rate in BAD_RATES:
            self.assertEqual(fault_of(file_delay, SOUND, rate), ("OutOfRange", 0))

    def test_bad_bodies_of_units_raise_nothing(self):
        for number, body in ((2, [1] * 201), (4, []), (4, [0, 0, 1]), (6, [0, 0] + [7] * 1022)):
            leaves = list(LEAVES[:9])
            leaves[number] = with_field(leaves[number], 8, body)
            leaves = sealed(with_index(leaves, [(1, 2)]))
            data = file_of(leaves)
            self.assertEqual(Reading(data).outcome, ("BadBody", number))
            for rate in (1, 30):
                self.assertEqual(file_delay(data, rate), least_delay(sizes_of(leaves), rate))
            self.assertEqual(fault_of(file_delay, data, 0), ("OutOfRange", 0))
            self.assertEqual(fault_of(file_delay, data + [0], 0), ("Behind", 11))

    def test_nothing_is_modified(self):
        data = copy.copy(SOUND)
        file_delay(data, 5)
        self.assertEqual(data, SOUND)


if __name__ == "__main__":
    unittest.main()
