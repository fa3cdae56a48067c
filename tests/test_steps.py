import unittest

from helpers import fault_of, steps
from spoolbox.wire.steps import get_steps, put_steps

TOP = 2 ** 40
# The numbers at which the number of bytes grows, and their neighbours.
EDGES = [0, 1, TOP - 2, TOP - 1]
for power in range(1, 6):
    EDGES += [128 ** power - 1, 128 ** power, 128 ** power + 1]


class TestPutSteps(unittest.TestCase):
    def test_written_out(self):
        self.assertEqual(put_steps(0), [0])
        self.assertEqual(put_steps(1), [1])
        self.assertEqual(put_steps(127), [127])
        self.assertEqual(put_steps(128), [128, 1])
        self.assertEqual(put_steps(300), [172, 2])
        self.assertEqual(put_steps(16383), [255, 127])
        self.assertEqual(put_steps(16384), [128, 128, 1])
        self.assertEqual(put_steps(TOP - 1), [255, 255, 255, 255, 255, 31])

    def test_edges(self):
        for number in EDGES:
            self.assertEqual(put_steps(number), steps(number), number)

    def test_number_of_bytes(self):
        for power in range(1, 6):
            self.assertEqual(len(put_steps(128 ** power - 1)), power)
            self.assertEqual(len(put_steps(128 ** power)), power + 1)
        self.assertEqual(len(put_steps(TOP - 1)), 6)

    def test_out_of_range(self):
        for number in (-1, -2, -128, -TOP, -(10 ** 30), TOP, TOP + 1, 128 ** 6, 10 ** 30):
            self.assertEqual(fault_of(put_steps, number), ("OutOfRange", 0), number)

    def test_each_row_is_new(self):
        for number in (0, 128, TOP - 1):
            put_steps(number).clear()
            self.assertEqual(put_steps(number), steps(number))


class TestGetSteps(unittest.TestCase):
    def test_alone_and_among_other_bytes(self):
        for number in EDGES:
            row = steps(number)
            self.assertEqual(get_steps(row, 0), (number, len(row)))
            self.assertEqual(get_steps([128, 255] + row + [128, 0, 255], 2), (number, 2 + len(row)))
            self.assertEqual(get_steps([0] + row, 1), (number, 1 + len(row)))

    def test_small_numbers_and_rows_one_after_another(self):
        row = []
        for number in range(700):
            self.assertEqual(get_steps(row + steps(number), len(row)), (number, len(row) + len(steps(number))))
            row += steps(number)

    def test_the_result_is_a_tuple(self):
        self.assertIsInstance(get_steps([5], 0), tuple)

    def test_truncated(self):
        self.assertEqual(fault_of(get_steps, [], 0), ("Truncated", 0))
        self.assertEqual(fault_of(get_steps, [5], 1), ("Truncated", 1))
        self.assertEqual(fault_of(get_steps, [5, 0, 128, 1], 4), ("Truncated", 4))
        for many in range(1, 6):
            for byte in (128, 129, 255):
                self.assertEqual(fault_of(get_steps, [byte] * many, 0), ("Truncated", many))
                self.assertEqual(fault_of(get_steps, [1, 2] + [byte] * many, 2), ("Truncated", many + 2))

    def test_sixth_byte_is_128_or_more(self):
        for byte in (128, 129, 255):
            self.assertEqual(fault_of(get_steps, [128] * 5 + [byte], 0), ("OutOfRange", 0))
            self.assertEqual(fault_of(get_steps, [255] * 5 + [byte, 0], 0), ("OutOfRange", 0))
            self.assertEqual(fault_of(get_steps, [7, 7, 7] + [128] * 5 + [byte, 1], 3), ("OutOfRange", 3))

    def test_number_is_too_great(self):
        self.assertEqual(get_steps([128] * 5 + [31], 0), (31 * 128 ** 5, 6))
        self.assertEqual(fault_of(get_steps, [128] * 5 + [32], 0), ("OutOfRange", 0))
        self.assertEqual(fault_of(get_steps, [9] + [255] * 5 + [127], 1), ("OutOfRange", 1))

    def test_loose_number(self):
        self.assertEqual(get_steps([0], 0), (0, 1))
        for many in range(1, 6):
            for byte in (128, 129, 255):
                self.assertEqual(fault_of(get_steps, [byte] * many + [0], 0), ("LooseNumber", 0))
                self.assertEqual(fault_of(get_steps, [0, 0] + [byte] * many + [0, 1], 2), ("LooseNumber", 2))

    def test_a_zero_within_the_number_is_a_digit(self):
        self.assertEqual(get_steps([128, 128, 1], 0), (16384, 3))

    def test_every_row_of_two_bytes(self):
        for first in range(256):
            for second in range(256):
                row = [first, second]
                if first < 128:
                    self.assertEqual(get_steps(row, 0), (first, 1))
                elif second >= 128:
                    self.assertEqual(fault_of(get_steps, row, 0), ("Truncated", 2))
                elif second == 0:
                    self.assertEqual(fault_of(get_steps, row, 0), ("LooseNumber", 0))
                else:
                    self.assertEqual(get_steps(row, 0), (first - 128 + 128 * second, 2))

    def test_the_row_is_not_modified(self):
        row = [1, 172, 2, 128]
        get_steps(row, 1)
        fault_of(get_steps, row, 3)
        self.assertEqual(row, [1, 172, 2, 128])


if __name__ == "__main__":
    unittest.main()
