import struct
import unittest

from helpers import WORD, bits_checksum
from spoolbox.wire.sums import checksum, checksum_on, four_bytes, number_of

NUMBERS = (0, 1, 2, 127, 128, 255, 256, 257, 65535, 65536, 2 ** 24 - 1, 2 ** 24, 0x01020304, WORD - 2, WORD - 1)


class TestChecksum(unittest.TestCase):
    def test_known_values(self):
        self.assertEqual(checksum([]), 0)
        self.assertEqual(checksum([ord(sign) for sign in "123456789"]), 0xCBF43926)

    def test_every_single_byte(self):
        for byte in range(256):
            self.assertEqual(checksum([byte]), bits_checksum([byte]))

    def test_longer_rows(self):
        rows = [[0, 0], [255] * 5, list(range(256)), list(range(255, -1, -1)) * 2, [k * k % 256 for k in range(999)]]
        for row in rows:
            self.assertEqual(checksum(row), bits_checksum(row))

    def test_the_longest_row(self):
        row = [k * 7 % 251 for k in range(16384)]
        self.assertEqual(checksum(row), bits_checksum(row))

    def test_a_changed_bit_changes_it(self):
        row = [3, 0, 255, 128, 17]
        for at in range(len(row)):
            for bit in range(8):
                other = row[:at] + [row[at] ^ 1 << bit] + row[at + 1:]
                self.assertNotEqual(checksum(other), checksum(row))

    def test_a_checksum_can_be_carried_on(self):
        row = [0, 0, 255, 7] * 9
        for cut in range(len(row) + 1):
            self.assertEqual(checksum_on(checksum(row[:cut]), row[cut:]), checksum(row))

    def test_leading_zeros_count(self):
        self.assertEqual(len({checksum([0] * many) for many in range(20)}), 20)

    def test_the_row_is_not_modified(self):
        row = [1, 2, 3]
        checksum(row)
        self.assertEqual(row, [1, 2, 3])


class TestFourBytes(unittest.TestCase):
    def test_written_out(self):
        self.assertEqual(four_bytes(0), [0, 0, 0, 0])
        self.assertEqual(four_bytes(1), [1, 0, 0, 0])
        self.assertEqual(four_bytes(255), [255, 0, 0, 0])
        self.assertEqual(four_bytes(256), [0, 1, 0, 0])
        self.assertEqual(four_bytes(0x01020304), [4, 3, 2, 1])
        self.assertEqual(four_bytes(WORD - 1), [255, 255, 255, 255])

    def test_there_and_back(self):
        for number in NUMBERS:
            row = four_bytes(number)
            self.assertEqual(row, list(struct.pack("<I", number)))
            self.assertEqual(number_of(row), number)

    def test_number_of_takes_the_least_byte_first(self):
        self.assertEqual(number_of([4, 3, 2, 1]), 0x01020304)
        self.assertEqual(number_of([0, 0, 0, 128]), 2 ** 31)
        self.assertEqual(number_of([0, 0, 1, 0]), 65536)

    def test_the_row_is_not_modified(self):
        row = [1, 2, 3, 4]
        number_of(row)
        self.assertEqual(row, [1, 2, 3, 4])

    def test_each_row_is_new(self):
        four_bytes(7).clear()
        self.assertEqual(four_bytes(7), [7, 0, 0, 0])


if __name__ == "__main__":
    unittest.main()
