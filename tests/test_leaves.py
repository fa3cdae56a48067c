import copy
import random
import unittest

from helpers import WORD, fault_of, first_fault, joined, parts_of, starts_of, steps, sum_of, with_field
from spoolbox.wire.leaves import END, HEAD, INDEX, TAGS, UNIT, bulk, read_leaf, write_leaf

TOPS = (4, WORD - 1, WORD - 1, 15, 2 ** 24 - 1, 2 ** 40 - 1, 2 ** 24 - 1, 1)
PLAIN = (2, 0x01020304, 7, 3, 130, 70000, 20000, 1, [5, 0, 255])
NAMES = ("BadKind", "BadStamp", "BadNumber", "BadTrack", "BadOrdinal", "BadTime", "BadSpan", "BadKey", "BadSize",
         "ShortBody")


def sample_leaves():
    """Every kind, each field at both ends of its range, and the sizes of bodies at which something changes."""
    leaves = [PLAIN, TOPS + ([255] * 1024,), (0,) * 8 + ([],)]
    leaves += [with_field(PLAIN, 0, kind) for kind in range(5)]
    for at, top in enumerate(TOPS):
        leaves += [with_field(PLAIN, at, 0), with_field(PLAIN, at, top)]
        leaves += [with_field(PLAIN, at, field) for field in (1, 127, 128, 16383, 16384) if field <= top]
    leaves += [with_field(PLAIN, 8, [k % 256 for k in range(size)]) for size in (0, 1, 127, 128, 129, 1023, 1024)]
    return leaves


class TestWriteLeaf(unittest.TestCase):
    def test_the_kinds(self):
        self.assertEqual((HEAD, TAGS, UNIT, INDEX, END), (0, 1, 2, 3, 4))

    def test_written_out(self):
        fields = [2, 4, 3, 2, 1, 7, 0, 0, 0, 3, 130, 1, 240, 162, 4, 160, 156, 1, 1, 3, 5, 0, 255]
        self.assertEqual(write_leaf(PLAIN), fields + sum_of(fields))

    def test_against_point_106(self):
        for leaf in sample_leaves():
            self.assertEqual(write_leaf(leaf), joined(parts_of(leaf)))

    def test_each_field_just_out_of_its_range(self):
        for at, top in enumerate(TOPS):
            for field in (-1, -(10 ** 20), top + 1, top + 2, 10 ** 20):
                leaf = with_field(PLAIN, at, field)
                self.assertEqual(fault_of(write_leaf, leaf), ("OutOfRange", at))
                self.assertEqual(fault_of(bulk, leaf), ("OutOfRange", at))

    def test_the_body_is_too_long(self):
        for size in (1025, 1026, 5000):
            leaf = with_field(PLAIN, 8, [0] * size)
            self.assertEqual(fault_of(write_leaf, leaf), ("OutOfRange", 8))
            self.assertEqual(fault_of(bulk, leaf), ("OutOfRange", 8))

    def test_the_first_field_out_of_its_range_is_told(self):
        for first in range(8):
            for second in range(first + 1, 9):
                for field in (-1, TOPS[first] + 1):
                    worse = [0] * 1025 if second == 8 else -1
                    leaf = with_field(with_field(PLAIN, first, field), second, worse)
                    self.assertEqual(fault_of(write_leaf, leaf), ("OutOfRange", first))
                    self.assertEqual(fault_of(bulk, leaf), ("OutOfRange", first))

    def test_nothing_is_modified_and_each_writing_is_new(self):
        leaf = copy.deepcopy(PLAIN)
        write_leaf(leaf).clear()
        bulk(leaf)
        self.assertEqual(leaf, PLAIN)
        self.assertEqual(write_leaf(leaf), joined(parts_of(PLAIN)))


class TestBulk(unittest.TestCase):
    def test_it_is_the_number_of_bytes_of_the_writing(self):
        for leaf in sample_leaves():
            self.assertEqual(bulk(leaf), len(joined(parts_of(leaf))))

    def test_it_does_not_depend_on_stamp_and_number(self):
        for leaf in sample_leaves():
            for stamp in (0, 300, WORD - 1):
                other = with_field(with_field(leaf, 1, stamp), 2, WORD - 1 - stamp)
                self.assertEqual(bulk(other), bulk(leaf))


class TestReadLeaf(unittest.TestCase):
    def assert_read(self, row):
        """Reading gives what point 107 says of this row, whatever that is."""
        wanted = first_fault(row)
        if len(wanted) == 9:
            self.assertEqual(read_leaf(row), wanted)
        else:
            self.assertEqual(fault_of(read_leaf, row), wanted)

    def test_each_written_leaf_is_read_back(self):
        for leaf in sample_leaves():
            found = read_leaf(write_leaf(leaf))
            self.assertEqual(found, leaf)
            self.assertIsInstance(found, tuple)

    def test_the_empty_row(self):
        self.assertEqual(fault_of(read_leaf, []), ("BadKind", 0))

    def test_cut_off_at_every_place(self):
        for leaf in sample_leaves():
            parts = parts_of(leaf)
            row = joined(parts)
            starts = starts_of(parts)
            for stop in range(len(row)):
                held = [name for name, part in parts if part and starts[name] + len(part) > stop]
                name = held[0] if held else "BadCheck"
                self.assertEqual(fault_of(read_leaf, row[:stop]), (name, starts[name]))

    def assert_field(self, name, part):
        """A writing with this field, whatever it is, has its fault there, also if nothing follows."""
        parts = [(other, part if other == name else held) for other, held in parts_of(PLAIN)]
        self.assertEqual(fault_of(read_leaf, joined(parts)), (name, starts_of(parts)[name]))

    def test_a_kind_or_a_key_out_of_its_range(self):
        for byte in (5, 6, 128, 255):
            self.assert_field("BadKind", [byte])
        for byte in (2, 3, 128, 255):
            self.assert_field("BadKey", [byte])

    def test_a_step_number_out_of_its_range(self):
        for at in (3, 4, 5, 6):
            # The first number above a time is no step number at all.
            self.assert_field(NAMES[at], steps(TOPS[at] + 1))
            self.assert_field(NAMES[at], [255] * 5 + [127])
            self.assert_field(NAMES[at], [128] * 6)
            self.assert_field(NAMES[at], [255] * 6)
        for number in (1025, 1026, 2 ** 40 - 1, 2 ** 40):
            self.assert_field("BadSize", steps(number))

    def test_a_step_number_that_is_not_in_its_only_form(self):
        for name in ("BadTrack", "BadOrdinal", "BadTime", "BadSpan", "BadSize"):
            for number in (0, 3, 127):
                self.assert_field(name, [number + 128, 0])
                self.assert_field(name, [number + 128, 128, 0])
            self.assert_field(name, [128] * 5 + [0])

    def test_a_size_of_1025_with_that_many_bytes(self):
        parts = parts_of(PLAIN)[:8] + [("BadSize", steps(1025)), ("ShortBody", [0] * 1025)]
        self.assertEqual(fault_of(read_leaf, joined(parts)), ("BadSize", starts_of(parts)["BadSize"]))

    def test_a_body_that_is_too_short(self):
        parts = parts_of(PLAIN)[:8]
        # The four bytes behind the body could still belong to it, so a body is short only if it lacks five.
        for size, body in ((5, []), (8, [0] * 3), (1024, [0] * 1019), (128, [1] * 123)):
            whole = parts + [("BadSize", steps(size)), ("ShortBody", body)]
            self.assertEqual(fault_of(read_leaf, joined(whole)), ("ShortBody", starts_of(whole)["ShortBody"]))

    def test_a_body_that_reaches_into_the_checksum(self):
        parts = parts_of(PLAIN)[:8] + [("BadSize", [4]), ("ShortBody", [1, 2, 3])]
        self.assertEqual(fault_of(read_leaf, joined(parts)), ("BadCheck", starts_of(parts)["BadCheck"] + 1))

    def test_a_byte_behind_the_checksum(self):
        for leaf in (PLAIN, (0,) * 8 + ([],)):
            parts = parts_of(leaf)
            for byte in (0, 1, 255):
                found = fault_of(read_leaf, joined(parts) + [byte])
                self.assertEqual(found, ("BadCheck", starts_of(parts)["BadCheck"]))

    def test_every_byte_changed(self):
        for leaf in (PLAIN, (4, 0, 0, 0, 0, 0, 0, 0, []), (1, 5, 6, 15, 128, 127, 1, 0, [9] * 130)):
            row = joined(parts_of(leaf))
            for at in range(len(row)):
                for byte in range(256):
                    if byte != row[at]:
                        changed = row[:at] + [byte] + row[at + 1:]
                        self.assertEqual(len(first_fault(changed)), 2)
                        self.assert_read(changed)

    def test_several_faults(self):
        chance = random.Random(107)
        for leaf in sample_leaves():
            row = joined(parts_of(leaf))[:200]
            for _ in range(150):
                changed = list(row)
                for _ in range(chance.randrange(1, 5)):
                    at = chance.randrange(min(30, len(changed)))
                    changed[at] = chance.choice((0, 1, 2, 4, 5, 15, 16, 127, 128, 255))
                self.assert_read(changed[:chance.randrange(len(changed) + 1)])
                self.assert_read(changed)
                self.assert_read(changed + sum_of(changed))

    def test_the_first_of_several_faulty_fields_is_told(self):
        bad = ([5], None, None, [16], [255] * 6, [128, 0], [128] * 6, [2], [255, 127])
        for first in range(9):
            if bad[first] is None:
                continue
            parts = parts_of(PLAIN)
            for at in range(first, 9):
                if bad[at] is not None:
                    parts[at] = (NAMES[at], bad[at])
            row = joined(parts) + [1, 2]
            self.assertEqual(fault_of(read_leaf, row), (NAMES[first], starts_of(parts)[NAMES[first]]))

    def test_nothing_is_modified_and_each_body_is_new(self):
        row = write_leaf(PLAIN)
        kept = list(row)
        read_leaf(row)[8].clear()
        self.assertEqual(row, kept)
        self.assertEqual(read_leaf(row), PLAIN)


if __name__ == "__main__":
    unittest.main()
