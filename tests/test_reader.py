import random
import unittest

from faults import LEAVES, SOUND, all_faults, found_at_the_end, writings, wrong_leaves
from helpers import (SMALL, SMALL_ORDER, WORD, Reading, all_leaves, any_file, fault_of, file_of, index_of, joined,
                     parts_of, sealed, some_order, some_presentation, spoil, stuffed, with_field)
from spoolbox.reading.parts import Reader

FAULTS = all_faults()
AT_END = list(found_at_the_end())
ALL_NAMES = """
    BadStart CutOff EmptyPiece BadStuffing BadKind BadStamp BadNumber BadTrack BadOrdinal BadTime BadSpan BadKey
    BadSize ShortBody BadCheck OtherStamp WrongNumber WrongOrder WrongFields BadBody NoTrack TooManyUnits
    WrongOrdinal WrongTime WrongKey WrongEntry WrongCount WrongSum MissingUnits Behind NoEnd
""".split()


def parts_by_chance(chance, data):
    """The list in parts of any size, also empty ones."""
    parts = [[]] * chance.randrange(2)
    while data:
        size = chance.choice((0, 1, 1, 2, 7, 40, 150, len(data)))
        parts.append(data[:size])
        data = data[size:]
    return parts


class Expected:
    """What a reader has to do, from the reading of the whole list."""

    def __init__(self, data):
        self.reading = Reading(data)
        self.at = 0
        self.units = 0
        self.leaves = 0
        self.fails = False

    def feed(self, part):
        """The pairs that the call returns, or the error that it raises."""
        decided = self.reading.decided
        stop = self.at + len(part)
        if not self.fails:
            self.leaves = len([at for at in self.reading.zeros if at < stop])
            pairs = [pair for at, pair in self.reading.events if self.at <= at < stop]
            self.at = stop
            self.units += len(pairs)
            self.fails = decided is not None and decided < stop
            if pairs or not self.fails:
                return pairs
        return self.reading.outcome

    def close(self, data):
        """What closing gives behind all that was fed."""
        if self.fails:
            return self.reading.outcome
        return Reading(data[:self.at]).outcome


class ReaderCase(unittest.TestCase):
    def check_call(self, expected, call, *args):
        """A call does what is expected: it returns a value, or it raises the error that is told as a pair."""
        if isinstance(expected, tuple) and len(expected) == 2:
            self.assertEqual(fault_of(call, *args), expected)
        else:
            self.assertEqual(call(*args), expected)

    def check_parts(self, data, parts, close=True):
        """Feed the parts; look at the results of all calls and all numbers."""
        reader, expected = Reader(), Expected(data)
        for part in parts:
            if close:
                self.check_call(expected.close(data), reader.close)
            self.check_call(expected.feed(part), reader.feed, part)
            self.assertEqual((reader.given(), reader.leaves()), (expected.units, expected.leaves))
        for _ in range(2):
            self.check_call(expected.close(data), reader.close)
            self.check_call(expected.reading.outcome, reader.close)
            self.check_call(expected.feed([]), reader.feed, [])
            self.assertEqual((reader.given(), reader.leaves()), (expected.units, expected.leaves))
        self.assertEqual(reader.leaves(), len(expected.reading.leaves))
        self.assertEqual(reader.given(), len(expected.reading.events))


class TestFiles(ReaderCase):
    def test_written_out(self):
        tracks = [("n", "k", [(0, 2, [1, 0], False), (2, 2, [1], True)])]
        data = file_of(all_leaves((1, 0, tracks, [("t", "")]), 6, [(1, 0), (1, 1)], []))
        reader = Reader()
        self.assertEqual((reader.given(), reader.leaves()), (0, 0))
        self.assertEqual(fault_of(reader.close), ("BadStart", 0))
        self.assertEqual(reader.feed([]), [])
        self.assertEqual(fault_of(reader.close), ("BadStart", 0))
        self.assertEqual(reader.feed(data[:1]), [])
        self.assertEqual(fault_of(reader.close), ("NoEnd", 0))
        self.assertEqual(reader.feed(data[1:83]), [])
        self.assertEqual((reader.given(), reader.leaves()), (0, 2))
        self.assertEqual(fault_of(reader.close), ("CutOff", 2))
        self.assertEqual(reader.feed(data[83:84]), [(1, (0, 2, [1, 0], False))])
        self.assertEqual((reader.given(), reader.leaves()), (1, 3))
        self.assertEqual(fault_of(reader.close), ("NoEnd", 3))
        self.assertEqual(reader.feed([]), [])
        self.assertEqual(reader.feed(data[84:]), [(1, (2, 2, [1], True))])
        self.assertEqual((reader.given(), reader.leaves()), (2, 6))
        self.assertEqual(reader.close(), (1, 0, tracks, [("t", "")]))
        self.assertEqual(reader.close(), (1, 0, tracks, [("t", "")]))
        self.assertEqual(reader.feed([]), [])
        self.assertEqual(fault_of(reader.feed, [0]), ("Behind", 6))
        self.assertEqual(fault_of(reader.close), ("Behind", 6))

    def test_whole_byte_by_byte_and_in_two_parts(self):
        self.check_parts(SOUND, [SOUND])
        self.check_parts(SOUND, [[byte] for byte in SOUND], close=False)
        for cut in range(0, len(SOUND) + 1, 3):
            self.check_parts(SOUND, [SOUND[:cut], SOUND[cut:]])

    def test_files_by_chance_in_parts_of_any_size(self):
        chance = random.Random(307)
        for _ in range(150):
            presentation = some_presentation(chance)
            data = any_file(chance, presentation)
            self.assertEqual(Reading(data).outcome, presentation)
            self.check_parts(data, parts_by_chance(chance, data))

    def test_other_orders_and_other_indexes(self):
        chance = random.Random(303)
        for _ in range(60):
            order = some_order(chance, SMALL)
            entries = chance.sample([(1, 2), (3, 1), (3, 3)], chance.randrange(4))
            data = file_of(all_leaves(SMALL, 5, order, entries))
            reader = Reader()
            found = reader.feed(data)
            units = [(track, SMALL[2][track - 1][2][ordinal]) for track, ordinal in order]
            self.assertEqual(found, units)
            self.assertEqual(reader.close(), SMALL)
            self.check_parts(data, parts_by_chance(chance, data))

    def test_no_tracks_and_no_units(self):
        for presentation in ((1, 0, [], []), (9, 8, [("", "a", [])] * 15, []), (1, 0, [], [("a", "")])):
            data = file_of(all_leaves(presentation, 0, [], []))
            self.check_parts(data, [[byte] for byte in data])

    def test_the_greatest(self):
        units = [(2 ** 40 - 400 + k, 1, [k % 256] * 20, k % 7 > 0) for k in range(300)]
        presentation = (90000, 2 ** 40 - 1, [("", "a", units), ("~" * 32, "z" * 16, units[:1])], [("a", "v" * 100)])
        order = [(1, k) for k in range(300)] + [(2, 0)]
        data = file_of(all_leaves(presentation, WORD - 1, order, [(1, 7 * k) for k in range(1, 43)]))
        reader = Reader()
        found = [pair for at in range(0, len(data), 100) for pair in reader.feed(data[at:at + 100])]
        self.assertEqual(found, [(1, unit) for unit in units] + [(2, units[0])])
        self.assertEqual(reader.close(), presentation)
        self.assertEqual((reader.given(), reader.leaves()), (301, 305))

    def test_a_hundred_entries(self):
        presentation = (1, 0, [("", "a", [(k, 1, [], False) for k in range(103)])], [])
        order = [(1, k) for k in range(103)]
        data = file_of(all_leaves(presentation, 3, order, order[3:]))
        self.check_parts(data, [data])


class TestFaults(ReaderCase):
    def test_each_error_is_the_first_one_of_some_list(self):
        self.assertEqual({name for name, _, _ in FAULTS + AT_END}, set(ALL_NAMES))
        for name, at, data in FAULTS + AT_END:
            self.assertEqual(Reading(data).outcome, (name, at))

    def test_whole(self):
        for _, _, data in FAULTS + AT_END:
            self.check_parts(data, [data])

    def test_as_soon_as_the_byte_is_there(self):
        for name, at, data in FAULTS:
            decided = Reading(data).decided
            reader = Reader()
            reader.feed(data[:decided])
            leaves = reader.leaves()
            # Nothing is wrong so far, and the byte alone decides.
            self.assertIn(fault_of(reader.close), (("CutOff", at), ("NoEnd", at), ("BadStart", 0), None))
            self.assertEqual(reader.copy().feed([]), [])
            for _ in range(2):
                self.assertEqual(fault_of(reader.feed, data[decided:decided + 1]), (name, at))
                self.assertEqual(fault_of(reader.feed, []), (name, at))
                self.assertEqual(fault_of(reader.feed, SOUND), (name, at))
                self.assertEqual(fault_of(reader.close), (name, at))
                self.assertEqual(fault_of(reader.copy().close), (name, at))
            self.assertEqual((leaves, reader.leaves()), (at, at))

    def test_by_the_next_call_if_this_one_has_units_to_return(self):
        late = 0
        for name, at, data in FAULTS:
            reader = Reader()
            events = [pair for _, pair in Reading(data).events]
            if not events:
                self.assertEqual(fault_of(reader.feed, data), (name, at))
                continue
            late += 1
            self.assertEqual(reader.feed(data), events)
            self.assertEqual((reader.given(), reader.leaves()), (len(events), at))
            other = reader.copy()
            self.assertEqual(fault_of(reader.feed, []), (name, at))
            self.assertEqual(fault_of(reader.feed, SOUND), (name, at))
            self.assertEqual(fault_of(reader.close), (name, at))
            self.assertEqual(fault_of(other.close), (name, at))
            self.assertEqual(fault_of(other.feed, []), (name, at))
            self.assertEqual((reader.given(), reader.leaves()), (len(events), at))
        self.assertGreater(late, 200)

    def test_in_parts_of_any_size(self):
        chance = random.Random(305)
        for _, _, data in FAULTS + AT_END:
            self.check_parts(data, parts_by_chance(chance, data), close=chance.random() < 0.2)

    def test_what_is_found_at_the_end_changes_nothing(self):
        for size in range(len(SOUND)):
            reader = Reader()
            first = reader.feed(SOUND[:size])
            outcome = fault_of(reader.close)
            self.assertIn(outcome[0], ("BadStart", "CutOff", "NoEnd"))
            self.assertEqual(fault_of(reader.close), outcome)
            self.assertEqual(len(first + reader.feed(SOUND[size:])), 7)
            self.assertEqual(reader.close(), SMALL)

    def test_feed_does_not_raise_what_is_found_at_the_end(self):
        for name, at, data in AT_END:
            reader = Reader()
            reader.feed(data)
            self.assertEqual(reader.feed([]), [])
            self.assertEqual(fault_of(reader.close), (name, at))
            self.assertEqual(reader.feed([]), [])

    def test_what_comes_later_changes_nothing(self):
        chance = random.Random(306)
        for name, at, data in chance.sample(FAULTS, 150):
            decided = Reading(data).decided
            for more in ([], [0], [5, 5, 0], SOUND, SOUND[::-1]):
                reader = Reader()
                for byte in data[:decided + 1] + more:
                    if fault_of(reader.feed, [byte]) is not None:
                        break
                self.assertEqual(fault_of(reader.close), (name, at))

    def test_behind_comes_before_the_errors_of_a_piece(self):
        for more in ([0], [0, 0], [9, 0], [255], stuffed(joined(parts_of(LEAVES[0]))) + [0]):
            self.assertEqual(fault_of(Reader().feed, file_of(all_leaves((1, 0, [], []), 1, [], [])) + more),
                             ("Behind", 3))

    def test_the_errors_of_a_writing_have_the_number_of_the_leaf(self):
        found = {(name, at) for name, at, _ in writings()}
        self.assertEqual(found, {(name, at) for name in ALL_NAMES[4:15] for at in range(11)})

    def test_faults_on_top_of_faults(self):
        chance = random.Random(310)
        names = set()
        for _ in range(1500):
            leaves = wrong_leaves(chance)
            data = file_of(leaves)
            if chance.random() < 0.3:
                at = chance.randrange(len(data))
                data[at:at + chance.randrange(3)] = [chance.choice((0, 0, 1, 128, 255))] * chance.randrange(3)
            self.check_parts(data, parts_by_chance(chance, data), close=False)
            outcome = Reading(data).outcome
            names.add(outcome[0] if len(outcome) == 2 else "sound")
        self.assertGreater(len(names), 15)
        self.assertIn("sound", names)


class TestCopies(ReaderCase):
    def test_a_copy_goes_on_by_itself(self):
        for cut in range(0, len(SOUND), 5):
            reader = Reader()
            first = reader.feed(SOUND[:cut])
            other = reader.copy()
            self.assertEqual((other.given(), other.leaves()), (reader.given(), reader.leaves()))
            numbers = (reader.given(), reader.leaves(), fault_of(reader.close))
            self.assertEqual(len(first + other.feed(SOUND[cut:])), 7)
            self.assertEqual(other.close(), SMALL)
            self.assertEqual((reader.given(), reader.leaves(), fault_of(reader.close)), numbers)
            self.assertEqual(len(first + reader.feed(SOUND[cut:])), 7)
            self.assertEqual(reader.close(), SMALL)
            self.assertEqual((other.given(), other.leaves()), (7, 11))

    def test_the_other_way_round(self):
        for cut in range(0, len(SOUND), 5):
            reader = Reader()
            first = reader.feed(SOUND[:cut])
            other = reader.copy()
            numbers = (other.given(), other.leaves(), fault_of(other.close))
            reader.feed(SOUND[cut:])
            self.assertEqual(reader.close(), SMALL)
            self.assertEqual((other.given(), other.leaves(), fault_of(other.close)), numbers)
            self.assertEqual(len(first + other.feed(SOUND[cut:])), 7)
            self.assertEqual(other.close(), SMALL)

    def test_an_error_of_one_is_not_one_of_the_other(self):
        for cut in range(1, len(SOUND), 5):
            reader = Reader()
            reader.feed(SOUND[:cut])
            other = reader.copy()
            # The first 0 may be the one behind a unit, which is returned then.
            fault_of(reader.feed, [0, 0])
            self.assertEqual(fault_of(reader.feed, [])[1], reader.leaves())
            other.feed(SOUND[cut:])
            self.assertEqual(other.close(), SMALL)
            self.assertIsNotNone(fault_of(reader.close))
            self.assertIsNotNone(fault_of(reader.copy().close))

    def test_two_ways_from_one_place(self):
        """Two files that begin alike, read by a reader and its copy in turns."""
        order = [(1, 0), (1, 1), (1, 2)]
        both = []
        for byte in (2, 3):
            units = [(0, 1, [1], False), (1, 1, [byte], False), (byte, 1, [byte, 5], True)]
            both.append((1, 0, [("", "a", units)], []))
        one, two = [file_of(all_leaves(presentation, 9, order, order[1:2])) for presentation in both]
        cut = len(file_of(all_leaves(both[0], 9, order, [])[:2]))
        self.assertEqual(one[:cut], two[:cut])
        reader = Reader()
        first = reader.feed(one[:cut])
        other = reader.copy()
        ones, others = list(first), list(first)
        for at in range(cut, max(len(one), len(two)), 9):
            ones += reader.feed(one[at:at + 9])
            others += other.feed(two[at:at + 9])
        self.assertEqual((reader.close(), other.close()), tuple(both))
        self.assertEqual(ones, [(1, unit) for unit in both[0][2][0][2]])
        self.assertEqual(others, [(1, unit) for unit in both[1][2][0][2]])

    def test_a_key_of_one_is_not_one_of_the_other(self):
        """The index names a key that only the other reader was fed."""
        entry = (3, 50, len(file_of(LEAVES[:8])))
        units = SMALL[2][2][2][:3] + [(60, 1, [8], True)]
        changed = (SMALL[0], SMALL[1], SMALL[2][:2] + [("z", "picture", units)], SMALL[3])
        leaves = all_leaves(changed, 77, SMALL_ORDER, [])[:9]
        data = file_of(sealed(leaves + [with_field(LEAVES[9], 8, index_of([entry]))]))
        self.assertEqual(Reading(data).outcome, ("WrongEntry", 9))
        cut = len(file_of(LEAVES[:8]))
        reader = Reader()
        reader.feed(SOUND[:cut])
        other = reader.copy()
        reader.feed(SOUND[cut:])
        other.feed(data[cut:])
        self.assertEqual(reader.close(), SMALL)
        self.assertEqual(fault_of(other.close), ("WrongEntry", 9))


class TestArguments(unittest.TestCase):
    def test_a_part_is_not_modified_and_not_kept(self):
        reader = Reader()
        pairs = []
        for at in range(0, len(SOUND), 20):
            part = SOUND[at:at + 20]
            pairs += reader.feed(part)
            self.assertEqual(part, SOUND[at:at + 20])
            part[:] = [0] * 50
        self.assertEqual(len(pairs), 7)
        self.assertEqual(reader.close(), SMALL)

    def test_each_list_is_new(self):
        reader = Reader()
        for byte in SOUND:
            pairs = reader.feed([byte])
            for _, (_, _, content, _) in pairs:
                content[:] = [5] * 9
            pairs.append(5)
        for _ in range(2):
            presentation = reader.close()
            self.assertEqual(presentation, SMALL)
            spoil(presentation)
        self.assertEqual(reader.copy().close(), SMALL)

    def test_a_part_with_an_error_is_not_kept(self):
        reader = Reader()
        part = [0, 7, 0]
        self.assertEqual(fault_of(reader.feed, part), ("BadStuffing", 0))
        self.assertEqual(part, [0, 7, 0])
        part.clear()
        self.assertEqual(fault_of(reader.feed, part), ("BadStuffing", 0))
        self.assertEqual(part, [])


if __name__ == "__main__":
    unittest.main()
