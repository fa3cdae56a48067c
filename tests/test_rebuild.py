import copy
import random
import unittest

from edits import best_file, rebuilt_of, sound_of, units_in
from faults import ENTRIES, LEAVES, SOUND, STAMP
from helpers import (SMALL, SMALL_ORDER, WORD, Reading, all_leaves, any_file, fault_of, file_of, head_of, joined,
                     order_by_time, parts_of, some_order, some_presentation, spoil, steps, stuffed, tags_of, told_index,
                     with_field)
from spoolbox.model.presentation import is_presentation
from spoolbox.reading.whole import read
from spoolbox.saving.rebuild import rebuild, rebuilt, sound
from spoolbox.saving.salvage import gaps, roll, salvage, stamps

KIND, NUMBER, TRACK, ORDINAL, TIME, SPAN, KEY, BODY = 0, 2, 3, 4, 5, 6, 7, 8
HEAD = (0, 7, 0, 0, 0, 0, 0, 0, head_of((1000, 5, [("n", "a", []), ("", "b", [])], [])))


def key(number, ordinal, content, track=1, time=None, span=1):
    """The leaf of a key; its time is ten times its ordinal if nothing else is told."""
    return (2, 7, number, track, ordinal, 10 * ordinal if time is None else time, span, 1, list(content))


def leaning(number, ordinal, body, track=1, time=None, span=1):
    return with_field(key(number, ordinal, body, track, time, span), KEY, 0)


def contents(leaves):
    """The numbers of the sound leaves, and their contents."""
    return [(leaf[NUMBER], content) for leaf, content in sound(leaves)]


class TestSound(unittest.TestCase):
    def check(self, leaves, expected):
        self.assertEqual(contents(leaves), expected)
        self.assertEqual(sound(leaves), sound_of(leaves))

    def test_keys(self):
        self.check([], [])
        self.check([key(3, 0, [1, 2])], [(3, [1, 2])])
        # With any ordinal, track, time and span, and with the longest content.
        self.check([key(1, 9, []), key(2, 4, [0] * 200, 15, 0, 0), key(5, 2 ** 24 - 1, [3], 0)],
                   [(1, []), (2, [0] * 200), (5, [3])])

    def test_leaning_units_with_their_chain(self):
        chain = [key(1, 0, [1, 2]), leaning(2, 1, [2, 0, 3]), leaning(3, 2, [0, 3]), leaning(4, 3, [3, 0, 4])]
        told = [(1, [1, 2]), (2, [1, 2, 3]), (3, [1, 2, 3]), (4, [1, 2, 3, 4])]
        # The third body is the change of a list of three bytes to itself only if its front is all of it.
        chain[2] = leaning(3, 2, [3, 0])
        self.check(chain, told)
        for at in range(4):
            self.check(chain[:at] + chain[at + 1:], told[:at])

    def test_without_their_chain_back_to_a_key(self):
        self.check([leaning(1, 0, [0, 0, 1])], [])
        self.check([leaning(1, 1, [0, 0, 1])], [])
        self.check([leaning(1, 0, [0, 0]), leaning(2, 1, [0, 0])], [])
        self.check([key(1, 0, []), leaning(2, 2, [0, 0])], [(1, [])])
        self.check([key(1, 2, []), leaning(2, 2, [0, 0]), leaning(3, 1, [0, 0])], [(1, [])])
        # The one before it in another track.
        self.check([key(1, 0, [], 2), leaning(2, 1, [0, 0], 1), leaning(3, 1, [0, 0], 2)], [(1, []), (3, [])])

    def test_chains_across_missing_leaves(self):
        # The numbers of other leaves are missing, no ordinal is.
        self.check([key(3, 5, [1]), leaning(9, 6, [1, 0, 2]), leaning(70, 7, [2, 0])],
                   [(3, [1]), (9, [1, 2]), (70, [1, 2])])
        # The unit before the last one is missing; a key begins anew.
        self.check([key(3, 5, [1]), leaning(9, 7, [1, 0]), key(10, 8, [4]), leaning(11, 9, [0, 0, 5])],
                   [(3, [1]), (10, [4]), (11, [5])])

    def test_bodies_that_are_no_body_of_a_key(self):
        self.check([key(1, 0, [7] * 201), leaning(2, 1, [0, 0, 1])], [])
        self.check([key(1, 0, [7] * 1024), key(2, 1, [7] * 200)], [(2, [7] * 200)])

    def test_bodies_that_are_no_patch(self):
        for body in ([], [0], [128, 0], [3, 0], [2, 1], [1, 0, 6], [0, 0, 5], [0, 0, 9, 6]):
            self.check([key(1, 0, [5, 6]), leaning(2, 1, body), leaning(3, 2, [2, 0]), key(4, 3, [1])],
                       [(1, [5, 6]), (4, [1])])
        self.check([key(1, 0, [5, 6]), leaning(2, 1, [0, 0] + [7] * 200)], [(1, [5, 6]), (2, [7] * 200)])
        self.check([key(1, 0, [5, 6]), leaning(2, 1, [0, 0] + [7] * 201)], [(1, [5, 6])])
        self.check([key(1, 0, [5]), leaning(2, 1, [1, 0] + [7] * 199), leaning(3, 2, [128 + 72, 1, 0, 8])],
                   [(1, [5]), (2, [5] + [7] * 199)])

    def test_an_ordinal_that_stands_twice(self):
        self.check([key(1, 0, [1]), key(2, 0, [2])], [(1, [1])])
        self.check([key(1, 0, [1]), key(2, 0, [2]), leaning(3, 1, [1, 0, 3])], [(1, [1]), (3, [1, 3])])
        # The first one counts, also if it is not sound.
        self.check([key(1, 0, [7] * 201), key(2, 0, [2]), leaning(3, 1, [1, 0, 3])], [])
        self.check([leaning(1, 4, [0, 0]), key(2, 4, [2]), leaning(3, 5, [1, 0])], [])
        self.check([key(1, 0, [1]), leaning(2, 1, [9, 9]), leaning(3, 1, [1, 0]), key(4, 1, [])], [(1, [1])])
        # Behind the leaf that leans on it, in another track, and three times.
        self.check([leaning(1, 1, [1, 0]), key(2, 0, [5]), key(3, 0, [6])], [(1, [5]), (2, [5])])
        self.check([key(1, 0, [1]), key(2, 0, [2], 2)], [(1, [1]), (2, [2])])
        self.check([key(1, 0, [1]), key(2, 0, [2]), key(3, 0, [3])], [(1, [1])])

    def test_the_order_of_the_roll(self):
        leaves = [leaning(1, 2, [2, 0]), key(2, 0, [4], 2), leaning(3, 1, [1, 0, 3]), key(4, 0, [1])]
        self.check(leaves, [(1, [1, 3]), (2, [4]), (3, [1, 3]), (4, [1])])

    def test_other_leaves_are_not_looked_at(self):
        for kind in (0, 1, 3, 4):
            other = with_field(key(1, 0, [5]), KIND, kind)
            self.check([other], [])
            self.check([other, leaning(2, 1, [1, 0])], [])
            self.check([other, key(2, 0, [8])], [(2, [8])])

    def test_a_file(self):
        self.assertEqual([leaf for leaf, _ in sound(LEAVES)], LEAVES[2:9])
        told = [SMALL[2][track - 1][2][ordinal][2] for track, ordinal in SMALL_ORDER]
        self.assertEqual([content for _, content in sound(LEAVES)], told)

    def test_long_chains(self):
        chain = [key(0, 0, [])] + [leaning(k, k, [k - 1, 0, k]) for k in range(1, 100)]
        self.assertEqual(contents(chain), [(k, list(range(1, k + 1))) for k in range(100)])
        # The leaves in the other order, and a chain that is longer than a track may be.
        turned = [with_field(leaf, NUMBER, at) for at, leaf in enumerate(chain[::-1])]
        self.assertEqual(contents(turned), [(99 - k, list(range(1, k + 1))) for k in range(99, -1, -1)])
        long = [key(0, 0, [9])] + [leaning(k, k, [1, 0]) for k in range(1, 5000)]
        self.assertEqual(contents(long), [(k, [9]) for k in range(5000)])

    def test_rolls_by_chance(self):
        chance = random.Random(704)
        several = 0
        for _ in range(500):
            leaves = []
            for number in range(chance.randrange(12)):
                ordinal, track = chance.randrange(5), chance.randrange(2)
                body = chance.choice(([1], [0, 0], [1, 0], [1, 0, 5], [2, 0], [0, 0, 7], [7] * 201))
                leaves.append(chance.choice((key, leaning))(number, ordinal, body, track))
            self.assertEqual(sound(leaves), sound_of(leaves))
            several += len(sound(leaves)) > 3
        self.assertGreater(several, 50)


class TestRebuilt(unittest.TestCase):
    def check(self, leaves, *tracks):
        """The units of the tracks of HEAD, of which the second one may be left out."""
        units = [list(units) for units in tracks] + [[]] * (2 - len(tracks))
        self.assertEqual(rebuilt([HEAD] + leaves), (1000, 5, [("n", "a", units[0]), ("", "b", units[1])], []))
        self.assertEqual(rebuilt([HEAD] + leaves), rebuilt_of([HEAD] + leaves))

    def test_no_head(self):
        units = [key(1, 0, [5]), key(2, 1, [6])]
        bad = [b"", b"spool", HEAD[BODY] + [0], HEAD[BODY][:-1], [115] + HEAD[BODY][2:], [0] + HEAD[BODY][1:]]
        rolls = [[], units, [with_field(HEAD, NUMBER, 1)] + units[1:], [with_field(HEAD, NUMBER, WORD - 1)]]
        rolls += [[with_field(HEAD, BODY, list(body))] + units for body in bad]
        rolls += [[with_field(HEAD, KIND, kind)] + units for kind in (1, 2, 3, 4)]
        rolls += [[with_field(HEAD, BODY, []), with_field(HEAD, NUMBER, 1)]]
        for leaves in rolls:
            self.assertIsNone(rebuilt_of(leaves))
            self.assertEqual(fault_of(rebuilt, leaves), ("NoHead", 0))

    def test_a_second_head_plays_no_part(self):
        other = with_field(HEAD, BODY, head_of((1, 0, [], [])))
        self.check([with_field(other, NUMBER, 1), key(2, 0, [5])], [(0, 1, [5], False)])

    def test_the_number_of_units_in_the_head_plays_no_part(self):
        for many in (0, 1, 300):
            body = head_of((1000, 5, [("n", "a", [0] * many)], []))
            found = rebuilt([with_field(HEAD, BODY, body), key(1, 0, [5]), key(2, 1, [6])])
            self.assertEqual(found, (1000, 5, [("n", "a", [(0, 1, [5], False), (10, 1, [6], False)])], []))

    def test_the_fields_of_the_head_play_no_part(self):
        head = HEAD[:3] + (9, 9, 9, 9, 1) + HEAD[8:]
        self.assertEqual(rebuilt([head]), rebuilt([HEAD]))

    def test_the_tags(self):
        first, second, empty = [(1, 7, 4, 0, 0, 0, 0, 0, body) for body in
                                (tags_of([("a", "1")]), tags_of([("b", "2")]), [0])]
        long = with_field(first, BODY, tags_of([("a" * k, "v" * 100) for k in range(1, 10)]) + [1] * 80)
        rows = (([], []), ([first], [("a", "1")]), ([empty], []), ([first, second], [("a", "1")]),
                ([empty, first], [("a", "1")]), ([empty, long, second, first], [("b", "2")]),
                ([second, empty], [("b", "2")]), ([long], []))
        for leaves, tags in rows:
            leaves = [with_field(leaf, NUMBER, 3 * at + 1) for at, leaf in enumerate(leaves)]
            self.assertEqual(rebuilt([HEAD] + leaves), (1000, 5, [("n", "a", []), ("", "b", [])], tags))
            self.assertEqual(rebuilt([HEAD] + leaves), rebuilt_of([HEAD] + leaves))

    def test_a_leaf_of_another_kind_tells_no_tags(self):
        for kind in (0, 2, 3, 4):
            leaf = (kind, 7, 1, 0, 0, 0, 0, 0, tags_of([("a", "1")]))
            self.assertEqual(rebuilt([HEAD, leaf])[3], [])

    def test_units_of_tracks_that_the_head_does_not_have(self):
        self.check([key(1, 0, [5], 0), key(2, 0, [6], 3), key(3, 0, [7], 2), key(4, 0, [8], 15)],
                   [], [(0, 1, [7], False)])

    def test_ascending_order_of_ordinals(self):
        leaves = [leaning(1, 2, [2, 0]), key(2, 3, [4]), leaning(3, 1, [1, 0, 3]), key(4, 0, [1])]
        self.check(leaves, [(0, 1, [1], False), (10, 1, [1, 3], True), (20, 1, [1, 3], True), (30, 1, [4], False)])

    def test_ordinals_that_are_missing(self):
        self.check([key(1, 4, [1]), leaning(2, 5, [1, 0, 2]), key(3, 9, [3]), leaning(4, 10, [0, 1, 4])],
                   [(40, 1, [1], False), (50, 1, [1, 2], True), (90, 1, [3], False), (100, 1, [4, 3], True)])

    def test_a_span_of_0(self):
        self.check([key(1, 0, [1], span=0), key(2, 1, [2])], [(10, 1, [2], False)])
        self.check([key(1, 0, [1], span=0)], [])
        # What leans on it does not lean then, with the content that it has.
        self.check([key(1, 0, [1], span=0), leaning(2, 1, [1, 0, 2]), leaning(3, 2, [2, 0])],
                   [(10, 1, [1, 2], False), (20, 1, [1, 2], True)])
        self.check([key(1, 0, [1]), leaning(2, 1, [1, 0, 2], span=0), leaning(3, 2, [2, 0]), leaning(4, 3, [2, 0])],
                   [(0, 1, [1], False), (20, 1, [1, 2], False), (30, 1, [1, 2], True)])
        # Its time plays no part for the ones behind it.
        self.check([key(1, 0, [1]), key(2, 1, [2], time=1000, span=0), key(3, 2, [3])],
                   [(0, 1, [1], False), (20, 1, [3], False)])

    def test_a_time_that_is_too_early(self):
        for time, let in ((14, False), (15, True), (16, True)):
            units = [(10, 5, [1], False), (time, 1, [1, 2], True), (30, 1, [1, 2], True)]
            if not let:
                units = [units[0], (30, 1, [1, 2], False)]
            self.check([key(1, 0, [1], time=10, span=5), leaning(2, 1, [1, 0, 2], time=time),
                        leaning(3, 2, [2, 0], time=30)], units)
        # The unit before it in the list counts, not the leaf that is left out.
        self.check([key(1, 0, [1], time=10, span=5), key(2, 1, [2], time=0, span=9), key(3, 2, [3], time=5),
                    key(4, 3, [4], time=15)], [(10, 5, [1], False), (15, 1, [4], False)])
        self.check([key(1, 0, [1], time=2 ** 40 - 1, span=2 ** 24 - 1), key(2, 1, [2], time=2 ** 40 - 1)],
                   [(2 ** 40 - 1, 2 ** 24 - 1, [1], False)])
        # Each track by itself.
        self.check([key(1, 0, [1], time=50), key(2, 0, [2], 2, time=3), leaning(3, 1, [1, 0], 2, time=4)],
                   [(50, 1, [1], False)], [(3, 1, [2], False), (4, 1, [2], True)])

    def test_more_than_300_units(self):
        leaves = [key(k + 1, k, [k % 256]) for k in range(302)]
        units = [(10 * k, 1, [k % 256], False) for k in range(302)]
        self.check(leaves[:299], units[:299])
        self.check(leaves[:300], units[:300])
        self.check(leaves[:301], units[:300])
        self.check(leaves + [key(500, 0, [5], 2)], units[:300], [(0, 1, [5], False)])
        # A leaf that is left out for another reason does not count.
        early = [with_field(leaves[k], SPAN if k % 2 else TIME, 0) if k in (50, 71) else leaves[k] for k in range(302)]
        self.check(early, [unit for k, unit in enumerate(units) if k not in (50, 71)])
        # Nor does a leaf that is not sound.
        self.check([with_field(leaves[0], BODY, [7] * 201)] + leaves[1:], units[1:301])

    def test_what_leans_and_what_does_not(self):
        # A leaf with key 0 whose leaf before it is not sound is not sound, too.
        self.check([key(1, 0, [7] * 201), leaning(2, 1, [1, 0])], [])
        self.check([key(1, 0, [1]), leaning(2, 1, [5, 5]), leaning(3, 2, [1, 0]), key(4, 3, [1])],
                   [(0, 1, [1], False), (30, 1, [1], False)])

    def test_the_first_one_of_two_with_an_ordinal_counts(self):
        self.check([key(1, 0, [1]), key(2, 0, [2]), leaning(3, 1, [1, 0])], [(0, 1, [1], False), (10, 1, [1], True)])
        self.check([key(1, 0, [1], span=0), key(2, 0, [2]), leaning(3, 1, [1, 0])], [(10, 1, [1], False)])

    def test_rolls_by_chance(self):
        chance = random.Random(706)
        several = 0
        for _ in range(500):
            leaves = [chance.choice((HEAD, HEAD, HEAD, with_field(HEAD, NUMBER, 1)))]
            bodies = chance.choice((([1], [1, 0]), ([1], [0, 0], [1, 0], [1, 0, 5], [2, 0], [0, 0, 7], [7] * 201)))
            for number in range(2, chance.randrange(3, 20)):
                ordinal, track = chance.choice((number - 2, chance.randrange(8))), chance.choice((0, 1, 1, 1, 2, 3))
                leaf = chance.choice((key, leaning))(number, ordinal, chance.choice(bodies), track)
                time, span = chance.choice([(10 * ordinal, 5)] * 5 + [(10 * ordinal, 11), (3, 0), (7, 7)])
                leaf = with_field(with_field(leaf, TIME, time), SPAN, span)
                if chance.random() < 0.1:
                    body = chance.choice(([0], tags_of([("a", "b")]), tags_of([("c", "")])))
                    leaf = (1, 7, number, 0, 0, 0, 0, 0, body)
                leaves.append(leaf)
            expected = rebuilt_of(leaves)
            if expected is None:
                self.assertEqual(fault_of(rebuilt, leaves), ("NoHead", 0))
                continue
            self.assertEqual(rebuilt(leaves), expected)
            several += len(expected[2][0][2] + expected[2][1][2]) > 3
        self.assertGreater(several, 40)


def junk(chance, stamp):
    """Bytes that contain no leaf with this stamp: rests of pieces, zeros, and leaves of other stamps."""
    row = []
    for _ in range(chance.randrange(4)):
        what = chance.randrange(4)
        leaf = with_field(chance.choice(LEAVES), 1, chance.choice((stamp - 1, stamp + 1, 0)))
        piece = stuffed(joined(parts_of(leaf)))
        if what == 0:
            piece = piece[:chance.randrange(len(piece))]
        elif what == 1:
            piece = [chance.randrange(1, 256) for _ in range(chance.randrange(20))]
        row += [0] * chance.randrange(1, 3) + piece
    return row


class TestWholeFiles(unittest.TestCase):
    def test_a_file(self):
        """Point 707: what reading gives, and no gaps."""
        chance = random.Random(707)
        for presentation in [SMALL] * 5 + [some_presentation(chance) for _ in range(100)]:
            data = any_file(chance, presentation)
            stamp = Reading(data).leaves[0][1]
            self.assertEqual(stamps(salvage(data)), [stamp])
            leaves = roll(salvage(data), stamp)
            self.assertEqual(rebuilt(leaves), presentation)
            self.assertEqual(rebuilt(leaves), read(data))
            self.assertEqual(gaps(leaves), [])
            for count in (0, 1, 64):
                self.assertEqual(rebuild(data, stamp, count), best_file(presentation, stamp, count))

    def test_some_pieces_of_a_file_among_other_bytes(self):
        """Point 707: exactly the units that are there with all units that they lean on, back to a key."""
        chance = random.Random(708)
        whole = lost = 0
        for at in range(300):
            presentation = SMALL if at % 10 == 0 else some_presentation(chance, 12)
            stamp = chance.randrange(2, WORD - 1)
            leaves = all_leaves(presentation, stamp, some_order(chance, presentation), [])
            share = chance.choice((0.5, 0.8, 0.95))
            kept = [leaf for leaf in leaves if leaf[0] == 0 or chance.random() < share]
            pieces = kept + chance.sample(kept, chance.randrange(len(kept) + 1) // 3)
            chance.shuffle(pieces)
            row = junk(chance, stamp)
            for leaf in pieces:
                row += [0] + stuffed(joined(parts_of(leaf))) + [0] + junk(chance, stamp)
            there = [leaf[3:5] for leaf in kept if leaf[0] == 2]
            tracks = []
            for track, (name, kind, units) in enumerate(presentation[2], start=1):
                good = []
                for ordinal, unit in enumerate(units):
                    first = max(k for k in range(ordinal + 1) if not units[k][3])
                    if all((track, k) in there for k in range(first, ordinal + 1)):
                        good.append(unit)
                    else:
                        lost += (track, ordinal) in there
                tracks.append((name, kind, good))
                whole += len(good)
            tags = presentation[3] if any(leaf[0] == 1 for leaf in kept) else []
            expected = presentation[:2] + (tracks, tags)
            self.assertEqual(rebuilt(roll(salvage(row), stamp)), expected)
            found = rebuild(row, stamp, 3)
            self.assertEqual(found, best_file(expected, stamp, 3))
            self.assertEqual(read(found), expected)
            self.assertEqual(rebuild(found, stamp, 3), found)
        self.assertGreater(whole, 300)
        self.assertGreater(lost, 100)

    def test_two_files_with_different_stamps(self):
        chance = random.Random(709)
        other = some_presentation(chance, 12)
        mixed = LEAVES + all_leaves(other, 5, order_by_time(other), [])
        chance.shuffle(mixed)
        row = file_of(mixed)
        self.assertEqual(rebuild(row, STAMP, 64), best_file(SMALL, STAMP, 64))
        self.assertEqual(rebuild(row, 5, 64), best_file(other, 5, 64))


class TestRebuild(unittest.TestCase):
    def test_what_a_rebuilt_file_contains(self):
        for number in range(1, 11):
            row = file_of(LEAVES[:number] + LEAVES[number + 1:])
            presentation = rebuilt_of(LEAVES[:number] + LEAVES[number + 1:])
            for count in (0, 2, 64):
                found = rebuild(row, STAMP, count)
                self.assertEqual(read(found), presentation)
                self.assertEqual(found, best_file(presentation, STAMP, count))
                self.assertEqual(rebuild(found, STAMP, count), found)
                self.assertEqual(rebuild([9] + found + found, STAMP, count), found)
                self.assertEqual(rebuilt(roll(salvage(found), STAMP)), presentation)

    def test_a_leaning_unit_that_no_longer_leans(self):
        leaves = [HEAD, key(1, 0, [1], span=0), leaning(2, 1, [1, 0, 2]), leaning(3, 2, [2, 0])]
        found = rebuild(file_of(leaves), 7, 5)
        units = [(10, 1, [1, 2], False), (20, 1, [1, 2], True)]
        self.assertEqual(read(found), (1000, 5, [("n", "a", units), ("", "b", [])], []))
        self.assertEqual([leaf[TRACK:] for _, _, leaf in salvage(found) if leaf[KIND] == 2],
                         [(1, 0, 10, 1, 1, [1, 2]), (1, 1, 20, 1, 0, [2, 0])])

    def test_no_head(self):
        rows = ([], [0], [5, 5], SOUND[1:], file_of(LEAVES[1:]), SOUND[:40], [0] * 50)
        for row in rows:
            for stamp in (STAMP, 0):
                self.assertEqual(fault_of(rebuild, row, stamp, 5), ("NoHead", 0))
        for stamp in (0, STAMP - 1, STAMP + 1, WORD - 1):
            self.assertEqual(fault_of(rebuild, SOUND, stamp, 64), ("NoHead", 0))
        changed = [with_field(LEAVES[0], BODY, LEAVES[0][BODY] + [0])] + LEAVES[1:]
        self.assertEqual(fault_of(rebuild, file_of(changed), STAMP, 0), ("NoHead", 0))
        # The first one of two heads counts, also if its body is bad.
        self.assertEqual(fault_of(rebuild, file_of(changed[:1] + LEAVES), STAMP, 0), ("NoHead", 0))
        self.assertEqual(rebuild(file_of(LEAVES + changed[:1]), STAMP, 3), best_file(SMALL, STAMP, 3))

    def test_the_number_of_entries(self):
        units = [(k, 1, [k], k % 2 == 1) for k in range(200)]
        presentation = (1, 0, [("", "a", units)], [])
        data = best_file(presentation, 3, 7)
        for count in (0, 1, 2, 10, 63, 64, 65, 100):
            found = rebuild(data, 3, count)
            self.assertEqual(found, best_file(presentation, 3, count))
            entries = told_index([leaf for _, _, leaf in salvage(found)][-2][BODY])
            self.assertLessEqual(len(entries), count)
        self.assertEqual(told_index([leaf for _, _, leaf in salvage(rebuild(data, 3, 0))][-2][BODY]), [])
        self.assertEqual(len(told_index([leaf for _, _, leaf in salvage(rebuild(data, 3, 64))][-2][BODY])), 49)

    def test_what_is_rebuilt_is_a_presentation(self):
        """Also from leaves with the greatest numbers, and with all characters that a name may have."""
        signs = "".join(chr(code) for code in range(32, 127) if code != 37)
        names = [(signs[at:at + 32], "z" * 16, []) for at in (0, 32, 64)]
        head = with_field(HEAD, BODY, head_of((90000, 2 ** 40 - 1, names, [])))
        leaves = [head, key(1, 2 ** 24 - 1, [255] * 200, 1, 2 ** 40 - 1, 2 ** 24 - 1), key(2, 3, [0] * 200, 3)]
        found = rebuild(file_of(leaves), 7, 64)
        self.assertEqual(read(found), rebuilt(leaves))
        self.assertIs(is_presentation(rebuilt(leaves)), True)

    def test_stamps(self):
        for stamp in (0, WORD - 1):
            data = file_of(all_leaves(SMALL, stamp, SMALL_ORDER, ENTRIES))
            self.assertEqual(rebuild(data, stamp, 5), best_file(SMALL, stamp, 5))


class TestArguments(unittest.TestCase):
    def test_nothing_is_modified_and_each_list_is_new(self):
        leaves = copy.deepcopy(LEAVES)
        for _ in range(2):
            found = sound(leaves)
            self.assertEqual(found, sound_of(LEAVES))
            for leaf, content in found:
                leaf[BODY].append(5)
                self.assertEqual(len([pair for pair in found if pair[1] is content]), 1)
                self.assertIsNot(leaf[BODY], content)
                content.append(6)
            found.clear()
            presentation = rebuilt(leaves)
            self.assertEqual(presentation, SMALL)
            spoil(presentation)
        self.assertEqual(leaves, LEAVES)
        row = list(SOUND)
        rebuild(row, STAMP, 3).clear()
        self.assertEqual(row, SOUND)
        self.assertEqual(rebuild(row, STAMP, 3), best_file(SMALL, STAMP, 3))

    def test_the_steps_of_a_long_change(self):
        """A front of more than 127 bytes, whose number has two bytes."""
        leaves = [HEAD, key(1, 0, [5] * 199), leaning(2, 1, steps(199) + [0, 6])]
        self.assertEqual(rebuilt(leaves)[2][0][2][1], (10, 1, [5] * 199 + [6], True))
        self.assertEqual(len(units_in(leaves)), 2)


if __name__ == "__main__":
    unittest.main()
