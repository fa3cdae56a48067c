import copy
import random
import unittest

from edits import Opened, best_file, join_of, joined_presentation, show_of, units_in, with_bodies
from faults import SOUND, all_faults, found_at_the_end
from helpers import (SMALL, SMALL_ORDER, WORD, Reading, all_leaves, any_file, best_of, fault_of, file_of, keys_by_track,
                     order_by_time, some_presentation, tags_of, told_index)
from spoolbox.editing.cutting import cut
from spoolbox.editing.entering import enter
from spoolbox.editing.joining import join
from spoolbox.reading.whole import read

TOP = 2 ** 40 - 1
BAD = [7] * 201
# The first one ends at 45, with a unit of the second track.
FIRST = (1000, 3, [("n", "a", [(0, 10, [1], False), (10, 5, [1, 2], True)]), ("", "b", [(5, 40, [9], False)])],
         [("a", "one"), ("c", "three")])
SECOND = (1000, 0, [("n", "a", [(0, 1, [3], False), (7, 5, [3, 3], True)]), ("", "b", [(2, 2, [8], False)])],
          [("b", "two"), ("c", "other")])
BOTH = (1000, 3, [
    ("n", "a", [(0, 10, [1], False), (10, 5, [1, 2], True), (45, 1, [3], False), (52, 5, [3, 3], True)]),
    ("", "b", [(5, 40, [9], False), (47, 2, [8], False)]),
], [("a", "one"), ("b", "two"), ("c", "three")])


def bare(*tracks, ticks=1000, skip=0, tags=()):
    """A presentation of unnamed tracks with these units."""
    return (ticks, skip, [("", "a", list(units)) for units in tracks], list(tags))


def some_units(many, start=0):
    return [(start + k, 1, [k % 256], k % 4 > 0) for k in range(many)]


def alike(chance, many):
    """Presentations by chance that can be joined."""
    rows = some_presentation(chance)
    found = []
    for at in range(many):
        tracks = []
        for name, kind, _ in rows[2]:
            units = ([track[2] for track in some_presentation(chance)[2]] or [[]])[0]
            tracks.append((name, kind, units))
        found.append((rows[0], 0 if at else rows[1], tracks, some_presentation(chance)[3]))
    return found


def joined(*presentations, count=5, stamp=5):
    """The join of the files of two presentations."""
    return join(*[best_file(presentation, 1, 0) for presentation in presentations], count, stamp)


def fault_of_join(*presentations):
    return fault_of(lambda: joined(*presentations))


class JoinCase(unittest.TestCase):
    def check(self, first, second, count=64, stamp=9):
        """The joined file has the bytes that it has to have; return its presentation."""
        found = join(first, second, count, stamp)
        self.assertEqual(found, join_of(first, second, count, stamp))
        return Reading(found).outcome


class TestJoin(JoinCase):
    def test_written_out(self):
        first, second = best_file(FIRST, 1, 100), best_file(SECOND, 2, 100)
        self.assertEqual(self.check(first, second), BOTH)
        self.assertEqual(join(first, second, 64, 7), best_file(BOTH, 7, 64))
        leaves = Opened(join(first, second, 64, 7)).leaves
        self.assertEqual([leaf[3:8] for leaf in units_in(leaves)], [
            (1, 0, 0, 10, 1), (2, 0, 5, 40, 1), (1, 1, 10, 5, 0), (1, 2, 45, 1, 1), (2, 1, 47, 2, 1), (1, 3, 52, 5, 0)])
        kinds = [0, 1] + [2] * 6 + [3, 4]
        self.assertEqual([leaf[:3] for leaf in leaves], [(kind, 7, at) for at, kind in enumerate(kinds)])

    def test_files_without_units_with_and_without_tags(self):
        for tags in ([], [("a", "")], [("x", "1"), ("y", "2")]):
            for others in ([], [("a", "v")], [("b", "")], [("x", "3"), ("z", "")]):
                for units in ([], some_units(3, 7)):
                    empty = bare([], [], skip=4, tags=tags)
                    full = bare(units, [], tags=others)
                    found = self.check(best_file(empty, 1, 0), best_file(full, 2, 0))
                    self.assertEqual(found, joined_presentation(empty, full))
                    self.assertEqual(found[2][0][2], units)
                    turned = self.check(best_file(full, 1, 0), best_file(bare([], [], tags=tags), 2, 0))
                    self.assertEqual(turned, joined_presentation(full, bare([], [], tags=tags)))
        nothing = (7, 5, [], [])
        self.assertEqual(self.check(best_file(nothing, 1, 0), best_file((7, 0, [], []), 2, 0)), nothing)

    def test_the_tags(self):
        one = bare([], tags=[("b", "1"), ("d", "1"), ("z" * 16, "1")])
        other = bare([], tags=[("a", "2"), ("b", "2"), ("c", "2"), ("d", "1"), ("e", "2")])
        tags = [("a", "2"), ("b", "1"), ("c", "2"), ("d", "1"), ("e", "2"), ("z" * 16, "1")]
        self.assertEqual(read(joined(one, other))[3], tags)
        tags = [("a", "2"), ("b", "2"), ("c", "2"), ("d", "1"), ("e", "2"), ("z" * 16, "1")]
        self.assertEqual(read(joined(other, one))[3], tags)
        # The value plays no part in the order: a greater value stays, and so does a smaller one.
        self.assertEqual(read(joined(bare(tags=[("k", "z")]), bare(tags=[("k", "a")])))[3], [("k", "z")])
        self.assertEqual(read(joined(bare(tags=[("k", "a")]), bare(tags=[("k", "z")])))[3], [("k", "a")])

    def test_the_end_is_that_of_all_tracks(self):
        short, long = [(0, 1, [1], False)], [(3, 97, [2], False)]
        for tracks in ((short, long, []), (long, short, []), ([], long, short)):
            found = read(joined(bare(*tracks), bare([(0, 1, [5], False)], [(2, 1, [], False)], [])))
            self.assertEqual([found[2][0][2][-1], found[2][1][2][-1]], [(100, 1, [5], False), (102, 1, [], False)])
        # A unit of the first track that begins last, but ends first.
        found = read(joined(bare([(50, 1, [1], False)], [(3, 97, [2], False)]), bare([(0, 1, [5], False)], [])))
        self.assertEqual(found[2][0][2][-1], (100, 1, [5], False))

    def test_the_skip_of_the_first_one(self):
        for skip in (0, 1, TOP):
            self.assertEqual(read(joined(bare([], skip=skip), bare([])))[1], skip)

    def test_the_index_is_the_best_one_of_so_many_entries(self):
        one, other = bare(some_units(90), some_units(20)), bare(some_units(70), some_units(9))
        first, second = best_file(one, 1, 0), best_file(other, 2, 0)
        for count in (0, 1, 2, 7, 46, 64):
            self.check(first, second, count)
            index = told_index(Opened(join(first, second, count, 3)).leaves[-2][8])
            best, _ = best_of(keys_by_track(joined_presentation(one, other)), count)
            self.assertEqual(len(index), len(best))
        keys = bare([(k, 1, [], False) for k in range(33)])
        for many, found in ((32, 64), (33, 32)):
            other = bare([(k, 1, [], False) for k in range(many)])
            index = told_index(Opened(joined(keys, other, count=64)).leaves[-2][8])
            self.assertEqual(len(index), found)

    def test_files_by_chance(self):
        chance = random.Random(605)
        for _ in range(200):
            one, other = alike(chance, 2)
            first, second = any_file(chance, one), any_file(chance, other)
            count, stamp = chance.choice((0, 1, 2, 64)), chance.randrange(WORD)
            self.assertEqual(self.check(first, second, count, stamp), joined_presentation(one, other))
            again = join(any_file(chance, one), any_file(chance, other), count, stamp)
            self.assertEqual(again, join(first, second, count, stamp))

    def test_a_joined_file_is_entered_and_cut(self):
        chance = random.Random(606)
        for _ in range(60):
            one, other = alike(chance, 2)
            both = joined_presentation(one, other)
            data = join(any_file(chance, one), any_file(chance, other), 3, 1)
            for _, _, units in both[2]:
                for time, span, _, _ in units[::3]:
                    self.assertEqual(enter(data, time), show_of(both, time))
                    if time >= both[1]:
                        found = read(cut(data, time, time + 9, 3, 1))
                        self.assertEqual(show_of(found, found[1]), show_of(both, time, time + 9))

    def test_joining_is_associative(self):
        chance = random.Random(607)
        for _ in range(150):
            one, two, three = [any_file(chance, presentation) for presentation in alike(chance, 3)]
            count, stamp = chance.choice((0, 1, 2, 64)), chance.randrange(WORD)
            inner = [(chance.choice((0, 5, 64)), chance.randrange(WORD)) for _ in range(2)]
            left = join(join(one, two, *inner[0]), three, count, stamp)
            right = join(one, join(two, three, *inner[1]), count, stamp)
            self.assertEqual(left, right)


class TestNotAlike(unittest.TestCase):
    def test_the_ticks(self):
        self.assertEqual(fault_of_join(bare([]), bare([], ticks=999)), ("NotAlike", 0))
        self.assertEqual(fault_of_join(bare([], ticks=999), bare([])), ("NotAlike", 0))
        self.assertEqual(fault_of_join(bare(), bare(ticks=1)), ("NotAlike", 0))

    def test_the_number_of_tracks(self):
        self.assertEqual(fault_of_join(bare([]), bare([], [])), ("NotAlike", 1))
        self.assertEqual(fault_of_join(bare([], []), bare([])), ("NotAlike", 1))
        self.assertEqual(fault_of_join(bare(), bare([])), ("NotAlike", 1))
        self.assertEqual(fault_of_join(bare([]), bare()), ("NotAlike", 1))

    def test_a_name_and_a_kind(self):
        tracks = [(name, "k" + name, []) for name in "abcdefghijklmno"]
        for at in range(15):
            for track in (("other", "k" + tracks[at][0], []), (tracks[at][0], "other", [])):
                changed = tracks[:at] + [track] + tracks[at + 1:]
                for both in ((tracks, changed), (changed, tracks)):
                    pair = [(1, 0, rows, []) for rows in both]
                    self.assertEqual(fault_of_join(*pair), ("NotAlike", at + 2))
                # The first track that differs.
                worse = changed[:-1] + [("z", "z", [])]
                self.assertEqual(fault_of_join((1, 0, tracks, []), (1, 0, worse, [])), ("NotAlike", at + 2))

    def test_the_number_of_units_may_differ(self):
        self.assertIsNone(fault_of_join(bare(some_units(3), []), bare([], some_units(5))))

    def test_tracks_in_another_order(self):
        tracks = [("x", "a", []), ("y", "a", []), ("z", "a", [])]
        turned = [tracks[0], tracks[2], tracks[1]]
        self.assertEqual(fault_of_join((1, 0, tracks, []), (1, 0, turned, [])), ("NotAlike", 3))


class TestTooLong(unittest.TestCase):
    def test_the_time(self):
        for end in (1, 100, TOP, TOP + 1, TOP + 2 ** 24 - 1):
            span = max(1, end - TOP)
            one = bare([(end - span, span, [1], False)], [])
            most = TOP - end
            if most >= 0:
                found = read(joined(one, bare([(most, 5, [2], False)], [])))
                self.assertEqual(found[2][0][2][-1], (TOP, 5, [2], False))
                self.assertEqual(found, joined_presentation(one, bare([(most, 5, [2], False)], [])))
            for time in (most + 1, most + 2, TOP):
                if 0 <= time <= TOP:
                    self.assertEqual(fault_of_join(one, bare([(time, 5, [2], False)], [])), ("TooLong", 0))
                    self.assertEqual(fault_of_join(one, bare([], [(time, 5, [2], False)])), ("TooLong", 0))
        # Without units the end plays no part.
        one = bare([(TOP, 2 ** 24 - 1, [1], False)])
        self.assertEqual(read(joined(one, bare([]))), one)
        self.assertIsNone(fault_of_join(bare([]), bare([(TOP, 9, [1], False)])))

    def test_the_first_leaf_in_the_order_of_the_file(self):
        one = bare([], [(TOP - 100, 1, [], False)])
        # The time TOP - 99 is added: 99 is let, 100 is not.
        other = bare([(0, 1, [], False), (100, 1, [], False), (101, 1, [], False)],
                     [(99, 1, [], False), (100, 1, [], False)])
        orders = ([(1, 0), (2, 0), (1, 1), (2, 1), (1, 2)], [(1, 0), (2, 0), (2, 1), (1, 1), (1, 2)],
                  [(1, 0), (1, 1), (1, 2), (2, 0), (2, 1)], [(2, 0), (2, 1), (1, 0), (1, 1), (1, 2)])
        first = best_file(one, 1, 0)
        for order, at in zip(orders, (2, 2, 1, 1)):
            for tags in ([], [("a", "b")]):
                second = file_of(all_leaves(other[:3] + (tags,), 1, order, []))
                self.assertEqual(fault_of(join, first, second, 0, 0), ("TooLong", at))

    def test_the_301st_unit(self):
        for many in (0, 1, 150, 299, 300):
            one = bare(some_units(many), some_units(1))
            self.assertEqual(len(read(joined(one, bare(some_units(300 - many), [])))[2][0][2]), 300)
            if many > 0:
                fault = fault_of_join(one, bare(some_units(301 - many), []))
                self.assertEqual(fault, ("TooLong", 300 - many))
                # A unit of the other track at the same time as each of this one stands behind it.
                fault = fault_of_join(one, bare(some_units(301 - many), some_units(200)))
                self.assertEqual(fault, ("TooLong", 300 - many + min(300 - many, 200)))
        self.assertEqual(fault_of_join(bare(some_units(300)), bare(some_units(300))), ("TooLong", 0))

    def test_whichever_of_the_two_comes_first(self):
        one = bare(some_units(299, TOP - 1000), [])
        end = TOP - 1000 + 299
        for time, at in ((TOP - end, 1), (TOP - end + 1, 0)):
            other = bare([(time, 1, [], False), (time + 1, 1, [], False)], [])
            self.assertEqual(fault_of_join(one, other), ("TooLong", at))
        other = bare([(0, 1, [], False), (1, 1, [], False)], [(TOP - end + 1, 1, [], False)])
        leaves = all_leaves(other, 1, [(2, 0), (1, 0), (1, 1)], [])
        self.assertEqual(fault_of(join, best_file(one, 1, 0), file_of(leaves), 0, 0), ("TooLong", 0))
        self.assertEqual(fault_of_join(one, other), ("TooLong", 1))


# Tags whose body has 1,024 bytes together with those of the other file.
LONG = [("a" + sign, "v" * 100) for sign in "bcdefghi"]
REST = 1024 - len(tags_of(LONG))


class TestTooManyTags(unittest.TestCase):
    def test_exactly_1024_bytes_are_let(self):
        # A tag has two bytes more than its key and its value.
        for front, back in ((LONG, []), (LONG[:5], LONG[5:])):
            for more, fault in ((0, None), (1, ("TooManyTags", 0))):
                rest = [("x", "v" * (REST - 100 - 72 - 3 + more)), ("y" * 10, "v" * 88), ("z" * 10, "v" * 60)]
                one, other = bare(tags=front), bare(tags=sorted(back + rest))
                self.assertEqual(len(tags_of(sorted(front + back + rest))), 1024 + more)
                self.assertEqual(fault_of_join(one, other), fault)
                if not more:
                    self.assertEqual(read(joined(one, other))[3], sorted(front + back + rest))

    def test_tags_that_both_have_count_once(self):
        tags = LONG + [("z" * 10, "v" * 60)]
        self.assertEqual(read(joined(bare(tags=tags), bare(tags=tags)))[3], tags)
        # With the values of the second one it would be too long.
        one = [(key, "") for key, _ in LONG] + [("x" * 16, "v" * 100)]
        other = LONG + [("z" * 10, "v" * 80)]
        self.assertEqual(read(joined(bare(tags=one), bare(tags=other)))[3], one + other[-1:])
        self.assertEqual(fault_of_join(bare(tags=other), bare(tags=one)), ("TooManyTags", 0))

    def test_many_short_tags(self):
        keys = ["".join((a, b)) for a in "abcdefghijklmnopqrstuvwxyz" for b in "abcdefghij"]
        one, other = [(key, "") for key in keys[:125]], [(key, "") for key in keys[125:255]]
        self.assertEqual(len(tags_of(one + other)), 1022)
        self.assertEqual(read(joined(bare(tags=one), bare(tags=other)))[3], one + other)
        self.assertEqual(read(joined(bare(tags=other), bare(tags=one)))[3], one + other)
        more = other + [("zz", "")]
        self.assertEqual(fault_of_join(bare(tags=one), bare(tags=more)), ("TooManyTags", 0))


class TestOrderOfErrors(unittest.TestCase):
    def test_a_skip(self):
        for skip in (1, TOP):
            self.assertEqual(fault_of_join(bare([]), bare([], skip=skip)), ("HasSkip", 0))
            self.assertEqual(fault_of_join(bare([], skip=skip), bare([], skip=skip)), ("HasSkip", 0))

    def test_the_first_one_where_several_apply(self):
        """Each presentation has one fault less than the one before it."""
        units = some_units(300)
        one = (1000, 5, [("x", "a", units), ("y", "b", [])], LONG)
        tags = [("z" + sign, "v" * 100) for sign in "ab"]
        rows = (
            (("NotAlike", 0), (999, 1, [("o", "o", units)], tags)),
            (("NotAlike", 1), (1000, 1, [("o", "o", units)], tags)),
            (("NotAlike", 2), (1000, 1, [("o", "o", units), ("o", "o", [])], tags)),
            (("NotAlike", 3), (1000, 1, [("x", "a", units), ("o", "o", [])], tags)),
            (("HasSkip", 0), (1000, 1, [("x", "a", units), ("y", "b", [])], tags)),
            (("TooLong", 0), (1000, 0, [("x", "a", units), ("y", "b", [])], tags)),
            (("TooManyTags", 0), (1000, 0, [("x", "a", []), ("y", "b", units)], tags)),
            (None, (1000, 0, [("x", "a", []), ("y", "b", units)], tags[:1])),
        )
        for fault, other in rows:
            self.assertEqual(fault_of_join(one, other), fault)

    def test_the_errors_of_the_files_come_first(self):
        other = best_file(bare([], ticks=1, skip=7), 1, 0)
        for _, _, data in all_faults()[::6] + list(found_at_the_end())[::20]:
            outcome = Reading(data, with_bodies=False).outcome
            if len(outcome) == 2:
                self.assertEqual(fault_of(join, data, other, 5, 5), outcome)
                self.assertEqual(fault_of(join, other, data, 5, 5), outcome)
                self.assertEqual(fault_of(join, data, other[:-1], 5, 5), outcome)
                self.assertEqual(fault_of(join, other[:-1], data, 5, 5), ("CutOff", 2))
                self.assertEqual(fault_of(join, [1], data, 5, 5), ("BadStart", 0))


class TestBadBodies(JoinCase):
    def test_they_are_not_looked_at_and_stay_as_they_are(self):
        tracks = SMALL[2]
        presentation = (1000, 0, tracks, [])
        leaves = all_leaves(presentation, 5, SMALL_ORDER, [])
        old = {leaf[3:5]: leaf[8] for leaf in units_in(leaves)}
        every = {pair: BAD for pair in SMALL_ORDER}
        pairs = (({(1, 0): BAD}, {}), ({}, {(1, 1): []}), ({(3, 3): [7] * 1024}, {(3, 0): BAD}), (every, every))
        for bad, other in pairs:
            first, second = [file_of(with_bodies(leaves, bodies, [(1, 2)])) for bodies in (bad, other)]
            self.assertEqual(self.check(first, second)[0], "BadBody")
            found = [leaf[8] for leaf in units_in(Opened(join(first, second, 0, 0)).leaves)]
            self.assertEqual(found, [bad.get(pair, old[pair]) for pair in SMALL_ORDER]
                             + [other.get(pair, old[pair]) for pair in SMALL_ORDER])

    def test_errors_do_not_depend_on_them(self):
        presentation = bare([(0, 1, [5], False)], skip=1)
        leaves = all_leaves(presentation, 5, order_by_time(presentation), [])
        data = file_of(with_bodies(leaves, {(1, 0): BAD}, []))
        self.assertEqual(fault_of(join, data, data, 5, 5), ("HasSkip", 0))


class TestArguments(unittest.TestCase):
    def test_nothing_is_modified_and_each_list_is_new(self):
        second = best_file((SMALL[0], 0) + SMALL[2:], 3, 5)
        first, other = copy.copy(SOUND), copy.copy(second)
        found = join(first, other, 3, 4)
        expected = list(found)
        found.clear()
        self.assertEqual(join(first, other, 3, 4), expected)
        self.assertEqual((first, other), (SOUND, second))
        self.assertEqual(join(other, other, 3, 4), join(second, list(second), 3, 4))


if __name__ == "__main__":
    unittest.main()
