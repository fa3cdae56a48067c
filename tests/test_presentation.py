import copy
import unittest

from spoolbox.model.presentation import end_of, is_presentation, keys_of

LAST_TIME = 2 ** 40 - 1
LAST_SPAN = 2 ** 24 - 1
UNITS = [(0, 5, [1, 2, 3], False), (5, 1, [], True), (9, LAST_SPAN, [0, 255], False)]
TRACKS = [("left", "sound", UNITS), ("", "a", []), ("~ !", "z" * 16, [(LAST_TIME, 1, [7] * 200, False)])]
TAGS = [("a", ""), ("b", "x"), ("title", "a b ~")]
PLAIN = (1000, 40, TRACKS, TAGS)


def letters(number):
    """A key of two letters, in ascending order with the number."""
    return "abcdefghijklmnopqrstuvwxyz"[number // 26] + "abcdefghijklmnopqrstuvwxyz"[number % 26]


def with_units(units):
    return (1, 0, [("", "a", [(0, 3, [1], False)]), ("t", "k", units)], [])


def with_tags(tags):
    return (1, 0, [], tags)


def tags_of_body(size):
    """Tags whose body has this many bytes: the number of tags, and nine tags of 104 bytes and one of the rest."""
    tags = [(letters(k), "v" * 100) for k in range(9)]
    rest = size - 1 - 9 * 104
    return tags + [(letters(9), "v" * (rest - 4))]


class TestPresentations(unittest.TestCase):
    def test_plain(self):
        self.assertIs(is_presentation(PLAIN), True)
        self.assertIs(is_presentation((1, 0, [], [])), True)

    def test_both_ends_of_ticks_and_skip(self):
        for ticks in (1, 2, 89999, 90000):
            self.assertIs(is_presentation((ticks, 0, TRACKS, TAGS)), True)
        for ticks in (0, -1, -(10 ** 20), 90001, 2 ** 40):
            self.assertIs(is_presentation((ticks, 0, TRACKS, TAGS)), False)
        for skip in (0, 1, LAST_TIME):
            self.assertIs(is_presentation((1, skip, TRACKS, TAGS)), True)
        for skip in (-1, LAST_TIME + 1, 10 ** 20):
            self.assertIs(is_presentation((1, skip, TRACKS, TAGS)), False)

    def test_the_number_of_tracks(self):
        for many in (0, 1, 14, 15):
            self.assertIs(is_presentation((1, 0, [("n", "k", [])] * many, [])), True)
        for many in (16, 17, 40):
            self.assertIs(is_presentation((1, 0, [("n", "k", [])] * many, [])), False)

    def test_every_track_counts(self):
        for at in range(15):
            tracks = [("n", "k", [])] * 15
            tracks[at] = ("n", "K", [])
            self.assertIs(is_presentation((1, 0, tracks, [])), False)

    def test_names(self):
        allowed = [chr(code) for code in range(32, 127) if code != 37]
        for name in ["", "n" * 32, " ", "~", " " * 32, *allowed, "".join(allowed)[:32]]:
            self.assertIs(is_presentation((1, 0, [(name, "k", [])], [])), True, name)
        barred = ["%", "n" * 33, "a%b", "%" * 3, "abc%", "\n", "\t", "\x00", "\x1f", "\x7f", "\x80", "\xe9", "a\u0142",
                  "\U0001f600", "\ud800"]
        for name in barred:
            self.assertIs(is_presentation((1, 0, [(name, "k", [])], [])), False)

    def test_kinds(self):
        for kind in ["a", "z", "k" * 16, "abcdefghijklmnop", "qrstuvwxyz"]:
            self.assertIs(is_presentation((1, 0, [("", kind, [])], [])), True)
        barred = ["", "k" * 17, "K", "kK", "a1", "1", "a b", " ", "a-", "a_", "`", "{", "%", "a\n",
                  "\xe9", "\xdf", "\u03b1"]
        for kind in barred:
            self.assertIs(is_presentation((1, 0, [("", kind, [])], [])), False, kind)

    def test_the_number_of_units(self):
        units = [(k, 1, [], k % 3 > 0) for k in range(302)]
        for many in (0, 1, 299, 300):
            self.assertIs(is_presentation(with_units(units[:many])), True)
        for many in (301, 302):
            self.assertIs(is_presentation(with_units(units[:many])), False)
        self.assertIs(is_presentation((1, 0, [("n", "k", units[:300])] * 15, [])), True)

    def test_times_and_spans(self):
        for unit in ((0, 1), (LAST_TIME, 1), (0, LAST_SPAN), (LAST_TIME, LAST_SPAN), (3, 4)):
            self.assertIs(is_presentation(with_units([unit + ([], False)])), True)
        barred = [(-1, 1), (-1, 2), (-1000, 1), (LAST_TIME + 1, 1)]
        barred += [(0, 0), (5, -1), (0, LAST_SPAN + 1), (0, 2 ** 40)]
        for unit in barred:
            self.assertIs(is_presentation(with_units([unit + ([], False)])), False)

    def test_contents(self):
        for content in ([], [0], [255], [0, 255] * 100, list(range(200))):
            for leans in (False, True):
                self.assertIs(is_presentation(with_units([(0, 1, [], False), (1, 1, content, leans)])), True)
        for content in ([-1], [256], [0] * 201, [1, 2, 256], [1, -1, 2], [0] * 199 + [300], [0] * 1000):
            for leans in (False, True):
                self.assertIs(is_presentation(with_units([(0, 1, [], False), (1, 1, content, leans)])), False)

    def test_leaning(self):
        self.assertIs(is_presentation(with_units([(0, 1, [], True)])), False)
        self.assertIs(is_presentation(with_units([(0, 1, [], True), (1, 1, [], False)])), False)
        self.assertIs(is_presentation(with_units([(0, 1, [], False), (1, 1, [], True), (2, 1, [], True)])), True)
        self.assertIs(is_presentation((1, 0, [("", "a", [(0, 1, [], True)]), ("", "a", [])], [])), False)

    def test_a_unit_begins_before_the_end_of_the_one_before_it(self):
        for time, good in ((9, False), (10, False), (14, False), (15, True), (16, True), (LAST_TIME, True)):
            for leans in (False, True):
                units = [(10, 5, [], False), (time, 1, [], leans)]
                self.assertIs(is_presentation(with_units(units)), good)
        units = [(0, 1, [], False), (1, 7, [], False), (7, 1, [], False)]
        self.assertIs(is_presentation(with_units(units)), False)
        units = [(LAST_TIME, 1, [], False), (LAST_TIME + 1, 1, [], False)]
        self.assertIs(is_presentation(with_units(units)), False)

    def test_tracks_do_not_bind_each_other(self):
        units = [(10, 5, [], False), (15, 5, [], True)]
        self.assertIs(is_presentation((1, 0, [("", "a", units), ("", "a", units)], [])), True)

    def test_keys_and_values_of_tags(self):
        for pair in (("a", ""), ("z" * 16, "v" * 100), ("k", " ~"), ("k", "!" * 100)):
            self.assertIs(is_presentation(with_tags([pair])), True)
        for key in ("", "k" * 17, "K", "k1", "k k", " ", "`", "{", "\xe9", "%"):
            self.assertIs(is_presentation(with_tags([(key, "v")])), False)
            self.assertIs(is_presentation(with_tags([("a", "v"), (key, "v")])), False)
        for value in ("%", "a%", "v" * 101, "\n", "\x1f", "\x7f", "\xe9", "a\tb"):
            self.assertIs(is_presentation(with_tags([("k", value)])), False)
            self.assertIs(is_presentation(with_tags([("k", value), ("l", "")])), False)

    def test_the_order_of_tags(self):
        self.assertIs(is_presentation(with_tags([("a", "2"), ("aa", "1"), ("ab", ""), ("b", "")])), True)
        self.assertIs(is_presentation(with_tags([("b", ""), ("a", "")])), False)
        self.assertIs(is_presentation(with_tags([("a", "1"), ("a", "2")])), False)
        self.assertIs(is_presentation(with_tags([("a", "1"), ("a", "1")])), False)
        self.assertIs(is_presentation(with_tags([("a", ""), ("b", ""), ("a", "")])), False)
        self.assertIs(is_presentation(with_tags([("ab", ""), ("aa", "")])), False)
        self.assertIs(is_presentation(with_tags([("aa", ""), ("a", "")])), False)

    def test_the_body_of_the_tags(self):
        for size in (1000, 1023, 1024):
            self.assertIs(is_presentation(with_tags(tags_of_body(size))), True)
        for size in (1025, 1026, 1040):
            self.assertIs(is_presentation(with_tags(tags_of_body(size))), False)

    def test_the_number_of_tags_may_have_two_bytes(self):
        # 200 tags with keys of two letters have 2 + 200 * 4 bytes and those of their values, of which 222 are let.
        tags = [(letters(k), "") for k in range(200)]
        full = [(key, "v" * 100) if k < 2 else (key, value) for k, (key, value) in enumerate(tags)]
        self.assertIs(is_presentation(with_tags(full[:199] + [("zz", "v" * 22)])), True)
        self.assertIs(is_presentation(with_tags(full[:199] + [("zz", "v" * 23)])), False)
        self.assertIs(is_presentation(with_tags([(letters(k), "") for k in range(255)])), True)
        self.assertIs(is_presentation(with_tags([(letters(k), "") for k in range(256)])), False)

    def test_one_bad_part_is_enough(self):
        for at, part in ((0, 0), (1, -1), (2, TRACKS + [("%", "k", [])]), (3, TAGS + [("a", "")])):
            self.assertIs(is_presentation(PLAIN[:at] + (part,) + PLAIN[at + 1:]), False)


class TestEndAndKeys(unittest.TestCase):
    def test_end_without_units(self):
        self.assertEqual(end_of((1, 99, [], TAGS)), 0)
        self.assertEqual(end_of((1, 99, [("", "a", []), ("", "a", [])], [])), 0)

    def test_end_is_the_greatest_of_all_tracks(self):
        early = ("", "a", [(0, 5, [], False), (6, 4, [], True)])
        late = ("", "a", [(3, 8, [], False)])
        self.assertEqual(end_of((1, 0, [early], [])), 10)
        self.assertEqual(end_of((1, 0, [early, late], [])), 11)
        self.assertEqual(end_of((1, 0, [late, early, ("", "a", [])], [])), 11)
        self.assertEqual(end_of((1, 50, [early], [])), 10)
        self.assertEqual(end_of(PLAIN), LAST_TIME + 1)

    def test_keys(self):
        self.assertEqual(keys_of([]), [])
        self.assertEqual(keys_of(UNITS), [0, 2])
        leaning = [False, True, True, False, False, True]
        self.assertEqual(keys_of([(k, 1, [], leans) for k, leans in enumerate(leaning)]), [0, 3, 4])

    def test_nothing_is_modified_and_each_list_is_new(self):
        value = copy.deepcopy(PLAIN)
        is_presentation(value)
        end_of(value)
        keys_of(value[2][0][2]).clear()
        self.assertEqual(value, PLAIN)
        self.assertEqual(keys_of(value[2][0][2]), [0, 2])


if __name__ == "__main__":
    unittest.main()
