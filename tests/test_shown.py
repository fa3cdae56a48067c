import copy
import random
import unittest

from edits import show_of
from helpers import SMALL, some_presentation
from spoolbox.editing.shown import shown, whole_show

# Units from 10 to 20, from 20 to 21 and from 30 to 35.
UNITS = [(10, 10, [1], False), (20, 1, [2, 2], True), (30, 5, [], False)]
ONE = (1000, 20, [("", "a", UNITS)], [])


class TestShown(unittest.TestCase):
    def test_all_of_it(self):
        self.assertEqual(shown(ONE, 0), [[(10, 10, [1]), (20, 1, [2, 2]), (30, 5, [])]])
        self.assertEqual(shown(ONE, 0, None), shown(ONE, 0))
        self.assertEqual(shown(ONE, 0, 2 ** 40), shown(ONE, 0))
        self.assertEqual(shown(SMALL, 0), [
            [(0, 20, [1, 2, 3]), (20, 20, [1, 2, 4]), (50, 5, [0, 0])],
            [],
            [(10, 10, [9] * 200), (20, 5, []), (25, 1, [7]), (50, 9, [])],
        ])

    def test_units_that_end_at_the_start_are_not_shown(self):
        self.assertEqual(shown(ONE, 19), [[(-9, 10, [1]), (1, 1, [2, 2]), (11, 5, [])]])
        self.assertEqual(shown(ONE, 20), [[(0, 1, [2, 2]), (10, 5, [])]])
        self.assertEqual(shown(ONE, 21), [[(9, 5, [])]])
        self.assertEqual(shown(ONE, 34), [[(-4, 5, [])]])
        self.assertEqual(shown(ONE, 35), [[]])
        self.assertEqual(shown(ONE, 2 ** 40 - 1), [[]])

    def test_units_that_begin_at_the_stop_are_not_shown(self):
        self.assertEqual(shown(ONE, 0, 31), shown(ONE, 0))
        self.assertEqual(shown(ONE, 0, 30), [[(10, 10, [1]), (20, 1, [2, 2])]])
        self.assertEqual(shown(ONE, 0, 21), [[(10, 10, [1]), (20, 1, [2, 2])]])
        self.assertEqual(shown(ONE, 0, 20), [[(10, 10, [1])]])
        self.assertEqual(shown(ONE, 0, 11), [[(10, 10, [1])]])
        self.assertEqual(shown(ONE, 0, 10), [[]])
        self.assertEqual(shown(ONE, 0, 0), [[]])

    def test_the_first_one_may_begin_ahead_of_the_start(self):
        self.assertEqual(shown(ONE, 12, 20), [[(-2, 10, [1])]])
        self.assertEqual(shown(ONE, 11), [[(-1, 10, [1]), (9, 1, [2, 2]), (19, 5, [])]])
        self.assertEqual(shown(ONE, 10), [[(0, 10, [1]), (10, 1, [2, 2]), (20, 5, [])]])

    def test_a_stop_at_the_start_or_ahead_of_it(self):
        # Only a unit that has begun before the stop and goes on behind the start is shown.
        self.assertEqual(shown(ONE, 15, 15), [[(-5, 10, [1])]])
        self.assertEqual(shown(ONE, 15, 11), [[(-5, 10, [1])]])
        self.assertEqual(shown(ONE, 15, 10), [[]])
        self.assertEqual(shown(ONE, 20, 20), [[]])
        self.assertEqual(shown(ONE, 25, 25), [[]])
        self.assertEqual(shown(ONE, 35, 0), [[]])
        self.assertEqual(shown(ONE, 0, 0), [[]])

    def test_tracks_of_which_nothing_is_shown(self):
        self.assertEqual(shown((1, 0, [], []), 0), [])
        self.assertEqual(shown((1, 0, [("", "a", []), ("", "b", [])], []), 5, 6), [[], []])
        self.assertEqual(shown(SMALL, 40, 50), [[], [], []])
        self.assertEqual(shown(SMALL, 54), [[(-4, 5, [0, 0])], [], [(-4, 9, [])]])
        self.assertEqual(shown(SMALL, 55), [[], [], [(-5, 9, [])]])

    def test_the_skip_plays_no_part(self):
        for skip in (0, 3, 2 ** 40 - 1):
            self.assertEqual(shown((1000, skip, ONE[2], []), 15, 30), shown(ONE, 15, 30))

    def test_presentations_by_chance(self):
        chance = random.Random(601)
        for _ in range(300):
            presentation = some_presentation(chance)
            times = [0] + [time + more for _, _, units in presentation[2] for time, span, _, _ in units
                           for more in (0, 1, span - 1, span)]
            start, stop = chance.choice(times), chance.choice(times + [None] * 3)
            self.assertEqual(shown(presentation, start, stop), show_of(presentation, start, stop))
            self.assertEqual(shown(presentation, start, stop=stop), show_of(presentation, start, stop))


class TestWholeShow(unittest.TestCase):
    def test_it_is_shown_from_the_skip_on(self):
        self.assertEqual(whole_show(ONE), [[(0, 1, [2, 2]), (10, 5, [])]])
        self.assertEqual(whole_show(SMALL), [
            [(-3, 20, [1, 2, 3]), (17, 20, [1, 2, 4]), (47, 5, [0, 0])],
            [],
            [(7, 10, [9] * 200), (17, 5, []), (22, 1, [7]), (47, 9, [])],
        ])
        for skip in (0, 1, 25, 34, 35, 2 ** 40 - 1):
            self.assertEqual(whole_show((1000, skip, ONE[2], [])), show_of(ONE, skip))

    def test_without_tracks_and_units(self):
        self.assertEqual(whole_show((1, 5, [], [])), [])
        self.assertEqual(whole_show((1, 5, [("", "a", [])], [])), [[]])


class TestArguments(unittest.TestCase):
    def test_nothing_is_modified_and_each_list_is_new(self):
        presentation = copy.deepcopy(SMALL)
        for call in (lambda: shown(presentation, 0), lambda: shown(presentation, 5, 50),
                     lambda: whole_show(presentation)):
            expected = copy.deepcopy(call())
            for _ in range(2):
                found = call()
                self.assertEqual(found, expected)
                for units in found:
                    for _, _, content in units:
                        content.append(5)
                    units.clear()
                found.clear()
        self.assertEqual(presentation, SMALL)


if __name__ == "__main__":
    unittest.main()
