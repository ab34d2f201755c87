import copy
import unittest

from volumemend.trees import above, lies_within, way_up
from volumes import sound

FOLDER = (2, 0, 0, 0, 0, 0)
FILE = (1, 0, 0, 0, 0, 0)
RECORDS = {1: FOLDER, 2: FOLDER, 3: FILE, 4: FOLDER, 5: FOLDER, 6: FOLDER, 7: FOLDER, 8: FOLDER, 9: FOLDER, 10: FILE}
# From the top 7 / 2 / 9 / 1, and 4 beside 2; 8 in the top; found is 6, with 5 in it.
SLOTS = {
    0: (9, 5, 1), 1: (2, 5, 9), 2: (7, 6, 2), 4: (0, 5, 7), 5: (7, 5, 4), 6: (6, 5, 5), 8: (0, 6, 8), 9: (8, 5, 3),
    10: (5, 7, 3),
}
# Slots that are not used say nothing, also where they stand ahead of those that are.
UNUSED = {3: (8, 9, 7), 7: (0, 9, 6), 11: (0, 10, 5)}

WAYS = {
    0: [0], 7: [7, 0], 2: [2, 7, 0], 4: [4, 7, 0], 9: [9, 2, 7, 0], 1: [1, 9, 2, 7, 0], 8: [8, 0], 6: [6], 5: [5, 6],
}


class Trees(unittest.TestCase):
    def setUp(self):
        self.layout, self.volume = sound((12, 6, 2), RECORDS, SLOTS, unused=UNUSED)
        self.before = copy.deepcopy(self.volume)

    def tearDown(self):
        self.assertEqual(self.volume, self.before)

    def test_above(self):
        for folder, way in WAYS.items():
            with self.subTest(folder=folder):
                told = above(self.layout, self.volume, folder)
                self.assertEqual(told, way[1] if len(way) > 1 else None)

    def test_above_the_top_and_a_found_one_lies_none(self):
        self.assertIs(above(self.layout, self.volume, 0), None)
        self.assertIs(above(self.layout, self.volume, 6), None)

    def test_above_is_the_top_and_not_none(self):
        self.assertEqual(above(self.layout, self.volume, 7), 0)
        self.assertIs(type(above(self.layout, self.volume, 7)), int)

    def test_way_up(self):
        for folder, way in WAYS.items():
            with self.subTest(folder=folder):
                told = way_up(self.layout, self.volume, folder)
                self.assertIs(type(told), list)
                self.assertEqual(told, way)

    def test_what_is_told_and_changed_changes_nothing(self):
        for folder, way in WAYS.items():
            told = way_up(self.layout, self.volume, folder)
            told.append(99)
            told[0] = 98
            self.assertEqual(way_up(self.layout, self.volume, folder), way)

    def test_lies_within(self):
        for folder in WAYS:
            for other in WAYS:
                with self.subTest(folder=folder, other=other):
                    self.assertIs(lies_within(self.layout, self.volume, folder, other), other in WAYS[folder])

    def test_lies_within_by_hand(self):
        for folder, other, due in (
            (2, 2, True), (0, 0, True), (6, 6, True),  # itself
            (1, 9, True), (1, 2, True), (1, 0, True), (5, 6, True),  # on the way up
            (9, 1, False), (0, 1, False), (6, 5, False),  # the other way round
            (4, 2, False), (8, 7, False), (7, 8, False), (5, 0, False), (6, 0, False), (1, 4, False),  # beside it
        ):
            self.assertIs(lies_within(self.layout, self.volume, folder, other), due)


class Deep(unittest.TestCase):
    def test_eleven_deep(self):
        records = {f: FOLDER for f in range(1, 12)}
        slots = {11 - f: (f - 1, 3, f) for f in range(1, 12)}
        layout, volume = sound((12, 6, 2), records, slots)
        self.assertEqual(way_up(layout, volume, 11), [11, 10, 9, 8, 7, 6, 5, 4, 3, 2, 1, 0])
        self.assertIs(lies_within(layout, volume, 11, 0), True)
        self.assertIs(lies_within(layout, volume, 0, 11), False)


if __name__ == "__main__":
    unittest.main()
