import copy
import unittest

from volumemend.layout import TOP, Layout
from volumemend.names import free_slot, names_in, slot, slot_at, slot_of, slots_naming
from volumes import sound

FAR = 10 ** 40 - 1

RECORDS = {
    1: (2, 0, 0, 0, 0, 0), 2: (2, 0, 0, 0, 0, 0), 3: (1, 0, 0, 0, 0, 0), 4: (1, 0, 0, 0, 0, 0),
    5: (1, 0, 0, 0, 0, 0), 6: (2, 0, 0, 0, 0, 0),
}
# Folder 6 and file 5 have no name: they are found. Slots 3 and 6 are gaps.
SLOTS = {
    0: (0, 40, 3), 1: (0, 7, 1), 2: (1, 40, 2), 4: (2, TOP, 3), 5: (0, 9, 4), 7: (6, 40, 4),
}
UNUSED = {3: (0, 8, 3), 6: (1, 1, 4), 9: (2, 1, 5)}


class SlotAt(unittest.TestCase):
    def test_each_slot(self):
        for numbers, first in (((2, 1, 2), 12), ((2, 8, 2), 12), ((12, 1, 40), 22), ((12, 8, 40), 22)):
            layout = Layout(*numbers)
            due = [(first + e, place) for e in range(numbers[1]) for place in (0, 4)]
            told = [slot_at(layout, s) for s in range(2 * numbers[1])]
            self.assertEqual(told, due)
            self.assertEqual([type(place) for place in told], [tuple] * len(due))


class Slot(unittest.TestCase):
    def test_of_any_volume(self):
        for e in (1, 8):
            layout = Layout(3, e, 2)
            volume = [[(-1) ** place * (FAR - 100 * block - place) for place in range(8)] for block in range(15 + e)]
            before = copy.deepcopy(volume)
            for s in range(2 * e):
                row = volume[13 + s // 2]
                told = slot(layout, volume, s)
                self.assertIs(type(told), tuple)
                self.assertEqual(told, tuple(row[4:] if s % 2 else row[:4]))
                self.assertEqual(len(told), 4)
            self.assertEqual(volume, before)

    def test_by_hand(self):
        layout = Layout(2, 1, 2)
        volume = [[0] * 8 for block in range(15)]
        volume[12] = [1, 0, 5, 1, FAR, -FAR, -1, 7]
        self.assertEqual(slot(layout, volume, 0), (1, 0, 5, 1))
        self.assertEqual(slot(layout, volume, 1), (FAR, -FAR, -1, 7))
        told = slot(layout, volume, 0)
        volume[12][0] = 9
        self.assertEqual(told, (1, 0, 5, 1))
        self.assertEqual(slot(layout, volume, 0), (9, 0, 5, 1))


class Sound(unittest.TestCase):
    def setUp(self):
        self.layout, self.volume = sound((8, 5, 2), RECORDS, SLOTS, unused=UNUSED)
        self.before = copy.deepcopy(self.volume)

    def tearDown(self):
        self.assertEqual(self.volume, self.before)

    def test_slot_of_each_name(self):
        for s, (folder, name, file) in SLOTS.items():
            told = slot_of(self.layout, self.volume, folder, name)
            self.assertEqual(told, s)
            self.assertIs(type(told), int)

    def test_slot_of_what_is_not_there(self):
        for folder, name in (
            (0, 8), (1, 1), (2, 1),  # in slots that are not used
            (2, 40), (1, 7), (6, 9), (0, TOP), (3, 40), (4, 9),  # elsewhere
            (0, 1000), (1, 2), (0, 0), (0, -1), (7, 7), (0, TOP + 1), (40, 0),  # nowhere
        ):
            self.assertIs(slot_of(self.layout, self.volume, folder, name), None)

    def test_slots_naming(self):
        for file, due in ((0, []), (1, [1]), (2, [2]), (3, [0, 4]), (4, [5, 7]), (5, []), (6, []), (7, [])):
            told = slots_naming(self.layout, self.volume, file)
            self.assertIs(type(told), list)
            self.assertEqual(told, due)

    def test_names_in(self):
        for folder, due in (
            (0, [(7, 1), (9, 4), (40, 3)]), (1, [(40, 2)]), (2, [(TOP, 3)]), (6, [(40, 4)]), (3, []), (5, []), (7, []),
        ):
            told = names_in(self.layout, self.volume, folder)
            self.assertIs(type(told), list)
            self.assertEqual(told, due)
            self.assertEqual([type(entry) for entry in told], [tuple] * len(due))

    def test_free_slot_in_a_gap(self):
        self.assertEqual(free_slot(self.layout, self.volume), 3)

    def test_what_is_told_and_changed_changes_nothing(self):
        for asked, number in ((slots_naming, 3), (names_in, 0), (slots_naming, 5), (names_in, 5)):
            told = asked(self.layout, self.volume, number)
            before = list(told)
            told.append(99)
            told[0] = 98
            self.assertEqual(asked(self.layout, self.volume, number), before)


class FreeSlot(unittest.TestCase):
    records = {1: (1, 0, 0, 0, 0, 0)}

    def assert_free(self, used, due, blocks=2):
        slots = {s: (0, 100 - s, 1) for s in used}
        unused = {s: (0, 100 - s, 1) for s in range(2 * blocks) if s not in used}
        layout, volume = sound((2, blocks, 2), self.records, slots, unused=unused)
        before = copy.deepcopy(volume)
        self.assertEqual(free_slot(layout, volume), due)
        self.assertEqual(volume, before)

    def test_the_least_one(self):
        self.assert_free([], 0)
        self.assert_free([0], 1)
        self.assert_free([1, 2, 3], 0)
        self.assert_free([0, 2], 1)
        self.assert_free([0, 1, 3], 2)
        self.assert_free([0, 1, 2], 3)
        self.assert_free([0], 1, 1)
        self.assert_free(list(range(15)), 15, 8)

    def test_none_where_all_are_used(self):
        for blocks in (1, 2, 8):
            self.assert_free(list(range(2 * blocks)), None, blocks)


class SortedByName(unittest.TestCase):
    def test_names_in_any_order(self):
        names = [5, 1, TOP, 20, 3, 100, 2, 10]
        slots = {s: (0, name, 1 + s % 2) for s, name in enumerate(names)}
        layout, volume = sound((3, 4, 2), {1: (1, 0, 0, 0, 0, 0), 2: (1, 0, 0, 0, 0, 0)}, slots)
        due = [(1, 2), (2, 1), (3, 1), (5, 1), (10, 2), (20, 2), (100, 2), (TOP, 1)]
        self.assertEqual(names_in(layout, volume, 0), due)
        self.assertEqual(slots_naming(layout, volume, 1), [0, 2, 4, 6])
        self.assertEqual(slots_naming(layout, volume, 2), [1, 3, 5, 7])


if __name__ == "__main__":
    unittest.main()
