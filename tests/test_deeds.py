import copy
import unittest

from volumemend.deeds import Deed
from volumemend.layout import Layout, empty
from volumemend.naming import Make, Move, Name, Unname
from volumemend.spans import Cut, Write
from volumes import behind, homes_of, row_of, sound


class Kinds(unittest.TestCase):
    def test_each_is_under_deed_and_none_under_another(self):
        kinds = (Make, Name, Unname, Move, Write, Cut)
        for kind in kinds:
            self.assertTrue(issubclass(kind, Deed))
            self.assertEqual([other for other in kinds if issubclass(kind, other)], [kind])

    def test_a_plain_deed_has_no_homes(self):
        layout = Layout(2, 1, 2)
        self.assertEqual(homes_of(self, layout, empty(layout), Deed()), [])

    def test_making_a_deed_refuses_nothing(self):
        for path in ((), (0,), (0, 0), (-1,), (10 ** 40,), (1, 2, 3)):
            Make(path)
            Make(path, 2)
            Unname(path)
            Name(path, path)
            Move(path, path)
            Cut(path)
            Cut(path, -1)
            Cut(path, 10 ** 40)
            Write(path, -1, [])
            Write(path, 10 ** 40, [-1] * 20)


class Again(unittest.TestCase):
    """A deed keeps nothing of the volumes that it was asked of."""

    deeds = {
        "make": lambda: Make((5, 9)), "folder": lambda: Make((5, 9), 2), "name": lambda: Name((6,), (5, 9)),
        "unname": lambda: Unname((6,)), "move": lambda: Move((6,), (5, 9)), "found": lambda: Move((0, 4), (5, 9)),
        "write": lambda: Write((6,), 5, [7, 8, 9, 10]), "far": lambda: Write((6,), 60, [7] * 8),
        "cut": lambda: Cut((6,)), "grow": lambda: Cut((6,), 30),
    }

    def setUp(self):
        records = {1: (2, 0, 0, 0, 0, 0), 2: (1, 3, 20, 0, 0, 0), 4: (1, 9, 22, 23, 0, 0)}
        blocks = {block: row_of(10 * block) for block in range(20, 30)}
        self.ahead = [
            sound((6, 4, 10), records, {0: (0, 5, 1), 1: (0, 6, 2)}, blocks),
            sound((6, 4, 10), records, {6: (0, 5, 1), 7: (0, 6, 2), 0: (0, 7, 2)}, blocks),
            sound((6, 3, 12), {3: records[1], 5: (1, 26, 0, 24, 0, 19), 4: records[4]}, {1: (0, 5, 3), 4: (0, 6, 5)},
                  {19: [25, 0, 0, 0, 0, 0, 0, 0], 24: row_of(3), 25: row_of(4)}),
        ]

    def test_asked_of_one_volume_and_another(self):
        for word, made in self.deeds.items():
            due = [made().homes(layout, volume) for layout, volume in self.ahead]
            self.assertTrue(all(due), word)
            deed = made()
            for turn in (0, 1, 2, 1, 0, 0, 2):
                layout, volume = self.ahead[turn]
                with self.subTest(word=word, turn=turn):
                    self.assertEqual(homes_of(self, layout, volume, deed), due[turn])

    def test_a_volume_changed_later(self):
        for word, made in self.deeds.items():
            for layout, volume in self.ahead:
                mine = copy.deepcopy(volume)
                told = made().homes(layout, mine)
                for row in mine:
                    row.clear()
                self.assertEqual(told, made().homes(layout, volume), word)

    def test_homes_changed_change_no_volume_behind_them(self):
        for word, made in self.deeds.items():
            for layout, volume in self.ahead:
                deed = made()
                due = behind(self, layout, volume, deed)
                for block, row in deed.homes(layout, volume):
                    row[0] = 99
                self.assertEqual(behind(self, layout, volume, deed), due, word)

    def test_numbers_handed_in_and_changed_later(self):
        layout, volume = self.ahead[0]
        numbers = [7, 8, 9]
        deed = Write((6,), 2, numbers)
        due = Write((6,), 2, [7, 8, 9]).homes(layout, volume)
        self.assertEqual(deed.homes(layout, volume), due)
        self.assertEqual(numbers, [7, 8, 9])
        numbers[0] = -1
        numbers.append(4)
        self.assertEqual(deed.homes(layout, volume), due)
        numbers.clear()
        self.assertEqual(deed.homes(layout, volume), due)


if __name__ == "__main__":
    unittest.main()
