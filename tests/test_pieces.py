import copy
import unittest

from volumemend.layout import TOP
from volumemend.pieces import claims, contents, free_blocks, piece, pointers
from volumes import row_of, sound

# Blocks of the layout (10, 1, 30): records from 10 on, names 20, data from 21 to 50.
NUMBERS = (10, 1, 30)
RECORDS = {
    1: (1, 88, 21, 22, 23, 24),
    2: (1, 0, 0, 0, 0, 0),
    3: (1, 9, 50, 49, 0, 0),
    4: (2, 77, 30, 31, 32, 33),
    5: (1, 20, 0, 47, 0, 0),
    6: (1, 40, 46, 0, 0, 0),
    7: (0, 30, 25, 26, 27, 28),
    8: (1, 41, 0, 0, 44, 45),
    9: (1, 88, 0, 0, 0, 0),
}
BLOCKS = {
    21: row_of(210), 22: row_of(220), 23: row_of(230),
    24: [32, 31, 30, 29, 28, 27, 26, 25],
    25: row_of(250), 26: row_of(260), 27: row_of(270), 28: row_of(280),
    29: row_of(290), 30: row_of(300), 31: row_of(310), 32: row_of(320),
    44: row_of(440),
    45: [0, 0, 43, 0, 0, 0, 0, 0],
    43: row_of(430), 46: row_of(460), 47: row_of(470), 49: row_of(490), 50: row_of(500),
    # Free, so nothing is read here.
    33: row_of(330), 48: row_of(480), 40: [21, 22, 23, 24, 25, 26, 27, 28],
}
SLOTS = {0: (0, 7, 1), 1: (4, 7, 1)}

CONTENTS = {
    0: [],
    1: (row_of(210) + row_of(220) + row_of(230) + row_of(320) + row_of(310) + row_of(300) + row_of(290)
        + row_of(280) + row_of(270) + row_of(260) + row_of(250)),
    2: [],
    3: row_of(500) + [490],
    4: [],
    5: [0] * 8 + row_of(470) + [0] * 4,
    6: row_of(460) + [0] * 32,
    7: [],
    8: [0] * 16 + row_of(440) + [0] * 16 + [430],
    9: [0] * 88,
}
PIECES = {
    1: [21, 22, 23, 32, 31, 30, 29, 28, 27, 26, 25],
    3: [50, 49] + [0] * 9,
    5: [0, 47] + [0] * 9,
    6: [46] + [0] * 10,
    8: [0, 0, 44, 0, 0, 43] + [0] * 5,
}


class Sound(unittest.TestCase):
    def setUp(self):
        self.layout, self.volume = sound(NUMBERS, RECORDS, SLOTS, BLOCKS)
        self.before = copy.deepcopy(self.volume)

    def tearDown(self):
        self.assertEqual(self.volume, self.before)


class Pointers(Sound):
    def test_with_and_without_more(self):
        for f, more in ((1, 24), (2, 0), (3, 0), (5, 0), (6, 0), (8, 45), (9, 0)):
            with self.subTest(f=f):
                told = pointers(self.layout, self.volume, f)
                self.assertIs(type(told), list)
                self.assertEqual([type(place) for place in told], [tuple] * len(told))
                due = [(10 + f, 4), (10 + f, 5), (10 + f, 6), (10 + f, 7)]
                self.assertEqual(told, due + [(more, place) for place in range(8) if more])
                self.assertEqual(len(told), 12 if more else 4)

    def test_of_others_than_files(self):
        for f in (0, 4, 7):
            self.assertEqual(pointers(self.layout, self.volume, f), [])

    def test_what_is_told_and_changed_changes_nothing(self):
        for f in (0, 1, 2):
            told = pointers(self.layout, self.volume, f)
            before = list(told)
            told.append(1)
            told[0] = 2
            self.assertEqual(pointers(self.layout, self.volume, f), before)


class Piece(Sound):
    def test_of_files(self):
        for f in (1, 2, 3, 5, 6, 8, 9):
            told = [piece(self.layout, self.volume, f, k) for k in range(11)]
            self.assertEqual(told, PIECES.get(f, [0] * 11))

    def test_a_piece_that_no_file_has_is_a_hole(self):
        for f in (1, 8, 9):
            self.assertEqual([piece(self.layout, self.volume, f, k) for k in (-1, 11, 12)], [0, 0, 0])

    def test_of_others_than_files(self):
        for f in (0, 4, 7):
            self.assertEqual([piece(self.layout, self.volume, f, k) for k in range(11)], [0] * 11)


class Contents(Sound):
    def test_of_all_records(self):
        for f, due in CONTENTS.items():
            with self.subTest(f=f):
                told = contents(self.layout, self.volume, f)
                self.assertIs(type(told), list)
                self.assertEqual(told, due)

    def test_as_many_as_the_size(self):
        for size in (0, 1, 7, 8, 9, 23, 24, 25, 31, 32, 33, 80, 81, 87, 88):
            wanted = (size + 7) // 8
            blocks = [14 + k for k in range(wanted)]
            more = 13 if size > 24 else 0
            first = (blocks + [0, 0, 0])[:3]
            rows = {block: row_of(block * 10) for block in blocks}
            rows[13] = (blocks[3:] + [0] * 8)[:8] if more else row_of(900)
            layout, volume = sound((2, 1, 13), {1: (1, size, *first, more)}, {0: (0, 1, 1)}, rows)
            due = [number for block in blocks for number in rows[block]][:size]
            self.assertEqual(contents(layout, volume, 1), due)
            self.assertEqual([piece(layout, volume, 1, k) for k in range(11)], (blocks + [0] * 11)[:11])

    def test_what_is_told_and_changed_changes_nothing(self):
        for f, due in CONTENTS.items():
            told = contents(self.layout, self.volume, f)
            told.append(1)
            told[0] = 2
            self.assertEqual(contents(self.layout, self.volume, f), due)

    def test_a_volume_changed_later(self):
        volume = copy.deepcopy(self.volume)
        told = contents(self.layout, volume, 3)
        volume[50][0] = 1
        self.assertEqual(told, CONTENTS[3])
        self.assertEqual(contents(self.layout, volume, 3), [1] + CONTENTS[3][1:])


class ClaimsAndFree(Sound):
    due = {
        21: 1, 22: 1, 23: 1, 24: 1, 32: 1, 31: 1, 30: 1, 29: 1, 28: 1, 27: 1, 26: 1, 25: 1,
        50: 3, 49: 3, 47: 5, 46: 6, 44: 8, 45: 8, 43: 8,
    }
    free = [33, 34, 35, 36, 37, 38, 39, 40, 41, 42, 48]

    def test_claims(self):
        told = claims(self.layout, self.volume)
        self.assertIs(type(told), dict)
        self.assertEqual(told, self.due)

    def test_free_blocks(self):
        told = free_blocks(self.layout, self.volume)
        self.assertIs(type(told), list)
        self.assertEqual(told, self.free)

    def test_of_nothing_claimed(self):
        layout, volume = sound((3, 1, 4), {1: (1, 88, 0, 0, 0, 0), 2: (2, 30, 14, 15, 16, 17)}, {})
        self.assertEqual(claims(layout, volume), {})
        self.assertEqual(free_blocks(layout, volume), [14, 15, 16, 17])

    def test_of_all_claimed(self):
        blocks = {16: [15, 0, 0, 0, 0, 0, 0, 14]}
        layout, volume = sound((3, 1, 4), {1: (1, 88, 0, 17, 0, 16)}, {0: (0, 3, 1)}, blocks)
        self.assertEqual(claims(layout, volume), {14: 1, 15: 1, 16: 1, 17: 1})
        self.assertEqual(free_blocks(layout, volume), [])

    def test_what_is_told_and_changed_changes_nothing(self):
        told = claims(self.layout, self.volume)
        told[33] = 9
        told.pop(21)
        self.assertEqual(claims(self.layout, self.volume), self.due)
        free = free_blocks(self.layout, self.volume)
        free.append(3)
        free[0] = 4
        self.assertEqual(free_blocks(self.layout, self.volume), self.free)


class NotLookedAt(unittest.TestCase):
    def test_pointers_of_the_top_of_folders_and_of_free_records(self):
        for numbers in ([40, 3, 1, 15, 16, 17, 18], [TOP] * 7, [88, 0, 0, TOP, 0, 0, TOP]):
            layout, volume = sound((4, 1, 4), {2: (2, 0, 0, 0, 0, 0)}, {0: (0, 5, 2)})
            volume[10][1:] = numbers
            volume[12][1] = numbers[0]
            volume[12][4:] = numbers[3:]
            volume[13][1:] = numbers
            for f in range(4):
                with self.subTest(numbers=numbers, f=f):
                    self.assertEqual(pointers(layout, volume, f), [])
                    self.assertEqual([piece(layout, volume, f, k) for k in range(11)], [0] * 11)
                    self.assertEqual(contents(layout, volume, f), [])
            self.assertEqual(claims(layout, volume), {})
            self.assertEqual(free_blocks(layout, volume), [15, 16, 17, 18])


if __name__ == "__main__":
    unittest.main()
