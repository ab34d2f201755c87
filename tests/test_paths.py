import copy
import unittest

from volumemend.errors import NoPath, NotFile, NotFolder, TooFar
from volumemend.layout import TOP
from volumemend.paths import find_path, info, listed, read
from volumes import row_of, sound

# Blocks of the layout (12, 8, 20): records from 10 on, names from 22 on, data from 30 to 49.
NUMBERS = (12, 8, 20)
FOLDER = (2, 70, 30, TOP, 31, 999)
RECORDS = {
    1: FOLDER, 2: FOLDER, 3: FOLDER, 6: FOLDER, 7: FOLDER, 10: (2, 0, 0, 0, 0, 0),
    4: (1, 13, 30, 31, 0, 0),
    5: (1, 0, 0, 0, 0, 0),
    8: (1, 42, 0, 33, 0, 34),
    9: (1, 88, 36, 37, 38, 39),
}
SLOTS = {
    0: (3, 8, 4), 2: (0, 5, 1), 3: (2, 7, 3), 4: (1, 6, 2), 5: (0, 9, 4), 6: (0, 8, 5), 7: (6, 3, 7), 9: (7, TOP, 8),
    10: (0, TOP, 10), 11: (1, 8, 8), 12: (3, 9, 5), 13: (3, 1, 4),
}
# Slots that are not used: 20 in the top, 4 in record 1, 0 in the top, and a name that hides one behind it.
UNUSED = {1: (0, 20, 5), 8: (1, 4, 4), 14: (0, 0, 9), 15: (3, 8, 9)}
BLOCKS = {
    30: row_of(300), 31: row_of(310), 33: row_of(330), 34: [0, 0, 35, 0, 0, 0, 0, 0], 35: row_of(350),
    36: row_of(360), 37: row_of(370), 38: row_of(380), 39: [40, 41, 42, 43, 44, 45, 46, 47],
    40: row_of(400), 41: row_of(410), 42: row_of(420), 43: row_of(430), 44: row_of(440), 45: row_of(450),
    46: row_of(460), 47: row_of(470), 48: row_of(480),
}

PATHS = {
    (): 0,
    (5,): 1, (5, 6): 2, (5, 6, 7): 3, (5, 6, 7, 8): 4, (5, 6, 7, 9): 5, (5, 6, 7, 1): 4, (5, 8): 8,
    (8,): 5, (9,): 4, (TOP,): 10,
    (0, 6): 6, (0, 6, 3): 7, (0, 6, 3, TOP): 8, (0, 9): 9,
}
INFOS = {
    0: (2, 0, 0), 1: (2, 0, 1), 2: (2, 0, 1), 3: (2, 0, 1), 4: (1, 13, 3), 5: (1, 0, 2), 6: (2, 0, 0), 7: (2, 0, 1),
    8: (1, 42, 2), 9: (1, 88, 0), 10: (2, 0, 1),
}
LISTS = {
    0: [5, 8, 9, TOP], 1: [6, 8], 2: [7], 3: [1, 8, 9], 6: [3], 7: [TOP], 10: [],
}
CONTENTS = {
    4: row_of(300) + [310, 311, 312, 313, 314],
    5: [],
    8: [0] * 8 + row_of(330) + [0] * 24 + [350, 351],
    9: [number for block in (36, 37, 38, 40, 41, 42, 43, 44, 45, 46, 47) for number in row_of(10 * block)],
}
# Paths that tell no record, each by another cause.
NO_PATHS = (
    (4,), (20,), (1,), (6,), (TOP + 1,), (-1,), (-5,), (10 ** 40,),  # another last name
    (5, 5), (5, 4), (5, 6, 8), (5, 6, 7, 7), (TOP, 1), (TOP, TOP), (20, 1), (4, 6, 7),
    (8, 1), (8, 8), (9, 8), (5, 6, 7, 8, 8), (5, 6, 7, 8, 0), (0, 9, 1), (0, 6, 3, TOP, TOP),  # behind a file
    (5, 0), (5, 0, 6), (5, 6, 7, 0), (0, 6, 0), (0, 6, 0, 9), (5, 0, 9),  # a name 0
    (0,), (0, 0), (0, 0, 5), (0, 0, 0), (0, 0, 9),
    (0, 1), (0, 1, 6), (0, 4), (0, 5), (0, 7), (0, 8), (0, 10),  # in use, but not found
    (0, 11), (0, 11, 5),  # not in use
    (0, 12), (0, 13), (0, -1), (0, -2), (0, -3), (0, -6), (0, 10 ** 40), (0, -10 ** 40),  # not there
    (0, 6, 4), (0, 6, 5), (0, 6, 3, 3), (0, 6, 6),
)


class Paths(unittest.TestCase):
    def setUp(self):
        self.layout, self.volume = sound(NUMBERS, RECORDS, SLOTS, BLOCKS, UNUSED)
        # Numbers that aren't looked at: those of the top, and of a free record.
        self.volume[10][1:] = [88, 7, 1, 30, 31, 32, 34]
        self.volume[21][1:] = [88, 3, 1, 30, 31, 32, 34]
        self.before = copy.deepcopy(self.volume)

    def tearDown(self):
        self.assertEqual(self.volume, self.before)

    def ask(self, function, *arguments):
        told = function(self.layout, self.volume, *arguments)
        self.assertEqual(function(self.layout, self.volume, *arguments), told)
        return told


class FindPath(Paths):
    def test_each_record_by_its_paths(self):
        for path, f in PATHS.items():
            with self.subTest(path=path):
                told = self.ask(find_path, path)
                self.assertEqual(told, f)
                self.assertIs(type(told), int)

    def test_no_path(self):
        for path in NO_PATHS:
            for function in (find_path, info, read, listed):
                if path == (0,) and function == listed:
                    continue
                with self.subTest(path=path, function=function.__name__):
                    with self.assertRaises(NoPath):
                        function(self.layout, self.volume, path)

    def test_of_the_least_layout(self):
        # The block behind the records would, as a record, be a found file.
        layout, volume = sound((2, 1, 2), {1: (1, 3, 13, 0, 0, 0)}, {0: (0, 1, 1)}, {13: row_of(1)})
        self.assertEqual(volume[12], [1, 0, 1, 1, 0, 0, 0, 0])
        self.assertEqual(find_path(layout, volume, (1,)), 1)
        self.assertEqual(info(layout, volume, (1,)), (1, 3, 1))
        self.assertEqual(read(layout, volume, (1,)), [1, 2, 3])
        self.assertEqual(listed(layout, volume, ()), [1])
        self.assertEqual(listed(layout, volume, (0,)), [])
        for path in ((2,), (0, 1), (0, 2), (1, 1)):
            with self.assertRaises(NoPath):
                find_path(layout, volume, path)

    def test_eleven_deep(self):
        records = {f: (2, 0, 0, 0, 0, 0) for f in range(1, 12)}
        layout, volume = sound((12, 6, 2), records, {11 - f: (f - 1, f + 20, f) for f in range(1, 12)})
        for f in range(12):
            self.assertEqual(find_path(layout, volume, tuple(range(21, 21 + f))), f)
        with self.assertRaises(NoPath):
            find_path(layout, volume, tuple(range(21, 33)))


class Info(Paths):
    def test_of_each_path(self):
        for path, f in PATHS.items():
            with self.subTest(path=path):
                told = self.ask(info, path)
                self.assertEqual(told, INFOS[f])
                self.assertIs(type(told), tuple)

    def test_of_sizes(self):
        for size in (0, 1, 8, 24, 25, 87, 88):
            layout, volume = sound((3, 1, 2), {2: (1, size, 0, 0, 0, 0)}, {0: (0, 4, 2), 1: (0, 5, 2)})
            self.assertEqual(info(layout, volume, (4,)), (1, size, 2))


class Read(Paths):
    def test_all(self):
        for path, f in PATHS.items():
            if f in CONTENTS:
                with self.subTest(path=path):
                    told = self.ask(read, path)
                    self.assertIs(type(told), list)
                    self.assertEqual(told, CONTENTS[f])
                    self.assertEqual(self.ask(read, path, 0), CONTENTS[f])
                    self.assertEqual(self.ask(read, path, 0, None), CONTENTS[f])

    def test_spans(self):
        for path, f in (((9,), 4), ((8,), 5), ((5, 8), 8), ((0, 9), 9)):
            size = len(CONTENTS[f])
            for at in list(range(size + 3)) + [100, 10 ** 40]:
                self.assertEqual(self.ask(read, path, at), CONTENTS[f][at:])
                for many in (0, 1, 2, 7, 8, 9, 30, size, 88, 89, 10 ** 40):
                    due = [CONTENTS[f][place] for place in range(size) if at <= place < at + many]
                    self.assertEqual(self.ask(read, path, at, many), due)

    def test_spans_by_hand(self):
        for path, at, many, due in (
            ((9,), 6, 4, [306, 307, 310, 311]), ((9,), 12, 1, [314]), ((9,), 12, 2, [314]), ((9,), 13, 1, []),
            ((9,), 12, 0, []), ((9,), 14, None, []), ((9,), 11, None, [313, 314]), ((8,), 0, 5, []),
            ((5, 8), 6, 4, [0, 0, 330, 331]), ((5, 8), 15, 3, [337, 0, 0]), ((5, 8), 38, 9, [0, 0, 350, 351]),
            ((0, 9), 22, 4, [386, 387, 400, 401]), ((0, 9), 87, 8, [477]), ((0, 9), 88, 8, []),
        ):
            self.assertEqual(self.ask(read, path, at, many), due)

    def test_by_words(self):
        self.assertEqual(read(self.layout, self.volume, (9,), many=2), [300, 301])
        self.assertEqual(read(self.layout, self.volume, (9,), at=12), [314])

    def test_not_file(self):
        for path in ((), (5,), (5, 6, 7), (TOP,), (0, 6), (0, 6, 3)):
            with self.assertRaises(NotFile):
                read(self.layout, self.volume, path)

    def test_too_far(self):
        for path in ((9,), (8,), (0, 9)):
            for at, many in ((-1, None), (-1, 0), (-1, 3), (0, -1), (5, -1), (99, -1), (-1, -1), (-10 ** 40, None)):
                with self.assertRaises(TooFar):
                    read(self.layout, self.volume, path, at, many)

    def test_of_two_refusals_the_first(self):
        for at, many in ((-1, None), (0, -1), (-1, -1)):
            for path in ((4,), (0,), (0, 4), (9, 9)):
                with self.assertRaises(NoPath):
                    read(self.layout, self.volume, path, at, many)
            for path in ((), (5,), (0, 6)):
                with self.assertRaises(NotFile):
                    read(self.layout, self.volume, path, at, many)

    def test_what_is_told_and_changed_changes_nothing(self):
        for many in (None, 8, 99):
            told = read(self.layout, self.volume, (9,), 0, many)
            due = list(told)
            told[0] = 1
            told.append(2)
            self.assertEqual(read(self.layout, self.volume, (9,), 0, many), due)

    def test_a_volume_changed_later(self):
        volume = copy.deepcopy(self.volume)
        told = read(self.layout, volume, (9,))
        volume[30][0] = 1
        self.assertEqual(told, CONTENTS[4])
        self.assertEqual(read(self.layout, volume, (9,), 0, 2), [1, 301])


class Listed(Paths):
    def test_folders(self):
        for path, f in PATHS.items():
            if f in LISTS:
                with self.subTest(path=path):
                    told = self.ask(listed, path)
                    self.assertIs(type(told), list)
                    self.assertEqual(told, LISTS[f])

    def test_found(self):
        self.assertEqual(self.ask(listed, (0,)), [6, 9])
        self.assertIs(type(self.ask(listed, (0,))), list)

    def test_found_rising_by_numbers(self):
        records = {f: (2, 0, 0, 0, 0, 0) if f % 2 else (1, 0, 0, 0, 0, 0) for f in range(1, 12)}
        layout, volume = sound((12, 1, 2), records, {})
        self.assertEqual(listed(layout, volume, (0,)), list(range(1, 12)))
        layout, volume = sound((12, 1, 2), records, {0: (1, 4, 11), 1: (11, 4, 3)})
        self.assertEqual(listed(layout, volume, (0,)), [1, 2, 4, 5, 6, 7, 8, 9, 10])

    def test_nothing(self):
        layout, volume = sound((2, 1, 2), {}, {})
        self.assertEqual(listed(layout, volume, ()), [])
        self.assertEqual(listed(layout, volume, (0,)), [])

    def test_not_folder(self):
        for path in ((8,), (9,), (5, 8), (5, 6, 7, 8), (0, 9), (0, 6, 3, TOP)):
            with self.assertRaises(NotFolder):
                listed(self.layout, self.volume, path)

    def test_what_is_told_and_changed_changes_nothing(self):
        for path in ((), (5,), (0,)):
            told = listed(self.layout, self.volume, path)
            due = list(told)
            told.pop()
            told[0] = 77
            self.assertEqual(listed(self.layout, self.volume, path), due)


if __name__ == "__main__":
    unittest.main()
