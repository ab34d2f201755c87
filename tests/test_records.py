import unittest

from volumemend.layout import Layout, empty
from volumemend.records import FileRecord, FolderRecord, FreeRecord, Record, record_in, record_of

FAR = 10 ** 40 - 1
CLASSES = (FileRecord, FolderRecord, FreeRecord)
# By size: how many pieces are wanted.
SIZES = {0: 0, 1: 1, 7: 1, 8: 1, 9: 2, 16: 2, 17: 3, 24: 3, 25: 4, 32: 4, 33: 5, 80: 10, 81: 11, 87: 11, 88: 11}


def row_with(kind=1, size=0):
    return [kind, size, 3, 4, 15, 16, 17, 18]


class Classes(unittest.TestCase):
    def test_each_stands_under_record_and_under_no_other_one(self):
        for one in CLASSES:
            self.assertTrue(issubclass(one, Record))
            self.assertIsNot(one, Record)
            self.assertFalse([other for other in CLASSES if other is not one and issubclass(one, other)])

    def test_by_kind(self):
        for kind, due in ((1, FileRecord), (2, FolderRecord), (0, FreeRecord), (3, FreeRecord), (-1, FreeRecord),
                          (-2, FreeRecord), (FAR, FreeRecord), (-FAR, FreeRecord), (10 ** 12, FreeRecord)):
            with self.subTest(kind=kind):
                record = record_of(row_with(kind))
                self.assertIs(type(record), due)
                self.assertIsInstance(record, Record)
                self.assertEqual([isinstance(record, one) for one in CLASSES], [one is due for one in CLASSES])

    def test_made_alike(self):
        for made in (Record, *CLASSES):
            record = made(row_with(7, 9))
            self.assertEqual(record.row(), row_with(7, 9))
            self.assertEqual(record.size, 9)

    def test_the_top_is_a_folder_whatever_its_kind(self):
        layout = Layout(3, 1, 2)
        for kind in (0, 1, 2, 3, -1, FAR):
            volume = empty(layout)
            volume[10] = row_with(kind, 9)
            volume[11] = row_with(kind, 9)
            self.assertIs(type(record_in(layout, volume, 0)), FolderRecord)
            self.assertEqual(record_in(layout, volume, 0).row(), row_with(kind, 9))
            self.assertIs(type(record_in(layout, volume, 1)), type(record_of(row_with(kind, 9))))
            self.assertEqual(record_in(layout, volume, 1).row(), row_with(kind, 9))


class Fields(unittest.TestCase):
    rows = (
        [0, 0, 0, 0, 0, 0, 0, 0],
        [1, 2, 3, 4, 5, 6, 7, 8],
        [1, FAR, -FAR, FAR - 1, -FAR + 1, FAR - 2, 10 ** 39, -(10 ** 39)],
        [-1, -2, -3, -4, -5, -6, -7, -8],
    )

    def test_as_the_numbers_are(self):
        for kind in (0, 1, 2, 3, -1, FAR):
            for row in self.rows:
                row = [kind] + row[1:]
                before = list(row)
                record = record_of(row)
                self.assertEqual((record.size, record.names, record.found), (row[1], row[2], row[3]))
                self.assertEqual(record.first, (row[4], row[5], row[6]))
                self.assertIs(type(record.first), tuple)
                self.assertEqual(record.more, row[7])
                self.assertEqual(record.row(), before)
                self.assertEqual(row, before)

    def test_row_is_a_new_list_each_time(self):
        for kind in (0, 1, 2):
            row = row_with(kind, 30)
            record = record_of(row)
            told = record.row()
            self.assertIs(type(told), list)
            told[0] = 77
            told[5] = 78
            told.append(79)
            self.assertEqual(record.row(), row_with(kind, 30))
            self.assertEqual(row, row_with(kind, 30))
            self.assertEqual(record.first, (15, 16, 17))

    def test_the_row_handed_in_changed_later(self):
        for kind in (0, 1, 2):
            row = row_with(kind, 30)
            record = record_of(row)
            row[:] = [9] * 8
            row.append(10)
            self.assertEqual(record.row(), row_with(kind, 30))
            self.assertEqual((record.size, record.names, record.found, record.more), (30, 3, 4, 18))
            self.assertEqual(record.first, (15, 16, 17))


class Wants(unittest.TestCase):
    def test_of_files(self):
        for size, wants in SIZES.items():
            with self.subTest(size=size):
                record = record_of(row_with(1, size))
                self.assertEqual(record.wants(), wants)
                self.assertIs(type(record.wants()), int)
                for k in range(11):
                    self.assertIs(record.keeps(k), k < wants)
                    self.assertIs(record.keeps(k), 8 * k < size)
                self.assertIs(record.reaches(), size >= 25)

    def test_pointers_are_not_asked(self):
        for pointers in ([0, 0, 0, 0], [99, 99, 99, 99]):
            record = record_of([1, 88, 0, 0] + pointers)
            self.assertEqual((record.wants(), record.keeps(10), record.reaches()), (11, True, True))
            record = record_of([1, 0, 0, 0] + pointers)
            self.assertEqual((record.wants(), record.keeps(0), record.reaches()), (0, False, False))

    def test_of_others(self):
        for kind in (0, 2, 3, -1, FAR):
            for size in (0, 1, 25, 88, FAR, -FAR):
                record = record_of(row_with(kind, size))
                self.assertEqual(record.wants(), 0)
                self.assertEqual([record.keeps(k) for k in range(11)], [False] * 11)
                self.assertIs(record.reaches(), False)


if __name__ == "__main__":
    unittest.main()
