import unittest

from volumemend.errors import BadNumber, Full, NoPath, NotFile, TooFar
from volumemend.layout import TOP
from volumemend.paths import find_path, info, read
from volumemend.pieces import claims, contents, free_blocks, piece
from volumemend.spans import Cut, Write
from volumes import assert_refused, behind, homes_of, row_of, sound

# Blocks of the layout (8, 2, 24): records 10 to 17, names 18 and 19, data 20 to 43.
NUMBERS = (8, 2, 24)
RECORDS = {
    1: (2, 88, 20, 21, 22, 23),
    2: (1, 0, 0, 0, 0, 0),
    3: (1, 11, 21, 23, 0, 0),
    4: (1, 45, 0, 25, 0, 26),
    5: (1, 20, 0, 0, 0, 0),
    6: (1, 88, 30, 31, 32, 33),
    7: (1, 27, 0, 0, 43, 0),
}
SLOTS = {0: (0, 2, 2), 1: (1, 3, 3), 2: (0, 1, 1)}
# Every free block, and every place behind a size, holds numbers that must not come to light.
BLOCKS = {block: row_of(10 * block) for block in range(20, 44)}
BLOCKS.update({26: [0, 0, 28, 0, 0, 0, 0, 0], 33: [34, 35, 36, 37, 38, 39, 40, 41]})
FREE = [20, 22, 24, 27, 29, 42]
# Found are the records 4 to 7; 3 lies in the folder 1.
PATHS = {2: (2,), 3: (1, 3), 4: (0, 4), 5: (0, 5), 6: (0, 6), 7: (0, 7)}


class Spans(unittest.TestCase):
    def setUp(self):
        self.layout, self.volume = sound(NUMBERS, RECORDS, SLOTS, BLOCKS)
        self.assertEqual(free_blocks(self.layout, self.volume), FREE)

    def homes(self, deed):
        return homes_of(self, self.layout, self.volume, deed)

    def refused(self, error, deed):
        with self.subTest(error=error.__name__, deed=vars(deed)):
            assert_refused(self, self.layout, self.volume, deed, error)

    def pieces(self, volume, f):
        return [piece(self.layout, volume, f, k) for k in range(11)]

    def numbers(self, volume, f):
        return contents(self.layout, volume, f)

    def map_with(self, *more, without=()):
        blocks = [block for block in range(20, 44) if (block not in FREE or block in more) and block not in without]
        row = [0] * 8
        for block in blocks:
            row[(block - 20) // 20] += 2 ** ((block - 20) % 20)
        return row

    def assert_others_stay(self, volume, f):
        for other, path in PATHS.items():
            if other != f:
                self.assertEqual(volume[10 + other], self.volume[10 + other])
                self.assertEqual(self.numbers(volume, other), self.numbers(self.volume, other))
        # Blocks that are no file's, and weren't this one's, stay number by number.
        mine = [block for block, owner in {**claims(self.layout, self.volume), **claims(self.layout, volume)}.items()
                if owner == f]
        for block, row in enumerate(volume):
            if block not in mine + [2, 10 + f]:
                self.assertEqual(row, self.volume[block], block)

    def assert_written(self, f, at, numbers):
        """Asks a Write of anything that is told of it, by the numbers of the file ahead of it; tells the new volume."""
        deed = Write(PATHS[f], at, numbers)
        volume = behind(self, self.layout, self.volume, deed)
        old = self.numbers(self.volume, f)
        due = (old + [0] * 88)[:max(len(old), at + len(numbers))]
        due[at:at + len(numbers)] = numbers
        self.assertEqual(self.numbers(volume, f), due)
        self.assertEqual(read(self.layout, volume, PATHS[f]), due)
        self.assertEqual(info(self.layout, volume, PATHS[f])[1], len(due))
        was = self.pieces(self.volume, f)
        touched = sorted({place // 8 for place in range(at, at + len(numbers))})
        holes = [k for k in touched if was[k] == 0]
        for k, block in zip(holes, free_blocks(self.layout, self.volume)):
            was[k] = block
            beside = [number for place, number in enumerate(volume[block]) if not at <= 8 * k + place < at + len(numbers)]
            self.assertEqual(beside, [0] * len(beside))
        self.assertEqual(self.pieces(volume, f), was)
        more = self.volume[10 + f][7]
        if more == 0 and holes and holes[-1] >= 3:
            more = free_blocks(self.layout, self.volume)[len(holes)]
        self.assertEqual(volume[10 + f][7], more)
        self.assertEqual(volume[10 + f][2:4], self.volume[10 + f][2:4])
        self.assert_others_stay(volume, f)
        return volume

    def assert_cut(self, f, size):
        volume = behind(self, self.layout, self.volume, Cut(PATHS[f], size))
        old = self.numbers(self.volume, f)
        self.assertEqual(self.numbers(volume, f), (old + [0] * 88)[:size])
        self.assertEqual(info(self.layout, volume, PATHS[f]), (1, size, self.volume[10 + f][2]))
        was = self.pieces(self.volume, f)
        self.assertEqual(self.pieces(volume, f), [block if 8 * k < size else 0 for k, block in enumerate(was)])
        self.assertEqual(volume[10 + f][7], self.volume[10 + f][7] if size > 24 else 0)
        self.assertEqual(volume[10 + f][2:4], self.volume[10 + f][2:4])
        self.assert_others_stay(volume, f)
        return volume


class WriteIt(Spans):
    def test_into_an_empty_file(self):
        self.assertEqual(self.homes(Write((2,), 0, [7])), [
            (2, self.map_with(20)), (12, [1, 1, 1, 0, 20, 0, 0, 0]), (20, [7, 0, 0, 0, 0, 0, 0, 0]),
        ])
        self.assertEqual(self.homes(Write((2,), 0, row_of(1)))[1:], [
            (12, [1, 8, 1, 0, 20, 0, 0, 0]), (20, [1, 2, 3, 4, 5, 6, 7, 8]),
        ])

    def test_over_a_pieces_edge(self):
        self.assertEqual(self.homes(Write((2,), 5, [1, 2, 3, 4, 5])), [
            (2, self.map_with(20, 22)), (12, [1, 10, 1, 0, 20, 22, 0, 0]),
            (20, [0, 0, 0, 0, 0, 1, 2, 3]), (22, [4, 5, 0, 0, 0, 0, 0, 0]),
        ])

    def test_pieces_2_and_3_without_more(self):
        self.assertEqual(self.homes(Write((2,), 20, [9] * 8)), [
            (2, self.map_with(20, 22, 24)), (12, [1, 28, 1, 0, 0, 0, 20, 24]),
            (20, [0, 0, 0, 0, 9, 9, 9, 9]), (22, [9, 9, 9, 9, 0, 0, 0, 0]), (24, [22, 0, 0, 0, 0, 0, 0, 0]),
        ])

    def test_pieces_2_and_3_with_more(self):
        self.assertEqual(self.homes(Write((0, 4), 22, [1, 2, 3])), [
            (2, self.map_with(20, 22)), (14, [1, 45, 0, 1, 0, 25, 20, 26]),
            (20, [0, 0, 0, 0, 0, 0, 1, 2]), (22, [3, 0, 0, 0, 0, 0, 0, 0]), (26, [22, 0, 28, 0, 0, 0, 0, 0]),
        ])

    def test_six_homes(self):
        # The last block's numbers behind the size lie below the new one: they are noughts from now on.
        self.assertEqual(self.homes(Write((1, 3), 79, [4, 5])), [
            (2, self.map_with(20, 22, 24)), (13, [1, 81, 1, 0, 21, 23, 0, 24]),
            (20, [0, 0, 0, 0, 0, 0, 0, 4]), (22, [5, 0, 0, 0, 0, 0, 0, 0]), (23, [230, 231, 232, 0, 0, 0, 0, 0]),
            (24, [0, 0, 0, 0, 0, 0, 20, 22]),
        ])

    def test_a_piece_that_is_there_and_one_that_is_not(self):
        self.assertEqual(self.homes(Write((0, 7), 20, [1, 2, 3, 4, 5])), [
            (2, self.map_with(20, 22)), (17, [1, 27, 0, 1, 0, 0, 43, 22]),
            (20, [5, 0, 0, 0, 0, 0, 0, 0]), (22, [20, 0, 0, 0, 0, 0, 0, 0]), (43, [430, 431, 432, 433, 1, 2, 3, 4]),
        ])

    def test_into_blocks_nothing_is_taken(self):
        self.assertEqual(self.homes(Write((1, 3), 6, [1, 2, 3])), [
            (21, [210, 211, 212, 213, 214, 215, 1, 2]), (23, [3] + row_of(231)[:7]),
        ])
        self.assertEqual(self.homes(Write((0, 6), 87, [TOP])), [(41, row_of(410)[:7] + [TOP])])
        self.assertEqual(self.homes(Write((0, 6), 20, [1] * 8)), [
            (32, [320, 321, 322, 323, 1, 1, 1, 1]), (34, [1, 1, 1, 1, 344, 345, 346, 347]),
        ])

    def test_what_stands_there_already(self):
        self.assertEqual(self.homes(Write((1, 3), 0, row_of(210))), [])
        self.assertEqual(self.homes(Write((1, 3), 8, [230, 231, 232])), [])
        self.assertEqual(self.homes(Write((1, 3), 7, [217, 230, 5])), [(23, [230, 5] + row_of(232)[:6])])

    def test_noughts_into_a_hole_take_a_block(self):
        self.assertEqual(self.homes(Write((0, 5), 3, [0, 0])), [
            (2, self.map_with(20)), (15, [1, 20, 0, 1, 20, 0, 0, 0]), (20, [0] * 8),
        ])

    def test_at_the_size(self):
        volume = self.assert_written(3, 11, [1, 2])
        self.assertEqual(volume[23][:5], [230, 231, 232, 1, 2])
        self.assertEqual(volume[13], [1, 13, 1, 0, 21, 23, 0, 0])

    def test_behind_the_size_with_a_gap_in_one_block(self):
        volume = self.assert_written(3, 14, [1])
        self.assertEqual(volume[23][:7], [230, 231, 232, 0, 0, 0, 1])
        volume = self.assert_written(3, 15, [1, 2])
        self.assertEqual(volume[23], [230, 231, 232, 0, 0, 0, 0, 1])

    def test_behind_the_size_with_a_gap_over_pieces(self):
        for at in (16, 17, 23, 24, 30, 31, 40, 79, 80, 87):
            volume = self.assert_written(3, at, [1])
            self.assertEqual(volume[23], [230, 231, 232, 0, 0, 0, 0, 0])

    def test_stale_numbers_come_not_to_light_later(self):
        # A block that is within the size, written or grown in several steps, never shows what stood behind it.
        self.volume = behind(self, self.layout, self.volume, Write((1, 3), 11, [1]))
        self.volume = behind(self, self.layout, self.volume, Cut((1, 3), 2))
        self.volume = self.assert_written(3, 5, [2])
        self.assertEqual(self.numbers(self.volume, 3), [210, 211, 0, 0, 0, 2])
        self.volume = self.assert_written(3, 7, [3, 4])
        self.assertEqual(self.numbers(self.volume, 3), [210, 211, 0, 0, 0, 2, 0, 3, 4])

    def test_every_place_of_every_file(self):
        for f in PATHS:
            for at in range(88):
                for many in (1, 2, 8):
                    if at + many <= 88:
                        with self.subTest(f=f, at=at, many=many):
                            self.assert_written(f, at, [TOP, 0, 1, 2, 3, 4, 5, 6][:many])

    def test_up_to_the_last_place(self):
        volume = self.assert_written(2, 80, [8, 7, 6, 5, 4, 3, 2, 1])
        self.assertEqual(self.numbers(volume, 2), [0] * 80 + [8, 7, 6, 5, 4, 3, 2, 1])
        volume = self.assert_written(2, 87, [8])
        self.assertEqual(self.numbers(volume, 2), [0] * 87 + [8])

    def test_bad_number(self):
        for numbers in ([], [1] * 9, [0] * 9, [-1], [TOP + 1], [1, 2, -1], [TOP, TOP + 1], [10 ** 40], [-10 ** 40] * 8):
            for path in ((2,), (0, 6), (99,), (0,), (), (1,)):
                for at in (0, -1, 88, 10 ** 40):
                    self.refused(BadNumber, Write(path, at, numbers))

    def test_no_path_and_not_file(self):
        for at in (0, -1, 88, 10 ** 40):
            for path in ((99,), (0,), (0, 2), (0, 0), (0, 8), (2, 1), (1, 0)):
                self.refused(NoPath, Write(path, at, [1]))
            for path in ((), (1,)):
                self.refused(NotFile, Write(path, at, [1]))

    def test_too_far(self):
        for at, many in ((-1, 1), (-1, 8), (-8, 8), (88, 1), (87, 2), (81, 8), (85, 4), (10 ** 40, 1), (-10 ** 40, 8)):
            for path in ((2,), (1, 3), (0, 6)):
                self.refused(TooFar, Write(path, at, [1] * many))

    def test_full_with_just_too_few_blocks(self):
        for data, at, many, need in (
            (2, 0, 1, 1), (3, 5, 8, 2), (4, 22, 2, 1), (4, 23, 2, 3), (4, 24, 1, 2), (4, 20, 8, 3), (5, 30, 8, 3), (4, 87, 1, 2),
        ):
            for free in range(data + 1):
                # A found file holds all but the last blocks.
                held = [14 + place for place in range(data - free)]
                first = (held[:3] + [0, 0, 0])[:3]
                more = held[3] if len(held) > 3 else 0
                rows = {more: (held[4:] + [0] * 8)[:8]} if more else {}
                layout, volume = sound((3, 1, data), {1: (1, 88, *first, more), 2: (1, 0, 0, 0, 0, 0)}, {0: (0, 1, 2)}, rows)
                self.assertEqual(len(free_blocks(layout, volume)), free)
                deed = Write((1,), at, [3] * many)
                with self.subTest(free=free, at=at, many=many):
                    if free < need:
                        assert_refused(self, layout, volume, deed, Full)
                    else:
                        after = behind(self, layout, volume, deed)
                        self.assertEqual(contents(layout, after, 2), [0] * at + [3] * many)
                        self.assertEqual(len(free_blocks(layout, after)), free - need)

    def test_full_is_the_last(self):
        layout, volume = sound((4, 1, 2), {1: (1, 16, 15, 16, 0, 0), 2: (1, 3, 0, 0, 0, 0), 3: (2, 0, 0, 0, 0, 0)},
                               {0: (0, 1, 2), 1: (0, 2, 3)})
        for path, at, numbers, error in (
            ((1,), 0, [1], Full), ((1,), 30, [1], Full), ((1,), 0, [], BadNumber), ((9,), 0, [1], NoPath),
            ((2,), 0, [1], NotFile), ((1,), 88, [1], TooFar), ((1,), -1, [1], TooFar),
        ):
            assert_refused(self, layout, volume, Write(path, at, numbers), error)
        self.assertEqual(homes_of(self, layout, volume, Write((0, 1), 7, [1, 2])), [
            (15, [0, 0, 0, 0, 0, 0, 0, 1]), (16, [2, 0, 0, 0, 0, 0, 0, 0]),
        ])


class CutIt(Spans):
    def test_to_0(self):
        self.assertEqual(self.homes(Cut((1, 3))), [
            (2, self.map_with(without=(21, 23))), (13, [1, 0, 1, 0, 0, 0, 0, 0]),
        ])
        for f in PATHS:
            self.assertEqual(self.homes(Cut(PATHS[f])), self.homes(Cut(PATHS[f], 0)))
            self.assert_cut(f, 0)
        self.assertEqual(self.homes(Cut((2,))), [])
        self.assertEqual(self.homes(Cut((0, 5))), [(15, [1, 0, 0, 1, 0, 0, 0, 0])])

    def test_to_the_same_size(self):
        for f in PATHS:
            self.assertEqual(self.homes(Cut(PATHS[f], RECORDS[f][1])), [])

    def test_within_a_piece(self):
        self.assertEqual(self.homes(Cut((1, 3), 9)), [(13, [1, 9, 1, 0, 21, 23, 0, 0])])
        self.assertEqual(self.homes(Cut((0, 6), 81)), [(16, [1, 81, 0, 1, 30, 31, 32, 33])])

    def test_at_an_edge(self):
        self.assertEqual(self.homes(Cut((1, 3), 8)), [
            (2, self.map_with(without=(23,))), (13, [1, 8, 1, 0, 21, 0, 0, 0]),
        ])
        self.assertEqual(self.homes(Cut((0, 6), 80)), [
            (2, self.map_with(without=(41,))), (16, [1, 80, 0, 1, 30, 31, 32, 33]),
            (33, [34, 35, 36, 37, 38, 39, 40, 0]),
        ])

    def test_across_24(self):
        homes = self.homes(Cut((0, 6), 25))
        self.assertEqual(homes, [
            (2, self.map_with(without=range(35, 42))), (16, [1, 25, 0, 1, 30, 31, 32, 33]),
            (33, [34, 0, 0, 0, 0, 0, 0, 0]),
        ])
        for size in (24, 23, 17):
            volume = self.assert_cut(6, size)
            self.assertEqual(volume[16], [1, size, 0, 1, 30, 31, 32, 0])
            self.assertEqual(free_blocks(self.layout, volume), sorted(FREE + list(range(33, 42))))

    def test_greater(self):
        self.assertEqual(self.homes(Cut((2,), 88)), [(12, [1, 88, 1, 0, 0, 0, 0, 0])])
        self.assertEqual(self.homes(Cut((0, 5), 24)), [(15, [1, 24, 0, 1, 0, 0, 0, 0])])
        volume = self.assert_cut(3, 13)
        self.assertEqual(volume[23][:5], [230, 231, 232, 0, 0])
        for size in (16, 17, 24, 25, 88):
            volume = self.assert_cut(3, size)
            self.assertEqual(volume[23], [230, 231, 232, 0, 0, 0, 0, 0])
            self.assertEqual(free_blocks(self.layout, volume), FREE)
        self.assertEqual(self.assert_cut(4, 88)[14], [1, 88, 0, 1, 0, 25, 0, 26])
        self.assertEqual(self.numbers(self.assert_cut(4, 48), 4)[40:], [280, 281, 282, 283, 284, 0, 0, 0])

    def test_smaller_and_greater_again(self):
        for f in PATHS:
            for size in (1, 5, 8, 9, 12, 24, 25, 27, 44, 81):
                self.setUp()
                if size < RECORDS[f][1]:
                    self.volume = self.assert_cut(f, size)
                    self.volume = self.assert_cut(f, size + 1)
                    self.volume = self.assert_cut(f, 88)

    def test_every_size_of_every_file(self):
        for f in PATHS:
            for size in range(89):
                with self.subTest(f=f, size=size):
                    self.assert_cut(f, size)

    def test_on_a_volume_without_free_blocks(self):
        layout, volume = sound((3, 1, 2), {1: (1, 12, 14, 15, 0, 0)}, {0: (0, 1, 1)}, {15: row_of(5)})
        self.assertEqual(homes_of(self, layout, volume, Cut((1,), 30)), [
            (11, [1, 30, 1, 0, 14, 15, 0, 0]), (15, [5, 6, 7, 8, 0, 0, 0, 0]),
        ])

    def test_refused(self):
        for size in (0, 5, 88, -1, 89, 10 ** 40):
            for path in ((99,), (0,), (0, 2), (0, 0), (0, 8), (2, 1), (1, 0)):
                self.refused(NoPath, Cut(path, size))
            for path in ((), (1,)):
                self.refused(NotFile, Cut(path, size))
        for size in (-1, 89, 10 ** 40, -10 ** 40):
            for f in PATHS:
                self.refused(TooFar, Cut(PATHS[f], size))

    def test_by_the_other_name(self):
        layout, volume = sound((3, 1, 2), {1: (1, 12, 14, 15, 0, 0)}, {0: (0, 1, 1), 1: (0, 2, 1)})
        for deed in (Cut((2,), 3), Write((2,), 0, [4])):
            after = behind(self, layout, volume, deed)
            self.assertEqual(read(layout, after, (1,)), read(layout, after, (2,)))
            self.assertEqual(find_path(layout, after, (1,)), 1)


if __name__ == "__main__":
    unittest.main()
