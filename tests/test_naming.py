import unittest

from volumemend.errors import BadName, Full, IntoItself, NoPath, NotEmpty, NotFile, NotFolder, Taken
from volumemend.layout import TOP, Layout, empty
from volumemend.naming import Make, Move, Name, Unname
from volumemend.paths import find_path, info, listed, read
from volumemend.pieces import free_blocks
from volumes import assert_refused, behind, homes_of, row_of, sound

# Blocks of the layout (10, 5, 10): records 10 to 19, names 20 to 24, data 25 to 34.
NUMBERS = (10, 5, 10)
FOLDER = (2, 0, 0, 0, 0, 0)
# The top: 5 / 6 / 7 / 9, and 5 / 4, an empty folder; 8 in the top is the same file as 5 / 6 / 7 / 9.
# Found: folder 6, with folder 3 in it, and file 8.
RECORDS = {
    1: FOLDER, 2: FOLDER, 3: FOLDER, 6: FOLDER, 7: FOLDER, 9: FOLDER,
    4: (1, 9, 25, 26, 0, 0),
    8: (1, 30, 0, 0, 28, 29),
}
SLOTS = {
    0: (0, 5, 1), 1: (1, 6, 2), 3: (2, 7, 3), 4: (0, 8, 4), 5: (3, 9, 4), 6: (6, 3, 7), 8: (1, 4, 9),
}
UNUSED = {2: (3, 11, 4), 7: (0, 12, 1)}
BLOCKS = {25: row_of(250), 26: row_of(260), 28: row_of(280), 29: [30, 0, 0, 0, 0, 0, 0, 0], 30: row_of(300)}

# Paths that are no newer ones, whatever else is wrong with them.
BAD = (
    (), (0,), (4, 0), (5, 0), (8, 0), (5, -1), (-1,), (TOP + 1,), (5, TOP + 1), (99, TOP + 1), (-10 ** 40,), (10 ** 40,),
    (0, 1), (0, 6), (0, 8), (0, 99), (0, TOP), (0, 0), (0, TOP + 1), (0, 6, 0), (0, 99, 0), (5, 6, 7, 9, 0),
)
# Newer paths that are refused by their rest, and for what.
REST = {
    NoPath: ((99, 1), (5, 5, 1), (5, 6, 7, 8, 1), (8, 1, 1), (0, 1, 1), (0, 5, 1), (0, 0, 1), (0, 10, 1), (0, 6, 4, 1),
             (12, 1), (0, 0, 5)),
    NotFolder: ((8, 1), (8, TOP), (5, 6, 7, 9, 1), (0, 8, 1)),
}
TAKEN = ((5,), (8,), (5, 6), (5, 4), (5, 6, 7), (5, 6, 7, 9), (0, 6, 3))


class Naming(unittest.TestCase):
    def setUp(self):
        self.layout, self.volume = sound(NUMBERS, RECORDS, SLOTS, BLOCKS, UNUSED)
        # Of a free record and of the top these numbers aren't looked at.
        self.volume[15][1:] = [88, 3, 1, 25, 26, 27, 28]
        self.volume[10][1:] = [88, 3, 1, 25, 26, 27, 28]

    def homes(self, deed):
        return homes_of(self, self.layout, self.volume, deed)

    def behind(self, deed):
        return behind(self, self.layout, self.volume, deed)

    def refused(self, error, deed):
        with self.subTest(error=error.__name__, deed=vars(deed)):
            assert_refused(self, self.layout, self.volume, deed, error)

    def fill_records(self):
        self.layout, self.volume = sound(NUMBERS, {5: FOLDER, **RECORDS}, SLOTS, BLOCKS, UNUSED)

    def fill_slots(self):
        names = {s: (0, 100 + s, 4) for s in range(10) if s not in SLOTS}
        self.layout, self.volume = sound(NUMBERS, RECORDS, {**SLOTS, **names}, BLOCKS)


class MakeIt(Naming):
    def test_a_file_in_the_top(self):
        self.assertEqual(self.homes(Make((2,))), [
            (15, [1, 0, 1, 0, 0, 0, 0, 0]), (21, [1, 0, 2, 5, 1, 2, 7, 3]),
        ])
        volume = self.behind(Make((2,)))
        self.assertEqual(find_path(self.layout, volume, (2,)), 5)
        self.assertEqual(info(self.layout, volume, (2,)), (1, 0, 1))
        self.assertEqual(read(self.layout, volume, (2,)), [])
        self.assertEqual(listed(self.layout, volume, ()), [2, 5, 8])

    def test_kind_1_where_it_is_left_out(self):
        self.assertEqual(self.homes(Make((2,), 1)), self.homes(Make((2,))))
        self.assertEqual(self.homes(Make((2,), kind=2))[0], (15, [2, 0, 1, 0, 0, 0, 0, 0]))

    def test_deep_and_in_found_folders(self):
        for path, folder in (((5, 6, 7, TOP), 3), ((5, 4, 1), 9), ((0, 6, 8), 6), ((0, 6, 3, 3), 7)):
            for kind in (1, 2):
                self.assertEqual(self.homes(Make(path, kind)), [
                    (15, [kind, 0, 1, 0, 0, 0, 0, 0]), (21, [1, folder, path[-1], 5, 1, 2, 7, 3]),
                ])
                volume = self.behind(Make(path, kind))
                self.assertEqual(info(self.layout, volume, path), (kind, 0, 1))
                self.assertIn(path[-1], listed(self.layout, volume, path[:-1]))

    def test_names_at_the_edges(self):
        for name in (1, TOP):
            self.assertEqual(find_path(self.layout, self.behind(Make((name,))), (name,)), 5)

    def test_until_it_is_full(self):
        layout = Layout(4, 3, 2)
        volume = empty(layout)
        for f in (1, 2, 3):
            homes = homes_of(self, layout, volume, Make((f,), 2))
            self.assertEqual([block for block, row in homes], [10 + f, 14 + (f - 1) // 2])
            volume = behind(self, layout, volume, Make((f,), 2))
        assert_refused(self, layout, volume, Make((4,)), Full)
        self.assertEqual(listed(layout, volume, ()), [1, 2, 3])

    def test_bad_name(self):
        for path in BAD:
            self.refused(BadName, Make(path))
            self.refused(BadName, Make(path, 2))

    def test_the_rest_and_taken(self):
        for error, paths in {**REST, Taken: TAKEN}.items():
            for path in paths:
                self.refused(error, Make(path))
                self.refused(error, Make(path, 2))

    def test_full(self):
        for fill in (self.fill_records, self.fill_slots):
            fill()
            self.refused(Full, Make((2,)))
            self.refused(Full, Make((5, 4, 8), 2))

    def test_full_is_the_last(self):
        for fill in (self.fill_records, self.fill_slots):
            fill()
            for path in BAD:
                self.refused(BadName, Make(path))
            self.refused(NoPath, Make((99, 1)))
            self.refused(NotFolder, Make((8, 1)))
            for path in TAKEN:
                self.refused(Taken, Make(path))

    def test_one_left_is_enough(self):
        layout, volume = sound((3, 1, 2), {1: (1, 0, 0, 0, 0, 0)}, {1: (0, 1, 1)})
        self.assertEqual(homes_of(self, layout, volume, Make((2,))), [
            (12, [1, 0, 1, 0, 0, 0, 0, 0]), (13, [1, 0, 2, 2, 1, 0, 1, 1]),
        ])


class NameIt(Naming):
    def test_a_second_and_a_third_name(self):
        self.assertEqual(self.homes(Name((8,), (5, 3))), [
            (14, [1, 9, 3, 0, 25, 26, 0, 0]), (21, [1, 1, 3, 4, 1, 2, 7, 3]),
        ])
        volume = self.behind(Name((8,), (5, 3)))
        for path in ((8,), (5, 3), (5, 6, 7, 9)):
            self.assertEqual(find_path(self.layout, volume, path), 4)
            self.assertEqual(info(self.layout, volume, path), (1, 9, 3))

    def test_in_the_same_folder(self):
        self.assertEqual(self.homes(Name((8,), (TOP,))), self.homes(Name((5, 6, 7, 9), (TOP,))))
        self.assertEqual(listed(self.layout, self.behind(Name((8,), (7,))), ()), [5, 7, 8])

    def test_a_found_file(self):
        self.assertEqual(self.homes(Name((0, 8), (9,))), [
            (18, [1, 30, 1, 0, 0, 0, 28, 29]), (21, [1, 0, 9, 8, 1, 2, 7, 3]),
        ])
        volume = self.behind(Name((0, 8), (9,)))
        self.assertEqual(listed(self.layout, volume, (0,)), [6])
        self.assertEqual(read(self.layout, volume, (9,)), read(self.layout, self.volume, (0, 8)))
        assert_refused(self, self.layout, volume, Name((0, 8), (10,)), NoPath)

    def test_into_a_found_folder(self):
        self.assertEqual(self.homes(Name((0, 8), (0, 6, 8)))[1], (21, [1, 6, 8, 8, 1, 2, 7, 3]))

    def test_refused(self):
        for newer in BAD:
            for path in ((8,), (99,), (0,), (), (5,), (0, 8)):
                self.refused(BadName, Name(path, newer))
        for newer in ((2,), (99, 1), (8, 1), (5,)):
            for path in ((99,), (0,), (0, 4), (0, 0), (8, 1), (5, 0)):
                self.refused(NoPath, Name(path, newer))
            for path in ((), (5,), (5, 6, 7), (5, 4), (0, 6), (0, 6, 3)):
                self.refused(NotFile, Name(path, newer))
        for path in ((8,), (5, 6, 7, 9), (0, 8)):
            for error, newers in {**REST, Taken: TAKEN}.items():
                for newer in newers:
                    self.refused(error, Name(path, newer))

    def test_full(self):
        self.fill_slots()
        for path in ((8,), (0, 8)):
            self.refused(Full, Name(path, (2,)))
            self.refused(Taken, Name(path, (5,)))
            self.refused(NotFolder, Name(path, (8, 2)))
            self.refused(NoPath, Name(path, (99, 2)))
            self.refused(BadName, Name(path, (0, 2)))
        self.refused(NotFile, Name((5,), (2,)))
        self.refused(NoPath, Name((99,), (2,)))

    def test_full_records_are_no_matter(self):
        self.fill_records()
        self.assertEqual(len(self.homes(Name((8,), (2,)))), 2)


class UnnameIt(Naming):
    def test_one_of_two_names(self):
        self.assertEqual(self.homes(Unname((8,))), [
            (14, [1, 9, 1, 0, 25, 26, 0, 0]), (22, [0, 0, 0, 0, 1, 3, 9, 4]),
        ])
        volume = self.behind(Unname((8,)))
        self.assertEqual(info(self.layout, volume, (5, 6, 7, 9)), (1, 9, 1))
        self.assertEqual(listed(self.layout, volume, ()), [5])
        self.assertEqual(self.homes(Unname((5, 6, 7, 9)))[1], (22, [1, 0, 8, 4, 0, 0, 0, 0]))

    def test_the_last_name(self):
        self.volume = self.behind(Unname((8,)))
        self.assertEqual(self.homes(Unname((5, 6, 7, 9))), [
            (2, [0b111000, 0, 0, 0, 0, 0, 0, 0]), (14, [0] * 8), (22, [0] * 8),
        ])
        volume = self.behind(Unname((5, 6, 7, 9)))
        self.assertEqual(free_blocks(self.layout, volume), [25, 26, 27, 31, 32, 33, 34])

    def test_a_file_without_blocks(self):
        self.volume = self.behind(Make((2,)))
        self.assertEqual(self.homes(Unname((2,))), [(15, [0] * 8), (21, [0, 0, 0, 0, 1, 2, 7, 3])])

    def test_found_ones(self):
        self.assertEqual(self.homes(Unname((0, 8))), [(2, [0b11, 0, 0, 0, 0, 0, 0, 0]), (18, [0] * 8)])
        volume = self.behind(Unname((0, 8)))
        self.assertEqual(listed(self.layout, volume, (0,)), [6])
        self.assertEqual(free_blocks(self.layout, volume), [27, 28, 29, 30, 31, 32, 33, 34])
        self.refused(NotEmpty, Unname((0, 6)))
        self.assertEqual(self.homes(Unname((0, 6, 3))), [(17, [0] * 8), (23, [0, 0, 0, 0, 0, 0, 12, 1])])
        self.volume = self.behind(Unname((0, 6, 3)))
        self.assertEqual(self.homes(Unname((0, 6))), [(16, [0] * 8)])
        self.assertEqual(listed(self.layout, self.behind(Unname((0, 6))), (0,)), [8])

    def test_empty_folders(self):
        self.assertEqual(self.homes(Unname((5, 4))), [(19, [0] * 8), (24, [0] * 8)])
        self.assertEqual(listed(self.layout, self.behind(Unname((5, 4))), (5,)), [6])

    def test_not_empty(self):
        for path in ((5,), (5, 6), (5, 6, 7), (0, 6)):
            self.refused(NotEmpty, Unname(path))

    def test_names_in_slots_that_are_not_used_fill_no_folder(self):
        self.volume = self.behind(Unname((5, 6, 7, 9)))
        self.assertEqual(self.volume[21][:4], [0, 3, 11, 4])
        self.assertEqual(self.homes(Unname((5, 6, 7))), [(13, [0] * 8), (21, [0, 3, 11, 4, 0, 0, 0, 0])])

    def test_bad_name_and_no_path(self):
        self.refused(BadName, Unname(()))
        self.refused(BadName, Unname((0,)))
        for path in ((99,), (0, 0), (0, 1), (0, 4), (0, 5), (0, 10), (0, -1), (5, 0), (8, 1), (-1,), (TOP + 1,), (12,)):
            self.refused(NoPath, Unname(path))

    def test_on_a_full_volume(self):
        self.fill_slots()
        self.assertEqual(self.homes(Unname((5, 4))), [(19, [0] * 8), (24, [0, 0, 0, 0, 1, 0, 109, 4])])
        self.assertEqual(len(self.homes(Unname((109,)))), 2)


class MoveIt(Naming):
    def test_within_its_folder(self):
        self.assertEqual(self.homes(Move((5,), (6,))), [(20, [1, 0, 6, 1, 1, 1, 6, 2])])
        volume = self.behind(Move((5,), (6,)))
        self.assertEqual(find_path(self.layout, volume, (6, 6, 7, 9)), 4)
        self.assertEqual(listed(self.layout, volume, ()), [6, 8])
        self.assertEqual(self.homes(Move((5, 6), (5, 5))), [(20, [1, 0, 5, 1, 1, 1, 5, 2])])
        self.assertEqual(self.homes(Move((5, 4), (5, TOP))), [(24, [1, 1, TOP, 9, 0, 0, 0, 0])])

    def test_into_others(self):
        for path, newer, homes in (
            ((8,), (5, 4, 8), [(22, [1, 9, 8, 4, 1, 3, 9, 4])]),
            ((5, 6, 7, 9), (9,), [(22, [1, 0, 8, 4, 1, 0, 9, 4])]),
            ((5, 6, 7), (7,), [(21, [0, 3, 11, 4, 1, 0, 7, 3])]),
            ((5, 6), (5, 4, 1), [(20, [1, 0, 5, 1, 1, 9, 1, 2])]),
            ((5, 4), (5, 6, 7, 1), [(24, [1, 3, 1, 9, 0, 0, 0, 0])]),
            ((0, 6, 3), (3,), [(23, [1, 0, 3, 7, 0, 0, 12, 1])]),
            ((5,), (0, 6, 3, 2), [(20, [1, 7, 2, 1, 1, 1, 6, 2])]),
        ):
            with self.subTest(path=path):
                self.assertEqual(self.homes(Move(path, newer)), homes)
                volume = self.behind(Move(path, newer))
                f = find_path(self.layout, self.volume, path)
                self.assertEqual(find_path(self.layout, volume, newer), f)
                self.assertEqual(info(self.layout, volume, newer), info(self.layout, self.volume, path))
                with self.assertRaises(NoPath):
                    find_path(self.layout, volume, path)

    def test_the_other_name_of_a_file_stays(self):
        volume = self.behind(Move((8,), (5, 4, 8)))
        self.assertEqual(find_path(self.layout, volume, (5, 6, 7, 9)), 4)
        self.assertEqual(info(self.layout, volume, (5, 4, 8)), (1, 9, 2))
        self.refused(Taken, Move((8,), (5, 6, 7, 9)))

    def test_found_ones(self):
        self.assertEqual(self.homes(Move((0, 8), (5, 4, 2))), [
            (18, [1, 30, 1, 0, 0, 0, 28, 29]), (21, [1, 9, 2, 8, 1, 2, 7, 3]),
        ])
        self.assertEqual(self.homes(Move((0, 6), (TOP,))), [
            (16, [2, 0, 1, 0, 0, 0, 0, 0]), (21, [1, 0, TOP, 6, 1, 2, 7, 3]),
        ])
        self.assertEqual(self.homes(Move((0, 8), (0, 6, 8)))[1], (21, [1, 6, 8, 8, 1, 2, 7, 3]))
        volume = self.behind(Move((0, 6), (6,)))
        self.assertEqual(listed(self.layout, volume, (0,)), [8])
        self.assertEqual(find_path(self.layout, volume, (6, 3)), 7)

    def test_bad_name_comes_first(self):
        for newer in BAD + ((2,), (99, 1), (5,)):
            self.refused(BadName, Move((), newer))
            self.refused(BadName, Move((0,), newer))
        for newer in BAD:
            for path in ((5,), (8,), (99,), (0, 8), (0, 99)):
                self.refused(BadName, Move(path, newer))

    def test_no_path_ahead_of_the_others_by_newer(self):
        for newer in ((2,), (99, 1), (8, 1), (5,), (5, 6, 7, 9)):
            for path in ((99,), (0, 0), (0, 4), (0, 5), (8, 1), (5, 0), (12,)):
                self.refused(NoPath, Move(path, newer))

    def test_the_others_by_newer(self):
        for path in ((5,), (8,), (5, 4), (0, 6), (0, 8)):
            for error, newers in {**REST, Taken: TAKEN}.items():
                for newer in newers:
                    self.refused(error, Move(path, newer))

    def test_onto_its_own_path_is_taken(self):
        for path in TAKEN:
            self.refused(Taken, Move(path, path))

    def test_into_itself(self):
        for path, newer in (
            ((5,), (5, 1)), ((5,), (5, 6, 1)), ((5,), (5, 6, 7, 1)), ((5,), (5, 4, 1)), ((5, 6), (5, 6, 6)),
            ((5, 6), (5, 6, 7, 6)), ((5, 4), (5, 4, 4)), ((0, 6), (0, 6, 1)), ((0, 6), (0, 6, 3, 1)),
            ((0, 6, 3), (0, 6, 3, 3)),
        ):
            self.refused(IntoItself, Move(path, newer))
        self.refused(Taken, Move((5,), (5, 6)))
        self.refused(NotFolder, Move((5,), (5, 6, 7, 9, 1)))
        self.refused(NoPath, Move((5,), (5, 6, 8, 1)))

    def test_full(self):
        self.fill_slots()
        self.refused(Full, Move((0, 6), (2,)))
        self.refused(Full, Move((0, 8), (2,)))
        self.refused(IntoItself, Move((0, 6), (0, 6, 1)))
        self.refused(Taken, Move((0, 6), (5,)))
        self.refused(NotFolder, Move((0, 6), (8, 1)))
        self.refused(NoPath, Move((0, 6), (99, 1)))
        self.assertEqual(self.homes(Move((5,), (6,))), [(20, [1, 0, 6, 1, 1, 1, 6, 2])])


if __name__ == "__main__":
    unittest.main()
