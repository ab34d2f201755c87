import copy
import random
import unittest

from volumemend.layout import TOP, Layout
from volumemend.mender import wrong
from volumes import noisy

# Blocks of the layout (6, 4, 30): records 10 to 15, names 16 to 19, data 20 to 49.
LAYOUT = Layout(6, 4, 30)
TURNS = range(8)
HUGE = 10 ** 40 - 1
# Kinds of which each one is free; and numbers used by which a slot is not used.
FREE = (0, 0, 3, -1, HUGE, -HUGE, TOP)
NOT_USED = (0, 0, 2, -1, HUGE, -HUGE)


class Clause(unittest.TestCase):
    def volume(self, seed, records, slots=None, blocks=None):
        """Any numbers, but for what is told: records: f -> numbers from kind on; slots: s -> numbers; blocks: rows.

        The other records are free ones, and the other slots not used. The top's kind may be any."""
        chance = random.Random(seed)
        volume = noisy(LAYOUT, seed)
        for f in range(1, 6):
            volume[10 + f][0] = chance.choice(FREE)
        for s in range(8):
            volume[16 + s // 2][s % 2 * 4] = chance.choice(NOT_USED)
        for f, numbers in records.items():
            volume[10 + f][:len(numbers)] = numbers
        for s, numbers in (slots or {}).items():
            volume[16 + s // 2][s % 2 * 4:s % 2 * 4 + len(numbers)] = numbers
        for block, row in (blocks or {}).items():
            volume[block] = list(row)
        return volume

    def ask(self, clause, volume, due):
        before = copy.deepcopy(volume)
        told = wrong(LAYOUT, volume, clause)
        self.assertIs(type(told), list)
        self.assertTrue(all(type(place) is tuple for place in told))
        self.assertEqual(told, due)
        told.append(1)
        self.assertEqual(wrong(LAYOUT, volume, clause), due)
        self.assertEqual(volume, before)

    def ask_all(self, clause, due, records, slots=None, blocks=None):
        for turn in TURNS:
            with self.subTest(turn=turn):
                self.ask(clause, self.volume(turn, records, slots, blocks), due)


def file(size, p0=0, p1=0, p2=0, more=0, names=-3, found=HUGE):
    return (1, size, names, found, p0, p1, p2, more)


class Piece(Clause):
    def ask_files(self, due, files, blocks=None):
        self.ask_all("piece", due, files, None, blocks)

    def test_no_files(self):
        self.ask_files([], {})
        self.ask_files([], {f: (2, 88, 0, 0, 20, 20, 10, HUGE) for f in range(1, 6)})
        self.ask_files([], {0: (1, 88, 0, 0, 20, 20, 10, HUGE), 1: (3, 88, 0, 0, 20, 20, 10, 9)})

    def test_right_ones(self):
        self.ask_files([], {1: file(0), 2: file(88)})
        self.ask_files([], {1: file(24, 20, 49, 30), 2: file(88, 21, 22, 23, 24), 3: file(1, 48)},
                       {24: (25, 26, 27, 28, 29, 31, 32, 33)})
        self.ask_files([], {5: file(88, 0, 0, 0, 49), 4: file(88, 20, 0, 0, 48)},
                       {49: (0, 0, 0, 0, 0, 0, 0, 47), 48: (0, 46, 0, 45, 0, 44, 0, 0)})

    def test_what_is_no_data_block(self):
        for number in (1, 2, 9, 10, 19, 50, 51, -1, -20, TOP, HUGE, -HUGE):
            self.ask_files([(11, 4, 0)], {1: file(88, number)})
            self.ask_files([(12, 5, 0), (12, 6, 0)], {2: file(88, 20, number, number)})
            self.ask_files([(15, 7, 0)], {5: file(88, 0, 0, 0, number)})
            self.ask_files([(20, 0, 0), (20, 7, 0)], {5: file(88, 0, 0, 0, 20)}, {20: (number, 0, 0, 0, 0, 0, 0, number)})

    def test_told_twice_by_one_file(self):
        self.ask_files([(11, 5, 0), (11, 6, 0)], {1: file(88, 20, 20, 20)})
        self.ask_files([(11, 7, 0)], {1: file(88, 20, 21, 22, 22)}, {22: (30, 30, 1, 2, 3, 4, 5, HUGE)})
        self.ask_files([(40, 0, 0), (40, 2, 0), (40, 3, 0), (40, 7, 0)], {1: file(88, 20, 21, 22, 40)},
                       {40: (20, 23, 23, 22, 0, 24, 0, 24)})

    def test_told_twice_by_two_files(self):
        self.ask_files([(12, 4, 0), (13, 4, 0)], {1: file(8, 20), 2: file(8, 20), 3: file(9, 20, 21)})
        self.ask_files([(14, 4, 0)], {2: file(88, 0, 0, 0, 30), 4: file(16, 31, 32)}, {30: (0, 0, 0, 0, 31, 0, 0, 0)})
        self.ask_files([(35, 1, 0), (35, 3, 0)], {2: file(88, 25, 0, 0, 30), 4: file(88, 32, 0, 0, 35)},
                       {30: (0, 31, 0, 0, 0, 0, 0, 0), 35: (33, 31, 0, 30, 0, 0, 0, 0)})
        self.ask_files([(12, 7, 0)], {1: file(88, 0, 0, 0, 30), 2: file(88, 31, 0, 0, 30)},
                       {30: (0, 32, 0, 0, 0, 0, 0, 0)})

    def test_the_lesser_file_has_it_wherever_its_pointer_stands(self):
        self.ask_files([(12, 4, 0)], {1: file(88, 0, 0, 0, 30), 2: file(8, 20)}, {30: (0, 0, 0, 0, 0, 0, 0, 20)})
        self.ask_files([(30, 7, 0)], {1: file(8, 20), 2: file(88, 0, 0, 0, 30)}, {30: (0, 0, 0, 0, 0, 0, 0, 20)})

    def test_a_pointer_that_is_not_right_tells_nothing(self):
        self.ask_files([(11, 5, 0)], {1: file(8, 0, 20), 2: file(8, 20)})
        self.ask_files([(11, 7, 0)], {1: file(8, 20, 0, 0, 21), 2: file(8, 21)}, {21: (20, 0, 0, 0, 0, 0, 0, 0)})
        self.ask_files([(11, 7, 0), (30, 3, 0)], {1: file(9, 0, 0, 0, 21), 2: file(40, 21, 0, 0, 30)},
                       {30: (22, 23, 0, 24, 0, 0, 0, 0)})

    def test_beyond_the_wanted_pieces(self):
        for size, due in ((0, [4, 5, 6]), (1, [5, 6]), (8, [5, 6]), (9, [6]), (16, [6]), (17, []), (24, [])):
            self.ask_files([(13, place, 0) for place in due], {3: file(size, 20, 21, 22)})
        for size, least in ((25, 1), (32, 1), (33, 2), (40, 2), (41, 3), (72, 6), (73, 7), (80, 7), (81, 8), (88, 8)):
            self.ask_files([(30, place, 0) for place in range(least, 8)], {3: file(size, 20, 21, 22, 30)},
                           {30: (31, 32, 33, 34, 35, 36, 37, 38)})

    def test_more_not_wanted(self):
        for size in (0, 1, 8, 24):
            self.ask_files([(13, 7, 0)], {3: file(size, 20 if size else 0, 0, 0, 30)}, {30: (20, 20, 9, HUGE, 31, 31, -1, 30)})
        self.ask_files([], {3: file(25, 0, 0, 0, 30)}, {30: (31, 0, 0, 0, 0, 0, 0, 0)})

    def test_sizes_as_they_stand(self):
        for size in (89, 1000, TOP, HUGE):
            self.ask_files([], {1: file(size, 20, 21, 22, 23)}, {23: (24, 25, 26, 27, 28, 29, 30, 31)})
        for size in (-1, -88, -HUGE):
            self.ask_files([(11, 4, 0), (11, 5, 0), (11, 6, 0), (11, 7, 0)], {1: file(size, 20, 21, 22, 23)},
                           {23: (24, 25, 26, 27, 28, 29, 30, 31)})

    def test_to_the_block_more_itself(self):
        self.ask_files([(30, 0, 0), (30, 5, 0)], {1: file(88, 0, 0, 0, 30)}, {30: (30, 0, 31, 0, 0, 30, 0, 0)})
        self.ask_files([(11, 7, 0)], {1: file(88, 30, 0, 0, 30)}, {30: (30, 0, 31, 0, 0, 30, 0, 0)})

    def test_more_wrong_its_numbers_not_looked_at(self):
        for more in (1, 10, 16, 50, -1, HUGE):
            self.ask_files([(11, 7, 0)], {1: file(88, 0, 0, 0, more), 2: file(8, 20)})
        # The numbers of block 30 would tell 21; as they aren't looked at, file 2 has it.
        self.ask_files([(11, 7, 0)], {1: file(20, 0, 0, 0, 30), 2: file(8, 21)}, {30: (21, 22, 23, 24, 25, 26, 27, 28)})

    def test_others_than_files_are_not_looked_at(self):
        records = {f: (kind, 88, 0, 0, 20, 21, 22, 23) for f, kind in ((0, 1), (1, 2), (2, 0), (3, 3), (4, -1))}
        self.ask_files([], {**records, 5: file(88, 20, 21, 22, 23)}, {23: (24, 25, 26, 27, 28, 29, 30, 31)})

    def test_several_by_files_and_pointers(self):
        self.ask_files(
            [(11, 5, 0), (11, 7, 0), (12, 6, 0), (30, 0, 0), (30, 6, 0), (15, 4, 0), (15, 7, 0)],
            {1: file(17, 20, 20, 21, 22), 2: file(88, 22, 0, 20, 30), 5: file(88, 30, 31, 0, 21)},
            {30: (21, 0, 32, 0, 0, 0, -5, 33)})


# Records for the tests of slots: 1, 2 and 5 are folders, 3 is a file, 4 is free; and the top a folder, whatever its kind.
KINDS = {1: (2,), 2: (2,), 3: (1,), 4: (0,), 5: (2,)}


class Name(Clause):
    def ask_slots(self, due, slots, kinds=None):
        """due: numbers of slots; the slots that aren't told have the number 0 at used."""
        blocks = [(16 + s // 2, s % 2 * 4, 0) for s in due]
        told = {s: slots.get(s, (0,)) for s in range(8)}
        self.ask_all("name", blocks, kinds or KINDS, told)

    def test_right_ones(self):
        self.ask_slots([], {})
        self.ask_slots([], {s: (0,) for s in range(8)})
        self.ask_slots([], {0: (1, 0, 5, 1), 1: (1, 1, 5, 2), 2: (1, 2, 5, 3), 3: (1, 0, 6, 3), 7: (1, 5, 5, 3)})
        self.ask_slots([], {3: (1, 0, TOP, 3), 4: (1, 0, HUGE, 3), 5: (1, 0, 1, 3)})

    def test_used_is_neither_0_nor_1(self):
        for used in (2, -1, 3, TOP, HUGE, -HUGE):
            self.ask_slots([0], {0: (used, 0, 5, 3)})
            self.ask_slots([1, 6, 7], {1: (used, 0, 5, 3), 6: (used, -1, -1, -1), 7: (used, 0, 5, 3)})
            # A slot that is not used keeps no name from another.
            self.ask_slots([2], {2: (used, 0, 5, 1), 3: (1, 0, 5, 1)})

    def test_a_folder_that_is_none(self):
        for folder in (3, 4, 6, 7, -1, -5, -6, TOP, HUGE, -HUGE):
            self.ask_slots([0, 5], {0: (1, folder, 5, 3), 5: (1, folder, 6, 1)})

    def test_the_top_is_a_folder_whatever_its_kind(self):
        for kind in (0, 1, 2, 3, -1, HUGE):
            self.ask_slots([], {0: (1, 0, 5, 3)}, {0: (kind,), 3: (1,)})

    def test_names_below_1(self):
        for name in (0, -1, -TOP, -HUGE):
            self.ask_slots([4], {4: (1, 0, name, 3)})

    def test_a_file_that_is_free_or_the_top_or_not_there(self):
        for other in (0, 4, 6, 7, -1, -3, TOP, HUGE, -HUGE):
            self.ask_slots([3], {3: (1, 0, 5, other)})
            self.ask_slots([3], {3: (1, 0, 5, other)}, {0: (1,), **KINDS})

    def test_kinds_as_they_stand(self):
        self.ask_slots([0, 1], {0: (1, 1, 5, 3), 1: (1, 0, 5, 1)}, {1: (3,), 3: (1,)})
        self.ask_slots([0, 1], {0: (1, 1, 5, 3), 1: (1, 0, 5, 1)}, {1: (-1,), 3: (2,)})

    def test_the_same_folder_and_name(self):
        self.ask_slots([1], {0: (1, 0, 5, 3), 1: (1, 0, 5, 1)})
        self.ask_slots([3, 7], {2: (1, 1, 5, 3), 3: (1, 1, 5, 3), 5: (1, 0, 5, 3), 7: (1, 0, 5, 2)})
        self.ask_slots([], {0: (1, 0, 5, 3), 1: (1, 1, 5, 3), 2: (1, 0, 6, 3)})

    def test_a_folder_named_twice(self):
        self.ask_slots([1], {0: (1, 0, 5, 1), 1: (1, 0, 6, 1)})
        self.ask_slots([2, 3, 4], {1: (1, 0, 5, 2), 2: (1, 1, 5, 2), 3: (1, 2, 9, 2), 4: (1, 5, 9, 2)})

    def test_a_file_named_twice_is_right(self):
        self.ask_slots([], {s: (1, 0, 5 + s, 3) for s in range(8)})

    def test_right_only_because_one_ahead_is_not(self):
        self.ask_slots([0], {0: (1, 0, 5, 4), 1: (1, 0, 5, 3)})
        self.ask_slots([0], {0: (1, 3, 5, 1), 1: (1, 0, 5, 1)})
        self.ask_slots([0], {0: (1, 0, 0, 2), 1: (1, 0, 5, 2)})
        # 1 is wrong for the name of 0, so 2, which names the folder too, is right; 3 is wrong for it.
        self.ask_slots([1, 3], {0: (1, 0, 5, 3), 1: (1, 0, 5, 1), 2: (1, 0, 6, 1), 3: (1, 0, 7, 1)})
        self.ask_slots([1], {0: (1, 0, 5, 1), 1: (1, 0, 6, 1), 2: (1, 0, 6, 3)})

    def test_rings_are_no_matter_here(self):
        self.ask_slots([], {0: (1, 1, 5, 1), 1: (1, 5, 5, 2), 2: (1, 2, 5, 5)})

    def test_several(self):
        self.ask_slots([0, 1, 2, 4, 5, 7], {
            0: (2, 0, 1, 1), 1: (1, 3, 1, 1), 2: (1, 0, -1, 1), 3: (1, 0, 1, 1), 4: (1, 0, 1, 3), 5: (1, 0, 2, 1),
            6: (1, 1, 1, 3), 7: (-1, HUGE, 1, 1)})


class Ring(Clause):
    def ask_slots(self, due, slots, kinds=None):
        blocks = [(16 + s // 2, s % 2 * 4, 0) for s in due]
        self.ask_all("ring", blocks, kinds or {f: (2,) for f in range(1, 6)}, slots)

    def test_none(self):
        self.ask_slots([], {})
        self.ask_slots([], {0: (1, 0, 5, 1), 1: (1, 1, 5, 2), 2: (1, 2, 5, 3)})
        self.ask_slots([], {0: (1, 4, 5, 1), 1: (1, 4, 6, 2), 2: (1, 2, 5, 3), 5: (1, 3, 3, 5)})

    def test_a_folder_in_itself(self):
        for f in range(1, 6):
            for s in range(8):
                self.ask_slots([s], {s: (1, f, 9, f)})

    def test_rings_of_two_and_of_three(self):
        self.ask_slots([5], {5: (1, 2, 7, 1), 2: (1, 1, 7, 2)})
        self.ask_slots([2], {5: (1, 1, 7, 2), 2: (1, 2, 7, 1)})
        self.ask_slots([6], {6: (1, 5, 1, 3), 7: (1, 3, 1, 4), 0: (1, 4, 1, 5)})
        self.ask_slots([7], {6: (1, 3, 1, 5), 7: (1, 4, 1, 3), 0: (1, 5, 1, 4)})
        self.ask_slots([1], {1: (1, 5, 2, 1), 2: (1, 1, 2, 2), 3: (1, 2, 2, 3), 4: (1, 3, 2, 4), 5: (1, 4, 2, 5)})

    def test_two_rings_by_rising_folders(self):
        self.ask_slots([7, 0], {7: (1, 4, 1, 1), 3: (1, 1, 1, 4), 0: (1, 3, 1, 2), 5: (1, 2, 1, 3)})
        self.ask_slots([2, 1, 0], {0: (1, 5, 1, 5), 1: (1, 3, 1, 3), 2: (1, 1, 1, 1)})

    def test_a_folder_that_hangs_on_a_ring(self):
        self.ask_slots([4], {4: (1, 3, 1, 2), 5: (1, 2, 1, 3), 6: (1, 2, 2, 1), 7: (1, 1, 1, 4), 0: (1, 3, 9, 5)})
        self.ask_slots([0], {0: (1, 5, 1, 5), 1: (1, 5, 2, 1), 2: (1, 1, 2, 2)})

    def test_slots_that_are_not_right(self):
        self.ask_slots([], {0: (1, 1, 0, 1)})  # the name 0
        self.ask_slots([], {0: (2, 1, 4, 1)})  # not used
        self.ask_slots([], {0: (1, 1, 4, 1)}, {1: (1,)})  # a file
        self.ask_slots([], {0: (1, 1, 4, 1)}, {1: (3,)})  # free
        self.ask_slots([], {0: (1, 0, 4, 0)})  # the top
        self.ask_slots([], {0: (1, 0, 4, 1), 1: (1, 1, 4, 1)})  # named ahead
        self.ask_slots([], {0: (1, 0, 4, 1), 1: (1, 2, 4, 1), 2: (1, 1, 4, 2)})
        self.ask_slots([], {0: (1, 2, 4, 3), 1: (1, 2, 4, 1), 2: (1, 1, 4, 2)}, {1: (2,), 2: (2,), 3: (1,)})
        self.ask_slots([], {0: (1, HUGE, 4, 1), 1: (1, 1, 4, HUGE), 2: (1, -1, 4, -1), 3: (1, 6, 4, 6)})
        self.ask_slots([], {0: (1, 3, 4, 2), 1: (1, 2, 4, 3)}, {2: (2,), 3: (1,)})

    def test_right_because_the_one_ahead_is_not(self):
        self.ask_slots([1], {0: (1, 0, 0, 1), 1: (1, 1, 4, 1)})
        self.ask_slots([1], {0: (1, 2, 4, 4), 1: (1, 2, 4, 1), 2: (1, 1, 4, 2)}, {1: (2,), 2: (2,), 4: (0,)})

    def test_the_first_right_slot_tells_where_a_folder_lies(self):
        self.ask_slots([3], {3: (1, 2, 1, 1), 4: (1, 0, 1, 1), 5: (1, 1, 1, 2), 6: (1, 0, 2, 2)})


class Found(Clause):
    def ask_found(self, due, records, slots):
        self.ask_all("found", [(10 + f, 3, number) for f, number in due], records, slots)

    def test_no_name(self):
        for kind in (1, 2):
            self.ask_found([], {3: (kind, -1, HUGE, 1)}, {})
            for number in (0, 2, -1, TOP, HUGE):
                self.ask_found([(3, 1)], {3: (kind, -1, HUGE, number)}, {})

    def test_names(self):
        for slots in ({0: (1, 0, 5, 3)}, {0: (1, 0, 5, 3), 7: (1, 0, 6, 3)}, {4: (1, 3, 5, 3)}):
            for kind in (1, 2):
                slots = {s: slot for s, slot in slots.items() if slot[1] == 0 or kind == 2}
                if slots:
                    self.ask_found([], {3: (kind, -1, HUGE, 0)}, slots)
                    for number in (1, 2, -1, TOP, HUGE):
                        self.ask_found([(3, 0)], {3: (kind, -1, HUGE, number)}, slots)

    def test_of_right_used_slots_only(self):
        for slot in ((0, 0, 5, 3), (2, 0, 5, 3), (-1, 0, 5, 3), (1, 0, 0, 3), (1, 1, 5, 3), (1, 3, 5, 3), (1, 6, 5, 3)):
            self.ask_found([(3, 1)], {3: (1, 0, 0, 0)}, {2: slot})
        self.ask_found([(3, 1)], {2: (1, 0, 0, 0), 3: (1, 0, 0, 0)}, {2: (1, 0, 5, 2), 3: (1, 0, 5, 3)})

    def test_the_top_and_free_records_are_not_asked(self):
        for number in (0, 1, 2, -1, HUGE):
            self.ask_found([], {0: (2, 0, 0, number), 1: (0, 0, 0, number), 2: (3, 0, 0, number)}, {})
            self.ask_found([], {0: (1, 0, 0, number)}, {0: (1, 0, 5, 0)})

    def test_several(self):
        self.ask_found([(1, 0), (3, 1), (5, 0)], {
            1: (2, 0, 0, 1), 2: (1, 0, 0, 1), 3: (1, 0, 0, 0), 4: (2, 0, 0, 0), 5: (1, 0, 0, HUGE),
        }, {0: (1, 0, 1, 5), 1: (1, 0, 2, 4), 2: (1, 4, 1, 1), 3: (1, 2, 7, 3)})


class Count(Clause):
    def ask_count(self, due, records, slots):
        self.ask_all("count", [(10 + f, 2, number) for f, number in due], records, slots)

    def test_no_name_one_and_more(self):
        for many in range(9):
            slots = {s: (1, 0, 5 + s, 3) for s in range(8 - many, 8)}
            for number in (0, 1, 2, 3, 8, 9, -1, HUGE):
                self.ask_count([(3, many)] if number != many else [], {3: (1, -1, number, -1)}, slots)

    def test_of_folders(self):
        self.ask_count([(1, 1), (2, 0)], {1: (2, 0, 0, 0), 2: (2, 0, 1, 0)}, {3: (1, 0, 5, 1), 4: (1, 0, 6, 1)})
        self.ask_count([], {1: (2, 0, 1, 0), 2: (2, 0, 0, 0)}, {3: (1, 0, 5, 1), 4: (1, 0, 6, 1)})

    def test_of_right_used_slots_only(self):
        for slot in ((0, 0, 5, 3), (2, 0, 5, 3), (-1, 0, 5, 3), (1, 0, 0, 3), (1, 1, 5, 3), (1, 0, 9, 3), (1, 6, 5, 3)):
            self.ask_count([(3, 1)], {3: (1, 0, 2, 0)}, {1: (1, 0, 9, 3), 2: slot})

    def test_the_top_and_free_records_are_not_asked(self):
        for number in (0, 1, 2, -1, HUGE):
            self.ask_count([], {0: (2, 0, number), 1: (0, 0, number), 2: (3, 0, number)}, {0: (1, 0, 5, 0), 1: (1, 0, 6, 1)})

    def test_several(self):
        self.ask_count([(1, 1), (3, 2), (5, 0)], {
            1: (2, 0, 0, 1), 2: (1, 0, 0, 1), 3: (1, 0, 1, 0), 4: (2, 0, 1, 0), 5: (1, 0, HUGE, 0),
        }, {0: (1, 0, 1, 3), 1: (1, 0, 2, 4), 2: (1, 4, 1, 1), 3: (1, 4, 7, 3)})


class Map(Clause):
    files = {
        1: file(9, 20, 49), 2: file(88, 0, 39, 0, 40), 3: (2, 88, 0, 0, 41, 42, 43, 44), 4: (0, 88, 0, 0, 45, 46, 47, 48),
    }
    # Told are the data blocks with the places 0, 29; 19, 20; 1, 21.
    blocks = {40: (21, 0, 0, 0, 41, 0, 0, 0)}
    due = [1 + 2 + 2 ** 19, 1 + 2 + 2 ** 9, 0, 0, 0, 0, 0, 0]

    def ask_map(self, row, due, files=None, blocks=None):
        self.ask_all("map", [(2, place, number) for place, number in due], files or self.files, None,
                     {2: row, **(blocks or self.blocks)})

    def test_as_it_should_be(self):
        self.ask_map(self.due, [])

    def test_too_much_and_too_little(self):
        for place in range(8):
            for number in (1, -1, 4, 2 ** 18, 2 ** 20, -2, HUGE, -HUGE):
                row = list(self.due)
                row[place] += number
                self.ask_map(row, [(place, self.due[place])])
        self.ask_map([0] * 8, [(0, self.due[0]), (1, self.due[1])])
        self.ask_map([2 ** 20 - 1] * 8, list(enumerate(self.due)))

    def test_bits_beyond_the_data_blocks(self):
        for bit in (2 ** 10, 2 ** 19, 2 ** 20, 2 ** 39):
            self.ask_map([self.due[0], self.due[1] + bit] + [0] * 6, [(1, self.due[1])])
        self.ask_map([self.due[0] + 2 ** 20, self.due[1]] + [0] * 6, [(0, self.due[0])])
        self.ask_map(self.due[:7] + [1], [(7, 0)])

    def test_of_right_pointers_only(self):
        files = {1: file(8, 20, 21), 2: file(8, 20), 3: file(24, 10, 50, 22, 23), 5: file(88, 0, 0, 0, 20)}
        self.ask_map([5, 0, 0, 0, 0, 0, 0, 0], [], files, {20: (30, 31, 32, 33, 34, 35, 36, 37), 23: [24] * 8})
        self.ask_map([0, 0, 0, 0, 0, 3, 0, 0], [(0, 5), (5, 0)], files, {20: [30] * 8})

    def test_nothing_and_everything(self):
        self.ask_map([0] * 8, [], {1: file(88)})
        files = {1: file(88, 20, 21, 22, 23), 2: file(88, 32, 33, 34, 35), 3: file(88, 44, 45, 46, 47)}
        blocks = {23: range(24, 32), 35: range(36, 44), 47: (48, 49, 0, 0, 0, 0, 0, 0)}
        self.ask_map([2 ** 20 - 1, 2 ** 10 - 1] + [0] * 6, [], files, blocks)


if __name__ == "__main__":
    unittest.main()
