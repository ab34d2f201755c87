import copy
import unittest

from volumemend.heads import check_of
from volumemend.journal import is_whole, put, singles
from volumemend.layout import Layout, empty

LAYOUT = Layout(3, 2, 4)
MANY = 19
NOUGHTS = [0] * 8
FAR = 10 ** 40 - 1


def some_row(seed):
    return [seed * 10 + place for place in range(8)]


def numbered_volume():
    return [some_row(block) for block in range(MANY)]


def homes_of(blocks):
    return [(block, some_row(100 + block)) for block in blocks]


ONE = homes_of([2])
SIX = homes_of([2, 10, 12, 13, 15, 18])


def made_whole(homes, volume=None):
    writes = singles(homes)
    return put(volume or empty(LAYOUT), writes[:len(homes) + 1])


def head_by_hand(count, told, rows):
    numbers = [count] + told
    for row in rows:
        numbers = numbers + row
    return [count, check_of(numbers)] + told


class IsWhole(unittest.TestCase):
    def assert_whole(self, volume, due, layout=LAYOUT):
        before = copy.deepcopy(volume)
        self.assertIs(is_whole(layout, volume), due)
        self.assertIs(is_whole(layout, volume), due)
        self.assertEqual(volume, before)

    def with_head(self, count, told, volume=None):
        volume = copy.deepcopy(volume or made_whole(SIX))
        volume[3] = head_by_hand(count, told, volume[4:4 + max(0, min(6, count))])
        return volume

    def test_what_singles_makes(self):
        blocks = [2, 10, 12, 13, 15, 18]
        for count in range(1, 7):
            homes = homes_of(blocks[:count])
            writes = singles(homes)
            volume = numbered_volume()
            for done in range(len(writes) + 1):
                with self.subTest(count=count, done=done):
                    self.assert_whole(put(volume, writes[:done]), count < done < len(writes))

    def test_by_hand(self):
        volume = [[0] * 8 for block in range(MANY)]
        # 1 * 1 + 2 * 10 for the head, and 8 * 3 + 15 * 5 for the row.
        volume[4] = [3, 0, 0, 0, 0, 0, 0, 5]
        volume[3] = [1, 120, 10, 0, 0, 0, 0, 0]
        self.assert_whole(volume, True)
        for place in range(8):
            for row in (3, 4):
                spoilt = copy.deepcopy(volume)
                spoilt[row][place] += 1
                self.assert_whole(spoilt, False)

    def test_numbers_far_out(self):
        for number in (FAR, -FAR, -1, 10 ** 12):
            self.assert_whole(made_whole([(18, [number] * 8), (2, [number, 0, 0, 0, 0, 0, 0, number])]), True)

    def test_homes_in_any_order(self):
        self.assert_whole(self.with_head(3, [18, 2, 10, 0, 0, 0]), True)

    def test_the_empty_volume(self):
        self.assert_whole(empty(LAYOUT), False)

    def test_counts(self):
        told = [2, 10, 12, 13, 15, 18]
        self.assert_whole(self.with_head(6, told), True)
        for count in (0, 7, 5, -1, -6, 8, FAR, -FAR):
            with self.subTest(count=count):
                self.assert_whole(self.with_head(count, told), False)
        for count in (0, 7, -1, FAR):
            self.assert_whole(self.with_head(count, [0] * 6), False)
        self.assert_whole(self.with_head(5, told[:5] + [0]), True)

    def test_a_count_one_less_or_one_more(self):
        for homes in (ONE, SIX, SIX[:3]):
            for step in (-1, 1):
                volume = made_whole(homes)
                volume[3][0] += step
                self.assert_whole(volume, False)

    def test_a_home_told_twice(self):
        self.assert_whole(self.with_head(2, [10, 10, 0, 0, 0, 0]), False)
        self.assert_whole(self.with_head(6, [2, 10, 12, 13, 15, 2]), False)
        self.assert_whole(self.with_head(3, [2, 18, 18, 0, 0, 0]), False)

    def test_what_is_no_home(self):
        for block in (0, 1, 3, 4, 5, 6, 7, 8, 9, MANY, MANY + 1, -1, -MANY, FAR, -FAR):
            with self.subTest(block=block):
                self.assert_whole(self.with_head(1, [block, 0, 0, 0, 0, 0]), False)
                self.assert_whole(self.with_head(6, [2, 10, 12, 13, 15, block]), False)

    def test_each_home(self):
        for block in [2] + list(range(10, MANY)):
            self.assert_whole(self.with_head(1, [block, 0, 0, 0, 0, 0]), True)

    def test_the_layout_says_which_blocks_are_homes(self):
        layout = Layout(2, 2, 4)
        volume = made_whole(homes_of([18]))
        self.assert_whole(volume, True)
        self.assert_whole(volume[:-1], False, layout)

    def test_numbers_behind_the_count(self):
        for count in range(1, 6):
            told = [2, 10, 12, 13, 15, 18][:count] + [0] * (6 - count)
            self.assert_whole(self.with_head(count, told), True)
            for place in range(count, 6):
                for number in (1, 16, -1, FAR):
                    self.assert_whole(self.with_head(count, told[:place] + [number] + told[place + 1:]), False)

    def test_the_check(self):
        for homes in (ONE, SIX):
            for step in (1, -1, 1000003, -1000003, FAR):
                volume = made_whole(homes)
                volume[3][1] += step
                self.assert_whole(volume, False)

    def test_a_journals_row_with_one_number_other(self):
        for count in (1, 6):
            for block in range(4, 10):
                for place in range(8):
                    volume = made_whole(SIX[:count])
                    volume[block][place] += 1
                    self.assert_whole(volume, block >= 4 + count)

    def test_other_blocks_are_not_looked_at(self):
        volume = made_whole(SIX, numbered_volume())
        for block in [0, 1, 2] + list(range(10, MANY)):
            volume[block] = [FAR] * 8
        self.assert_whole(volume, True)


class Put(unittest.TestCase):
    def test_no_writes(self):
        volume = numbered_volume()
        told = put(volume, [])
        self.assertEqual(told, numbered_volume())
        self.assertIsNot(told, volume)
        self.assert_rows_apart([told, volume])

    def assert_rows_apart(self, volumes, writes=()):
        rows = [row for volume in volumes for row in volume] + [row for block, row in writes]
        self.assertEqual(len({id(row) for row in rows}), len(rows))

    def test_each_block(self):
        for block in range(MANY):
            volume = numbered_volume()
            writes = [(block, some_row(500))]
            told = put(volume, writes)
            self.assertIs(type(told), list)
            self.assertEqual(told[block], some_row(500))
            self.assertEqual(told[:block] + told[block + 1:], volume[:block] + volume[block + 1:])
            self.assertEqual(volume, numbered_volume())
            self.assertEqual(writes, [(block, some_row(500))])
            self.assert_rows_apart([told, volume], writes)

    def test_one_block_written_twice(self):
        writes = [(5, some_row(1)), (6, some_row(2)), (5, some_row(3))]
        told = put(numbered_volume(), writes)
        self.assertEqual((told[5], told[6]), (some_row(3), some_row(2)))
        told = put(numbered_volume(), writes[::-1])
        self.assertEqual((told[5], told[6]), (some_row(1), some_row(2)))

    def test_the_same_list_as_the_row_of_two_writes(self):
        row = some_row(9)
        volume = numbered_volume()
        writes = [(2, row), (3, row), (2, row)]
        told = put(volume, writes)
        self.assertEqual((told[2], told[3]), (some_row(9), some_row(9)))
        told[2][0] = 77
        self.assertEqual((told[3], row, volume), (some_row(9), some_row(9), numbered_volume()))
        row[1] = 78
        self.assertEqual(told[3], some_row(9))

    def test_the_same_list_twice_in_the_volume_handed_in(self):
        volume = [NOUGHTS] * MANY
        told = put(volume, [(4, NOUGHTS)])
        told[0][0] = 5
        self.assertEqual(told[1:], [[0] * 8] * (MANY - 1))
        self.assertEqual(NOUGHTS, [0] * 8)

    def test_a_row_of_what_is_told_changed(self):
        for changed in range(MANY):
            volume = numbered_volume()
            writes = homes_of([2, 7, 18])
            told = put(volume, writes)
            before = copy.deepcopy(told)
            told[changed][0] = 777
            told[changed].append(778)
            self.assertEqual(volume, numbered_volume())
            self.assertEqual(writes, homes_of([2, 7, 18]))
            self.assertEqual(told[:changed] + told[changed + 1:], before[:changed] + before[changed + 1:])
            self.assertEqual(put(volume, writes), before)

    def test_what_is_handed_in_changed_later(self):
        volume = numbered_volume()
        writes = homes_of([2, 7])
        told = put(volume, writes)
        before = copy.deepcopy(told)
        volume[5][5] = 77
        volume.append([])
        writes[0][1][0] = 78
        writes.clear()
        self.assertEqual(told, before)


class Singles(unittest.TestCase):
    def assert_form(self, writes):
        self.assertIs(type(writes), list)
        for write in writes:
            self.assertIs(type(write), tuple)
            self.assertEqual((len(write), type(write[0]), type(write[1])), (2, int, list))
            self.assertEqual([type(number) for number in write[1]], [int] * 8)
        self.assertEqual(len({id(row) for block, row in writes}), len(writes))

    def test_no_homes(self):
        first = singles([])
        self.assertEqual(first, [])
        self.assertIs(type(first), list)
        first.append(1)
        self.assertEqual(singles([]), [])

    def test_one_home(self):
        homes = [(10, [3, 0, 0, 0, 0, 0, 0, 5])]
        writes = singles(homes)
        self.assertEqual(writes, [
            (4, [3, 0, 0, 0, 0, 0, 0, 5]),
            (3, [1, 120, 10, 0, 0, 0, 0, 0]),
            (10, [3, 0, 0, 0, 0, 0, 0, 5]),
            (3, [0, 0, 0, 0, 0, 0, 0, 0]),
        ])
        self.assert_form(writes)
        self.assertEqual(homes, [(10, [3, 0, 0, 0, 0, 0, 0, 5])])

    def test_six_homes(self):
        rows = [row for block, row in SIX]
        writes = singles(SIX)
        check = sum((place + 1) * number for place, number in enumerate([6, 2, 10, 12, 13, 15, 18] + sum(rows, [])))
        self.assertEqual(writes, [
            (4, rows[0]), (5, rows[1]), (6, rows[2]), (7, rows[3]), (8, rows[4]), (9, rows[5]),
            (3, [6, check % 1000003, 2, 10, 12, 13, 15, 18]),
            (2, rows[0]), (10, rows[1]), (12, rows[2]), (13, rows[3]), (15, rows[4]), (18, rows[5]),
            (3, NOUGHTS),
        ])
        self.assert_form(writes)

    def test_each_count(self):
        for count in range(1, 7):
            homes = SIX[:count]
            writes = singles(homes)
            rows = [row for block, row in homes]
            told = [block for block, row in homes] + [0] * (6 - count)
            self.assertEqual(len(writes), 2 * count + 2)
            self.assertEqual(writes[:count], list(zip(range(4, 10), rows)))
            self.assertEqual(writes[count], (3, head_by_hand(count, told, rows)))
            self.assertEqual(writes[count + 1:-1], homes)
            self.assertEqual(writes[-1], (3, NOUGHTS))
            self.assert_form(writes)

    def test_all_put(self):
        volume = numbered_volume()
        told = put(volume, singles(SIX))
        for block in range(MANY):
            due = dict(SIX).get(block, volume[block])
            if 4 <= block <= 9:
                due = SIX[block - 4][1]
            self.assertEqual(told[block], NOUGHTS if block == 3 else due)

    def test_each_told_row_is_a_list_of_its_own(self):
        for changed in range(14):
            homes = copy.deepcopy(SIX)
            writes = singles(homes)
            before = copy.deepcopy(writes)
            writes[changed][1][0] = 777
            writes[changed][1].append(778)
            self.assertEqual(homes, SIX)
            self.assertEqual(writes[:changed] + writes[changed + 1:], before[:changed] + before[changed + 1:])
            self.assertEqual(singles(homes), before)

    def test_the_same_list_as_the_row_of_two_homes(self):
        row = some_row(9)
        writes = singles([(10, row), (11, row)])
        self.assert_form(writes)
        row[0] = 77
        self.assertEqual([told for block, told in writes if block not in (3,)], [some_row(9)] * 4)

    def test_homes_changed_later(self):
        homes = copy.deepcopy(SIX)
        writes = singles(homes)
        homes[0][1][0] = 77
        homes.clear()
        self.assertEqual(writes, singles(SIX))


if __name__ == "__main__":
    unittest.main()
