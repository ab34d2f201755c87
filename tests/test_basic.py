import copy
import unittest

from volumemend.layout import TOP, Layout
from volumemend.mender import wrong
from volumes import noisy, row_of

# Blocks of the layout (4, 2, 6): records 10 to 13, names 14 and 15, data 16 to 21.
LAYOUT = Layout(4, 2, 6)
TURNS = range(8)
HUGE = 10 ** 40 - 1


def check(numbers):
    return sum(place * number for place, number in enumerate(numbers, 1)) % 1000003


def head(label):
    row = [1179, label, 4, 2, 6, 0, 0]
    return row + [check(row)]


def in_order(block, row, due, places=(1, 0, 2, 3, 4, 5, 6, 7)):
    return [(block, place, due[place]) for place in places if row[place] != due[place]]


class Clause(unittest.TestCase):
    def ask(self, clause, volume, due):
        before = copy.deepcopy(volume)
        told = wrong(LAYOUT, volume, clause)
        self.assertIs(type(told), list)
        self.assertTrue(all(type(place) is tuple for place in told))
        self.assertEqual(told, due)
        told.append(1)
        self.assertEqual(wrong(LAYOUT, volume, clause), due)
        self.assertEqual(volume, before)


class Bounds(Clause):
    def volume(self):
        return [[(3 * block + place) % 7 * 10 ** 11 for place in range(8)] for block in range(22)]

    def test_none(self):
        self.ask("bounds", self.volume(), [])
        self.ask("bounds", [[0] * 8 for block in range(22)], [])
        self.ask("bounds", [[10 ** 12 - 1] * 8 for block in range(22)], [])

    def test_one_at_each_place(self):
        for block in range(22):
            for place in range(8):
                for number in (-1, 10 ** 12, HUGE, -HUGE, TOP + 1):
                    volume = self.volume()
                    volume[block][place] = number
                    self.ask("bounds", volume, [(block, place, 0)])
                for number in (0, 1, 10 ** 12 - 1, TOP):
                    volume = self.volume()
                    volume[block][place] = number
                    self.ask("bounds", volume, [])

    def test_several_by_rising_blocks_then_places(self):
        volume = self.volume()
        for block, place, number in ((21, 7, -1), (21, 0, HUGE), (0, 3, -HUGE), (0, 1, 10 ** 12), (10, 0, -2), (4, 4, -1)):
            volume[block][place] = number
        self.ask("bounds", volume, [(0, 1, 0), (0, 3, 0), (4, 4, 0), (10, 0, 0), (21, 0, 0), (21, 7, 0)])

    def test_all(self):
        for number in (-1, 10 ** 12):
            volume = [[number] * 8 for block in range(22)]
            self.ask("bounds", volume, [(block, place, 0) for block in range(22) for place in range(8)])

    def test_any_numbers(self):
        for turn in TURNS:
            volume = noisy(LAYOUT, turn)
            due = [(block, place, 0) for block in range(22) for place in range(8)
                   if str(volume[block][place])[0] == "-" or len(str(volume[block][place])) > 12]
            self.assertGreater(len(due), 20)
            self.ask("bounds", volume, due)


class Head(Clause):
    def ask_heads(self, first, second, due):
        for turn in TURNS:
            volume = noisy(LAYOUT, turn)
            volume[0] = list(first)
            volume[1] = list(second)
            self.ask("head", volume, due)

    def test_a_head_by_hand(self):
        self.assertEqual(head(7), [1179, 7, 4, 2, 6, 0, 0, 1243])
        self.ask_heads([1179, 7, 4, 2, 6, 0, 0, 1243], [1179, 7, 4, 2, 6, 0, 0, 1243], [])
        self.ask_heads([1179, 7, 4, 2, 6, 0, 0, 1244], [1179, 7, 4, 2, 6, 0, 0, 1243], [(0, 7, 1243)])

    def test_both_right(self):
        for label in (0, 1, 7, TOP, 123456789):
            self.ask_heads(head(label), head(label), [])

    def test_both_right_with_unlike_labels(self):
        for first, second in ((7, 8), (0, TOP), (TOP, 0), (8, 7)):
            self.ask_heads(head(first), head(second), [(1, 1, first), (1, 7, head(first)[7])])

    def test_labels_with_the_same_check(self):
        self.assertEqual(head(7)[7], head(7 + 1000003)[7])
        self.ask_heads(head(7), head(7 + 1000003), [(1, 1, 7)])
        self.ask_heads(head(7 + 1000003), head(7), [(1, 1, 7 + 1000003)])

    def test_labels_out_of_bounds_are_right_as_they_stand(self):
        for label in (-1, -7, TOP + 1, HUGE, -HUGE):
            self.ask_heads(head(label), head(label), [])
            self.ask_heads(head(label), head(3), [(1, 1, label), (1, 7, head(label)[7])])
            self.ask_heads([0] * 8, head(label), in_order(0, [0] * 8, head(label)))

    def test_another_number_at_each_place_of_block_0(self):
        for place in range(8):
            for number in (-3, HUGE, 11):
                row = head(7)
                row[place] = number
                self.ask_heads(row, head(7), [(0, place, head(7)[place])])
                due = in_order(0, row, head(9)) + in_order(1, head(9), head(9))
                self.ask_heads(row, head(9), due)

    def test_another_number_at_each_place_of_block_1(self):
        for place in range(8):
            for number in (-3, HUGE, 11):
                row = head(7)
                row[place] = number
                self.ask_heads(head(7), row, [(1, place, head(7)[place])])
                self.ask_heads(head(9), row, in_order(1, row, head(9)))

    def test_only_block_1_right(self):
        self.ask_heads(row_of(30), [1179, 7, 4, 2, 6, 0, 0, 1243], [
            (0, 1, 7), (0, 0, 1179), (0, 2, 4), (0, 3, 2), (0, 4, 6), (0, 5, 0), (0, 6, 0), (0, 7, 1243),
        ])
        self.ask_heads([5, 7, 4, 2, 6, HUGE, 0, -1], head(7), [(0, 0, 1179), (0, 5, 0), (0, 7, 1243)])

    def test_neither_right(self):
        due = [1179, 0, 4, 2, 6, 0, 0, 1229]
        self.ask_heads(row_of(30), row_of(1), [
            (0, 1, 0), (0, 0, 1179), (0, 2, 4), (0, 3, 2), (0, 4, 6), (0, 5, 0), (0, 6, 0), (0, 7, 1229),
            (1, 1, 0), (1, 0, 1179), (1, 2, 4), (1, 3, 2), (1, 4, 6), (1, 5, 0), (1, 6, 0), (1, 7, 1229),
        ])
        self.ask_heads([0] * 8, [0] * 8, [
            (block, place, due[place]) for block in (0, 1) for place in (0, 2, 3, 4, 7)
        ])
        self.ask_heads([1179, 7, 4, 2, 6, 0, 1, 1243], [1179, 0, 4, 2, 6, 0, 0, 1228], [
            (0, 1, 0), (0, 6, 0), (0, 7, 1229), (1, 7, 1229),
        ])

    def test_head_rows_in_other_blocks_are_no_heads(self):
        volume = [head(7) for block in range(22)]
        volume[0] = [0] * 8
        volume[1] = [0] * 8
        self.ask("head", volume, in_order(0, [0] * 8, head(0)) + in_order(1, [0] * 8, head(0)))

    def test_a_check_that_is_right_beside_the_remainder(self):
        for other in (1243 + 1000003, 1243 - 1000003):
            row = [1179, 7, 4, 2, 6, 0, 0, other]
            self.ask_heads(row, head(7), [(0, 7, 1243)])

    def test_the_head_of_another_layout(self):
        other = [1179, 7, 5, 2, 6, 0, 0]
        other.append(check(other))
        self.ask_heads(other, head(1), in_order(0, other, head(1)))
        self.ask_heads(other, other, in_order(0, other, head(0)) + in_order(1, other, head(0)))


class Journal(Clause):
    def volume(self, turn, homes, count=None):
        volume = noisy(LAYOUT, turn)
        targets = homes + [0] * (6 - len(homes))
        numbers = [len(homes) if count is None else count] + targets
        # The check is right, whatever else isn't.
        for row in volume[4:4 + max(0, min(6, numbers[0]))]:
            numbers += row
        volume[3] = [numbers[0], check(numbers)] + targets
        return volume

    def due(self, volume, homes):
        told = []
        for row, home in zip(volume[4:10], homes):
            told += in_order(home, volume[home], row, range(8))
        return told + [(3, place, 0) for place in range(8) if volume[3][place] != 0]

    def test_whole(self):
        for turn in TURNS:
            for homes in ([2], [10], [13], [14], [15], [16], [21], [21, 2], [10, 11, 12], [2, 10, 14, 16, 20, 21],
                          [21, 16, 15, 14, 13, 2], [11, 10, 12, 13, 2, 17]):
                volume = self.volume(turn, homes)
                due = self.due(volume, homes)
                self.assertGreater(len(due), 2 + len(homes) * 3)
                self.ask("journal", volume, due)

    def test_whole_by_hand(self):
        for turn in TURNS:
            volume = noisy(LAYOUT, turn)
            volume[3] = [2, 1179, 16, 2, 0, 0, 0, 0]
            volume[4] = [5, 6, 7, 0, 0, 0, 0, 0]
            volume[5] = [0, 0, 0, 0, 0, 0, 0, 43]
            volume[16] = [5, 0, HUGE, 0, 0, 0, 0, -1]
            volume[2] = [0, 0, 0, 0, 3, 0, 0, 44]
            numbers = volume[3][:1] + volume[3][2:] + volume[4] + volume[5]
            volume[3][1] = 2 * 1 + 16 * 2 + 2 * 3 + 5 * 8 + 6 * 9 + 7 * 10 + 43 * 23
            self.assertEqual(volume[3][1], check(numbers))
            self.ask("journal", volume, [
                (16, 1, 6), (16, 2, 7), (16, 7, 0), (2, 4, 0), (2, 7, 43), (3, 0, 0), (3, 1, 0), (3, 2, 0), (3, 3, 0),
            ])

    def test_whole_with_homes_that_are_as_they_should_be(self):
        for turn in TURNS:
            volume = self.volume(turn, [12, 21])
            volume[12] = list(volume[4])
            volume[21] = list(volume[5])
            volume[21][3] += 1
            self.ask("journal", volume, [(21, 3, volume[5][3])] + [(3, place, 0) for place in range(4)])

    def test_not_whole(self):
        for turn in TURNS:
            for homes, count in (([2], 2), ([2], 0), ([2], -1), ([10, 11], 1), ([10, 11], 3), ([2, 10, 11, 12, 13, 14], 7),
                                 ([2], HUGE), ([10, 10], None), ([2, 3], None), ([0], None), ([1], None), ([4], None),
                                 ([9], None), ([22], None), ([-1], None), ([-6], None), ([HUGE], None), ([2, 0, 10], None)):
                volume = self.volume(turn, homes, count)
                self.ask("journal", volume, self.due(volume, []))
                self.assertIn((3, 1, 0), self.due(volume, []))

    def test_not_whole_by_its_check_or_its_rest(self):
        for turn in TURNS:
            for place, number in ((1, 1), (1, 1000003), (1, -1000003), (7, 5), (4, 2), (4, 17)):
                volume = self.volume(turn, [2, 10])
                volume[3][place] += number
                self.ask("journal", volume, self.due(volume, []))
            volume = self.volume(turn, [2, 10])
            volume[5][7] += 1
            self.ask("journal", volume, self.due(volume, []))
            volume = self.volume(turn, [2, 10])
            volume[6][7] += 1
            self.ask("journal", volume, self.due(volume, [2, 10]))

    def test_a_head_of_noughts(self):
        for turn in TURNS:
            volume = noisy(LAYOUT, turn)
            volume[3] = [0] * 8
            self.ask("journal", volume, [])

    def test_the_heads_numbers_by_rising_places(self):
        for turn in TURNS:
            volume = noisy(LAYOUT, turn)
            volume[3] = [0, 1, 0, HUGE, -1, 0, 0, 9]
            self.ask("journal", volume, [(3, 1, 0), (3, 3, 0), (3, 4, 0), (3, 7, 0)])


class Kind(Clause):
    def ask_kinds(self, kinds, due):
        for turn in TURNS:
            volume = noisy(LAYOUT, turn)
            for f, kind in enumerate(kinds):
                volume[10 + f][0] = kind
            self.ask("kind", volume, due)

    def test_the_top(self):
        self.ask_kinds((2, 0, 1, 2), [])
        for kind in (0, 1, 3, -1, -2, TOP, HUGE, -HUGE):
            self.ask_kinds((kind, 0, 1, 2), [(10, 0, 2)])

    def test_the_others(self):
        for kind in (3, 4, -1, -2, TOP, HUGE, -HUGE):
            self.ask_kinds((2, kind, 1, 2), [(11, 0, 0)])
            self.ask_kinds((2, 2, kind, 1), [(12, 0, 0)])
            self.ask_kinds((2, 1, 2, kind), [(13, 0, 0)])

    def test_several(self):
        self.ask_kinds((1, 3, 1, -1), [(10, 0, 2), (11, 0, 0), (13, 0, 0)])
        self.ask_kinds((3, 3, 3, 3), [(10, 0, 2), (11, 0, 0), (12, 0, 0), (13, 0, 0)])
        self.ask_kinds((2, 2, 2, 2), [])
        self.ask_kinds((2, 0, 0, 0), [])


class Size(Clause):
    def ask_sizes(self, records, due):
        for turn in TURNS:
            volume = noisy(LAYOUT, turn)
            for f, (kind, size) in enumerate(records):
                volume[10 + f][:2] = [kind, size]
            self.ask("size", volume, due)

    def test_of_files(self):
        for size in (0, 1, 24, 25, 87, 88):
            self.ask_sizes(((2, -1), (1, size), (1, size), (1, size)), [])
        for size in (-1, 89, -88, TOP, HUGE, -HUGE):
            self.ask_sizes(((2, -1), (1, size), (1, 88), (1, 0)), [(11, 1, 88)])
            self.ask_sizes(((2, 0), (1, 0), (1, 88), (1, size)), [(13, 1, 88)])

    def test_several(self):
        self.ask_sizes(((1, -1), (1, 89), (2, 89), (1, -1)), [(11, 1, 88), (13, 1, 88)])
        self.ask_sizes(((1, 89), (1, 89), (1, -1), (1, HUGE)), [(11, 1, 88), (12, 1, 88), (13, 1, 88)])

    def test_of_files_alone(self):
        for kind in (0, 2, 3, -1, HUGE, -HUGE):
            self.ask_sizes(((kind, -1), (kind, -1), (kind, 89), (kind, HUGE)), [])
        for kind in (0, 1, 2, 3):
            self.ask_sizes(((kind, 89), (0, 89), (2, -1), (3, 89)), [])


if __name__ == "__main__":
    unittest.main()
