import unittest

from volumemend.layout import Layout
from volumemend.maps import claimed_of, free_of, map_row

DATA = (2, 20, 21, 40)
# For each number of data blocks, the map that tells all of them.
ALL = {
    2: [3, 0, 0, 0, 0, 0, 0, 0],
    20: [1048575, 0, 0, 0, 0, 0, 0, 0],
    21: [1048575, 1, 0, 0, 0, 0, 0, 0],
    40: [1048575, 1048575, 0, 0, 0, 0, 0, 0],
}


def blocks_of(layout, places):
    return [layout.data_at(place) for place in places]


def some_places(data):
    last = data - 1
    return [[0], [last], [0, last], list(range(0, data, 2)), list(range(1, data, 2)), list(range(last // 2, data))]


def row_by_hand(places):
    row = [0] * 8
    for place in places:
        row[place // 20] |= 2 ** (place % 20)
    return row


class MapRow(unittest.TestCase):
    def assert_map(self, layout, blocks, due):
        before = list(blocks)
        row = map_row(layout, blocks)
        self.assertIs(type(row), list)
        self.assertEqual(row, due)
        self.assertEqual([type(number) for number in row], [int] * 8)
        self.assertEqual(blocks, before)

    def test_the_documents_own(self):
        layout = Layout(2, 1, 3)
        self.assertEqual(blocks_of(layout, range(3)), [13, 14, 15])
        self.assert_map(layout, [13, 15], [5, 0, 0, 0, 0, 0, 0, 0])
        self.assertEqual(claimed_of(layout, [5, 0, 0, 0, 0, 0, 0, 0]), [13, 15])
        self.assertEqual(free_of(layout, [5, 0, 0, 0, 0, 0, 0, 0]), [14])

    def test_no_blocks(self):
        for data in DATA:
            self.assert_map(Layout(3, 2, data), [], [0] * 8)

    def test_all_blocks(self):
        for data in DATA:
            layout = Layout(3, 2, data)
            self.assert_map(layout, blocks_of(layout, range(data)), ALL[data])

    def test_each_block_alone(self):
        for data in DATA:
            layout = Layout(12, 8, data)
            for place in range(data):
                self.assert_map(layout, [layout.data_at(place)], row_by_hand([place]))

    def test_the_edges_of_a_number(self):
        layout = Layout(2, 1, 40)
        for places, due in (([19], [524288, 0]), ([20], [0, 1]), ([19, 20], [524288, 1]), ([39], [0, 524288])):
            self.assert_map(layout, blocks_of(layout, places), due + [0] * 6)

    def test_some_twice(self):
        for data in DATA:
            layout = Layout(3, 2, data)
            blocks = blocks_of(layout, range(data))
            self.assert_map(layout, blocks + blocks, ALL[data])
            self.assert_map(layout, [blocks[-1]] * 3, row_by_hand([data - 1]))
            self.assert_map(layout, [blocks[0], blocks[1], blocks[0]], [3, 0, 0, 0, 0, 0, 0, 0])

    def test_in_any_order(self):
        for data in DATA:
            layout = Layout(3, 2, data)
            blocks = blocks_of(layout, range(data))
            self.assert_map(layout, blocks[::-1], ALL[data])
            self.assert_map(layout, blocks[1:] + blocks[:1], ALL[data])

    def test_each_row_told_is_a_new_one(self):
        layout = Layout(3, 2, 20)
        blocks = blocks_of(layout, [0, 3])
        for handed in ([], blocks):
            first = map_row(layout, handed)
            before = list(first)
            first[0] = 77
            first.append(78)
            self.assertEqual(map_row(layout, handed), before)
        row = map_row(layout, blocks)
        blocks.clear()
        self.assertEqual(row, [9, 0, 0, 0, 0, 0, 0, 0])


class ClaimedAndFree(unittest.TestCase):
    def test_of_all_these_maps(self):
        for data in DATA:
            layout = Layout(5, 3, data)
            for places in [[], list(range(data))] + some_places(data):
                with self.subTest(data=data, places=places):
                    row = row_by_hand(places)
                    before = list(row)
                    claimed = claimed_of(layout, row)
                    free = free_of(layout, row)
                    self.assertEqual(claimed, blocks_of(layout, places))
                    self.assertEqual(free, [block for block in blocks_of(layout, range(data)) if block not in claimed])
                    self.assertEqual((type(claimed), type(free)), (list, list))
                    self.assertEqual(row, before)
                    self.assertEqual(map_row(layout, claimed), row)

    def test_nothing_and_all(self):
        layout = Layout(2, 1, 2)
        self.assertEqual(claimed_of(layout, [0] * 8), [])
        self.assertEqual(free_of(layout, [0] * 8), [13, 14])
        self.assertEqual(claimed_of(layout, [3, 0, 0, 0, 0, 0, 0, 0]), [13, 14])
        self.assertEqual(free_of(layout, [3, 0, 0, 0, 0, 0, 0, 0]), [])

    def test_what_is_told_and_changed_changes_nothing(self):
        layout = Layout(2, 1, 21)
        row = row_by_hand([2, 20])
        for asked, due in ((claimed_of, [15, 33]), (free_of, blocks_of(layout, [0, 1] + list(range(3, 20))))):
            told = asked(layout, row)
            self.assertEqual(told, due)
            told[0] = 99
            told.append(98)
            self.assertEqual(asked(layout, row), due)
            self.assertEqual(row, [4, 1, 0, 0, 0, 0, 0, 0])

    def test_the_list_handed_in_and_changed_changes_nothing_told(self):
        layout = Layout(2, 1, 2)
        row = [1, 0, 0, 0, 0, 0, 0, 0]
        told = (claimed_of(layout, row), free_of(layout, row))
        row[0] = 2
        self.assertEqual(told, ([13], [14]))
        self.assertEqual((claimed_of(layout, row), free_of(layout, row)), ([14], [13]))


if __name__ == "__main__":
    unittest.main()
