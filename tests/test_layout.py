import copy
import unittest

from volumemend import errors
from volumemend.layout import MOST, TOP, WIDE, Layout, check_form, empty

BOUNDS = ((2, 12), (1, 8), (2, 40))
MIDDLE = (5, 3, 9)
LAYOUTS = ((2, 1, 2), (12, 8, 40), MIDDLE, (2, 8, 2), (12, 1, 2), (2, 1, 40))
FAR = 10 ** 30


def with_number(place, number):
    numbers = list(MIDDLE)
    numbers[place] = number
    return tuple(numbers)


def all_layouts():
    ranges = [range(least, greatest + 1) for least, greatest in BOUNDS]
    return [(f, e, b) for f in ranges[0] for e in ranges[1] for b in ranges[2]]


class Values(unittest.TestCase):
    def test_the_three_values(self):
        self.assertEqual((TOP, MOST, WIDE), (10 ** 12 - 1, 88, 8))


class Bounds(unittest.TestCase):
    def assert_no_layout(self, numbers):
        with self.subTest(numbers=numbers):
            with self.assertRaises(errors.NoLayout) as caught:
                Layout(*numbers)
            self.assertIsInstance(caught.exception, errors.VolumeError)
            self.assertIsInstance(caught.exception, ValueError)
            others = [other for other in errors.VolumeError.__subclasses__() if other is not errors.NoLayout]
            self.assertEqual(len(others), 12)
            self.assertNotIsInstance(caught.exception, tuple(others))

    def test_the_least_and_the_greatest_are_let_by(self):
        for place, bounds in enumerate(BOUNDS):
            for number in bounds:
                numbers = with_number(place, number)
                with self.subTest(numbers=numbers):
                    layout = Layout(*numbers)
                    self.assertEqual((layout.files, layout.slots, layout.data), numbers)

    def test_beyond_the_bounds(self):
        for place, (least, greatest) in enumerate(BOUNDS):
            for number in (least - 1, greatest + 1, 0, -1, -least, -greatest, FAR, -FAR):
                self.assert_no_layout(with_number(place, number))

    def test_a_number_too_long_to_be_written(self):
        for place in range(3):
            for number in (10 ** 5000, -10 ** 5000):
                with self.assertRaises(errors.NoLayout):
                    Layout(*with_number(place, number))

    def test_several_numbers_beyond(self):
        for numbers in ((0, 0, 0), (13, 9, 41), (1, 9, 2), (FAR, FAR, FAR)):
            self.assert_no_layout(numbers)


class Numbering(unittest.TestCase):
    def test_every_layout(self):
        for f, e, b in all_layouts():
            layout = Layout(f, e, b)
            self.assertEqual((layout.files, layout.slots, layout.data), (f, e, b))
            self.assertEqual(layout.many(), 10 + f + e + b)
            numbers = [layout.record_at(place) for place in range(f)]
            numbers += [layout.names_at(place) for place in range(e)]
            numbers += [layout.data_at(place) for place in range(b)]
            self.assertEqual(numbers, list(range(10, 10 + f + e + b)))

    def test_by_hand(self):
        layout = Layout(5, 3, 9)
        self.assertEqual(layout.many(), 27)
        self.assertEqual((layout.record_at(0), layout.record_at(4)), (10, 14))
        self.assertEqual((layout.names_at(0), layout.names_at(2)), (15, 17))
        self.assertEqual((layout.data_at(0), layout.data_at(8)), (18, 26))


class Kinds(unittest.TestCase):
    def test_of_every_block(self):
        for f, e, b in LAYOUTS:
            layout = Layout(f, e, b)
            kinds = ["", "", "home", "", "", "", "", "", "", ""] + ["home"] * (f + e) + ["data"] * b
            for number, kind in enumerate(kinds):
                with self.subTest(layout=(f, e, b), number=number):
                    self.assertIs(layout.is_data(number), kind == "data")
                    self.assertIs(layout.is_home(number), kind in ("home", "data"))

    def test_of_numbers_that_no_block_has(self):
        for numbers in LAYOUTS:
            layout = Layout(*numbers)
            behind = 10 + sum(numbers)
            for number in (-1, -2, -10, -behind, 1 - behind, behind, behind + 1, TOP, FAR, -FAR):
                with self.subTest(layout=numbers, number=number):
                    self.assertIs(layout.is_data(number), False)
                    self.assertIs(layout.is_home(number), False)


class CheckForm(unittest.TestCase):
    def setUp(self):
        self.layout = Layout(2, 1, 2)
        self.volume = [[block * 10 + place for place in range(8)] for block in range(15)]

    def assert_form(self, volume, layout=None):
        before = copy.deepcopy(volume)
        self.assertIsNone(check_form(layout or self.layout, volume))
        self.assertEqual(volume, before)

    def assert_refused(self, volume, at, layout=None):
        before = copy.deepcopy(volume)
        with self.assertRaises(errors.NoVolume) as caught:
            check_form(layout or self.layout, volume)
        self.assertEqual(caught.exception.at, at)
        self.assertIs(type(caught.exception.at), int)
        self.assertNotIsInstance(caught.exception, errors.NoLayout)
        self.assertEqual(volume, before)
        self.assertEqual(repr(volume), repr(before))

    def with_rows(self, rows):
        volume = copy.deepcopy(self.volume)
        for at, row in rows.items():
            volume[at] = row
        return volume

    def test_volumes(self):
        self.assert_form(self.volume)
        for numbers in LAYOUTS:
            layout = Layout(*numbers)
            self.assert_form([[0] * 8 for block in range(10 + sum(numbers))], layout)

    def test_any_whole_numbers_are_let_by(self):
        greatest = 10 ** 40 - 1
        for number in (greatest, -greatest, 10 ** 39, -1, TOP + 1, 0):
            for place in range(8):
                volume = copy.deepcopy(self.volume)
                volume[0][place] = number
                volume[14][place] = number
                self.assert_form(volume)
        self.assert_form([[-greatest] * 8 for block in range(15)])

    def test_too_few_and_too_many_rows(self):
        self.assert_refused(self.volume[:-1], -1)
        self.assert_refused(self.volume[1:], -1)
        self.assert_refused(self.volume + [[0] * 8], -1)
        self.assert_refused([], -1)
        self.assert_refused(self.volume * 2, -1)

    def test_the_number_of_rows_is_asked_first(self):
        self.assert_refused(self.volume[:-2] + [None], -1)
        self.assert_refused([[]] + self.volume, -1)

    def test_the_number_of_rows_hangs_on_the_layout(self):
        self.assert_refused(self.volume, -1, Layout(3, 1, 2))
        self.assert_refused(self.volume, -1, Layout(2, 2, 2))
        self.assert_refused(self.volume, -1, Layout(2, 1, 3))

    def test_rows_that_are_none(self):
        good = [1, 2, 3, 4, 5, 6, 7, 8]
        for row in (good[:7], good + [9], [], good * 2, tuple(good), "12345678", None, 8, {}, dict.fromkeys(good)):
            for at in range(15):
                with self.subTest(row=row, at=at):
                    self.assert_refused(self.with_rows({at: row}), at)

    def test_numbers_that_are_none(self):
        for value in (True, False, None, "1", "", [], [1], (1,), {}):
            for place in range(8):
                for at in (0, 2, 10, 12, 14):
                    with self.subTest(value=value, place=place, at=at):
                        row = [0] * 8
                        row[place] = value
                        self.assert_refused(self.with_rows({at: row}), at)

    def test_of_several_rows_the_first_one(self):
        self.assert_refused(self.with_rows({3: [0] * 7, 9: [0] * 9}), 3)
        self.assert_refused(self.with_rows({13: None, 4: [True] * 8}), 4)
        self.assert_refused(self.with_rows({14: (), 0: [0] * 7 + [None]}), 0)


class Empty(unittest.TestCase):
    def test_all_numbers(self):
        head = [1179, 0, 2, 1, 2, 0, 0, 1199]
        nought = [0] * 8
        top = [2, 0, 0, 0, 0, 0, 0, 0]
        self.assertEqual(empty(Layout(2, 1, 2)), [head, head] + [nought] * 8 + [top] + [nought] * 4)

    def test_with_a_label(self):
        for label, check in ((0, 1447), (1, 1449), (TOP, 1463)):
            for volume in (empty(Layout(12, 8, 40), label), empty(Layout(12, 8, 40), label=label)):
                head = [1179, label, 12, 8, 40, 0, 0, check]
                self.assertEqual(volume[:2], [head, head])
                self.assertEqual(volume[2:10], [[0] * 8] * 8)
                self.assertEqual(volume[10], [2, 0, 0, 0, 0, 0, 0, 0])
                self.assertEqual(volume[11:], [[0] * 8] * 59)

    def test_it_is_a_volume_of_its_layout(self):
        for numbers in LAYOUTS:
            layout = Layout(*numbers)
            self.assertIs(type(empty(layout)), list)
            self.assertIsNone(check_form(layout, empty(layout)))
            self.assertIsNone(check_form(layout, empty(layout, TOP)))

    def test_each_row_is_a_list_of_its_own(self):
        layout = Layout(2, 1, 2)
        before = copy.deepcopy(empty(layout, 3))
        for changed in range(layout.many()):
            volume = empty(layout, 3)
            volume[changed][0] = 77
            volume[changed].append(78)
            for block, row in enumerate(volume):
                if block != changed:
                    self.assertEqual(row, before[block])
            self.assertEqual(empty(layout, 3), before)

    def test_each_volume_is_a_list_of_its_own(self):
        layout = Layout(2, 1, 2)
        volume = empty(layout)
        volume.clear()
        self.assertEqual(len(empty(layout)), 15)
        self.assertEqual((layout.files, layout.slots, layout.data), (2, 1, 2))


if __name__ == "__main__":
    unittest.main()
