import unittest

from volumemend.heads import check_of, head_row
from volumemend.layout import TOP, Layout

FORTY_FIGURES = 10 ** 40 - 1


class CheckOf(unittest.TestCase):
    def test_no_numbers(self):
        self.assertEqual(check_of([]), 0)

    def test_one_number(self):
        for number, check in ((0, 0), (5, 5), (1000002, 1000002), (1000003, 0), (1000004, 1), (TOP, 8)):
            with self.subTest(number=number):
                self.assertEqual(check_of([number]), check)

    def test_places_count_from_one(self):
        self.assertEqual(check_of([10, 20]), 50)
        self.assertEqual(check_of([20, 10]), 40)
        self.assertEqual(check_of([0, 0, 7]), 21)

    def test_below_nought_the_remainder_is_from_nought_on(self):
        self.assertEqual(check_of([-1]), 1000002)
        self.assertEqual(check_of([0, -1]), 1000001)
        self.assertEqual(check_of([-1000003]), 0)
        self.assertEqual(check_of([3, -1]), 1)

    def test_forty_numbers_and_more(self):
        self.assertEqual(check_of([1] * 40), 820)
        self.assertEqual(check_of([0] * 54 + [2]), 110)
        self.assertEqual(check_of([1] * 2000), 2001000 - 2 * 1000003)

    def test_numbers_of_forty_figures(self):
        # 10 ** 6 is -3 modulo 1000003, so 10 ** 40 is (-3) ** 6 * 10 ** 4, which is 7290000.
        remainder = 7290000 - 7 * 1000003 - 1
        self.assertEqual(check_of([FORTY_FIGURES]), remainder)
        self.assertEqual(check_of([-FORTY_FIGURES]), 1000003 - remainder)
        self.assertEqual(check_of([0, FORTY_FIGURES]), 2 * remainder)
        self.assertEqual(check_of([FORTY_FIGURES, 0, -FORTY_FIGURES]), 1000003 - 2 * remainder)

    def test_what_is_handed_in_stays(self):
        numbers = [3, -4, 10 ** 39]
        self.assertEqual(check_of(numbers), check_of(numbers))
        self.assertEqual(numbers, [3, -4, 10 ** 39])


class HeadRow(unittest.TestCase):
    def test_all_eight_numbers(self):
        # 2 * TOP is 2 * (-3) ** 2 - 2, so 16, modulo 1000003.
        for numbers, label, check in (
            ((2, 1, 2), 0, 1199),
            ((2, 1, 2), TOP, 1215),
            ((12, 8, 40), 0, 1447),
            ((12, 8, 40), TOP, 1463),
            ((5, 3, 17), 0, 1291),
            ((5, 3, 17), TOP, 1307),
            ((5, 3, 17), 7, 1305),
        ):
            with self.subTest(numbers=numbers, label=label):
                row = head_row(Layout(*numbers), label)
                self.assertIs(type(row), list)
                self.assertEqual(row, [1179, label, *numbers, 0, 0, check])

    def test_a_check_beyond_the_modulus(self):
        self.assertEqual(head_row(Layout(2, 1, 2), 500000), [1179, 500000, 2, 1, 2, 0, 0, 1196])

    def test_each_row_told_is_a_new_one(self):
        layout = Layout(2, 1, 2)
        row = head_row(layout, 4)
        row[0] = 99
        row.append(1)
        self.assertEqual(head_row(layout, 4), [1179, 4, 2, 1, 2, 0, 0, 1207])
        self.assertEqual((layout.files, layout.slots, layout.data), (2, 1, 2))


if __name__ == "__main__":
    unittest.main()
