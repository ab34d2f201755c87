import copy
import unittest

from volumemend import errors
from volumemend.layout import Layout, check_form, empty
from volumemend.texts import read_volume, shown

LONG = 10 ** 40 - 1

VOLUME = [
    [1179, 7, 2, 1, 2, 0, 0, 1213],
    [1179, 7, 2, 1, 2, 0, 0, 1213],
    [1, 0, 0, 0, 0, 0, 0, 0],
    [0, 0, 0, 0, 0, 0, 0, 0],
    [1, -1, 10, -10, 100, -100, 9, -9],
    [LONG, -LONG, 10 ** 39, -(10 ** 39), 0, 0, 0, 0],
    [0, 0, 0, 0, 0, 0, 0, LONG],
    [-LONG, 0, 0, 0, 0, 0, 0, 0],
    [0, 0, 0, 0, 0, 0, 0, 0],
    [0, 0, 0, 0, 0, 0, 0, 0],
    [2, 0, 0, 0, 0, 0, 0, 0],
    [1, 3, 1, 0, 13, 0, 0, 0],
    [1, 0, 5, 1, 0, 0, 0, 0],
    [999999999999, 1000000000000, 12, 0, 0, 0, 0, 0],
    [0, 0, 0, 0, 0, 0, 0, 0],
]

NINES = "9" * 40
ROUND = "1" + "0" * 39

TEXT = (
    "volume 2 1 2\n"
    "1179 7 2 1 2 0 0 1213\n"
    "1179 7 2 1 2 0 0 1213\n"
    "1 0 0 0 0 0 0 0\n"
    "0 0 0 0 0 0 0 0\n"
    "1 -1 10 -10 100 -100 9 -9\n"
    f"{NINES} -{NINES} {ROUND} -{ROUND} 0 0 0 0\n"
    f"0 0 0 0 0 0 0 {NINES}\n"
    f"-{NINES} 0 0 0 0 0 0 0\n"
    "0 0 0 0 0 0 0 0\n"
    "0 0 0 0 0 0 0 0\n"
    "2 0 0 0 0 0 0 0\n"
    "1 3 1 0 13 0 0 0\n"
    "1 0 5 1 0 0 0 0\n"
    "999999999999 1000000000000 12 0 0 0 0 0\n"
    "0 0 0 0 0 0 0 0\n"
)

ROWS = TEXT.split("\n")[:-1]
# Row 0 and a row for each of the fifteen blocks.
DUE = 16

BAD_NUMBERS = (
    "00", "01", "007", "-01", "+1", "+0", "-0", "-", "--1", "1-", "1" + "0" * 40, "-1" + "0" * 40, "0" * 41,
    "1_0", "_1", "1.0", "1e3", "0x1", "a", "True", "\u0661", "\u00b2", "\uff11", "1\u00a0", "1\t", "\t1", "1\r",
    "\r1", "1,", "1\u2028", "1\x0b", "1\x0c", "1\x00", "\u22121",
)


def text_of(rows):
    return "".join([row + "\n" for row in rows])


def with_rows(changes):
    rows = list(ROWS)
    for at, row in changes.items():
        rows[at] = row
    return text_of(rows)


class Shown(unittest.TestCase):
    def test_the_whole_text(self):
        volume = copy.deepcopy(VOLUME)
        text = shown(Layout(2, 1, 2), volume)
        self.assertIs(type(text), str)
        self.assertEqual(text, TEXT)
        self.assertEqual(volume, VOLUME)
        self.assertEqual(shown(Layout(2, 1, 2), volume), TEXT)

    def test_the_first_row_tells_the_layout(self):
        for numbers in ((2, 1, 2), (12, 8, 40), (5, 3, 9)):
            layout = Layout(*numbers)
            rows = shown(layout, empty(layout)).split("\n")
            self.assertEqual(rows[0], "volume %d %d %d" % numbers)
            self.assertEqual(len(rows), 10 + sum(numbers) + 2)
            self.assertEqual(rows[-1], "")

    def test_a_volume_changed_later(self):
        layout = Layout(2, 1, 2)
        volume = copy.deepcopy(VOLUME)
        text = shown(layout, volume)
        volume[3][7] = -5
        self.assertEqual(text, TEXT)
        self.assertEqual(shown(layout, volume), with_rows({4: "0 0 0 0 0 0 0 -5"}))


class ReadVolume(unittest.TestCase):
    def test_the_same_layout_and_rows(self):
        told = read_volume(TEXT)
        self.assertIs(type(told), tuple)
        self.assertEqual(len(told), 2)
        layout, volume = told
        self.assertIsInstance(layout, Layout)
        self.assertEqual((layout.files, layout.slots, layout.data), (2, 1, 2))
        self.assertEqual(volume, VOLUME)
        self.assertIs(type(volume), list)
        for row in volume:
            self.assertIs(type(row), list)
            self.assertEqual([type(number) for number in row], [int] * 8)

    def test_there_and_back_for_other_layouts(self):
        for numbers in ((2, 1, 2), (12, 8, 40), (5, 3, 9), (12, 1, 2), (2, 8, 40)):
            layout = Layout(*numbers)
            volume = [[(-3) ** (block + place) for place in range(8)] for block in range(layout.many())]
            told, again = read_volume(shown(layout, volume))
            self.assertEqual((told.files, told.slots, told.data), numbers)
            self.assertEqual(again, volume)
            self.assertIsNone(check_form(told, again))
            self.assertEqual(shown(told, again), shown(layout, volume))

    def test_forty_figures_but_not_more(self):
        for word, number in (("9" * 40, LONG), ("-" + "9" * 40, -LONG), ("1" + "0" * 39, 10 ** 39)):
            for place in range(8):
                words = ["0"] * 8
                words[place] = word
                volume = read_volume(with_rows({15: " ".join(words)}))[1]
                self.assertEqual(volume[14], [number if at == place else 0 for at in range(8)])

    def test_each_row_is_a_list_of_its_own(self):
        volume = read_volume(TEXT)[1]
        volume[3][0] = 77
        volume[8].append(78)
        for block in (0, 1, 2, 4, 5, 6, 7, 9, 10, 11, 12, 13, 14):
            self.assertEqual(volume[block], VOLUME[block])
        volume.clear()
        self.assertEqual(read_volume(TEXT)[1], VOLUME)


class NoTexts(unittest.TestCase):
    def assert_no_text(self, text, at):
        with self.subTest(text=text):
            with self.assertRaises(errors.NoText) as caught:
                read_volume(text)
            self.assertEqual(caught.exception.at, at)
            self.assertIs(type(caught.exception.at), int)
            self.assertIsInstance(caught.exception, errors.VolumeError)
            others = [other for other in errors.VolumeError.__subclasses__() if other is not errors.NoText]
            self.assertEqual(len(others), 12)
            self.assertNotIsInstance(caught.exception, tuple(others))

    def test_the_text_without_signs(self):
        self.assert_no_text("", 0)

    def test_line_ends_alone(self):
        self.assert_no_text("\n", 0)
        self.assert_no_text("\n" * DUE, 0)
        self.assert_no_text("\n" + TEXT, 0)

    def test_a_row_left_out(self):
        self.assert_no_text(text_of(ROWS[1:]), 0)
        for at in range(1, DUE):
            self.assert_no_text(text_of(ROWS[:at] + ROWS[at + 1:]), DUE - 1)

    def test_only_the_first_rows(self):
        for many in range(DUE):
            self.assert_no_text(text_of(ROWS[:many]), many)

    def test_a_row_told_twice(self):
        self.assert_no_text(text_of(ROWS[:1] + ROWS), 1)
        for at in range(1, DUE):
            self.assert_no_text(text_of(ROWS[:at + 1] + ROWS[at:]), DUE)

    def test_a_row_of_no_signs(self):
        for at in range(DUE):
            self.assert_no_text(with_rows({at: ""}), at)
            self.assert_no_text(text_of(ROWS[:at] + [""] + ROWS[at:]), at)

    def test_rows_too_many(self):
        for row in ("0 0 0 0 0 0 0 0", "", "x", "volume 2 1 2"):
            self.assert_no_text(TEXT + row + "\n", DUE)
            self.assert_no_text(TEXT + (row + "\n") * 3, DUE)
            self.assert_no_text(TEXT + row + "\nx", DUE)
        self.assert_no_text(TEXT + TEXT, DUE)

    def test_the_last_line_end_left_out(self):
        self.assert_no_text(TEXT[:-1], DUE - 1)
        for many in range(1, DUE):
            self.assert_no_text(text_of(ROWS[:many])[:-1], many - 1)

    def test_signs_behind_the_last_line_end(self):
        for signs in ("0", "0 0 0 0 0 0 0 0", " ", "x", "\r", "\t", "\x00"):
            self.assert_no_text(TEXT + signs, DUE)
            for many in range(DUE):
                self.assert_no_text(text_of(ROWS[:many]) + signs, many)

    def test_numbers_not_written_so(self):
        for word in BAD_NUMBERS + ("",):
            for place in range(8):
                words = ["0"] * 8
                words[place] = word
                for at in (1, 9, 15):
                    self.assert_no_text(with_rows({at: " ".join(words)}), at)

    def test_numbers_of_the_first_row_not_written_so(self):
        for word in BAD_NUMBERS + ("02", "+2", "\u0662", "2\r", "2_", "2\t"):
            for place in range(1, 4):
                words = ["volume", "2", "1", "2"]
                words[place] = word
                self.assert_no_text(with_rows({0: " ".join(words)}), 0)

    def test_blanks(self):
        good = "1 2 3 4 5 6 7 8"
        for row in (" " + good, good + " ", "1  2 3 4 5 6 7 8", "1 2 3 4 5 6 7  8", "1\t2 3 4 5 6 7 8", good + "\t",
                    good + "\r", "\r" + good, "1 2 3 4\r5 6 7 8", "1 2 3 4\u00a05 6 7 8", "12345678", " " * 7, " "):
            for at in (1, 4, 15):
                self.assert_no_text(with_rows({at: row}), at)
        for row in (" volume 2 1 2", "volume 2 1 2 ", "volume  2 1 2", "volume 2 1  2", "volume\t2 1 2", "volume 2 1 2\r"):
            self.assert_no_text(with_rows({0: row}), 0)

    def test_carriage_returns_all_along(self):
        self.assert_no_text(TEXT.replace("\n", "\r\n"), 0)
        self.assert_no_text(TEXT.replace("\n", "\r"), 0)
        self.assert_no_text(ROWS[0] + "\n" + text_of(ROWS[1:]).replace("\n", "\r\n"), 1)

    def test_other_signs_that_end_a_row_elsewhere(self):
        for sign in ("\x0b", "\x0c", "\x1c", "\x85", "\u2028", "\u2029"):
            self.assert_no_text(sign.join(ROWS) + "\n", 0)
            self.assert_no_text(with_rows({5: ROWS[5] + sign}), 5)

    def test_seven_or_nine_numbers(self):
        for row in ("1 2 3 4 5 6 7", "1 2 3 4 5 6 7 8 9", "1", "0 " * 15 + "0"):
            for at in range(1, DUE):
                self.assert_no_text(with_rows({at: row}), at)

    def test_the_first_row(self):
        for row in ("Volume 2 1 2", "VOLUME 2 1 2", "volum 2 1 2", "volumes 2 1 2", "2 1 2", "2 1 2 volume", "volume",
                    "volume ", "volume 2", "volume 2 1", "volume 2 1 2 0", "volume2 1 2", "volume 2 1 volume",
                    " 2 1 2", "0 2 1 2", "v\u043elume 2 1 2", ROWS[1]):
            self.assert_no_text(with_rows({0: row}), 0)

    def test_layouts_that_would_be_refused(self):
        for numbers in ((1, 1, 2), (13, 1, 2), (2, 0, 2), (2, 9, 2), (2, 1, 1), (2, 1, 41), (-2, 1, 2), (2, -1, 2),
                        (2, 1, -2), (0, 0, 0), (LONG, 1, 2), (2, LONG, 2), (2, 1, -LONG)):
            row = "volume %d %d %d" % numbers
            self.assert_no_text(with_rows({0: row}), 0)
            self.assert_no_text(row + "\n", 0)
            self.assert_no_text(row, 0)
            self.assert_no_text(row + "\n" + "0 0 0 0 0 0 0 0\n" * max(0, min(80, 10 + sum(numbers))), 0)

    def test_another_layout_asks_for_other_rows(self):
        for row in ("volume 3 1 2", "volume 2 2 2", "volume 2 1 3"):
            self.assert_no_text(with_rows({0: row}), DUE)
        self.assert_no_text("volume 2 1 3\n" + "0 0 0 0 0 0 0 0\n" * 17, DUE + 1)
        self.assertEqual(read_volume("volume 2 1 3\n" + "0 0 0 0 0 0 0 0\n" * 16)[1], [[0] * 8] * 16)

    def test_of_several_the_least(self):
        self.assert_no_text(with_rows({3: "x", 9: ""}), 3)
        self.assert_no_text(with_rows({0: "volume 1 1 2", 9: ""}), 0)
        self.assert_no_text(with_rows({15: "x"}) + "0 0 0 0 0 0 0 0\n", 15)
        self.assert_no_text(with_rows({15: "x"}) + "0", 15)
        self.assert_no_text(TEXT + "0 0 0 0 0 0 0 0\n0 0 0 0 0 0 0 0\n0", DUE)
        self.assert_no_text(text_of(ROWS[:5] + ["00 0 0 0 0 0 0 0"]), 5)
        self.assert_no_text(text_of(ROWS[:5] + ["00 0 0 0 0 0 0 0"]) + "0", 5)
        self.assert_no_text(text_of(ROWS[:5]) + "00 0 0 0 0 0 0 0", 5)
        self.assert_no_text("volume 2 1\nx", 0)
        self.assert_no_text("volume 2 1 2\nx", 1)
        self.assert_no_text("volume 2 1 2\nx\n", 1)


if __name__ == "__main__":
    unittest.main()
