"""A volume's text: how it is written, and which texts are one."""

from volumemend.errors import NoLayout, NoText
from volumemend.layout import WIDE, Layout

WORD = "volume"
FIGURES = "0123456789"
# How many figures a number is written with at the most.
LONGEST = 40


def written(numbers):
    return " ".join([str(number) for number in numbers])


def shown(layout, volume):
    first = WORD + " " + written([layout.files, layout.slots, layout.data])
    rows = [first] + [written(row) for row in volume]
    return "".join([row + "\n" for row in rows])


def is_written(word):
    figures = word[1:] if word.startswith("-") else word
    if not 1 <= len(figures) <= LONGEST:
        return False
    # Python's own reading lets figures of other scripts by, and underscores among them.
    if not all([sign in FIGURES for sign in figures]):
        return False
    return word == "0" or not figures.startswith("0")


def numbers_of(words, many):
    if len(words) != many or not all([is_written(word) for word in words]):
        return None
    return [int(word) for word in words]


def read_layout(row):
    words = row.split(" ")
    numbers = numbers_of(words[1:], 3)
    if words[0] != WORD or numbers is None:
        raise NoText(0)
    try:
        return Layout(numbers[0], numbers[1], numbers[2])
    except NoLayout:
        raise NoText(0) from None


def read_rows(rows):
    volume = []
    # The row ahead of these, row 0, is the layout's.
    for at, row in enumerate(rows, start=1):
        numbers = numbers_of(row.split(" "), WIDE)
        if numbers is None:
            raise NoText(at)
        volume.append(numbers)
    return volume


def read_volume(text):
    rows = text.split("\n")
    behind = rows.pop()
    if len(rows) == 0:
        raise NoText(0)
    layout = read_layout(rows[0])
    due = 1 + layout.many()
    # The rows themselves are asked first: one that is not so has a lesser number than what lacks or is too many.
    volume = read_rows(rows[1:due])
    if len(rows) != due or behind != "":
        raise NoText(min(len(rows), due))
    return (layout, volume)
