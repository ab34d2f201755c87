"""Layouts: how many blocks a volume has, which number each one bears, and what a volume of a layout is."""

from volumemend.errors import NoLayout, NoVolume
from volumemend.heads import head_row

# The greatest number that a sound volume has: 10 ** 12 - 1.
TOP = 999999999999
# How many numbers a file holds at the most.
MOST = 88
# How many numbers a block has.
WIDE = 8

MAP_AT = 2
# Ahead of the records lie two heads, the map, the journal's head and its six rows.
RECORDS_AT = 10
EMPTY_TOP = (2, 0, 0, 0, 0, 0, 0, 0)


class Layout:
    def __init__(self, files, slots, data):
        # The words name no number handed in: one of some thousand figures can't be written as a text.
        if not 2 <= files <= 12:
            raise NoLayout("a layout has 2 to 12 records")
        if not 1 <= slots <= 8:
            raise NoLayout("a layout has 1 to 8 blocks of names")
        if not 2 <= data <= 40:
            raise NoLayout("a layout has 2 to 40 data blocks")
        self.files = files
        self.slots = slots
        self.data = data

    def many(self):
        return self.data_at(self.data)

    def record_at(self, f):
        return RECORDS_AT + f

    def names_at(self, e):
        return self.record_at(self.files) + e

    def data_at(self, i):
        return self.names_at(self.slots) + i

    def is_data(self, number):
        return self.data_at(0) <= number < self.many()

    def is_home(self, number):
        return number == MAP_AT or RECORDS_AT <= number < self.many()


def is_number(value):
    # Python counts a truth as an int; a volume doesn't.
    return isinstance(value, int) and not isinstance(value, bool)


def is_row(value):
    if not isinstance(value, list) or len(value) != WIDE:
        return False
    return all([is_number(number) for number in value])


def check_form(layout, volume):
    if len(volume) != layout.many():
        raise NoVolume(-1)
    for at, row in enumerate(volume):
        if not is_row(row):
            raise NoVolume(at)


def empty(layout, label=0):
    volume = [[0] * WIDE for block in range(layout.many())]
    volume[0] = head_row(layout, label)
    volume[1] = head_row(layout, label)
    volume[layout.record_at(0)] = list(EMPTY_TOP)
    return volume
