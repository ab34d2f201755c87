"""The check of a row of numbers, and the head rows, which bear it."""

MODULUS = 1000003
MARK = 1179


def check_of(numbers):
    return sum([place * number for place, number in enumerate(numbers, start=1)]) % MODULUS


def head_row(layout, label):
    row = [MARK, label, layout.files, layout.slots, layout.data, 0, 0]
    return row + [check_of(row)]
