"""Maps: eight numbers that tell a set of data blocks, a bit for each."""

from volumemend.layout import WIDE

# How many data blocks one number of a map stands for.
BITS = 20


def bit_of(place):
    bit = 1
    for step in range(place % BITS):
        bit = bit * 2
    return bit


def is_told(row, place):
    return row[place // BITS] // bit_of(place) % 2 == 1


def map_row(layout, blocks):
    row = [0] * WIDE
    # Walked are the places, not the blocks, so that a block named twice counts once.
    for place in range(layout.data):
        if layout.data_at(place) in blocks:
            row[place // BITS] += bit_of(place)
    return row


def claimed_of(layout, row):
    return [layout.data_at(place) for place in range(layout.data) if is_told(row, place)]


def free_of(layout, row):
    return [layout.data_at(place) for place in range(layout.data) if not is_told(row, place)]
