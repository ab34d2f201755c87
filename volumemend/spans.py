"""The deeds that write numbers into files and change their sizes."""

from volumemend.deeds import Deed
from volumemend.errors import BadNumber, Full, TooFar
from volumemend.layout import MAP_AT, MOST, TOP, WIDE
from volumemend.maps import map_row
from volumemend.paths import find_file
from volumemend.pieces import blocks_of, claims, free_blocks
from volumemend.records import FILE, FIRST, FileRecord, record_in


def check_numbers(numbers):
    if not 1 <= len(numbers) <= WIDE:
        raise BadNumber("one to eight numbers are written at once")
    if not all([0 <= number <= TOP for number in numbers]):
        raise BadNumber("a number is below 0 or above the greatest one")


def check_span(start, stop):
    if start < 0 or stop > MOST:
        raise TooFar("a file has places from 0 on, and at most 88 of them")


def rows_cleared(volume, blocks, start, stop):
    # Behind a file's size its last block may hold anything; what comes to lie below a greater size must read as 0.
    # Of the pieces behind the old size none but the one in which it ends has a block.
    if start >= stop or blocks[start // WIDE] == 0:
        return {}
    block = blocks[start // WIDE]
    row = list(volume[block])
    for place in range(start, stop):
        if place // WIDE == start // WIDE:
            row[place % WIDE] = 0
    return {block: row}


def holes_within(blocks, start, stop):
    return [k for k in range(start // WIDE, (stop - 1) // WIDE + 1) if blocks[k] == 0]


def blocks_taken(layout, volume, record, holes):
    many = len(holes)
    if record.more == 0 and any([k >= FIRST for k in holes]):
        many += 1
    free = free_blocks(layout, volume)
    if len(free) < many:
        raise Full("fewer data blocks are free than are needed")
    return free[:many]


def filled(blocks, holes, taken):
    told = list(blocks)
    for k, block in zip(holes, taken):
        told[k] = block
    return told


def rows_of_file(layout, volume, f, size, blocks, more):
    record = record_in(layout, volume, f)
    rows = {layout.record_at(f): [FILE, size, record.names, record.found] + blocks[:FIRST] + [more]}
    if more != 0:
        rows[more] = blocks[FIRST:]
    others = [block for block, owner in claims(layout, volume).items() if owner != f]
    rows[MAP_AT] = map_row(layout, others + blocks + [more])
    return rows


class Write(Deed):
    def __init__(self, path, at, numbers):
        self.path = path
        self.at = at
        # A tuple, since the list handed in may change later.
        self.numbers = tuple(numbers)

    def rows(self, layout, volume):
        check_numbers(self.numbers)
        f = find_file(layout, volume, self.path)
        stop = self.at + len(self.numbers)
        check_span(self.at, stop)
        record = record_in(layout, volume, f)
        old = blocks_of(volume, record)
        holes = holes_within(old, self.at, stop)
        taken = blocks_taken(layout, volume, record, holes)
        blocks = filled(old, holes, taken)
        # The block more is taken behind the pieces.
        more = taken[-1] if len(taken) > len(holes) else record.more
        rows = self.data_rows(volume, record.size, old, blocks)
        rows.update(rows_of_file(layout, volume, f, max(record.size, stop), blocks, more))
        return rows

    def data_rows(self, volume, size, old, blocks):
        rows = rows_cleared(volume, old, size, self.at)
        for place, number in enumerate(self.numbers, start=self.at):
            k = place // WIDE
            if blocks[k] not in rows:
                # Whatever stood in a block that is taken, beside the numbers it has noughts.
                rows[blocks[k]] = [0] * WIDE if old[k] == 0 else list(volume[blocks[k]])
            rows[blocks[k]][place % WIDE] = number
        return rows


class Cut(Deed):
    def __init__(self, path, size=0):
        self.path = path
        self.size = size

    def rows(self, layout, volume):
        f = find_file(layout, volume, self.path)
        check_span(self.size, self.size)
        record = record_in(layout, volume, f)
        blocks = blocks_of(volume, record)
        rows = rows_cleared(volume, blocks, record.size, self.size)
        after = FileRecord([FILE, self.size] + record.row()[2:])
        left = [block if after.keeps(k) else 0 for k, block in enumerate(blocks)]
        more = record.more if after.reaches() else 0
        rows.update(rows_of_file(layout, volume, f, self.size, left, more))
        return rows
