"""The pieces of files: where their numbers stand, and which data blocks are theirs. All of sound volumes."""

from volumemend.layout import WIDE
from volumemend.records import FIRST_AT, PIECES, FileRecord, record_in


def pointers(layout, volume, f):
    record = record_in(layout, volume, f)
    if not isinstance(record, FileRecord):
        return []
    block = layout.record_at(f)
    told = [(block, place) for place in range(FIRST_AT, WIDE)]
    if record.more != 0:
        told.extend([(record.more, place) for place in range(WIDE)])
    return told


def blocks_of(volume, record):
    # Without the block more all that it would tell are holes.
    behind = [0] * WIDE if record.more == 0 else volume[record.more]
    return list(record.first) + behind


def piece(layout, volume, f, k):
    record = record_in(layout, volume, f)
    if not isinstance(record, FileRecord) or not 0 <= k < PIECES:
        return 0
    return blocks_of(volume, record)[k]


def contents(layout, volume, f):
    record = record_in(layout, volume, f)
    if not isinstance(record, FileRecord):
        return []
    told = []
    for block in blocks_of(volume, record)[:record.wants()]:
        told.extend([0] * WIDE if block == 0 else volume[block])
    return told[:record.size]


def claims(layout, volume):
    told = {}
    for f in range(layout.files):
        for block, place in pointers(layout, volume, f):
            number = volume[block][place]
            if number != 0:
                told[number] = f
    return told


def free_blocks(layout, volume):
    claimed = claims(layout, volume)
    blocks = [layout.data_at(place) for place in range(layout.data)]
    return [block for block in blocks if block not in claimed]
