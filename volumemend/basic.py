"""The clauses that ask blocks one by one: bounds, head, journal, kind, size. Of any numbers."""

from volumemend.heads import head_row
from volumemend.journal import HEAD_AT, ROWS_AT, is_whole
from volumemend.layout import MOST, TOP, WIDE
from volumemend.records import FILE, FOLDER, KIND_AT, SIZE_AT, FileRecord, record_in

LABEL_AT = 1
# The label first: with it put, a head is right on the way only as the due row.
HEAD_ORDER = (1, 0, 2, 3, 4, 5, 6, 7)


def unlike(volume, block, due, places):
    return [(block, place, due[place]) for place in places if volume[block][place] != due[place]]


def bounds_wrong(volume):
    told = []
    for block, row in enumerate(volume):
        told.extend([(block, place, 0) for place, number in enumerate(row) if not 0 <= number <= TOP])
    return told


def due_head(layout, volume):
    for row in volume[:2]:
        if row == head_row(layout, row[LABEL_AT]):
            return row
    return head_row(layout, 0)


def head_wrong(layout, volume):
    due = due_head(layout, volume)
    return unlike(volume, 0, due, HEAD_ORDER) + unlike(volume, 1, due, HEAD_ORDER)


def journal_wrong(layout, volume):
    told = []
    head = volume[HEAD_AT]
    if is_whole(layout, volume):
        for step in range(head[0]):
            told.extend(unlike(volume, head[2 + step], volume[ROWS_AT + step], list(range(WIDE))))
    return told + unlike(volume, HEAD_AT, [0] * WIDE, list(range(WIDE)))


def kind_wrong(layout, volume):
    told = unlike(volume, layout.record_at(0), [FOLDER], [KIND_AT])
    for f in range(1, layout.files):
        block = layout.record_at(f)
        if volume[block][KIND_AT] not in (0, FILE, FOLDER):
            told.append((block, KIND_AT, 0))
    return told


def size_wrong(layout, volume):
    told = []
    for f in range(layout.files):
        record = record_in(layout, volume, f)
        if isinstance(record, FileRecord) and not 0 <= record.size <= MOST:
            told.append((layout.record_at(f), SIZE_AT, MOST))
    return told
