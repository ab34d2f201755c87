"""The journal: the writes by which a deed is done, and whether a volume's journal is whole."""

from volumemend.heads import check_of
from volumemend.layout import WIDE

HEAD_AT = 3
ROWS_AT = 4
# How many homes a journal has room for.
ROOM = 6


def head_for(blocks, rows):
    homes = blocks + [0] * (ROOM - len(blocks))
    numbers = [len(blocks)] + homes
    for row in rows:
        numbers.extend(row)
    return [len(blocks), check_of(numbers)] + homes


def is_whole(layout, volume):
    head = volume[HEAD_AT]
    count = head[0]
    if not 1 <= count <= ROOM:
        return False
    blocks = head[2:2 + count]
    if len(set(blocks)) != count or not all([layout.is_home(block) for block in blocks]):
        return False
    return head == head_for(blocks, volume[ROWS_AT:ROWS_AT + count])


def put(volume, writes):
    told = [list(row) for row in volume]
    for block, row in writes:
        told[block] = list(row)
    return told


def singles(homes):
    if len(homes) == 0:
        return []
    head = head_for([block for block, row in homes], [row for block, row in homes])
    writes = [(at, list(home[1])) for at, home in enumerate(homes, start=ROWS_AT)]
    writes.append((HEAD_AT, head))
    writes.extend([(block, list(row)) for block, row in homes])
    writes.append((HEAD_AT, [0] * WIDE))
    return writes
