"""The deeds that make records, name them, take names off and move them."""

from volumemend.deeds import Deed
from volumemend.errors import BadName, Full, IntoItself, NotEmpty, Taken
from volumemend.layout import MAP_AT, TOP, WIDE
from volumemend.maps import map_row
from volumemend.names import SLOT_WIDE, USED, free_slot, names_in, slot_at, slot_of, slots_naming
from volumemend.paths import FOUND_PATH, find_file, find_folder, find_path
from volumemend.pieces import claims
from volumemend.records import FIRST_AT, NAMES_AT, FreeRecord, record_in
from volumemend.trees import lies_within


def check_newer(newer):
    if newer == () or not 1 <= newer[-1] <= TOP or newer[:-1] == FOUND_PATH:
        raise BadName("no record can get this path")


def check_ending(path):
    if path == () or path == FOUND_PATH:
        raise BadName("the path ends with no name and no found record")


def folder_for(layout, volume, newer):
    folder = find_folder(layout, volume, newer[:-1])
    if slot_of(layout, volume, folder, newer[-1]) is not None:
        raise Taken("the folder has that name already")
    return folder


def least_slot(layout, volume):
    s = free_slot(layout, volume)
    if s is None:
        raise Full("no slot is free")
    return s


def least_record(layout, volume):
    for f in range(layout.files):
        if isinstance(record_in(layout, volume, f), FreeRecord):
            return f
    raise Full("no record is free")


def ending_slot(layout, volume, path):
    # A path (0, f) ends with a record's number, not with a name.
    if path[:-1] == FOUND_PATH:
        return None
    return slot_of(layout, volume, find_path(layout, volume, path[:-1]), path[-1])


def rows_with_slot(layout, volume, s, numbers):
    at = slot_at(layout, s)
    row = volume[at[0]]
    return {at[0]: row[:at[1]] + numbers + row[at[1] + SLOT_WIDE:]}


def row_with_names(row, names):
    # A record with a name is not found.
    return row[:NAMES_AT] + [names, 0] + row[FIRST_AT:]


def rows_without(layout, volume, f):
    others = [block for block, owner in claims(layout, volume).items() if owner != f]
    return {layout.record_at(f): [0] * WIDE, MAP_AT: map_row(layout, others)}


class Make(Deed):
    def __init__(self, path, kind=1):
        self.path = path
        self.kind = kind

    def rows(self, layout, volume):
        check_newer(self.path)
        folder = folder_for(layout, volume, self.path)
        f = least_record(layout, volume)
        s = least_slot(layout, volume)
        rows = rows_with_slot(layout, volume, s, [USED, folder, self.path[-1], f])
        rows[layout.record_at(f)] = [self.kind, 0, 1, 0, 0, 0, 0, 0]
        return rows


class Name(Deed):
    def __init__(self, path, newer):
        self.path = path
        self.newer = newer

    def rows(self, layout, volume):
        check_newer(self.newer)
        f = find_file(layout, volume, self.path)
        folder = folder_for(layout, volume, self.newer)
        s = least_slot(layout, volume)
        rows = rows_with_slot(layout, volume, s, [USED, folder, self.newer[-1], f])
        row = volume[layout.record_at(f)]
        rows[layout.record_at(f)] = row_with_names(row, row[NAMES_AT] + 1)
        return rows


class Unname(Deed):
    def __init__(self, path):
        self.path = path

    def rows(self, layout, volume):
        check_ending(self.path)
        f = find_path(layout, volume, self.path)
        if len(names_in(layout, volume, f)) > 0:
            raise NotEmpty("a slot lies in the folder")
        s = ending_slot(layout, volume, self.path)
        rows = {} if s is None else rows_with_slot(layout, volume, s, [0] * SLOT_WIDE)
        left = len(slots_naming(layout, volume, f)) - 1
        if left > 0:
            rows[layout.record_at(f)] = row_with_names(volume[layout.record_at(f)], left)
        else:
            rows.update(rows_without(layout, volume, f))
        return rows


class Move(Deed):
    def __init__(self, path, newer):
        self.path = path
        self.newer = newer

    def rows(self, layout, volume):
        check_ending(self.path)
        check_newer(self.newer)
        f = find_path(layout, volume, self.path)
        folder = folder_for(layout, volume, self.newer)
        # On a folder's way up lie folders alone, so a file passes.
        if lies_within(layout, volume, folder, f):
            raise IntoItself("the newer path's folder lies within the folder that is moved")
        rows = {}
        s = ending_slot(layout, volume, self.path)
        if s is None:
            s = least_slot(layout, volume)
            rows[layout.record_at(f)] = row_with_names(volume[layout.record_at(f)], 1)
        rows.update(rows_with_slot(layout, volume, s, [USED, folder, self.newer[-1], f]))
        return rows
