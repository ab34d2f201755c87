"""Paths: which record a tuple of names tells, and what can be read of it. All of sound volumes."""

from volumemend.errors import NoPath, NotFile, NotFolder, TooFar
from volumemend.names import names_in, slot, slot_of
from volumemend.pieces import contents
from volumemend.records import FileRecord, FreeRecord, record_in

FOUND = 1
# The path whose list tells the found records; a record itself it is not.
FOUND_PATH = (0,)


def is_found(layout, volume, f):
    if not 1 <= f < layout.files:
        return False
    record = record_in(layout, volume, f)
    return not isinstance(record, FreeRecord) and record.found == FOUND


def is_file(layout, volume, f):
    return isinstance(record_in(layout, volume, f), FileRecord)


def record_behind(layout, volume, start, names):
    f = start
    for name in names:
        # In a file no slot lies, so a name behind one is refused here too.
        s = slot_of(layout, volume, f, name)
        if s is None:
            raise NoPath("a name of the path has no slot in its folder")
        f = slot(layout, volume, s)[3]
    return f


def find_path(layout, volume, path):
    if path[:1] != FOUND_PATH:
        return record_behind(layout, volume, 0, path)
    if path == FOUND_PATH or not is_found(layout, volume, path[1]):
        raise NoPath("no found record is told behind the name 0")
    return record_behind(layout, volume, path[1], path[2:])


def find_file(layout, volume, path):
    f = find_path(layout, volume, path)
    if not is_file(layout, volume, f):
        raise NotFile("the path tells a folder")
    return f


def find_folder(layout, volume, path):
    f = find_path(layout, volume, path)
    if is_file(layout, volume, f):
        raise NotFolder("the path tells a file")
    return f


def info(layout, volume, path):
    f = find_path(layout, volume, path)
    record = record_in(layout, volume, f)
    # What isn't looked at of a record may be any number, and is not told.
    size = record.size if is_file(layout, volume, f) else 0
    names = 0 if f == 0 else record.names
    return (record.kind, size, names)


def read(layout, volume, path, at=0, many=None):
    f = find_file(layout, volume, path)
    if at < 0 or (many is not None and many < 0):
        raise TooFar("a place or a count is below 0")
    left = contents(layout, volume, f)[at:]
    return left if many is None else left[:many]


def listed(layout, volume, path):
    if path == FOUND_PATH:
        return [f for f in range(layout.files) if is_found(layout, volume, f)]
    folder = find_folder(layout, volume, path)
    return [name for name, file in names_in(layout, volume, folder)]
