"""Records: what the eight numbers of one say, by its kind."""

from volumemend.layout import WIDE

FILE = 1
FOLDER = 2
# The places of a record's numbers; p0, p1, p2 begin at FIRST_AT.
KIND_AT = 0
SIZE_AT = 1
NAMES_AT = 2
FOUND_AT = 3
FIRST_AT = 4
MORE_AT = 7
# How many pieces stand in p0, p1, p2, and how many a file has at the most.
FIRST = 3
PIECES = 11


class Record:
    def __init__(self, row):
        self.kind = row[KIND_AT]
        self.size = row[SIZE_AT]
        self.names = row[NAMES_AT]
        self.found = row[FOUND_AT]
        self.first = tuple(row[FIRST_AT:MORE_AT])
        self.more = row[MORE_AT]

    def wants(self):
        return 0

    def keeps(self, k):
        return False

    def reaches(self):
        return False

    def row(self):
        return [self.kind, self.size, self.names, self.found] + list(self.first) + [self.more]


class FileRecord(Record):
    def wants(self):
        return len([k for k in range(PIECES) if self.keeps(k)])

    def keeps(self, k):
        return k * WIDE < self.size

    def reaches(self):
        return self.keeps(FIRST)


class FolderRecord(Record):
    pass


class FreeRecord(Record):
    pass


def record_of(row):
    if row[KIND_AT] == FILE:
        return FileRecord(row)
    if row[KIND_AT] == FOLDER:
        return FolderRecord(row)
    return FreeRecord(row)


def record_in(layout, volume, f):
    row = volume[layout.record_at(f)]
    # Record 0, the top, is a folder whatever its kind.
    if f == 0:
        return FolderRecord(row)
    return record_of(row)
