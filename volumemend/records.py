"""Records: what the eight numbers of one say, by its kind."""

from volumemend.layout import WIDE

FILE = 1
FOLDER = 2
# The places of p0, p1, p2 in a record; more lies behind them.
FIRST_AT = 4
MORE_AT = 7
# How many pieces stand in p0, p1, p2, and how many a file has at the most.
FIRST = 3
PIECES = 11


class Record:
    def __init__(self, row):
        self.kind = row[0]
        self.size = row[1]
        self.names = row[2]
        self.found = row[3]
        self.first = tuple(row[FIRST_AT:MORE_AT])
        self.more = row[MORE_AT]

    def wants(self):
        return 0

    def keeps(self, k):
        return False

    def reaches(self):
        return False

    def row(self):
        return [self.kind, self.size, self.names, self.found] + list(self.first) + [self.more]


class FileRecord(Record):
    def wants(self):
        return len([k for k in range(PIECES) if self.keeps(k)])

    def keeps(self, k):
        return k * WIDE < self.size

    def reaches(self):
        return self.keeps(FIRST)


class FolderRecord(Record):
    pass


class FreeRecord(Record):
    pass


def record_of(row):
    if row[0] == FILE:
        return FileRecord(row)
    if row[0] == FOLDER:
        return FolderRecord(row)
    return FreeRecord(row)


def record_in(layout, volume, f):
    row = volume[layout.record_at(f)]
    # Record 0, the top, is a folder whatever its kind.
    if f == 0:
        return FolderRecord(row)
    return record_of(row)
