"""The clauses that ask what blocks say of one another: piece, name, ring, found, count, map. Of any numbers."""

from volumemend.layout import MAP_AT, WIDE
from volumemend.maps import map_row
from volumemend.names import many_slots, slot, slot_at, used_slots
from volumemend.records import FIRST, FIRST_AT, FOUND_AT, MORE_AT, NAMES_AT
from volumemend.records import FileRecord, FolderRecord, FreeRecord, record_in


# Asks the pointers of all files in their order: kept are the data blocks that right ones tell, and the other places.
class Pointers:
    def __init__(self, layout, volume):
        self.layout = layout
        self.volume = volume
        self.told = {}
        self.broken = []

    def ask(self, block, place, is_wanted):
        number = self.volume[block][place]
        if number == 0:
            return
        if is_wanted and self.layout.is_data(number) and number not in self.told:
            self.told[number] = True
        else:
            self.broken.append((block, place, 0))

    def ask_file(self, f, record):
        block = self.layout.record_at(f)
        for k in range(FIRST):
            self.ask(block, FIRST_AT + k, record.keeps(k))
        many = len(self.told)
        self.ask(block, MORE_AT, record.reaches())
        # Of a block more that is none, or another's, the numbers are no pointers.
        if len(self.told) > many:
            for place in range(WIDE):
                self.ask(record.more, place, record.keeps(FIRST + place))

    def ask_all(self):
        for f in range(self.layout.files):
            record = record_in(self.layout, self.volume, f)
            if isinstance(record, FileRecord):
                self.ask_file(f, record)


def asked_pointers(layout, volume):
    asked = Pointers(layout, volume)
    asked.ask_all()
    return asked


def piece_wrong(layout, volume):
    return asked_pointers(layout, volume).broken


def is_folder(layout, volume, f):
    return 0 <= f < layout.files and isinstance(record_in(layout, volume, f), FolderRecord)


def is_nameable(layout, volume, f):
    return 1 <= f < layout.files and not isinstance(record_in(layout, volume, f), FreeRecord)


def is_right(layout, volume, numbers, ahead):
    folder = numbers[1]
    file = numbers[3]
    if not is_folder(layout, volume, folder) or numbers[2] < 1 or not is_nameable(layout, volume, file):
        return False
    if any([other[1:3] == numbers[1:3] for other in ahead]):
        return False
    return not is_folder(layout, volume, file) or not any([other[3] == file for other in ahead])


def right_slots(layout, volume):
    told = {}
    for s, numbers in used_slots(layout, volume).items():
        if is_right(layout, volume, numbers, list(told.values())):
            told[s] = numbers
    return told


def unused(layout, s):
    at = slot_at(layout, s)
    return (at[0], at[1], 0)


def name_wrong(layout, volume):
    right = right_slots(layout, volume)
    return [unused(layout, s) for s in range(many_slots(layout)) if s not in right and slot(layout, volume, s)[0] != 0]


def slots_of_folders(layout, volume):
    told = {}
    for s, numbers in right_slots(layout, volume).items():
        # A folder has one right slot at the most, so the first one is the only one.
        if is_folder(layout, volume, numbers[3]):
            told[numbers[3]] = s
    return told


def ring_of(layout, volume, naming, folder):
    # At most as many steps as there are records: a way that goes on longer has run into a ring without this folder.
    ring = [folder]
    while ring[-1] in naming and len(ring) <= layout.files:
        up = slot(layout, volume, naming[ring[-1]])[1]
        if up == folder:
            return ring
        ring.append(up)
    return []


def ring_wrong(layout, volume):
    naming = slots_of_folders(layout, volume)
    told = []
    for folder in sorted(naming):
        ring = ring_of(layout, volume, naming, folder)
        if len(ring) > 0 and min(ring) == folder:
            told.append(unused(layout, naming[folder]))
    return told


def name_counts(layout, volume):
    told = {}
    for f in range(layout.files):
        if is_nameable(layout, volume, f):
            told[f] = 0
    for numbers in right_slots(layout, volume).values():
        told[numbers[3]] += 1
    return told


def records_unlike(layout, volume, place, due):
    told = []
    for f, number in due.items():
        block = layout.record_at(f)
        if volume[block][place] != number:
            told.append((block, place, number))
    return told


def found_wrong(layout, volume):
    due = {}
    for f, count in name_counts(layout, volume).items():
        due[f] = 1 if count == 0 else 0
    return records_unlike(layout, volume, FOUND_AT, due)


def count_wrong(layout, volume):
    return records_unlike(layout, volume, NAMES_AT, name_counts(layout, volume))


def map_wrong(layout, volume):
    due = map_row(layout, list(asked_pointers(layout, volume).told))
    return [(MAP_AT, place, number) for place, number in enumerate(due) if volume[MAP_AT][place] != number]
