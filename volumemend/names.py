"""Slots: which record has which name in which folder."""

# A block of names has two slots, each of four numbers: used, folder, name, file.
EACH = 2
SLOT_WIDE = 4
USED = 1


def many_slots(layout):
    return layout.slots * EACH


def slot_at(layout, s):
    return (layout.names_at(s // EACH), s % EACH * SLOT_WIDE)


def slot(layout, volume, s):
    at = slot_at(layout, s)
    return tuple(volume[at[0]][at[1]:at[1] + SLOT_WIDE])


def used_slots(layout, volume):
    told = {}
    for s in range(many_slots(layout)):
        numbers = slot(layout, volume, s)
        if numbers[0] == USED:
            told[s] = numbers
    return told


def slot_of(layout, volume, folder, name):
    for s, numbers in used_slots(layout, volume).items():
        if numbers[1] == folder and numbers[2] == name:
            return s
    return None


def slots_naming(layout, volume, file):
    return [s for s, numbers in used_slots(layout, volume).items() if numbers[3] == file]


def names_in(layout, volume, folder):
    return sorted([numbers[2:] for numbers in used_slots(layout, volume).values() if numbers[1] == folder])


def free_slot(layout, volume):
    used = used_slots(layout, volume)
    for s in range(many_slots(layout)):
        if s not in used:
            return s
    return None
