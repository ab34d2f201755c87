"""The mender: takes any numbers for a volume, tells what is broken in it, and makes it sound."""

from volumemend.basic import bounds_wrong, head_wrong, journal_wrong, kind_wrong, size_wrong
from volumemend.deep import count_wrong, found_wrong, map_wrong, name_wrong, piece_wrong, ring_wrong
from volumemend.layout import check_form

CLAUSES = ("bounds", "head", "journal", "kind", "size", "piece", "name", "ring", "found", "count", "map")


def places_broken(layout, volume, clause):
    if clause == "bounds":
        return bounds_wrong(volume)
    if clause == "head":
        return head_wrong(layout, volume)
    if clause == "journal":
        return journal_wrong(layout, volume)
    if clause == "kind":
        return kind_wrong(layout, volume)
    if clause == "size":
        return size_wrong(layout, volume)
    if clause == "piece":
        return piece_wrong(layout, volume)
    if clause == "name":
        return name_wrong(layout, volume)
    if clause == "ring":
        return ring_wrong(layout, volume)
    if clause == "found":
        return found_wrong(layout, volume)
    if clause == "count":
        return count_wrong(layout, volume)
    return map_wrong(layout, volume)


def wrong(layout, volume, clause):
    check_form(layout, volume)
    return places_broken(layout, volume, clause)


def mend(layout, volume):
    check_form(layout, volume)
    told = [list(row) for row in volume]
    changes = []
    for clause in CLAUSES:
        for block, place, number in places_broken(layout, told, clause):
            told[block][place] = number
            changes.append((clause, block, place, number))
    return (told, changes)


def faults(layout, volume):
    check_form(layout, volume)
    return [clause for clause in CLAUSES if len(places_broken(layout, volume, clause)) > 0]
