"""Trees: which folder lies above which. All of sound volumes."""

from volumemend.names import slot, slots_naming


def above(layout, volume, folder):
    naming = slots_naming(layout, volume, folder)
    if len(naming) == 0:
        return None
    return slot(layout, volume, naming[0])[1]


def way_up(layout, volume, folder):
    way = []
    at = folder
    while at is not None:
        way.append(at)
        at = above(layout, volume, at)
    return way


def lies_within(layout, volume, folder, other):
    return other in way_up(layout, volume, folder)
