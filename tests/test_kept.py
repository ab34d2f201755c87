"""Files of sound volumes, of which the numbers that are not their own are spoilt: mended, they read as before."""

import copy
import random
import unittest

from volumemend.layout import TOP, Layout
from volumemend.mender import mend
from volumemend.paths import find_path, read
from volumes import ANY, likely, row_of, sound

LAYOUTS = ((12, 8, 40), (6, 4, 16), (4, 2, 6), (12, 8, 12))


class Kept:
    """A file of a sound volume: its path from the top, what is its own, and what nothing else may claim."""

    def __init__(self, layout, volume, slots, f):
        self.layout, self.f = layout, f
        self.slots = slots
        self.said = [slot_numbers(layout, volume, s) for s in slots]
        self.path = tuple(name for used, folder, name, file in self.said)
        self.folders = [folder for used, folder, name, file in self.said]
        *first, more = volume[10 + f][4:]
        self.blocks = [block for block in first + [more] + (volume[more] if more else []) if block]
        own = [(10 + f, place) for place in (0, 1, 4, 5, 6, 7)] + [(10 + folder, 0) for folder in self.folders]
        own += [(block, place) for block in self.blocks + [3] for place in range(8)]
        own += [(names_at(layout, s), s % 2 * 4 + place) for s in slots for place in range(4)]
        cells = [(block, place) for block in range(layout.many()) for place in range(8)]
        self.others = [cell for cell in cells if cell not in own]

    def clashes(self, volume):
        """The places of numbers outside the file by which something else claims what is its own."""
        layout = self.layout
        plain = [[number if 0 <= number <= TOP else 0 for number in row] for row in volume]
        told = []
        for g in range(layout.files):
            if g != self.f:
                told += [(10 + g, place) for place in (4, 5, 6, 7) if plain[10 + g][place] in self.blocks]
                more = plain[10 + g][7]
                if layout.is_data(more) and more not in self.blocks:
                    told += [(more, place) for place in range(8) if plain[more][place] in self.blocks]
        for s in range(2 * layout.slots):
            if s not in self.slots:
                used, folder, name, file = slot_numbers(layout, plain, s)
                at = (names_at(layout, s), s % 2 * 4)
                if (folder, name) in [(other[1], other[2]) for other in self.said]:
                    told.append((at[0], at[1] + 2))
                if file in self.folders and file != 0:
                    told.append((at[0], at[1] + 3))
        return told


def names_at(layout, s):
    return 10 + layout.files + s // 2


def slot_numbers(layout, volume, s):
    return volume[names_at(layout, s)][s % 2 * 4:s % 2 * 4 + 4]


def kept_files(layout, volume):
    """Each file of a sound volume by each of its paths from the top."""
    told = []
    todo = [(0, [])]
    while todo:
        folder, slots = todo.pop()
        for s in range(2 * layout.slots):
            used, above, name, file = slot_numbers(layout, volume, s)
            if used == 1 and above == folder:
                if volume[10 + file][0] == 2:
                    todo.append((file, slots + [s]))
                else:
                    told.append(Kept(layout, volume, slots + [s], file))
    return told


def sound_ones():
    records = {
        1: (2, 0, 0, 0, 0, 0), 2: (2, 0, 0, 0, 0, 0), 3: (1, 88, 22, 0, 24, 25), 4: (1, 9, 30, 31, 0, 0), 5: (1, 0, 0, 0, 0, 0),
        6: (2, 0, 0, 0, 0, 0), 7: (1, 40, 0, 0, 0, 33),
    }
    slots = {0: (2, 7, 3), 2: (1, 6, 2), 3: (0, 5, 1), 4: (0, 6, 4), 5: (6, 7, 7), 6: (0, 7, 7)}
    blocks = {block: row_of(10 * block) for block in (22, 24, 26, 28, 30, 31, 34)}
    blocks.update({25: [28, 0, 0, 26, 0, 0, 0, 0], 33: [0, 34, 0, 0, 0, 0, 0, 0]})
    yield sound((8, 4, 20), records, slots, blocks)
    for numbers in LAYOUTS:
        for seed in range(80):
            layout = Layout(*numbers)
            yield layout, mend(layout, likely(layout, seed))[0]


def spoil(chance, kept, volume, many):
    """Some numbers that are not the file's own made others, so that nothing else claims what is."""
    layout = kept.layout
    pool = list(ANY) + [layout.data_at(place) for place in range(layout.data)] * 2 + list(range(layout.files)) * 2 + [1] * 30
    spoilt = copy.deepcopy(volume)
    for block, place in chance.sample(kept.others, min(many, len(kept.others))):
        spoilt[block][place] = chance.choice(pool)
    cells = kept.clashes(spoilt)
    while cells:
        for block, place in cells:
            spoilt[block][place] = chance.choice(pool)
        cells = kept.clashes(spoilt)
    return spoilt


class KeptFiles(unittest.TestCase):
    def test_spoilt_and_mended(self):
        chance = random.Random(29)
        asked = deep = long = 0
        for layout, volume in sound_ones():
            for kept in kept_files(layout, volume):
                due = read(layout, volume, kept.path)
                self.assertEqual(find_path(layout, volume, kept.path), kept.f)
                for many in (1, 3, 10, 40, 100, 200, 10 ** 6, 10 ** 6):
                    spoilt = spoil(chance, kept, volume, many)
                    mended = mend(layout, spoilt)[0]
                    self.assertEqual(find_path(layout, mended, kept.path), kept.f)
                    self.assertEqual(read(layout, mended, kept.path), due)
                    asked += 1
                    deep += len(kept.path) > 1
                    long += any(due[24:])
        self.assertGreater(asked, 500)
        self.assertGreater(deep, 100)
        self.assertGreater(long, 100, (asked, deep, long))

    def test_each_number_by_itself(self):
        for layout, volume in list(sound_ones())[:2]:
            for kept in kept_files(layout, volume):
                due = read(layout, volume, kept.path)
                for block, place in kept.others:
                    for number in (0, 1, 2, kept.f, -1, TOP + 1, 10 ** 40 - 1, 89):
                        spoilt = copy.deepcopy(volume)
                        spoilt[block][place] = number
                        if not kept.clashes(spoilt):
                            mended = mend(layout, spoilt)[0]
                            self.assertEqual(find_path(layout, mended, kept.path), kept.f)
                            self.assertEqual(read(layout, mended, kept.path), due)

    def test_all_else_lost(self):
        layout, volume = next(sound_ones())
        for kept in kept_files(layout, volume):
            due = read(layout, volume, kept.path)
            for number in (0, -1, TOP, 10 ** 40 - 1, 1, 9):
                spoilt = copy.deepcopy(volume)
                for block, place in kept.others:
                    spoilt[block][place] = number
                if not kept.clashes(spoilt):
                    mended = mend(layout, spoilt)[0]
                    self.assertEqual(find_path(layout, mended, kept.path), kept.f)
                    self.assertEqual(read(layout, mended, kept.path), due)


if __name__ == "__main__":
    unittest.main()
