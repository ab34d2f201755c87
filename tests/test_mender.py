import copy
import unittest

from volumemend.errors import NoVolume
from volumemend.layout import TOP, Layout, empty
from volumemend.mender import CLAUSES, faults, mend, wrong
from volumes import likely, noisy, row_of, sound, with_journal

WORDS = ("bounds", "head", "journal", "kind", "size", "piece", "name", "ring", "found", "count", "map")
LAYOUTS = ((2, 1, 2), (4, 2, 6), (6, 4, 30), (12, 8, 40), (5, 8, 3), (12, 1, 21))
HUGE = 10 ** 40 - 1


class Plain:
    """The clauses once more, in another form: each from the whole volume, as the document tells them."""

    def __init__(self, numbers, volume):
        self.files, self.names, self.data = numbers
        self.volume = volume
        self.names_at = 10 + self.files
        self.data_at = self.names_at + self.names
        self.many = self.data_at + self.data
        self.kinds = [2] + [{1: 1, 2: 2}.get(volume[10 + f][0], 0) for f in range(1, self.files)]
        self.told, self.bad_pointers = set(), []
        for f in range(self.files):
            if self.kinds[f] == 1:
                self.file(10 + f)
        self.right, self.bad_slots = {}, []
        for s in range(2 * self.names):
            self.slot(s)

    def check(self, numbers):
        return sum((k + 1) * numbers[k] for k in range(len(numbers))) % 1000003

    def file(self, at):
        size, *pointers = self.volume[at][1], *self.volume[at][4:]
        for k in range(3):
            self.pointer(at, 4 + k, 8 * k < size)
        if self.pointer(at, 7, size > 24) and pointers[3] != 0:
            for k in range(3, 11):
                self.pointer(pointers[3], k - 3, 8 * k < size)

    def pointer(self, block, place, wanted):
        number = self.volume[block][place]
        right = number == 0 or (wanted and number in range(self.data_at, self.many) and number not in self.told)
        if right:
            self.told.add(number)
        else:
            self.bad_pointers.append((block, place, 0))
        return right

    def slot(self, s):
        block, place = self.names_at + s // 2, 4 * (s % 2)
        used, folder, name, file = self.volume[block][place:place + 4]
        right = used == 1 and folder in range(self.files) and self.kinds[folder] == 2 and name > 0
        right = right and file in range(1, self.files) and self.kinds[file] != 0
        right = right and (folder, name) not in [(other[0], other[1]) for other in self.right.values()]
        right = right and not (self.kinds[file] == 2 and file in [other[2] for other in self.right.values()])
        if right:
            self.right[block, place] = (folder, name, file)
        elif used != 0:
            self.bad_slots.append((block, place, 0))

    def bounds(self):
        return [(b, p, 0) for b in range(self.many) for p in range(8) if self.volume[b][p] not in range(10 ** 12)]

    def head(self):
        made = []
        for label in (self.volume[0][1], self.volume[1][1], 0):
            row = [1179, label, self.files, self.names, self.data, 0, 0]
            made.append(row + [self.check(row)])
        due = made[0] if self.volume[0] == made[0] else made[1] if self.volume[1] == made[1] else made[2]
        return [(b, p, due[p]) for b in (0, 1) for p in (1, 0, 2, 3, 4, 5, 6, 7) if self.volume[b][p] != due[p]]

    def journal(self):
        count, check, *targets = self.volume[3]
        told = []
        homes = targets[:count] if 0 < count < 7 else []
        whole = bool(homes) and len(set(homes)) == count and set(homes) <= {2, *range(10, self.many)}
        whole = whole and not any(targets[count:])
        if whole:
            numbers = [count] + targets + sum(self.volume[4:4 + count], [])
            whole = check == self.check(numbers)
        if whole:
            for step, home in enumerate(homes):
                for p in range(8):
                    if self.volume[home][p] != self.volume[4 + step][p]:
                        told.append((home, p, self.volume[4 + step][p]))
        return told + [(3, p, 0) for p in range(8) if self.volume[3][p] != 0]

    def kind(self):
        told = [] if self.volume[10][0] == 2 else [(10, 0, 2)]
        return told + [(b, 0, 0) for b in range(11, self.names_at) if self.volume[b][0] not in (0, 1, 2)]

    def size(self):
        sizes = [(10 + f, self.volume[10 + f][1]) for f in range(self.files) if self.kinds[f] == 1]
        return [(b, 1, 88) for b, size in sizes if size not in range(89)]

    def piece(self):
        return self.bad_pointers

    def name(self):
        return self.bad_slots

    def ring(self):
        up = {file: (folder, at) for at, (folder, name, file) in self.right.items() if self.kinds[file] == 2}
        told = []
        for folder in range(1, self.files):
            way = [folder]
            while way[-1] in up and way[-1] not in way[:-1]:
                way.append(up[way[-1]][0])
            if len(way) > 1 and way[-1] == folder and folder == min(way):
                told.append((*up[folder][1], 0))
        return told

    def counts(self):
        named = [file for folder, name, file in self.right.values()]
        return [(10 + f, named.count(f)) for f in range(1, self.files) if self.kinds[f] != 0]

    def found(self):
        return [(b, 3, int(not many)) for b, many in self.counts() if self.volume[b][3] != int(not many)]

    def count(self):
        return [(b, 2, many) for b, many in self.counts() if self.volume[b][2] != many]

    def map(self):
        bits = sum(2 ** (number - self.data_at) for number in self.told if number != 0)
        due = [bits // 2 ** (20 * p) % 2 ** 20 for p in range(8)]
        return [(2, p, due[p]) for p in range(8) if self.volume[2][p] != due[p]]


def plain_wrong(numbers, volume, clause):
    return getattr(Plain(numbers, volume), clause)()


def cases():
    """Volumes of many sorts, each with the numbers of its layout."""
    for numbers in LAYOUTS:
        layout = Layout(*numbers)
        yield numbers, empty(layout, 5)
        for number in (0, 1, 2, -1, TOP, TOP + 1, HUGE, -HUGE):
            yield numbers, [[number] * 8 for block in range(layout.many())]
        for seed in range(12):
            yield numbers, noisy(layout, seed)
            yield numbers, with_journal(layout, noisy(layout, seed), seed)
        for seed in range(40):
            yield numbers, likely(layout, seed)
        for seed in range(40, 60):
            yield numbers, with_journal(layout, likely(layout, seed), seed)


class Wrong(unittest.TestCase):
    def test_the_words(self):
        self.assertEqual(CLAUSES, WORDS)
        self.assertIs(type(CLAUSES), tuple)

    def test_against_the_plain_form(self):
        some = {clause: 0 for clause in WORDS}
        for numbers, volume in cases():
            for clause in WORDS:
                told = wrong(Layout(*numbers), volume, clause)
                self.assertEqual(told, plain_wrong(numbers, volume, clause), clause)
                some[clause] += len(told) > 1
        # Each clause was broken at several places at once; two rings in one volume are rare.
        self.assertGreater(min(some[clause] for clause in WORDS), 4, some)


class Mend(unittest.TestCase):
    def test_any_numbers(self):
        left = 0
        for numbers, volume in cases():
            layout = Layout(*numbers)
            before = copy.deepcopy(volume)
            told = mend(layout, volume)
            self.assertEqual(volume, before)
            self.assertIs(type(told), tuple)
            mended, changes = told
            self.assertIs(type(changes), list)
            self.assertEqual([len(row) for row in mended], [8] * layout.many())
            self.assertEqual([clause for clause in WORDS if plain_wrong(numbers, mended, clause)], [])
            self.assertEqual(faults(layout, mended), [])
            self.assertEqual(mend(layout, mended), (mended, []))
            self.assertEqual(mend(layout, volume), told)
            # Left as it is just where it is sound.
            self.assertEqual(mended == volume, faults(layout, volume) == [])
            self.assertEqual(changes == [], faults(layout, volume) == [])
            left += mended == volume
        self.assertGreaterEqual(left, len(LAYOUTS))

    def test_the_changes_one_by_one(self):
        for numbers, volume in cases():
            layout = Layout(*numbers)
            mended, changes = mend(layout, volume)
            stands = copy.deepcopy(volume)
            for change in changes:
                self.assertIs(type(change), tuple)
                clause, block, place, number = change
                self.assertIn((block, place, number), plain_wrong(numbers, stands, clause))
                self.assertNotEqual(stands[block][place], number)
                stands[block][place] = number
                # What is put breaks no clause ahead of this one.
                for other in WORDS[:WORDS.index(clause)]:
                    self.assertEqual(plain_wrong(numbers, stands, other), [])
            self.assertEqual(stands, mended)
            order = [WORDS.index(change[0]) for change in changes]
            self.assertEqual(order, sorted(order))

    def test_right_ahead_of_each_change_wrong_tells_it(self):
        for numbers, volume in list(cases())[::7]:
            layout = Layout(*numbers)
            stands = copy.deepcopy(volume)
            for clause, block, place, number in mend(layout, volume)[1]:
                self.assertIn((block, place, number), wrong(layout, stands, clause))
                stands[block][place] = number

    def test_each_clauses_list_is_for_the_volume_as_it_has_become(self):
        for numbers, volume in cases():
            stands = copy.deepcopy(volume)
            due = []
            for clause in WORDS:
                for block, place, number in plain_wrong(numbers, stands, clause):
                    due.append((clause, block, place, number))
                for change in due:
                    stands[change[1]][change[2]] = change[3]
            self.assertEqual(mend(Layout(*numbers), volume), (stands, due))

    def test_what_is_told_and_changed_changes_nothing(self):
        for numbers, volume in list(cases())[::5]:
            layout = Layout(*numbers)
            before = copy.deepcopy(volume)
            due = copy.deepcopy(mend(layout, volume))
            mended, changes = mend(layout, volume)
            self.assertFalse([row for row in mended if any(row is other for other in volume)])
            for row in mended:
                row[0] = -9
                row.append(1)
            mended.pop()
            changes.append(4)
            self.assertEqual(volume, before)
            self.assertEqual(mend(layout, volume), due)

    def test_a_volume_changed_later(self):
        layout = Layout(4, 2, 6)
        volume = noisy(layout, 3)
        mended, changes = mend(layout, volume)
        due = copy.deepcopy((mended, changes))
        for row in volume:
            row.clear()
        volume.clear()
        self.assertEqual((mended, changes), due)


def sample():
    """A sound volume with a folder, files in it, and found ones; blocks: records 10 to 15, names 16 to 18, data 19 to 28."""
    return sound((6, 3, 10), {
        1: (2, 0, 0, 0, 0, 0), 2: (1, 9, 19, 20, 0, 0), 3: (1, 88, 21, 0, 0, 22), 4: (2, 0, 0, 0, 0, 0), 5: (1, 0, 0, 0, 0, 0),
    }, {0: (0, 5, 1), 1: (1, 6, 2), 2: (4, 6, 3), 3: (0, 6, 2)}, {
        19: row_of(190), 20: row_of(200), 21: row_of(210), 22: [23, 0, 0, 0, 0, 0, 0, 24], 23: row_of(230),
    }, {4: (1, 7, 4)})


class Sound(unittest.TestCase):
    def assert_sound(self, layout, volume):
        self.assertEqual(faults(layout, volume), [])
        self.assertEqual(mend(layout, volume), (volume, []))
        for clause in WORDS:
            self.assertEqual(wrong(layout, volume, clause), [])

    def test_empty_volumes(self):
        for numbers in LAYOUTS:
            for label in (0, 1, 1000003, TOP):
                self.assert_sound(Layout(*numbers), empty(Layout(*numbers), label))

    def test_a_sound_volume(self):
        self.assert_sound(*sample())

    def test_what_is_not_looked_at(self):
        layout, volume = sample()
        volume[4] = [TOP] * 8
        volume[10][1:] = [89, 7, 2, 19, 19, 3, TOP]  # the top
        volume[11][1] = 99
        volume[11][4:] = [19, 19, 3, TOP]  # a folder
        volume[18][1:4] = [9, 0, 0]  # a slot that is not used
        volume[28] = [TOP] * 8  # a free data block
        volume[20][1:] = [TOP] * 7  # behind the size
        self.assert_sound(layout, volume)

    def test_one_number_other(self):
        """Each number of a sound volume made another: what is looked at makes it unsound, and mend tells the same."""
        layout, volume = sample()
        for block in range(layout.many()):
            for place in range(8):
                for number in (0, 1, 2, 3, 19, 89, TOP, -1, HUGE):
                    spoilt = copy.deepcopy(volume)
                    spoilt[block][place] = number
                    due = [clause for clause in WORDS if plain_wrong((6, 3, 10), spoilt, clause)]
                    self.assertEqual(faults(layout, spoilt), due)
                    self.assertEqual(mend(layout, spoilt)[0] == spoilt, due == [])


class ByHand(unittest.TestCase):
    """What one clause's change breaks in a later one is told there."""

    def ask(self, changed, due):
        layout, volume = sample()
        for (block, place), number in changed.items():
            volume[block][place] = number
        mended, changes = mend(layout, volume)
        self.assertEqual(changes, due)
        for clause, block, place, number in due:
            volume[block][place] = number
        self.assertEqual(mended, volume)

    def test_a_label_out_of_bounds(self):
        self.ask({(0, 1): -1}, [("bounds", 0, 1, 0), ("head", 0, 1, 5)])
        check = sample()[1][0][7]
        self.ask({(0, 1): TOP + 1, (1, 1): HUGE}, [
            ("bounds", 0, 1, 0), ("bounds", 1, 1, 0), ("head", 0, 7, check - 10), ("head", 1, 7, check - 10),
        ])

    def test_a_pointer_out_of_bounds(self):
        self.ask({(12, 4): -1}, [("bounds", 12, 4, 0), ("map", 2, 0, 0b111110)])

    def test_the_block_more_lost(self):
        self.ask({(13, 7): 9}, [("piece", 13, 7, 0), ("map", 2, 0, 0b111)])
        self.ask({(13, 1): 24}, [("piece", 13, 7, 0), ("map", 2, 0, 0b111)])

    def test_a_kind_lost(self):
        self.ask({(11, 0): 3}, [
            ("kind", 11, 0, 0), ("name", 16, 0, 0), ("name", 16, 4, 0), ("count", 12, 2, 1),
        ])

    def test_a_file_that_becomes_a_folder(self):
        self.ask({(12, 0): 2}, [("name", 17, 4, 0), ("count", 12, 2, 1), ("map", 2, 0, 0b111100)])

    def test_a_size_below_0(self):
        self.ask({(12, 1): -1, (13, 1): 89}, [("bounds", 12, 1, 0), ("size", 13, 1, 88), ("piece", 12, 4, 0),
                                              ("piece", 12, 5, 0), ("map", 2, 0, 0b111100)])

    def test_a_found_file_with_a_slot_that_becomes_free(self):
        self.ask({(17, 3): 5}, [("found", 13, 3, 1), ("found", 15, 3, 0), ("count", 13, 2, 0), ("count", 15, 2, 1)])

    def test_a_ring(self):
        self.ask({(16, 1): 4, (18, 0): 1}, [("ring", 16, 0, 0), ("found", 11, 3, 1), ("found", 14, 3, 0),
                                            ("count", 11, 2, 0), ("count", 14, 2, 1)])

    def test_a_journal_that_is_whole(self):
        layout, volume = sample()
        volume[4] = [3, 0, 0, 0, 0, 0, 0, 0]
        volume[5] = [1, 0, 6, 2, 0, 0, 0, 0]
        numbers = [2, 11, 16, 0, 0, 0, 0] + volume[4] + volume[5]
        volume[3] = [2, sum((k + 1) * number for k, number in enumerate(numbers)), 11, 16, 0, 0, 0, 0]
        mended, changes = mend(layout, volume)
        self.assertEqual(changes, [
            ("journal", 11, 0, 3), ("journal", 11, 2, 0), ("journal", 16, 2, 6), ("journal", 16, 3, 2),
            ("journal", 16, 4, 0), ("journal", 16, 5, 0), ("journal", 16, 6, 0), ("journal", 16, 7, 0),
            ("journal", 3, 0, 0), ("journal", 3, 1, 0), ("journal", 3, 2, 0), ("journal", 3, 3, 0),
            ("kind", 11, 0, 0), ("name", 17, 4, 0), ("count", 12, 2, 1),
        ])
        self.assertEqual(faults(layout, mended), [])
        self.assertEqual(faults(layout, volume), ["journal"])

    def test_a_journals_row_out_of_bounds(self):
        layout, volume = sample()
        volume[4] = [1, -1, 0, 0, 0, 0, 0, 0]
        numbers = [1, 11, 0, 0, 0, 0, 0] + volume[4]
        volume[3] = [1, sum((k + 1) * number for k, number in enumerate(numbers)), 11, 0, 0, 0, 0, 0]
        self.assertEqual(faults(layout, volume), ["bounds", "journal"])
        # With the number put to 0 the journal is whole no longer, so its home stays.
        self.assertEqual(mend(layout, volume)[1], [
            ("bounds", 4, 1, 0), ("journal", 3, 0, 0), ("journal", 3, 1, 0), ("journal", 3, 2, 0),
        ])


class Faults(unittest.TestCase):
    def test_those_that_are_broken_as_the_volume_stands(self):
        for numbers, volume in cases():
            told = faults(Layout(*numbers), volume)
            self.assertIs(type(told), list)
            self.assertEqual(told, [clause for clause in WORDS if plain_wrong(numbers, volume, clause)])
            due = list(told)
            told.append("bounds")
            self.assertEqual(faults(Layout(*numbers), volume), due)

    def test_all_at_once(self):
        layout, volume = sample()
        for (block, place), number in {
            (4, 0): -1, (0, 1): 6, (3, 7): 1, (10, 0): 0, (12, 1): 90, (13, 5): 3, (17, 0): 2, (16, 1): 1, (15, 3): 7,
            (15, 2): 1, (2, 7): 1,
        }.items():
            volume[block][place] = number
        self.assertEqual(faults(layout, volume), list(WORDS))


class NoVolumes(unittest.TestCase):
    def ask(self, volume, at):
        layout = Layout(4, 2, 6)
        before = copy.deepcopy(volume)
        calls = [lambda: mend(layout, volume), lambda: faults(layout, volume)]
        calls += [lambda clause=clause: wrong(layout, volume, clause) for clause in WORDS]
        for call in calls:
            with self.assertRaises(NoVolume) as caught:
                call()
            self.assertEqual(caught.exception.at, at)
            self.assertIs(type(caught.exception), NoVolume)
        self.assertEqual(volume, before)

    def volumes(self):
        layout = Layout(4, 2, 6)
        return [empty(layout), noisy(layout, 1), [[HUGE] * 8 for block in range(22)]]

    def test_rows_too_many_and_too_few(self):
        for volume in self.volumes():
            self.ask(volume + [[0] * 8], -1)
            self.ask(volume[:-1], -1)
            self.ask([], -1)
            self.ask(volume + [None], -1)
            self.ask([None] + volume[:-2], -1)

    def test_rows_that_are_none(self):
        for row in ([0] * 7, [0] * 9, [], tuple([0] * 8), None, 5, "00000000", {k: 0 for k in range(8)}):
            for at in (0, 1, 3, 10, 21):
                for volume in self.volumes():
                    volume[at] = row
                    self.ask(volume, at)

    def test_numbers_that_are_none(self):
        for number in (True, False, None, "0", "", [0], [], (1,), 1.0):
            for at in (0, 2, 9, 14, 21):
                for place in (0, 3, 7):
                    for volume in self.volumes():
                        volume[at][place] = number
                        self.ask(volume, at)

    def test_the_first_row_that_is_none(self):
        for volume in self.volumes():
            volume[20] = None
            volume[7][7] = True
            volume[8] = ()
            self.ask(volume, 7)


if __name__ == "__main__":
    unittest.main()
