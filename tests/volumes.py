"""Sound volumes for the tests, made by hand: what hangs on other numbers (names, found, map) is worked out here.
Volumes with any numbers. And what is asked of every deed."""

import copy
import random

from volumemend.journal import put
from volumemend.layout import TOP, Layout, empty
from volumemend.mender import faults


def row_of(first):
    return [first + place for place in range(8)]


def claimed_blocks(layout, volume):
    """The data blocks that pointers tell, by files and pointers in order; each pointer is asked whether it is right."""
    told = []
    for f in range(1, layout.files):
        kind, size, names, found, *first, more = volume[layout.record_at(f)]
        if kind != 1:
            continue
        assert 0 <= size <= 88, f
        blocks = first + (volume[more] if more else [])
        wanted = [8 * k < size for k in range(11)]
        right = [block == 0 or wanted[k] for k, block in enumerate(blocks)] + [more == 0 or size > 24]
        assert all(right), f
        told += [block for block in first + [more] + blocks[3:] if block]
    assert len(set(told)) == len(told) and all(layout.is_data(block) for block in told), told
    return told


def assert_tree(layout, volume, slots):
    kinds = [2] + [volume[layout.record_at(f)][0] for f in range(1, layout.files)]
    assert set(kinds) <= {0, 1, 2}
    places = [(folder, name) for folder, name, file in slots.values()]
    assert len(set(places)) == len(places)
    up = {}
    for folder, name, file in slots.values():
        assert kinds[folder] == 2 and 1 <= name <= TOP and file != 0 and kinds[file] in (1, 2)
        if kinds[file] == 2:
            assert file not in up
            up[file] = folder
    for folder in up:
        steps = 0
        while folder in up:
            folder, steps = up[folder], steps + 1
            assert steps < layout.files


def sound(numbers, records, slots, blocks=None, unused=None):
    """records: f -> (kind, size, p0, p1, p2, more); slots: s -> (folder, name, file); unused: s -> three numbers."""
    layout = Layout(*numbers)
    volume = empty(layout, 5)
    for block, row in (blocks or {}).items():
        volume[block] = list(row)
    for f, (kind, size, *pointers) in records.items():
        naming = [s for s, said in slots.items() if said[2] == f]
        volume[10 + f] = [kind, size, len(naming), 0 if naming or kind == 0 else 1] + pointers
    said = {s: [0, *rest] for s, rest in (unused or {}).items()}
    said.update({s: [1, *rest] for s, rest in slots.items()})
    for s, four in said.items():
        place = 4 * (s % 2)
        volume[10 + numbers[0] + s // 2][place:place + 4] = four
    for block in claimed_blocks(layout, volume):
        place = block - layout.data_at(0)
        volume[2][place // 20] += 2 ** (place % 20)
    assert_tree(layout, volume, slots)
    assert all(0 <= number <= TOP for row in volume for number in row)
    assert faults(layout, volume) == []
    return layout, volume


# Numbers that may mean something in one place or another, and such as no sound volume has.
ANY = (0, 0, 0, 1, 1, 2, 2, 3, 4, 5, 6, 9, 10, 13, 16, 17, 18, 20, 24, 25, 30, 88, 89, 1179, TOP, TOP + 1, -1, -2, -88,
       -TOP, 10 ** 39, 10 ** 40 - 1, 1 - 10 ** 40)


def noisy(layout, seed):
    chance = random.Random(seed)
    return [[chance.choice(ANY) for place in range(8)] for block in range(layout.many())]


def likely(layout, seed):
    """Any numbers, but most of them such as might stand in a sound volume at their place: much hangs together here."""
    chance = random.Random(seed)
    data = [layout.data_at(place) for place in range(layout.data)]
    volume = empty(layout, chance.choice((0, 7, TOP)))
    for row in volume[4:10]:
        row[:] = [chance.choice((0, 1, 2, 5, data[0], data[-1])) for place in range(8)]
    for f in range(layout.files):
        pointers = [chance.choice([0] + data) for place in range(4)]
        size = chance.choice((0, 3, 8, 20, 24, 25, 40, 88, 88, 89, -1))
        volume[layout.record_at(f)] = [chance.choice((0, 1, 1, 2, 2, 2)), size, chance.randrange(3), chance.randrange(2)] + pointers
    for e in range(layout.slots):
        volume[layout.names_at(e)] = [
            number for turn in range(2) for number in (
                chance.choice((0, 1, 1, 1, 1, 2)), chance.randrange(layout.files), chance.choice((1, 2, 3, 0, TOP)),
                chance.randrange(layout.files))
        ]
    for block in data:
        volume[block] = [chance.choice([0, 1] + data) for place in range(8)]
    for turn in range(chance.choice((0, 0, 1, 5))):
        volume[chance.randrange(layout.many())][chance.randrange(8)] = chance.choice(ANY)
    return volume


def with_journal(layout, volume, seed):
    """The volume with a journal that is whole, and any numbers in the homes that it tells."""
    chance = random.Random(seed)
    homes = [2] + list(range(10, layout.many()))
    count = chance.randrange(1, 7)
    targets = (chance.sample(homes, count) + [0] * 6)[:6]
    told = [list(row) for row in volume]
    for target in targets[:count]:
        if chance.randrange(2):
            told[target] = [chance.choice(ANY) for place in range(8)]
    numbers = [count] + targets + [number for row in told[4:4 + count] for number in row]
    check = sum(place * number for place, number in enumerate(numbers, 1)) % 1000003
    told[3] = [count, check] + targets
    return told


def homes_of(case, layout, volume, deed):
    """A deed's homes, asked as the document tells them of every deed."""
    before = copy.deepcopy(volume)
    told = deed.homes(layout, volume)
    case.assertIs(type(told), list)
    blocks = [block for block, row in told]
    case.assertEqual(blocks, sorted(set(blocks)))
    case.assertLessEqual(len(told), 6)
    for home in told:
        case.assertIs(type(home), tuple)
        block, row = home
        case.assertTrue(layout.is_home(block), block)
        case.assertIs(type(row), list)
        case.assertEqual([type(number) for number in row], [int] * 8)
        case.assertNotEqual(row, volume[block])
    due = copy.deepcopy(told)
    for block, row in told:
        row.clear()
    told.clear()
    case.assertEqual(deed.homes(layout, volume), due)
    case.assertEqual(volume, before)
    case.assertEqual(faults(layout, put(volume, due)), [])
    return due


def behind(case, layout, volume, deed):
    """The volume behind a deed."""
    return put(volume, homes_of(case, layout, volume, deed))


def assert_refused(case, layout, volume, deed, error):
    before = copy.deepcopy(volume)
    for turn in range(2):
        with case.assertRaises(error) as caught:
            deed.homes(layout, volume)
        case.assertIs(type(caught.exception), error)
    case.assertEqual(volume, before)
