"""Long rows of deeds, held against a plain table of paths, and broken off behind each of their single writes."""

import collections
import random
import unittest

from volumemend.errors import (BadName, BadNumber, Full, IntoItself, NoPath, NotEmpty, NotFile, NotFolder, Taken, TooFar,
                               VolumeError)
from volumemend.journal import put, singles
from volumemend.layout import TOP, Layout, empty
from volumemend.mender import faults, mend
from volumemend.naming import Make, Move, Name, Unname
from volumemend.paths import info, listed, read
from volumemend.spans import Cut, Write
from volumes import assert_refused, homes_of, likely, with_journal

LAYOUTS = ((12, 8, 40), (6, 4, 12), (5, 2, 5), (2, 1, 2), (12, 3, 8), (4, 8, 20))


class File:
    def __init__(self):
        self.numbers = []
        self.held = set()
        self.more = False


class Folder:
    def __init__(self):
        self.entries = {}


class Table:
    """Folders are dicts of names, files lists of numbers. Kept beside is only what must be known to say that a volume
    is full: how many records, slots and blocks there are, and which pieces have one."""

    def __init__(self, files, slots, data):
        self.records, self.slots, self.blocks = files, 2 * slots, data
        self.top = Folder()
        self.found = {}

    def nodes(self):
        told, todo = [], [self.top] + list(self.found.values())
        while todo:
            node = todo.pop()
            if not any(node is other for other in told):
                told.append(node)
                todo += list(node.entries.values()) if isinstance(node, Folder) else []
        return told

    def folders(self):
        return [node for node in self.nodes() if isinstance(node, Folder)]

    def names(self, node):
        return sum(other is node for folder in self.folders() for other in folder.entries.values())

    def free_slots(self):
        return self.slots - sum(len(folder.entries) for folder in self.folders())

    def free_blocks(self):
        return self.blocks - sum(len(node.held) + node.more for node in self.nodes() if isinstance(node, File))

    def paths(self):
        told, todo = {}, {(): self.top, **{(0, f): node for f, node in self.found.items()}}
        while todo:
            path, node = todo.popitem()
            told[path] = node
            if isinstance(node, Folder):
                todo.update({path + (name,): other for name, other in node.entries.items()})
        return told

    def node(self, path):
        if path not in self.paths():
            raise NoPath
        return self.paths()[path]

    def file(self, path):
        node = self.node(path)
        if isinstance(node, Folder):
            raise NotFile
        return node

    def check_newer(self, newer):
        if not newer or newer[-1] < 1 or newer[-1] > TOP or newer[:-1] == (0,):
            raise BadName

    def folder_for(self, newer):
        folder = self.node(newer[:-1])
        if isinstance(folder, File):
            raise NotFolder
        if newer[-1] in folder.entries:
            raise Taken
        return folder

    def take_slot(self, due=True):
        if due and self.free_slots() < 1:
            raise Full

    def take_off(self, path):
        if path[:-1] == (0,):
            del self.found[path[1]]
        else:
            del self.node(path[:-1]).entries[path[-1]]

    def make(self, path, kind=1):
        self.check_newer(path)
        folder = self.folder_for(path)
        if len(self.nodes()) >= self.records:
            raise Full
        self.take_slot()
        folder.entries[path[-1]] = File() if kind == 1 else Folder()

    def name(self, path, newer):
        self.check_newer(newer)
        node = self.file(path)
        folder = self.folder_for(newer)
        self.take_slot()
        if path[:-1] == (0,):
            self.take_off(path)
        folder.entries[newer[-1]] = node

    def unname(self, path):
        if path in ((), (0,)):
            raise BadName
        node = self.node(path)
        if isinstance(node, Folder) and node.entries:
            raise NotEmpty
        self.take_off(path)

    def move(self, path, newer):
        if path in ((), (0,)):
            raise BadName
        self.check_newer(newer)
        node = self.node(path)
        folder = self.folder_for(newer)
        # A folder lies in another where a beginning of its path tells that one.
        if any(self.node(newer[:many]) is node for many in range(len(newer)) if newer[:many] != (0,)):
            raise IntoItself
        self.take_slot(path[:-1] == (0,))
        self.take_off(path)
        folder.entries[newer[-1]] = node

    def write(self, path, at, numbers):
        if len(numbers) not in range(1, 9) or min(numbers) < 0 or max(numbers) > TOP:
            raise BadNumber
        node = self.file(path)
        if at < 0 or at + len(numbers) > 88:
            raise TooFar
        pieces = {place // 8 for place in range(at, at + len(numbers))} - node.held
        more = not node.more and any(k > 2 for k in pieces)
        if self.free_blocks() < len(pieces) + more:
            raise Full
        node.held |= pieces
        node.more = node.more or more
        node.numbers += [0] * (at - len(node.numbers))
        node.numbers[at:at + len(numbers)] = numbers

    def cut(self, path, size=0):
        node = self.file(path)
        if size not in range(89):
            raise TooFar
        node.numbers = (node.numbers + [0] * 88)[:size]
        node.held = {k for k in node.held if 8 * k < size}
        node.more = node.more and size > 24


def table_of(layout, volume):
    """The table of a sound volume, from its numbers."""
    table = Table(layout.files, layout.slots, layout.data)
    nodes = {0: table.top}
    for f in range(1, layout.files):
        kind, size, names, found, *first, more = volume[10 + f]
        if kind == 1:
            nodes[f] = File()
            blocks = first + (volume[more] if more else [0] * 8)
            nodes[f].numbers = [volume[blocks[p // 8]][p % 8] if blocks[p // 8] else 0 for p in range(size)]
            nodes[f].held = {k for k in range(11) if blocks[k]}
            nodes[f].more = more != 0
        elif kind == 2:
            nodes[f] = Folder()
        if kind != 0 and found == 1:
            table.found[f] = nodes[f]
    for row in volume[10 + layout.files:10 + layout.files + layout.slots]:
        for used, folder, name, file in (row[:4], row[4:]):
            if used == 1:
                nodes[folder].entries[name] = nodes[file]
    return table


MADE = {"make": Make, "name": Name, "unname": Unname, "move": Move, "write": Write, "cut": Cut}


def some_deed(chance, table):
    """A word and arguments of a deed that may be done, or is refused for one thing or another."""
    paths = sorted(table.paths())
    odd = [(), (0,), (0, 0), (0, 1), (0, 99), (9,), (1, 0), (0, 1, 2), (2, 2, 2), (-1,), (TOP + 1,)]
    files = [path for path in paths if isinstance(table.node(path), File)] or [()]
    folders = [path for path in paths if isinstance(table.node(path), Folder)]
    path = chance.choice(chance.choice((paths, paths, paths, odd)))
    file = chance.choice(chance.choice((files, files, files, files, paths, odd)))
    rest = chance.choice(chance.choice((folders, folders, folders, folders, folders, folders, paths, odd)))
    newer = rest + (chance.choice((1, 2, 3, 4, 5, 6, 1, 2, 3, 4, 5, 6, TOP, 0, -1, TOP + 1)),)
    numbers = [chance.choice((0, 1, 7, TOP, chance.randrange(1, 1000))) for turn in range(chance.randrange(1, 9))]
    odd_numbers = chance.choice(([], [1] * 9, [-1], [5, TOP + 1], numbers, numbers))
    at = chance.choice((0, 1, 5, 8, 9, 16, 20, 23, 24, 30, 60, 79, 80, 81, 87, chance.randrange(88), -1, 88))
    return chance.choice((
        ("make", path if chance.randrange(9) == 0 else newer), ("make", newer, 2), ("make", newer, chance.choice((1, 2))),
        ("name", file, newer), ("unname", path), ("unname", file), ("move", path, newer), ("move", path, newer),
        ("write", file, at, numbers), ("write", file, at, numbers), ("write", file, max(0, min(at, 88 - len(numbers))), numbers),
        ("write", file, at, odd_numbers), ("cut", file, chance.choice((0, 1, 8, 11, 20, 24, 25, 30, 48, 80, 88, -1, 89))),
        ("cut", file, chance.randrange(89)), ("cut", file) if chance.randrange(3) == 0 else ("cut", file, 88),
    ))


def due_of(table, word, arguments):
    """Does the deed in the table; tells its refusal's class, or None."""
    try:
        getattr(table, word)(*arguments)
    except VolumeError as refusal:
        return type(refusal)
    return None


def row_of_deeds(layout, volume, seed, many):
    """Deeds, one behind the other, each with what it was told to do and the table behind it.

    The one that asks puts the homes into its volume; a refused deed changes neither."""
    chance = random.Random(seed)
    table = table_of(layout, volume)
    for turn in range(many):
        word, *arguments = some_deed(chance, table)
        deed = MADE[word](*arguments)
        yield deed, due_of(table, word, arguments), table


def starts():
    """Sound volumes to begin with: empty ones, and such as are mended from any numbers, with found records in them."""
    for numbers in LAYOUTS:
        layout = Layout(*numbers)
        yield layout, empty(layout, 5)
        for seed in range(2):
            yield layout, mend(layout, with_journal(layout, likely(layout, seed), seed))[0]


class Rows(unittest.TestCase):
    def assert_answers(self, layout, volume, table):
        self.assertEqual(listed(layout, volume, (0,)), sorted(table.found))
        for path, node in table.paths().items():
            if isinstance(node, File):
                self.assertEqual(read(layout, volume, path), node.numbers)
                self.assertEqual(info(layout, volume, path), (1, len(node.numbers), table.names(node)))
            else:
                self.assertEqual(listed(layout, volume, path), sorted(node.entries))
                self.assertEqual(info(layout, volume, path), (2, 0, table.names(node)))

    def assert_broken_off(self, layout, volume, homes):
        writes = singles(homes)
        after = put(volume, writes)
        for many in range(len(writes) + 1):
            mended = mend(layout, put(volume, writes[:many]))[0]
            # The journal's head is written behind a journal's row for each home.
            due = after if many > len(homes) else volume
            self.assertEqual(mended[:4] + mended[10:], due[:4] + due[10:])
        self.assertEqual(mend(layout, after), (after, []))

    def test_deeds_answer_as_a_plain_table_does(self):
        counts = collections.Counter()
        for seed, (layout, volume) in enumerate(starts()):
            for deed, error, table in row_of_deeds(layout, volume, seed, 400):
                counts[type(deed).__name__, error and error.__name__] += 1
                with self.subTest(seed=seed, deed=type(deed).__name__, **vars(deed)):
                    if error is None:
                        volume = put(volume, singles(homes_of(self, layout, volume, deed)))
                        self.assertEqual(faults(layout, volume), [])
                    else:
                        assert_refused(self, layout, volume, deed, error)
                    self.assert_answers(layout, volume, table)
        self.assert_all_came(counts)

    def assert_all_came(self, counts):
        """Each deed was done and refused for each thing that it can be refused for."""
        newer = ["BadName", "NoPath", "NotFolder", "Taken", "Full"]
        for word, errors in (
            ("Make", newer), ("Name", newer + ["NotFile"]), ("Unname", ["BadName", "NoPath", "NotEmpty"]),
            ("Move", newer + ["IntoItself"]), ("Write", ["BadNumber", "NoPath", "NotFile", "TooFar", "Full"]),
            ("Cut", ["NoPath", "NotFile", "TooFar"]),
        ):
            for error in errors + [None]:
                self.assertGreater(counts[word, error], 0, (word, error))
            self.assertGreater(counts[word, None], 30, word)
            self.assertEqual({error for kind, error in counts if kind == word} - {*errors, None}, set())

    def test_deeds_broken_off_and_mended(self):
        for seed, (layout, volume) in enumerate(starts()):
            for deed, error, table in row_of_deeds(layout, volume, 100 + seed, 200):
                if error is None:
                    homes = deed.homes(layout, volume)
                    self.assert_broken_off(layout, volume, homes)
                    volume = put(volume, singles(homes))
                else:
                    with self.assertRaises(VolumeError):
                        deed.homes(layout, volume)

    def test_six_homes_broken_off_and_mended(self):
        layout = Layout(3, 1, 8)
        volume = empty(layout)
        for deed in (Make((1,)), Write((1,), 0, [1, 2, 3, 4, 5, 6, 7, 8]), Cut((1,), 3)):
            volume = put(volume, singles(deed.homes(layout, volume)))
        homes = Write((1,), 79, [8, 9]).homes(layout, volume)
        self.assertEqual(len(homes), 6)
        self.assert_broken_off(layout, volume, homes)


if __name__ == "__main__":
    unittest.main()
