"""What the tests reckon for themselves, by other ways than the program takes."""

import re
import struct
import zlib

WORD = 2 ** 32


def fault_of(function, *args):
    """Return the name of the class of the error that a call raises and its `at`; None if it raises none."""
    try:
        function(*args)
    except ValueError as error:
        return (type(error).__name__, error.at)
    return None


def steps(number):
    """The digits in base 128, from their number on: divided anew for each."""
    count = 1
    while 128 ** count <= number:
        count += 1
    digits = [number // 128 ** k % 128 for k in range(count)]
    return [digit + 128 for digit in digits[:-1]] + digits[-1:]


def sum_of(row):
    return list(struct.pack("<I", zlib.crc32(bytes(row))))


def bits_checksum(row):
    """Point 103, bit by bit."""
    remainder = 0xFFFFFFFF
    for byte in row:
        for place in range(8):
            t = byte >> place & 1 ^ remainder & 1
            remainder = remainder >> 1
            if t == 1:
                remainder = remainder ^ 0xEDB88320
    return remainder ^ 0xFFFFFFFF


def parts_of(leaf):
    """The fields of a leaf's writing, as pairs of the error that its field has and its bytes."""
    kind, stamp, number, track, ordinal, time, span, key, body = leaf
    parts = [
        ("BadKind", [kind]),
        ("BadStamp", list(struct.pack("<I", stamp))),
        ("BadNumber", list(struct.pack("<I", number))),
        ("BadTrack", steps(track)),
        ("BadOrdinal", steps(ordinal)),
        ("BadTime", steps(time)),
        ("BadSpan", steps(span)),
        ("BadKey", [key]),
        ("BadSize", steps(len(body))),
        ("ShortBody", list(body)),
    ]
    return parts


def joined(parts):
    """The bytes of the fields with their checksum behind them."""
    row = [byte for _, part in parts for byte in part]
    return row + sum_of(row)


def starts_of(parts):
    """The index at which each field starts, and the one at which the checksum starts."""
    starts = {}
    at = 0
    for name, part in parts:
        starts[name] = at
        at += len(part)
    starts["BadCheck"] = at
    return starts


def step_there(row, at):
    """The pair of the only number whose bytes stand at `at` and the index behind it, or None."""
    for count in range(1, 7):
        part = row[at:at + count]
        number = sum(byte % 128 * 128 ** k for k, byte in enumerate(part))
        if len(part) == count and number < 2 ** 40 and steps(number) == part:
            return (number, at + count)
    return None


def first_fault(row):
    """The first fault of point 107 as a pair, or the leaf that the row is the writing of."""
    if row[:1] == [] or row[0] > 4:
        return ("BadKind", 0)
    leaf = [row[0]]
    at = 1
    for name in ("BadStamp", "BadNumber"):
        if len(row) - at < 4:
            return (name, at)
        leaf.append(struct.unpack("<I", bytes(row[at:at + 4]))[0])
        at += 4
    tops = (("BadTrack", 15), ("BadOrdinal", 2 ** 24 - 1), ("BadTime", 2 ** 40 - 1), ("BadSpan", 2 ** 24 - 1))
    for name, top in tops:
        found = step_there(row, at)
        if found is None or found[0] > top:
            return (name, at)
        leaf.append(found[0])
        at = found[1]
    if row[at:at + 1] not in ([0], [1]):
        return ("BadKey", at)
    leaf.append(row[at])
    found = step_there(row, at + 1)
    if found is None or found[0] > 1024:
        return ("BadSize", at + 1)
    size, at = found
    if len(row) < at + size:
        return ("ShortBody", at)
    leaf.append(row[at:at + size])
    at += size
    if row[at:] != sum_of(row[:at]):
        return ("BadCheck", at)
    return tuple(leaf)


# Files of presentations, by the points of part 2, 3 and 5.

# A small presentation with everything: tags, three tracks, one of them empty, keys that an index may name.
SMALL = (
    1000, 3,
    [
        ("left one", "sound", [(0, 20, [1, 2, 3], False), (20, 20, [1, 2, 4], True), (50, 5, [0, 0], False)]),
        ("", "b", []),
        ("z", "picture", [(10, 10, [9] * 200, False), (20, 5, [], False), (25, 1, [7], True), (50, 9, [], False)]),
    ],
    [("author", "Somebody"), ("title", "")],
)
SMALL_ORDER = [(1, 0), (3, 0), (1, 1), (3, 1), (3, 2), (1, 2), (3, 3)]


def stuffed(row):
    """The piece of a row: the runs between its zeros, each in full blocks and a rest."""
    piece = []
    for run in bytes(row).split(b"\0"):
        while len(run) >= 254:
            piece += [255, *run[:254]]
            run = run[254:]
        piece += [len(run) + 1, *run]
    return piece


def file_of(leaves):
    return [0] + [byte for leaf in leaves for byte in stuffed(joined(parts_of(leaf))) + [0]]


def with_field(leaf, at, field):
    return leaf[:at] + (field,) + leaf[at + 1:]


def change_of(old, new):
    """Point 206, by trying all numbers."""
    front = max(k for k in range(min(len(old), len(new)) + 1) if old[:k] == new[:k])
    rests = (old[front:], new[front:])
    most = min(len(rest) for rest in rests)
    back = max(k for k in range(most + 1) if rests[0][len(rests[0]) - k:] == rests[1][len(rests[1]) - k:])
    return (front, back, rests[1][:len(rests[1]) - back])


def sized_text(text):
    return steps(len(text)) + list(text.encode("ascii"))


def head_of(presentation):
    ticks, skip, tracks, _ = presentation
    body = list(b"spool\1") + steps(ticks) + steps(skip) + steps(len(tracks))
    for name, kind, units in tracks:
        body += sized_text(name) + sized_text(kind) + steps(len(units))
    return body


def tags_of(tags):
    return steps(len(tags)) + [byte for pair in tags for text in pair for byte in sized_text(text)]


def index_of(entries):
    return steps(len(entries)) + [byte for entry in entries for number in entry for byte in steps(number)]


def end_body_of(count, total):
    return steps(count) + list(struct.pack("<I", total))


def sealed(leaves):
    """The leaves with an end behind them that fits them."""
    number = len(leaves)
    total = zlib.crc32(bytes(file_of(leaves)))
    return leaves + [(4, leaves[0][1], number, 0, 0, 0, 0, 0, end_body_of(number + 1, total))]


def unit_leaf_of(presentation, stamp, number, track, ordinal):
    time, span, content, leans = presentation[2][track - 1][2][ordinal]
    body = list(content)
    if leans:
        front, back, middle = change_of(presentation[2][track - 1][2][ordinal - 1][2], content)
        body = steps(front) + steps(back) + middle
    return (2, stamp, number, track, ordinal, time, span, int(not leans), body)


def with_index(leaves, entries):
    """The leaves with an index behind them that names these units."""
    rows = [(leaf[3], leaf[5], len(file_of(leaves[:at]))) for at, leaf in enumerate(leaves)
            if leaf[0] == 2 and (leaf[3], leaf[4]) in entries]
    return leaves + [(3, leaves[0][1], len(leaves), 0, 0, 0, 0, 0, index_of(rows))]


def leaves_without_end(presentation, stamp, order, entries):
    """Points 301 to 303."""
    leaves = [(0, stamp, 0, 0, 0, 0, 0, 0, head_of(presentation))]
    if presentation[3]:
        leaves.append((1, stamp, 1, 0, 0, 0, 0, 0, tags_of(presentation[3])))
    for track, ordinal in order:
        leaves.append(unit_leaf_of(presentation, stamp, len(leaves), track, ordinal))
    return with_index(leaves, entries)


def all_leaves(presentation, stamp, order, entries):
    return sealed(leaves_without_end(presentation, stamp, order, entries))


def order_by_time(presentation):
    tracks = presentation[2]
    pairs = [(track, ordinal) for track in range(1, len(tracks) + 1) for ordinal in range(len(tracks[track - 1][2]))]
    return sorted(pairs, key=lambda pair: (tracks[pair[0] - 1][2][pair[1]][0], pair[0]))


def some_order(chance, presentation):
    """Any order that keeps the order of each track."""
    rows = [[(at + 1, ordinal) for ordinal in range(len(track[2]))] for at, track in enumerate(presentation[2])]
    order = []
    while any(rows):
        order.append(chance.choice([row for row in rows if row]).pop(0))
    return order


def keys_by_track(presentation):
    return [[not leans for _, _, _, leans in units] for _, _, units in presentation[2]]


def some_layout(chance, presentation):
    """Any stamp, any order of the units and any entries of the index."""
    names = names_of(keys_by_track(presentation))
    entries = chance.sample(names, chance.randrange(len(names) + 1))
    return (chance.randrange(WORD), some_order(chance, presentation), entries)


def any_file(chance, presentation):
    """Any file of a presentation."""
    return file_of(all_leaves(presentation, *some_layout(chance, presentation)))


def spoil(presentation):
    """Change all lists of a presentation."""
    for _, _, units in presentation[2]:
        for _, _, content, _ in units:
            content.append(5)
        units.clear()
    presentation[2].clear()
    presentation[3].clear()


def some_presentation(chance, most_units=8, most_content=12):
    """A presentation by chance; many times and contents are alike."""
    tracks = []
    for _ in range(chance.randrange(4)):
        units = []
        time = chance.randrange(5)
        content = []
        for _ in range(chance.randrange(most_units + 1)):
            span = chance.choice((1, 2, 5))
            leans = bool(units) and chance.random() < 0.5
            content = content[:chance.randrange(len(content) + 1)] + [
                chance.choice((0, 1, 255)) for _ in range(chance.randrange(most_content))]
            units.append((time, span, content[:most_content], leans))
            time += span + chance.choice((0, 0, 1, 300))
        name = "".join(chance.choice(" ~aZ0") for _ in range(chance.randrange(4)))
        tracks.append((name, chance.choice(("a", "sound", "z" * 16)), units))
    tags = [(key, "v" * chance.randrange(4)) for key in ("a", "b", "ba") if chance.random() < 0.4]
    return (chance.choice((1, 1000, 90000)), chance.choice((0, 7, 2 ** 40 - 1)), tracks, tags)


# Reading, by point 305.

class Found(Exception):
    """The first error: the name of its class and its `at`."""


def need(holds, name, number):
    if not holds:
        raise Found(name, number)


class Cursor:
    """Takes a body apart; what is not there is a BadBody."""

    def __init__(self, body, number):
        self.body, self.at, self.number = body, 0, number

    def step(self, least, top):
        found = step_there(self.body, self.at)
        need(found is not None and least <= found[0] <= top, "BadBody", self.number)
        self.at = found[1]
        return found[0]

    def text(self, pattern):
        size = self.step(0, 1024)
        start = self.at
        self.at += size
        need(self.at <= len(self.body), "BadBody", self.number)
        text = bytes(self.body[start:self.at]).decode("latin-1")
        need(re.fullmatch(pattern, text, re.DOTALL), "BadBody", self.number)
        return text

    def stop(self):
        need(self.at == len(self.body), "BadBody", self.number)


NAME = "[ -$&-~]{0,32}"
WORD_FORM = "[a-z]{1,16}"
VALUE = "[ -$&-~]{0,100}"


def told_head(body, number=0):
    need(body[:5] == list(b"spool"), "BadBody", number)
    cursor = Cursor(body, number)
    cursor.at = 5
    cursor.step(1, 1)
    ticks, skip, many = cursor.step(1, 90000), cursor.step(0, 2 ** 40 - 1), cursor.step(0, 15)
    rows = [(cursor.text(NAME), cursor.text(WORD_FORM), cursor.step(0, 300)) for _ in range(many)]
    cursor.stop()
    return (ticks, skip, rows)


def told_tags(body, number=0):
    need(len(body) <= 1024, "BadBody", number)
    cursor = Cursor(body, number)
    tags = [(cursor.text(WORD_FORM), cursor.text(VALUE)) for _ in range(cursor.step(1, 2 ** 40))]
    cursor.stop()
    keys = [key for key, _ in tags]
    need(keys == sorted(set(keys)), "BadBody", number)
    return tags


def told_index(body, number=0):
    cursor = Cursor(body, number)
    top = 2 ** 40 - 1
    rows = [(cursor.step(0, 15), cursor.step(0, top), cursor.step(0, top)) for _ in range(cursor.step(0, 100))]
    cursor.stop()
    return rows


def told_end(body, number=0):
    cursor = Cursor(body, number)
    count = cursor.step(0, WORD - 1)
    need(len(body) == cursor.at + 4, "BadBody", number)
    return (count, struct.unpack("<I", bytes(body[-4:]))[0])


def told_content(body, before, number=0):
    content = list(body)
    if before is not None:
        cursor = Cursor(body, number)
        front, back = cursor.step(0, 2 ** 40), cursor.step(0, 2 ** 40)
        need(front + back <= len(before), "BadBody", number)
        content = before[:front] + body[cursor.at:] + before[len(before) - back:]
        need(change_of(before, content) == (front, back, body[cursor.at:]), "BadBody", number)
    need(len(content) <= 200, "BadBody", number)
    return content


def told_leaf(piece, number):
    """Step 2: the leaf of a piece."""
    need(piece, "EmptyPiece", number)
    row = []
    rest = list(piece)
    while rest:
        size = rest[0]
        need(len(rest) >= size, "BadStuffing", number)
        row += rest[1:size] + [0] * (size < 255)
        need(size < 255 or len(rest) > size, "BadStuffing", number)
        rest = rest[size:]
    leaf = first_fault(row[:-1])
    need(not isinstance(leaf[0], str), leaf[0], number)
    return leaf


class Reading:
    """A list of bytes, read as a whole.

    `outcome` is the presentation, or the name of the first error and its `at`; `decided` is the index of the byte
    that decides this error, or None; `events` are the units, each with the index of the 0 behind its piece; `zeros`
    are those of all leaves.
    """

    def __init__(self, data, with_bodies=True):
        self.data, self.with_bodies = data, with_bodies
        self.events, self.zeros, self.leaves, self.starts = [], [], [], []
        self.decided = 0
        try:
            self.outcome = self.whole()
        except Found as found:
            self.outcome = found.args

    def whole(self):
        data = self.data
        if not data:
            self.decided = None
        need(data and data[0] == 0, "BadStart", 0)
        start = 1
        while start < len(data):
            self.decided = start
            number = len(self.leaves)
            need(not self.leaves or self.leaves[-1][0] != 4, "Behind", number)
            self.decided = data.index(0, start) if 0 in data[start:] else None
            need(self.decided is not None, "CutOff", number)
            leaf = told_leaf(data[start:self.decided], number)
            self.take(leaf, start, number)
            self.leaves.append(leaf)
            self.starts.append(start)
            self.zeros.append(self.decided)
            start = self.decided + 1
        self.decided = None
        need(self.leaves and self.leaves[-1][0] == 4, "NoEnd", len(self.leaves))
        ticks, skip, rows = told_head(self.leaves[0][8])
        tracks = [(name, kind, self.units(k + 1)) for k, (name, kind, _) in enumerate(rows)]
        return (ticks, skip, tracks, told_tags(self.leaves[1][8]) if self.leaves[1][0] == 1 else [])

    def units(self, track):
        return [unit for _, (other, unit) in self.events if other == track]

    def take(self, leaf, start, number):
        kind = leaf[0]
        need(not self.leaves or leaf[1] == self.leaves[0][1], "OtherStamp", number)
        need(leaf[2] == number, "WrongNumber", number)
        kinds = "".join(str(found[0]) for found in self.leaves + [leaf])
        need(re.fullmatch("01?2*3?|01?2*34", kinds), "WrongOrder", number)
        if kind == 2:
            self.take_unit(leaf, number)
            return
        need(not any(leaf[3:8]), "WrongFields", number)
        told = (told_head, told_tags, None, told_index, told_end)[kind](leaf[8], number)
        if kind == 3:
            keys = [(found[3], found[5], at) for found, at in zip(self.leaves, self.starts)
                    if found[0] == 2 and found[7] == 1 and found[4] > 0]
            need(told == [key for key in keys if key in told], "WrongEntry", number)
        if kind == 4:
            need(told[0] == number + 1, "WrongCount", number)
            need(told[1] == zlib.crc32(bytes(self.data[:start])), "WrongSum", number)
            rows = told_head(self.leaves[0][8])[2]
            many = [len([found for found in self.leaves if found[0] == 2 and found[3] == k + 1])
                    for k in range(len(rows))]
            need(many == [row[2] for row in rows], "MissingUnits", number)

    def take_unit(self, leaf, number):
        _, _, _, track, ordinal, time, span, key, body = leaf
        rows = told_head(self.leaves[0][8])[2]
        need(1 <= track <= len(rows), "NoTrack", number)
        before = [found for found in self.leaves if found[0] == 2 and found[3] == track]
        need(len(before) < rows[track - 1][2], "TooManyUnits", number)
        need(ordinal == len(before), "WrongOrdinal", number)
        need(span > 0 and (not before or time >= before[-1][5] + before[-1][6]), "WrongTime", number)
        need(key == 1 or before, "WrongKey", number)
        content = body
        if self.with_bodies:
            content = told_content(body, None if key else self.units(track)[-1][2], number)
        self.events.append((self.decided, (track, (time, span, content, key == 0))))


# The index, by part 5.

def names_of(keys):
    """The pairs that an index may name, in ascending order."""
    return [(at + 1, place) for at, row in enumerate(keys) for place in range(1, len(row)) if row[place]]


def greedy_of(row, w):
    """Point 503, from the lists of all keys."""
    named, start = [], 0
    while start + w < len(row):
        found = [place for place in range(start + 1, start + w + 1) if row[place]]
        if not found:
            return None
        start = found[-1]
        named.append(start)
    return named


def best_of(keys, count):
    """Point 504, by going through all reaches from the least one on."""
    if not any(keys):
        return ([], 0)
    w = 1
    while True:
        found = [greedy_of(row, w) for row in keys]
        if None not in found and sum(map(len, found)) <= count:
            return ([(at + 1, place) for at, named in enumerate(found) for place in named], w)
        w += 1
