"""Lists of bytes for which each error of point 305 is the first one."""

from helpers import (SMALL, SMALL_ORDER, WORD, all_leaves, end_body_of, file_of, index_of, joined, parts_of, sealed,
                     steps, stuffed, told_end, told_index, with_field)

STAMP = 77
ENTRIES = [(1, 2), (3, 1)]
# The head, the tags, the units (1, 0), (3, 0), (1, 1), (3, 1), (3, 2), (1, 2) and (3, 3), the index, the end.
LEAVES = all_leaves(SMALL, STAMP, SMALL_ORDER, ENTRIES)
SOUND = file_of(LEAVES)
KIND, NUMBER, TRACK, ORDINAL, TIME, SPAN, KEY, BODY = 0, 2, 3, 4, 5, 6, 7, 8
EVERY = range(len(LEAVES))
PLAIN = (0, 1, 9, 10)


def replaced(number, leaf, leaves=LEAVES):
    return leaves[:number] + [leaf] + leaves[number + 1:]


def with_leaf(number, *fields):
    """The file in which a leaf has other fields, given as pairs of their index and what stands there."""
    leaf = LEAVES[number]
    for at, field in fields:
        leaf = with_field(leaf, at, field)
    return file_of(replaced(number, leaf))


def numbered(leaves):
    return [with_field(leaf, NUMBER, number) for number, leaf in enumerate(leaves)]


def with_piece(number, piece):
    """The file in which another piece stands for a leaf."""
    return file_of(LEAVES[:number]) + piece + [0] + file_of(LEAVES[number + 1:])[1:]


def with_row(number, row):
    return with_piece(number, stuffed(row))


def with_part(number, name, part):
    """The file in which other bytes stand for a field of a leaf, with the right checksum."""
    parts = [(other, part if other == name else old) for other, old in parts_of(LEAVES[number])]
    return with_row(number, joined(parts))


def starts():
    for data in ([1], [1, 0], [255, 0, 0], SOUND[1:], [7] + SOUND):
        yield ("BadStart", 0, data)


def pieces():
    for number in EVERY:
        yield ("EmptyPiece", number, with_piece(number, []))
        for piece in ([2], [3, 1], [255], [255] + [1] * 254, [1, 1, 9, 5], ([255] + [1] * 254) * 2):
            yield ("BadStuffing", number, with_piece(number, piece))
    yield ("EmptyPiece", 0, [0, 0])


def writings():
    for number in EVERY:
        row = joined(parts_of(LEAVES[number]))
        sizes = ((0, "BadKind"), (1, "BadStamp"), (4, "BadStamp"), (5, "BadNumber"), (8, "BadNumber"), (9, "BadTrack"))
        for size, name in sizes:
            yield (name, number, with_row(number, row[:size]))
        for kind in (5, 6, 255):
            yield ("BadKind", number, with_part(number, "BadKind", [kind]))
        tops = (("BadTrack", 15), ("BadOrdinal", 2 ** 24 - 1), ("BadTime", 2 ** 40 - 1), ("BadSpan", 2 ** 24 - 1),
                ("BadSize", 1024))
        for name, top in tops:
            for part in (steps(top + 1), [128, 0], [255] * 6 + [1]):
                yield (name, number, with_part(number, name, part))
        for key in (2, 3, 255):
            yield ("BadKey", number, with_part(number, "BadKey", [key]))
        yield ("ShortBody", number, with_part(number, "BadSize", steps(1024)))
        yield ("BadCheck", number, with_row(number, row[:-1]))
        yield ("BadCheck", number, with_row(number, row + [0]))
        yield ("BadCheck", number, with_row(number, row[:-1] + [row[-1] ^ 1]))
        yield ("BadCheck", number, with_row(number, [row[0]] + [row[1] ^ 8] + row[2:]))


def stamps_and_numbers():
    for number in EVERY:
        for stamp in (0, STAMP + 1, 2 ** 32 - 1):
            if number > 0:
                yield ("OtherStamp", number, with_leaf(number, (1, stamp)))
                yield ("OtherStamp", number, with_leaf(number, (1, stamp), (NUMBER, 99), (KIND, 0)))
        for wrong in (number - 1, number + 1, 2 ** 32 - 1):
            if wrong >= 0:
                yield ("WrongNumber", number, with_leaf(number, (NUMBER, wrong)))
                yield ("WrongNumber", number, with_leaf(number, (NUMBER, wrong), (KIND, 4), (SPAN, 1)))


def orders():
    head, tags, units, index, end = LEAVES[0], LEAVES[1], LEAVES[2:9], LEAVES[9], LEAVES[10]
    kinds = (head, tags, units[0], index, end)
    for leaf in kinds[1:]:
        yield ("WrongOrder", 0, file_of(numbered([leaf] + LEAVES)))
        yield ("WrongOrder", 0, file_of([with_field(with_field(leaf, NUMBER, 0), TRACK, 9)]))
    for number in range(1, 10):
        yield ("WrongOrder", number, file_of(numbered(LEAVES[:number] + [head] + LEAVES[number:])))
        yield ("WrongOrder", number, file_of(numbered(LEAVES[:number] + [end])))
    for number in range(2, 10):
        yield ("WrongOrder", number, file_of(numbered(LEAVES[:number] + [tags] + LEAVES[number:])))
    for leaf in kinds[:4]:
        yield ("WrongOrder", 10, file_of(numbered(LEAVES[:10] + [leaf] + [end])))
        bad = with_field(with_field(leaf, ORDINAL, 5), BODY, [9] * 300)
        yield ("WrongOrder", 10, file_of(numbered(LEAVES[:10] + [bad] + [end])))
    yield ("WrongOrder", 2, file_of(numbered([head, units[0], tags])))
    bare = with_field(index, BODY, [0])
    yield ("WrongOrder", 2, file_of(numbered([head, bare, tags, end])))
    yield ("WrongOrder", 2, file_of(numbered([head, bare, units[0], end])))
    yield ("WrongOrder", 2, file_of(numbered([head, bare, bare, end])))


def fields():
    for number in PLAIN:
        for at in range(TRACK, BODY):
            yield ("WrongFields", number, with_leaf(number, (at, 1)))
            yield ("WrongFields", number, with_leaf(number, (at, 1), (BODY, [])))


def bodies():
    for number in PLAIN:
        body = LEAVES[number][BODY]
        for bad in ([], body[:-1], body + [0], body[1:], [255] * 9):
            yield ("BadBody", number, with_leaf(number, (BODY, bad)))
    yield ("BadBody", 1, with_leaf(1, (BODY, [0])))
    yield ("BadBody", 9, with_leaf(9, (BODY, [1, 16, 0, 0])))
    yield ("BadBody", 10, with_leaf(10, (BODY, end_body_of(2 ** 32, 0))))
    for number, size in ((2, 201), (3, 202), (5, 1024)):
        yield ("BadBody", number, with_leaf(number, (BODY, [1] * size)))
    # The fifth leaf leans on [1, 2, 3], the seventh one on nothing but an empty content.
    for body in ([], [0], [128, 0], [128], [3, 1], [4, 0], [0, 0, 1], [1, 0, 2], [0, 0, 3], [0, 0, 9, 3], [2, 1]):
        yield ("BadBody", 4, with_leaf(4, (BODY, body)))
    for body in ([], [0], [1, 0], [0, 1], [0, 0] + [7] * 201):
        yield ("BadBody", 6, with_leaf(6, (BODY, body)))


def units():
    for track in (0, 4, 15):
        for number in range(2, 9):
            yield ("NoTrack", number, with_leaf(number, (TRACK, track)))
            yield ("NoTrack", number, with_leaf(number, (TRACK, track), (ORDINAL, 9), (SPAN, 0), (BODY, [1] * 300)))
    more = with_field(LEAVES[8], ORDINAL, 4)
    yield ("TooManyUnits", 2, with_leaf(2, (TRACK, 2)))
    yield ("TooManyUnits", 2, with_leaf(2, (TRACK, 2), (ORDINAL, 1), (SPAN, 0), (KEY, 0)))
    yield ("TooManyUnits", 9, file_of(numbered(LEAVES[:9] + [more] + LEAVES[9:])))
    yield ("TooManyUnits", 9, file_of(numbered(LEAVES[:9] + [with_field(more, SPAN, 0)] + LEAVES[9:])))
    for number in range(2, 9):
        ordinal = LEAVES[number][ORDINAL]
        for wrong in (ordinal - 1, ordinal + 1, 2 ** 24 - 1):
            if wrong >= 0:
                yield ("WrongOrdinal", number, with_leaf(number, (ORDINAL, wrong)))
                yield ("WrongOrdinal", number, with_leaf(number, (ORDINAL, wrong), (SPAN, 0), (KEY, 0), (BODY, [])))
        yield ("WrongTime", number, with_leaf(number, (SPAN, 0)))
        yield ("WrongTime", number, with_leaf(number, (SPAN, 0), (KEY, 0), (BODY, [1] * 201)))
    for number in range(4, 9):
        before = [leaf for leaf in LEAVES[2:number] if leaf[TRACK] == LEAVES[number][TRACK]][-1]
        for time in (0, before[TIME], before[TIME] + before[SPAN] - 1):
            yield ("WrongTime", number, with_leaf(number, (TIME, time)))
            yield ("WrongTime", number, with_leaf(number, (TIME, time), (BODY, [1] * 201)))
    for number in (2, 3):
        yield ("WrongKey", number, with_leaf(number, (KEY, 0)))
        yield ("WrongKey", number, with_leaf(number, (KEY, 0), (BODY, [])))


def entries():
    rows = told_index(LEAVES[9][BODY])
    (one, other), nothing = rows, len(file_of(LEAVES[:9]))
    offsets = [len(file_of(LEAVES[:number])) for number in range(10)]
    wrong = [rows[::-1], [one, one], [one, other, other], [one, one, other]]
    for number in range(2, 9):
        leaf = LEAVES[number]
        if leaf[KEY] == 0 or leaf[ORDINAL] == 0:
            wrong.append([(leaf[TRACK], leaf[TIME], offsets[number])])
    for track, time, offset in rows:
        wrong += [[(other_track, time, offset)] for other_track in (0, 1, 2, 3, 15) if other_track != track]
        wrong += [[(track, other_time, offset)] for other_time in (0, time - 1, time + 1, 2 ** 40 - 1)]
        wrong += [[(track, time, at)] for at in (0, offset - 1, offset + 1, nothing, 2 ** 40 - 1)]
    wrong += [[(0, 0, at)] for at in (0, offsets[0], offsets[1], nothing)]
    wrong += [rows + [(0, 0, 2 ** 40 - 1)], [one, (other[0], other[1], one[2])], [one, (one[0], one[1], other[2])]]
    for bad in wrong:
        yield ("WrongEntry", 9, file_of(sealed(replaced(9, with_field(LEAVES[9], BODY, index_of(bad)))[:10])))


def ends():
    count, total = told_end(LEAVES[10][BODY])
    for wrong in (0, count - 1, count + 1, 2 ** 32 - 1):
        yield ("WrongCount", 10, with_leaf(10, (BODY, end_body_of(wrong, total))))
        yield ("WrongCount", 10, with_leaf(10, (BODY, end_body_of(wrong, total ^ 1))))
    for wrong in (0, total ^ 1, total ^ 2 ** 31):
        yield ("WrongSum", 10, with_leaf(10, (BODY, end_body_of(count, wrong))))
    # Without the last unit of the first or the third track, and with no unit at all.
    last = with_field(LEAVES[9], BODY, [0])
    for kept in (LEAVES[:8], LEAVES[:7] + LEAVES[8:9], LEAVES[:2], LEAVES[:1]):
        leaves = sealed(numbered(kept + [last]))
        yield ("MissingUnits", len(leaves) - 1, file_of(leaves))
        bad = file_of(replaced(len(leaves) - 1, with_field(leaves[-1], BODY, end_body_of(len(leaves), 0)), leaves))
        yield ("WrongSum", len(leaves) - 1, bad)
    for more in ([0], [1], [0, 0], [255] * 9, SOUND, SOUND[1:], stuffed([9]) + [0]):
        yield ("Behind", 11, SOUND + more)


def found_at_the_end():
    yield ("BadStart", 0, [])
    yield ("NoEnd", 0, [0])
    for number in range(1, 11):
        yield ("NoEnd", number, file_of(LEAVES[:number]))
    for number in EVERY:
        ahead, behind = len(file_of(LEAVES[:number])), len(file_of(LEAVES[:number + 1]))
        for size in range(ahead + 1, behind):
            yield ("CutOff", number, SOUND[:size])


GROUPS = (starts, pieces, writings, stamps_and_numbers, orders, fields, bodies, units, entries, ends)


def all_faults():
    """Tuples of the name of the error, its `at`, and the list of bytes; for each a byte decides the error."""
    return [fault for group in GROUPS for fault in group()]


def wrong_leaves(chance):
    """The leaves of a file with some fields, some places and some bodies changed, and mostly a right end."""
    leaves = list(all_leaves(SMALL, 77, SMALL_ORDER, chance.choice(([], ENTRIES)))[:10])
    for _ in range(chance.randrange(4)):
        number = chance.randrange(len(leaves))
        what = chance.randrange(5)
        if what == 0:
            at = chance.randrange(8)
            other = leaves[chance.randrange(len(leaves))][at]
            field = chance.choice((0, 1, 2, 3, 4, leaves[number][at] + 1, other))
            tops = (4, WORD - 1, WORD - 1, 15, 2 ** 24 - 1, 2 ** 40 - 1, 2 ** 24 - 1, 1)
            leaves[number] = with_field(leaves[number], at, min(field, tops[at]))
        elif what == 1:
            body = list(leaves[number][8])
            at = chance.randrange(len(body) + 1)
            body[at:at + chance.randrange(2)] = [chance.choice((0, 1, 2, 97))] * chance.randrange(2)
            leaves[number] = with_field(leaves[number], 8, body)
        elif what == 2:
            leaves.insert(chance.randrange(len(leaves)), leaves[number])
        elif what == 3 and len(leaves) > 1:
            leaves.pop(number)
        else:
            leaves.insert(chance.randrange(len(leaves)), leaves.pop(number))
    if chance.random() < 0.8:
        leaves = [with_field(leaf, 2, number) for number, leaf in enumerate(leaves)]
    return sealed(leaves)
