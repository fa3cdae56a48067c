"""Finding the leaves that stand somewhere in a row."""

from spoolbox.errors import SpoolboxError
from spoolbox.wire.files import places
from spoolbox.wire.leaves import END, read_leaf
from spoolbox.wire.stuffing import unstuff


def salvage(row):
    """Return the start, the stop and the leaf of each piece of a row that stands for a leaf."""
    finds = []
    for start, stop in places(row):
        try:
            leaf = read_leaf(unstuff(row[start:stop]))
        except SpoolboxError:
            continue
        finds.append((start, stop, leaf))
    return finds


def stamps(finds):
    """Return the stamps of the leaves of finds, in ascending order."""
    return sorted(set([leaf[1] for _, _, leaf in finds]))


def roll(finds, stamp):
    """Return the leaves with this stamp in ascending order of their numbers, the first one of each number."""
    leaves = {}
    for _, _, leaf in finds:
        if leaf[1] == stamp and leaf[2] not in leaves:
            leaves[leaf[2]] = own(leaf)
    return [leaves[number] for number in sorted(leaves)]


def own(leaf):
    """Return the leaf with a body of its own."""
    return leaf[:8] + (list(leaf[8]),)


def gaps(leaves):
    """Return the pairs of the first missing number and the number behind the missing ones in a roll."""
    pairs = []
    due = 0
    for leaf in leaves:
        if leaf[2] > due:
            pairs.append((due, leaf[2]))
        due = leaf[2] + 1
    if len(leaves) > 0 and leaves[-1][0] != END:
        pairs.append((due, -1))
    return pairs
