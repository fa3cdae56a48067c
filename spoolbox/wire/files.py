"""Files of leaves, and the places of pieces in a row."""

from spoolbox.wire.leaves import write_leaf
from spoolbox.wire.stuffing import stuff


def write_leaves(leaves):
    """Return the file of a list of leaves."""
    row = [0]
    for leaf in leaves:
        row.extend(stuff(write_leaf(leaf)))
        row.append(0)
    return row


def places(row):
    """Return the pairs of the start and the stop of all pieces between two zeros, in ascending order."""
    zeros = [at for at, byte in enumerate(row) if byte == 0]
    return [(before + 1, after) for before, after in zip(zeros, zeros[1:]) if before + 1 < after]
