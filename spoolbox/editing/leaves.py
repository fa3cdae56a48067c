"""Leaves that are taken from one file into another one; their bodies stay as they are.

A sketch is a presentation with the leaves of units in place of the units, so that no unit need be decoded.
"""

from spoolbox.model.bodies import read_head, read_tags
from spoolbox.order.index import best_index
from spoolbox.wire.files import write_leaves
from spoolbox.wire.leaves import TAGS, UNIT
from spoolbox.writing.writer import closing, opening


def unit_leaves(leaves):
    """Return the leaves of units, in their order."""
    return [placed(leaf, leaf[4], leaf[5]) for leaf in leaves if leaf[0] == UNIT]


def placed(leaf, ordinal, time):
    """Return the leaf with this ordinal and this time."""
    kind, stamp, number, track, _, _, span, key, body = leaf
    return (kind, stamp, number, track, ordinal, time, span, key, list(body))


def numbered(leaves, stamp):
    """Return the leaves with this stamp, numbered from 0 in their order."""
    out = []
    for number, leaf in enumerate(leaves):
        kind, _, _, track, ordinal, time, span, key, body = leaf
        out.append((kind, stamp, number, track, ordinal, time, span, key, list(body)))
    return out


def sketch_of(leaves):
    """Return the sketch of the leaves of a file."""
    ticks, skip, rows = read_head(leaves[0][8])
    tags = []
    if leaves[1][0] == TAGS:
        tags = read_tags(leaves[1][8])
    units = unit_leaves(leaves)
    tracks = []
    for track, (name, kind, _) in enumerate(rows, start=1):
        tracks.append((name, kind, [leaf for leaf in units if leaf[3] == track]))
    return (ticks, skip, tracks, tags)


def file_of(sketch, count, stamp):
    """Return the file of a sketch, with the best index of at most `count` entries."""
    keys = [[leaf[7] == 1 for leaf in units] for _, _, units in sketch[2]]
    index, _ = best_index(keys, count)
    rows = [leaf for _, _, units in sketch[2] for leaf in units]
    ordered = sorted(rows, key=lambda leaf: (leaf[5], leaf[3]))
    leaves = numbered(opening(sketch, stamp) + ordered, stamp)
    return write_leaves(leaves + closing(leaves, stamp, index))
