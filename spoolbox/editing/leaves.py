"""Leaves that are taken from one file into another one; their bodies stay as they are."""

from spoolbox.wire.leaves import UNIT


def unit_leaves(leaves):
    """Return the leaves of units, in their order."""
    return [placed(leaf, leaf[4], leaf[5]) for leaf in leaves if leaf[0] == UNIT]


def placed(leaf, ordinal, time):
    """Return the leaf with this ordinal and this time."""
    kind, stamp, number, track, _, _, span, key, body = leaf
    return (kind, stamp, number, track, ordinal, time, span, key, list(body))


def numbered(leaves, stamp):
    """Return the leaves with this stamp, numbered from 0 in their order."""
    out = []
    for number, leaf in enumerate(leaves):
        kind, _, _, track, ordinal, time, span, key, body = leaf
        out.append((kind, stamp, number, track, ordinal, time, span, key, list(body)))
    return out
