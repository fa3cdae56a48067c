"""Cutting: files that show a part of what another file shows."""

from spoolbox.editing.leaves import file_of, placed, sketch_of
from spoolbox.errors import OutOfRange
from spoolbox.reading.leaves import leaves_in


def cut(file, start, stop, count, stamp):
    """Return the file that shows what another one shows from `start` to before `stop`."""
    ticks, skip, tracks, tags = sketch_of(leaves_in(file))
    if start < skip:
        raise OutOfRange(0)
    if stop < start:
        raise OutOfRange(1)
    rows = [(name, kind, taken(units, start, stop)) for name, kind, units in tracks]
    base = min([start] + [leaf[5] for _, _, leaves in rows for leaf in leaves])
    moved = [(name, kind, moved_ahead(leaves, base)) for name, kind, leaves in rows]
    return file_of((ticks, start - base, moved, tags), count, stamp)


def taken(units, start, stop):
    """Return the leaves of a track that are needed to show it from `start` to before `stop`."""
    first = 0
    for ordinal, leaf in enumerate(units):
        if leaf[7] == 1 and leaf[5] <= start:
            first = ordinal
    return [leaf for leaf in units[first:] if leaf[5] < stop]


def moved_ahead(leaves, base):
    """Return the leaves of a track with new ordinals and with their times less by `base`."""
    return [placed(leaf, ordinal, leaf[5] - base) for ordinal, leaf in enumerate(leaves)]
