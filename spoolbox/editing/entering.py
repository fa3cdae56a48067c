"""Entering files: what is shown from a time on, without decoding all units before it."""

from spoolbox.editing.shown import shown_units
from spoolbox.errors import OutOfRange
from spoolbox.model.bodies import read_head, read_index
from spoolbox.reading.leaves import content_of, leaves_in
from spoolbox.wire.leaves import UNIT


def entries(file, time):
    """Return for each track the place of the unit from which it is decoded; None for a track without units."""
    return places_from(leaves_in(file), time)


def enter(file, time):
    """Return for each track the units that are shown from this time on."""
    leaves = leaves_in(file)
    if time < 0:
        raise OutOfRange(0)
    return [shown_units(units, time, None) for units in decoded(leaves, places_from(leaves, time))]


def places_from(leaves, time):
    """Return for each track the place of its last unit that the index names up to this time, or of its first one."""
    rows = read_head(leaves[0][8])[2]
    # The index stands before the end. In one track no two units have the same time.
    named = set([(track, at) for track, at, _ in read_index(leaves[-2][8])])
    places = [None for _ in rows]
    for kind, _, _, track, ordinal, at, _, _, _ in leaves:
        if kind == UNIT and (ordinal == 0 or (at <= time and (track, at) in named)):
            places[track - 1] = ordinal
    return places


def decoded(leaves, places):
    """Return for each track its units from this place on."""
    rows = [[] for _ in places]
    contents = {}
    # The leaves are taken in the order of the file, so that the first bad body is found.
    for leaf in leaves:
        kind, _, _, track, ordinal, time, span, key, _ = leaf
        if kind == UNIT and ordinal >= places[track - 1]:
            contents[track] = content_of(leaf, contents)
            rows[track - 1].append((time, span, contents[track], key == 0))
    return rows
