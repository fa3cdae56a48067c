"""Rebuilding presentations and files from the leaves that were found."""

from spoolbox.errors import BadBody, NoHead
from spoolbox.model.bodies import read_content, read_head, read_tags
from spoolbox.model.presentation import MOST_UNITS
from spoolbox.saving.salvage import own, roll, salvage
from spoolbox.wire.leaves import HEAD, TAGS, UNIT
from spoolbox.writing.writer import written


def sound(leaves):
    """Return the leaf and the content of each unit leaf of a roll that can be decoded, in the order of the roll."""
    contents = contents_of(first_leaves(leaves))
    seen = set()
    pairs = []
    for leaf in leaves:
        spot = (leaf[3], leaf[4])
        # Of several leaves with this spot only the first one counts.
        if leaf[0] == UNIT and spot not in seen:
            seen.add(spot)
            if spot in contents:
                pairs.append((own(leaf), contents[spot]))
    return pairs


def first_leaves(leaves):
    """Return by track and ordinal the first unit leaf of a roll that has them."""
    firsts = {}
    for leaf in leaves:
        spot = (leaf[3], leaf[4])
        if leaf[0] == UNIT and spot not in firsts:
            firsts[spot] = leaf
    return firsts


def contents_of(firsts):
    """Return by track and ordinal the contents of the leaves that are sound."""
    contents = {}
    # In ascending order of the ordinals: in the roll, a leaf may stand ahead of the one that it leans on.
    for track, ordinal in sorted(firsts):
        leaf = firsts[(track, ordinal)]
        before = None
        if leaf[7] == 0:
            before = contents.get((track, ordinal - 1))
        if leaf[7] == 1 or before is not None:
            try:
                contents[(track, ordinal)] = read_content(leaf[8], before)
            except BadBody:
                continue
    return contents


def rebuilt(leaves):
    """Return the presentation of a roll."""
    if len(leaves) == 0 or leaves[0][0] != HEAD or leaves[0][2] != 0:
        raise NoHead(0)
    try:
        ticks, skip, rows = read_head(leaves[0][8])
    except BadBody:
        raise NoHead(0) from None
    pairs = sound(leaves)
    tracks = []
    for track, (name, kind, _) in enumerate(rows, start=1):
        own_pairs = [(leaf, content) for leaf, content in pairs if leaf[3] == track]
        tracks.append((name, kind, units_of(sorted(own_pairs, key=lambda pair: pair[0][4]))))
    return (ticks, skip, tracks, tags_of(leaves))


def units_of(pairs):
    """Return the units of a track from its sound leaves, in ascending order of ordinals, and their contents."""
    units = []
    # Where the last unit ends, and the ordinal of the leaf that would lean on it; so far there is none.
    end = 0
    due = -1
    for leaf, content in pairs:
        _, _, _, _, ordinal, time, span, key, _ = leaf
        if span > 0 and time >= end and len(units) < MOST_UNITS:
            units.append((time, span, content, key == 0 and ordinal == due))
            end = time + span
            due = ordinal + 1
    return units


def tags_of(leaves):
    """Return the tags of the first leaf of a roll that tells some; none if no leaf does."""
    for leaf in leaves:
        if leaf[0] == TAGS:
            try:
                return read_tags(leaf[8])
            except BadBody:
                continue
    return []


def rebuild(row, stamp, count):
    """Return the file of what is left of the files with this stamp in a row."""
    return written(rebuilt(roll(salvage(row), stamp)), stamp, count)
