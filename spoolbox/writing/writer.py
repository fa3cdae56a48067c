"""Writing presentations as files."""

from spoolbox.errors import NotAPresentation, OutOfRange
from spoolbox.model.bodies import MOST_ENTRIES, end_body, head_body, index_body, tags_body, unit_body
from spoolbox.model.presentation import is_presentation
from spoolbox.order.index import best_index
from spoolbox.wire.files import places, write_leaves
from spoolbox.wire.leaves import END, HEAD, INDEX, TAGS, TOP_WORD, UNIT
from spoolbox.wire.sums import checksum


def write(presentation, stamp, most=100):
    """Return the file of a presentation, with the best index of at most `most` entries."""
    if not is_presentation(presentation):
        raise NotAPresentation(0)
    if stamp < 0 or stamp > TOP_WORD:
        raise OutOfRange(1)
    if most < 0 or most > MOST_ENTRIES:
        raise OutOfRange(2)
    return written(presentation, stamp, most)


def written(presentation, stamp, most):
    """Return the file of what surely is a presentation; nothing is checked."""
    index, _ = best_index(keys_of_tracks(presentation), most)
    return write_leaves(leaves_of(presentation, stamp, order_of(presentation), index))


def keys_of_tracks(presentation):
    """Return for each track the list of whether its units are keys."""
    return [[not leans for _, _, _, leans in units] for _, _, units in presentation[2]]


def order_of(presentation):
    """Return the pairs of a track and an ordinal of all units, in the order of their times, then of their tracks."""
    rows = []
    for track, (_, _, units) in enumerate(presentation[2], start=1):
        for ordinal, unit in enumerate(units):
            rows.append((unit[0], track, ordinal))
    return [(track, ordinal) for _, track, ordinal in sorted(rows)]


def leaves_of(presentation, stamp, order, entries):
    """Return the leaves of the file with this order of units and these units in its index."""
    leaves = opening(presentation, stamp)
    for track, ordinal in order:
        units = presentation[2][track - 1][2]
        leaves.append(unit_leaf(stamp, len(leaves), track, ordinal, units))
    return leaves + closing(leaves, stamp, entries)


def opening(presentation, stamp):
    """Return the leaves ahead of those of the units: the head, and the tags if there are any."""
    leaves = [plain_leaf(HEAD, stamp, 0, head_body(presentation))]
    tags = presentation[3]
    if len(tags) > 0:
        leaves.append(plain_leaf(TAGS, stamp, 1, tags_body(tags)))
    return leaves


def closing(leaves, stamp, entries):
    """Return the index, which names these units, and the end that stand behind all other leaves of a file."""
    many = len(leaves)
    index = plain_leaf(INDEX, stamp, many, index_body(rows_of(leaves, entries)))
    total = checksum(write_leaves(leaves + [index]))
    return [index, plain_leaf(END, stamp, many + 1, end_body(many + 2, total))]


def plain_leaf(kind, stamp, number, body):
    """Return a leaf that is not that of a unit."""
    return (kind, stamp, number, 0, 0, 0, 0, 0, body)


def unit_leaf(stamp, number, track, ordinal, units):
    """Return the leaf of one of the units of a track."""
    time, span, _, leans = units[ordinal]
    before = None
    if ordinal > 0:
        before = units[ordinal - 1][2]
    key = 0 if leans else 1
    return (UNIT, stamp, number, track, ordinal, time, span, key, unit_body(units[ordinal], before))


def rows_of(leaves, entries):
    """Return the rows of the index that names these units, in ascending order of their offsets."""
    named = set(entries)
    rows = []
    for leaf, (start, _) in zip(leaves, places(write_leaves(leaves))):
        if leaf[0] == UNIT and (leaf[3], leaf[4]) in named:
            rows.append((leaf[3], leaf[5], start))
    return rows
