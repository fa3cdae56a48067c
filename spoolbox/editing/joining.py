"""Joining: files with the units of one file and behind them those of another one."""

from spoolbox.editing.leaves import file_of, placed, sketch_of, unit_leaves
from spoolbox.errors import HasSkip, NotAlike, TooLong, TooManyTags
from spoolbox.model.presentation import MOST_UNITS, tags_size
from spoolbox.reading.leaves import leaves_in
from spoolbox.wire.leaves import TOP_BODY, TOP_TIME


def join(first, second, count, stamp):
    """Return the file of the units of the first file and, behind them, those of the second one."""
    one = sketch_of(leaves_in(first))
    leaves = leaves_in(second)
    other = sketch_of(leaves)
    check_alike(one, other)
    if other[1] != 0:
        raise HasSkip(0)
    end = end_of_leaves(one)
    check_places(one, unit_leaves(leaves), end)
    tags = joined_tags(one[3], other[3])
    if tags_size(tags) > TOP_BODY:
        raise TooManyTags(0)
    tracks = []
    for (name, kind, ahead), (_, _, behind) in zip(one[2], other[2]):
        tracks.append((name, kind, ahead + moved_behind(behind, len(ahead), end)))
    return file_of((one[0], one[1], tracks, tags), count, stamp)


def check_alike(one, other):
    """Raise NotAlike unless two sketches have the same ticks and the same tracks."""
    if one[0] != other[0]:
        raise NotAlike(0)
    if len(one[2]) != len(other[2]):
        raise NotAlike(1)
    for at, (row, twin) in enumerate(zip(one[2], other[2])):
        if row[:2] != twin[:2]:
            raise NotAlike(at + 2)


def check_places(one, leaves, end):
    """Raise TooLong for the first leaf of the second file that has no place behind the units of the first one."""
    for at, leaf in enumerate(leaves):
        many = len(one[2][leaf[3] - 1][2])
        if leaf[5] + end > TOP_TIME or leaf[4] + many >= MOST_UNITS:
            raise TooLong(at)


def end_of_leaves(sketch):
    """Return the greatest time plus span of the leaves of a sketch; 0 without leaves."""
    return max([leaf[5] + leaf[6] for _, _, leaves in sketch[2] for leaf in leaves], default=0)


def joined_tags(tags, others):
    """Return the tags of the first file, and those of the second one with other keys, in ascending order."""
    keys = [key for key, _ in tags]
    return sorted(tags + [(key, value) for key, value in others if key not in keys])


def moved_behind(leaves, many, end):
    """Return the leaves of a track behind `many` other ones, with their times increased by `end`."""
    return [placed(leaf, leaf[4] + many, leaf[5] + end) for leaf in leaves]
