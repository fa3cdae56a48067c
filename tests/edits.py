"""What editing and saving have to give, reckoned from the leaves of files and by other ways than the program takes."""

import re

from helpers import (Found, Reading, all_leaves, best_of, file_of, head_of, keys_by_track, order_by_time, sealed,
                     tags_of, told_content, told_head, told_leaf, told_tags, with_field, with_index)


def show_of(presentation, start, stop=None):
    """Point 601, from its words."""
    return [[(time - start, span, content) for time, span, content, _ in units
             if time + span > start and not (stop is not None and time >= stop)]
            for _, _, units in presentation[2]]


def units_in(leaves, track=None):
    """The unit leaves, all or those of one track."""
    return [leaf for leaf in leaves if leaf[0] == 2 and (track is None or leaf[3] == track)]


def with_bodies(leaves, bodies, entries):
    """The leaves of a file with these bodies for some units, by track and ordinal, and with a fitting index and end."""
    kept = [leaf for leaf in leaves if leaf[0] < 3]
    changed = [with_field(leaf, 8, bodies.get(leaf[3:5], leaf[8])) if leaf[0] == 2 else leaf for leaf in kept]
    return sealed(with_index(changed, entries))


def best_file(presentation, stamp, count):
    """The file in the order of point 401 with the best index."""
    index, _ = best_of(keys_by_track(presentation), count)
    return file_of(all_leaves(presentation, stamp, order_by_time(presentation), index))


# Cutting and joining, by points 603 and 605.

class Opened:
    """A file taken apart; the bodies of its units may be bad."""

    def __init__(self, data):
        self.leaves = Reading(data, with_bodies=False).leaves
        self.ticks, self.skip, self.rows = told_head(self.leaves[0][8])
        self.tags = told_tags(self.leaves[1][8]) if self.leaves[1][0] == 1 else []
        self.tracks = range(1, len(self.rows) + 1)
        self.end = max([leaf[5] + leaf[6] for leaf in units_in(self.leaves)], default=0)


def moved(leaf, ordinal, time):
    return with_field(with_field(leaf, 4, ordinal), 5, time)


def made(ticks, skip, rows, tags, units, count, stamp):
    """The file of unit leaves that have their new ordinals and times, with the best index."""
    ordered = sorted(units, key=lambda leaf: (leaf[5], leaf[3]))
    tracks = [(name, kind, units_in(ordered, at + 1)) for at, (name, kind, _) in enumerate(rows)]
    leaves = [(0, 0, 0, 0, 0, 0, 0, 0, head_of((ticks, skip, tracks, tags)))]
    if tags:
        leaves.append((1, 0, 0, 0, 0, 0, 0, 0, tags_of(tags)))
    leaves = [(leaf[0], stamp, number) + leaf[3:] for number, leaf in enumerate(leaves + ordered)]
    index, _ = best_of([[leaf[7] == 1 for leaf in units] for _, _, units in tracks], count)
    return file_of(sealed(with_index(leaves, index)))


def cut_of(data, start, stop, count, stamp):
    """The file of point 603."""
    opened = Opened(data)
    taken = []
    for track in opened.tracks:
        units = units_in(opened.leaves, track)
        keys = [leaf[4] for leaf in units if leaf[7] == 1 and leaf[5] <= start]
        first = max(keys, default=0)
        taken += [(leaf, first) for leaf in units if leaf[4] >= first and leaf[5] < stop]
    base = min([start] + [leaf[5] for leaf, _ in taken])
    units = [moved(leaf, leaf[4] - first, leaf[5] - base) for leaf, first in taken]
    return made(opened.ticks, start - base, opened.rows, opened.tags, units, count, stamp)


def join_of(first, second, count, stamp):
    """The file of point 605, for files that can be joined."""
    one, other = Opened(first), Opened(second)
    units = units_in(one.leaves)
    for leaf in units_in(other.leaves):
        units.append(moved(leaf, leaf[4] + len(units_in(one.leaves, leaf[3])), leaf[5] + one.end))
    tags = sorted({**dict(other.tags), **dict(one.tags)}.items())
    return made(one.ticks, one.skip, one.rows, tags, units, count, stamp)


def joined_presentation(one, other):
    """Point 606, for presentations."""
    end = max([time + span for _, _, units in one[2] for time, span, _, _ in units], default=0)
    tracks = []
    for (name, kind, ahead), (_, _, behind) in zip(one[2], other[2]):
        tracks.append((name, kind, ahead + [(time + end, *rest) for time, *rest in behind]))
    return (one[0], one[1], tracks, sorted({**dict(other[3]), **dict(one[3])}.items()))


# Saving, by part 7.

def finds_of(row):
    """Point 701."""
    finds = []
    for match in re.finditer(rb"(?<=\0)[^\0]+(?=\0)", bytes(row)):
        try:
            finds.append((match.start(), match.end(), told_leaf(list(match.group()), 0)))
        except Found:
            pass
    return finds


def roll_of(finds, stamp):
    """Point 703: of several leaves with one number the first one, which is put down last."""
    return [leaf for _, leaf in sorted({leaf[2]: leaf for _, _, leaf in finds[::-1] if leaf[1] == stamp}.items())]


def gaps_of(leaves):
    """Point 705, from its words, for small numbers."""
    numbers = [leaf[2] for leaf in leaves]
    top = max(numbers, default=0)
    pairs = [(first, stop) for first in range(top + 1) for stop in range(first + 1, top + 1)
             if not any(number in numbers for number in range(first, stop))
             and (first == 0 or first - 1 in numbers) and stop in numbers]
    if leaves and leaves[-1][0] != 4:
        pairs.append((top + 1, -1))
    return pairs


def content_in(units, at):
    """Point 704: the content of one of the unit leaves of a roll; None if it is not sound."""
    leaf = units[at]
    spots = [other[3:5] for other in units]
    if spots.index(leaf[3:5]) < at:
        return None
    before = None
    if leaf[7] == 0:
        spot = (leaf[3], leaf[4] - 1)
        before = content_in(units, spots.index(spot)) if spot in spots else None
        if before is None:
            return None
    try:
        return told_content(leaf[8], before)
    except Found:
        return None


def sound_of(leaves):
    units = units_in(leaves)
    pairs = [(leaf, content_in(units, at)) for at, leaf in enumerate(units)]
    return [pair for pair in pairs if pair[1] is not None]


def rebuilt_of(leaves):
    """Point 706; None if the roll cannot be rebuilt."""
    try:
        ticks, skip, rows = told_head([leaf for leaf in leaves if leaf[0] == leaf[2] == 0][0][8])
    except (Found, IndexError):
        return None
    tags = []
    for leaf in leaves[::-1]:
        try:
            tags = told_tags(leaf[8]) if leaf[0] == 1 else tags
        except Found:
            pass
    tracks = []
    for at, (name, kind, _) in enumerate(rows):
        kept = []
        for leaf, content in sorted(sound_of(units_in(leaves, at + 1)), key=lambda pair: pair[0][4]):
            late = not kept or leaf[5] >= kept[-1][0][5] + kept[-1][0][6]
            if leaf[6] > 0 and late and len(kept) < 300:
                kept.append((leaf, content))
        ordinals = [leaf[4] for leaf, _ in kept]
        units = [(leaf[5], leaf[6], content, leaf[7] == 0 and leaf[4] - 1 in ordinals) for leaf, content in kept]
        tracks.append((name, kind, units))
    return (ticks, skip, tracks, tags)
