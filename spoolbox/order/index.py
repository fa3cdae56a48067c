"""The index: which keys it names, so that few units are decoded to show any one of them."""

from spoolbox.errors import OutOfRange


def reach(keys, index):
    """Return the greatest way to a unit, from the first unit of its track or from a named one on."""
    for at, pair in enumerate(index):
        if not can_be_named(keys, pair) or (at > 0 and pair <= index[at - 1]):
            raise OutOfRange(at)
    longest = 0
    for number, row in enumerate(keys, start=1):
        starts = [0] + [place for track, place in index if track == number] + [len(row)]
        for start, stop in zip(starts, starts[1:]):
            longest = max(longest, stop - start)
    return longest


def can_be_named(keys, pair):
    """Return whether a pair of integers names a key that is not the first unit of its track."""
    track, place = pair
    if track < 1 or track > len(keys):
        return False
    row = keys[track - 1]
    return place >= 1 and place < len(row) and row[place]


def greedy(row, w):
    """Return the places that the greedy index of a track names for the reach `w`; None if there is no such index."""
    named = []
    start = 0
    while start + w < len(row):
        start = last_key(row, start + 1, w)
        if start is None:
            return None
        named.append(start)
    return named


def last_key(row, first, size):
    """Return the greatest place of a key among the `size` places from `first` on; None if there is none."""
    for place in range(first + size - 1, first - 1, -1):
        if row[place]:
            return place
    return None


def greedy_index(keys, w):
    """Return the greedy indexes of all tracks for the reach `w`, as one; None if a track has none."""
    index = []
    for track, row in enumerate(keys, start=1):
        named = greedy(row, w)
        if named is None:
            return None
        index.extend([(track, place) for place in named])
    return index


def best_index(keys, count):
    """Return the best index of at most `count` entries, and its reach."""
    high = max([len(row) for row in keys], default=0)
    if high == 0:
        return ([], 0)
    low = 1
    # A greater reach never takes more entries, and the greatest one takes none: so the search can halve.
    while low < high:
        middle = (low + high) // 2
        index = greedy_index(keys, middle)
        if index is None or len(index) > count:
            low = middle + 1
        else:
            high = middle
    return (greedy_index(keys, low), low)


def index_witness(keys, count):
    """Return the stretches which show that no index of at most `count` entries has a smaller reach."""
    _, best = best_index(keys, count)
    size = best - 1
    if size < 1:
        return []
    stretches = []
    for track, row in enumerate(keys, start=1):
        start = 0
        while start + size < len(row):
            stretch = (track, start + 1)
            start = last_key(row, start + 1, size)
            if start is None:
                return [stretch]
            stretches.append(stretch)
    return stretches[:count + 1]


def check_index(keys, count, index, number, witness):
    """Return whether an index has this reach, and whether the witness shows that none has a smaller one."""
    if len(index) > count:
        return False
    try:
        longest = reach(keys, index)
    except OutOfRange:
        return False
    if longest != number:
        return False
    return number <= 1 or shows(keys, count, number - 1, witness)


def shows(keys, count, size, witness):
    """Return whether a list of pairs shows that no index of at most `count` entries has a reach of `size`."""
    for pair in witness:
        if not is_stretch(keys, pair, size):
            return False
    seen = set()
    apart = True
    for track, first in witness:
        row = keys[track - 1]
        places = [(track, place) for place in range(first, first + size) if row[place]]
        if len(places) == 0:
            return True
        for place in places:
            if place in seen:
                apart = False
            seen.add(place)
    return apart and len(witness) > count


def is_stretch(keys, pair, size):
    """Return whether a pair of integers is a stretch of `size` places."""
    track, first = pair
    if track < 1 or track > len(keys):
        return False
    return first >= 1 and first + size <= len(keys[track - 1])
