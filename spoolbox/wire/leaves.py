"""Leaves, and their writings."""

from spoolbox.errors import BadCheck, BadKey, BadKind, BadNumber, BadOrdinal, BadSize, BadSpan, BadStamp
from spoolbox.errors import BadTime, BadTrack, LooseNumber, OutOfRange, ShortBody, Truncated
from spoolbox.wire.steps import get_steps, put_steps
from spoolbox.wire.sums import checksum, four_bytes, number_of

HEAD = 0
TAGS = 1
UNIT = 2
INDEX = 3
END = 4

TOP_WORD = 2 ** 32 - 1
TOP_TRACK = 15
TOP_ORDINAL = 2 ** 24 - 1
TOP_TIME = 2 ** 40 - 1
TOP_SPAN = 2 ** 24 - 1
TOP_KEY = 1
TOP_BODY = 1024
# The kind, the stamp and the number have the same size in every writing.
FRONT = 9


def write_leaf(leaf):
    """Return the writing of a leaf."""
    check_fields(leaf)
    kind, stamp, number, track, ordinal, time, span, key, body = leaf
    row = [kind] + four_bytes(stamp) + four_bytes(number)
    for field in (track, ordinal, time, span):
        row.extend(put_steps(field))
    row.append(key)
    row.extend(put_steps(len(body)))
    row.extend(body)
    return row + four_bytes(checksum(row))


def bulk(leaf):
    """Return the number of bytes of the writing of a leaf."""
    check_fields(leaf)
    _, _, _, track, ordinal, time, span, _, body = leaf
    # The kind and the key have one byte; the stamp, the number and the checksum have four.
    size = 14 + len(body)
    for field in (track, ordinal, time, span, len(body)):
        size += len(put_steps(field))
    return size


def check_fields(leaf):
    """Raise OutOfRange for the first field of a leaf that is out of its range."""
    tops = (END, TOP_WORD, TOP_WORD, TOP_TRACK, TOP_ORDINAL, TOP_TIME, TOP_SPAN, TOP_KEY)
    for at, top in enumerate(tops):
        if leaf[at] < 0 or leaf[at] > top:
            raise OutOfRange(at)
    if len(leaf[8]) > TOP_BODY:
        raise OutOfRange(8)


def read_leaf(writing):
    """Return the leaf of a writing."""
    kind, stamp, number = read_front(writing)
    track, ordinal, time, span, at = read_place(writing)
    if at >= len(writing) or writing[at] > TOP_KEY:
        raise BadKey(at)
    key = writing[at]
    body, stop = read_body(writing, at + 1)
    if writing[stop:] != four_bytes(checksum(writing[:stop])):
        raise BadCheck(stop)
    return (kind, stamp, number, track, ordinal, time, span, key, body)


def read_front(writing):
    """Return the kind, the stamp and the number of a writing."""
    if len(writing) == 0 or writing[0] > END:
        raise BadKind(0)
    if len(writing) < 5:
        raise BadStamp(1)
    if len(writing) < FRONT:
        raise BadNumber(5)
    return (writing[0], number_of(writing[1:5]), number_of(writing[5:FRONT]))


def read_place(writing):
    """Return the track, the ordinal, the time and the span of a writing, and the index behind them."""
    track, track_stop = step_up_to(writing, FRONT, TOP_TRACK)
    if track is None:
        raise BadTrack(FRONT)
    ordinal, ordinal_stop = step_up_to(writing, track_stop, TOP_ORDINAL)
    if ordinal is None:
        raise BadOrdinal(track_stop)
    time, time_stop = step_up_to(writing, ordinal_stop, TOP_TIME)
    if time is None:
        raise BadTime(ordinal_stop)
    span, span_stop = step_up_to(writing, time_stop, TOP_SPAN)
    if span is None:
        raise BadSpan(time_stop)
    return (track, ordinal, time, span, span_stop)


def read_body(writing, at):
    """Return the body whose size starts at index `at`, and the index behind it."""
    size, start = step_up_to(writing, at, TOP_BODY)
    if size is None:
        raise BadSize(at)
    if start + size > len(writing):
        raise ShortBody(start)
    return (writing[start:start + size], start + size)


def step_up_to(row, at, top):
    """Return the step number at index `at` and the index after it; None and `at` if none up to `top` is there."""
    try:
        number, stop = get_steps(row, at)
    except (Truncated, OutOfRange, LooseNumber):
        return (None, at)
    if number > top:
        return (None, at)
    return (number, stop)
