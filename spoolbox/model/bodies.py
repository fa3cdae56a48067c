"""The bodies of leaves: what they tell, and how it is written."""

from spoolbox.errors import BadBody, BadChange
from spoolbox.model.patches import change, changed
from spoolbox.model.presentation import BARRED, LONGEST_NAME, LONGEST_VALUE, LONGEST_WORD
from spoolbox.model.presentation import MOST_CONTENT, MOST_TRACKS, MOST_UNITS, TOP_TICKS, are_tags, is_word
from spoolbox.wire.leaves import TOP_BODY, TOP_TIME, TOP_TRACK, TOP_WORD, step_up_to
from spoolbox.wire.steps import put_steps
from spoolbox.wire.sums import four_bytes, number_of

WORD = "spool"
VERSION = 1
MOST_ENTRIES = 100
TOP_STEP = 2 ** 40 - 1
# The characters of the bytes from 32 to 126. Where the percent sign would be, which no text has, stands a space.
SIGNS = " !\"#$ &'()*+,-./0123456789:;<=>?@ABCDEFGHIJKLMNOPQRSTUVWXYZ[\\]^_`abcdefghijklmnopqrstuvwxyz{|}~"


def head_body(presentation):
    """Return the body of the head of a presentation."""
    ticks, skip, tracks, _ = presentation
    body = row_of(WORD)
    for number in (VERSION, ticks, skip, len(tracks)):
        body.extend(put_steps(number))
    for name, kind, units in tracks:
        body.extend(sized(name) + sized(kind) + put_steps(len(units)))
    return body


def tags_body(tags):
    """Return the body of a list of tags."""
    body = put_steps(len(tags))
    for key, value in tags:
        body.extend(sized(key) + sized(value))
    return body


def index_body(entries):
    """Return the body of an index with these entries."""
    body = put_steps(len(entries))
    for entry in entries:
        for number in entry:
            body.extend(put_steps(number))
    return body


def end_body(count, total):
    """Return the body of the end of a file with `count` leaves and the checksum `total`."""
    return put_steps(count) + four_bytes(total)


def unit_body(unit, before):
    """Return the body of a unit; `before` is the content of the unit before it."""
    _, _, content, leans = unit
    if not leans:
        return list(content)
    front, back, middle = change(before, content)
    return put_steps(front) + put_steps(back) + middle


def row_of(text):
    """Return the bytes of a text."""
    return [ord(sign) for sign in text]


def sized(text):
    """Return the length of a text as a number, and its bytes."""
    return put_steps(len(text)) + row_of(text)


def read_head(body):
    """Return the ticks, the skip and the rows of the tracks that the body of a head tells."""
    at = len(WORD)
    if body[:at] != row_of(WORD):
        raise BadBody(0)
    _, at = number_at(body, at, VERSION, VERSION)
    ticks, at = number_at(body, at, 1, TOP_TICKS)
    skip, at = number_at(body, at, 0, TOP_TIME)
    many, at = number_at(body, at, 0, MOST_TRACKS)
    rows = []
    for _ in range(many):
        name, at = text_at(body, at, LONGEST_NAME)
        kind, at = text_at(body, at, LONGEST_WORD)
        units, at = number_at(body, at, 0, MOST_UNITS)
        if not is_word(kind):
            raise BadBody(0)
        rows.append((name, kind, units))
    check_end(body, at)
    return (ticks, skip, rows)


def read_tags(body):
    """Return the tags that the body of the tags tells."""
    many, at = number_at(body, 0, 1, TOP_BODY)
    tags = []
    for _ in range(many):
        key, at = text_at(body, at, LONGEST_WORD)
        value, at = text_at(body, at, LONGEST_VALUE)
        tags.append((key, value))
    check_end(body, at)
    # This tests the size of the body, too: no other body than this one tells these tags.
    if not are_tags(tags):
        raise BadBody(0)
    return tags


def read_index(body):
    """Return the entries that the body of an index tells."""
    many, at = number_at(body, 0, 0, MOST_ENTRIES)
    entries = []
    for _ in range(many):
        track, at = number_at(body, at, 0, TOP_TRACK)
        time, at = number_at(body, at, 0, TOP_TIME)
        offset, at = number_at(body, at, 0, TOP_STEP)
        entries.append((track, time, offset))
    check_end(body, at)
    return entries


def read_end(body):
    """Return the number of leaves and the checksum that the body of an end tells."""
    count, at = number_at(body, 0, 0, TOP_WORD)
    if len(body) != at + 4:
        raise BadBody(0)
    return (count, number_of(body[at:]))


def read_content(body, before):
    """Return the content of a unit; `before` is the content on which it leans, or None."""
    content = list(body)
    if before is not None:
        content = content_of_change(body, before)
    if len(content) > MOST_CONTENT:
        raise BadBody(0)
    return content


def content_of_change(body, before):
    """Return the list to which the change in a body leads."""
    front, at = number_at(body, 0, 0, TOP_STEP)
    back, at = number_at(body, at, 0, TOP_STEP)
    try:
        return changed(before, (front, back, body[at:]))
    except BadChange:
        raise BadBody(0) from None


def number_at(body, at, least, top):
    """Return the number from `least` to `top` that starts at index `at`, and the index behind it."""
    number, stop = step_up_to(body, at, top)
    if number is None or number < least:
        raise BadBody(0)
    return (number, stop)


def text_at(body, at, most):
    """Return the text of at most `most` characters whose length starts at index `at`, and the index behind it."""
    size, start = number_at(body, at, 0, most)
    stop = start + size
    if stop > len(body):
        raise BadBody(0)
    text = ""
    for byte in body[start:stop]:
        if byte < ord(" ") or byte > ord("~") or byte == BARRED:
            raise BadBody(0)
        text += SIGNS[byte - ord(" ")]
    return (text, stop)


def check_end(body, at):
    """Raise BadBody unless the body ends at index `at`."""
    if at != len(body):
        raise BadBody(0)
