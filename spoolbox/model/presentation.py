"""Presentations: what they are, their end and their keys."""

from spoolbox.wire.leaves import TOP_BODY, TOP_SPAN, TOP_TIME
from spoolbox.wire.steps import put_steps

TOP_TICKS = 90000
MOST_TRACKS = 15
MOST_UNITS = 300
MOST_CONTENT = 200
LONGEST_NAME = 32
LONGEST_WORD = 16
LONGEST_VALUE = 100
# The percent sign, the only one from the space to the tilde that a text does not have.
BARRED = 37


def is_presentation(value):
    """Return whether a tuple of two integers and two lists is a presentation."""
    ticks, skip, tracks, tags = value
    if ticks < 1 or ticks > TOP_TICKS:
        return False
    if skip < 0 or skip > TOP_TIME:
        return False
    if len(tracks) > MOST_TRACKS:
        return False
    for track in tracks:
        if not is_track(track):
            return False
    return are_tags(tags)


def is_track(track):
    """Return whether a tuple of two texts and a list of units is a track."""
    name, kind, units = track
    return is_text(name, LONGEST_NAME) and is_word(kind) and are_units(units)


def is_text(text, most):
    """Return whether a text has at most `most` characters, all of them allowed in names and values."""
    if len(text) > most:
        return False
    for sign in text:
        if sign < " " or sign > "~" or ord(sign) == BARRED:
            return False
    return True


def is_word(text):
    """Return whether a text is a kind or a key."""
    if len(text) < 1 or len(text) > LONGEST_WORD:
        return False
    for sign in text:
        if sign < "a" or sign > "z":
            return False
    return True


def are_units(units):
    """Return whether a list holds the units of one track."""
    if len(units) > MOST_UNITS:
        return False
    # Before the first unit nothing ends, and there is nothing to lean on.
    least = 0
    may_lean = False
    for time, span, content, leans in units:
        if time < least or time > TOP_TIME:
            return False
        if span < 1 or span > TOP_SPAN:
            return False
        if not is_content(content) or (leans and not may_lean):
            return False
        least = time + span
        may_lean = True
    return True


def is_content(content):
    """Return whether a list of integers is the content of a unit."""
    if len(content) > MOST_CONTENT:
        return False
    for byte in content:
        if byte < 0 or byte > 255:
            return False
    return True


def are_tags(tags):
    """Return whether a list of pairs of texts holds the tags of a presentation."""
    # No key is empty, so every key comes behind this one.
    last = ""
    for key, value in tags:
        if not is_word(key) or not is_text(value, LONGEST_VALUE):
            return False
        if key <= last:
            return False
        last = key
    return tags_size(tags) <= TOP_BODY


def tags_size(tags):
    """Return the number of bytes of the body of the tags."""
    size = len(put_steps(len(tags)))
    for pair in tags:
        for text in pair:
            size += len(put_steps(len(text))) + len(text)
    return size


def end_of(presentation):
    """Return the greatest time plus span of the units of all tracks; 0 without units."""
    end = 0
    for _, _, units in presentation[2]:
        for time, span, _, _ in units:
            end = max(end, time + span)
    return end


def keys_of(units):
    """Return the indexes of the units that do not lean, in ascending order."""
    return [at for at, unit in enumerate(units) if not unit[3]]
