"""Step numbers: integers as few bytes of seven bits each."""

from spoolbox.errors import LooseNumber, OutOfRange, Truncated

STEP_LIMIT = 2 ** 40
MOST_STEPS = 6


def put_steps(number):
    """Return the row of a step number."""
    if number < 0 or number >= STEP_LIMIT:
        raise OutOfRange(0)
    row = []
    while number >= 128:
        row.append((number & 127) + 128)
        number = number >> 7
    row.append(number)
    return row


def get_steps(row, at):
    """Return the pair of the step number at index `at` and the index after it."""
    stop = end_of_steps(row, at)
    number = 0
    for place in range(at, stop):
        number += (row[place] & 127) << 7 * (place - at)
    if row[stop - 1] >= 128 or number >= STEP_LIMIT:
        raise OutOfRange(at)
    if stop - at > 1 and row[stop - 1] == 0:
        raise LooseNumber(at)
    return (number, stop)


def end_of_steps(row, at):
    """Return the index behind the first byte less than 128, or behind the sixth byte."""
    for place in range(at, at + MOST_STEPS):
        if place >= len(row):
            raise Truncated(len(row))
        if row[place] < 128:
            return place + 1
    return at + MOST_STEPS
