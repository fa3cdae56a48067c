"""The order of unit leaves, and how long a reader waits ahead of them."""

from spoolbox.errors import OutOfRange
from spoolbox.reading.leaves import leaves_in
from spoolbox.wire.leaves import UNIT, bulk

TOP_RATE = 1000000


def in_order(units):
    """Return tuples of a time, a track and a size in the order of their times, then of their tracks."""
    return sorted(units, key=lambda unit: (unit[0], unit[1]))


def delay(leaves, rate):
    """Return the least delay with which each pair of a time and a size is there in time, in this order."""
    check_rate(rate)
    least = 0
    total = 0
    for time, size in leaves:
        total += size
        # Rounded up: the bytes are there in time only if all of them are.
        least = max(least, (total + rate - 1) // rate - time)
    return least


def witness(leaves, rate):
    """Return the least time at which the leaves up to it need the delay of the order of times; None for no delay."""
    ordered = sorted(leaves, key=lambda leaf: leaf[0])
    number = delay(ordered, rate)
    total = 0
    for time, size in ordered:
        total += size
        # Of several leaves with this time those behind only add to the sum, and the time stays the same.
        if number > 0 and total > rate * (time + number - 1):
            return time
    return None


def check_delay(leaves, rate, number, witness):
    """Return whether the leaves have this delay, and whether the witness shows that no order has a smaller one."""
    total = 0
    for time, size in leaves:
        total += size
        if total > rate * (time + number):
            return False
    if number == 0:
        return True
    if witness is None:
        return False
    needed = sum([size for time, size in leaves if time <= witness])
    return needed > rate * (witness + number - 1)


def file_delay(file, rate):
    """Return the delay of the unit leaves of a file, in their order."""
    return delay([(leaf[5], bulk(leaf)) for leaf in leaves_in(file) if leaf[0] == UNIT], rate)


def check_rate(rate):
    """Raise OutOfRange for a rate that is out of its range."""
    if rate < 1 or rate > TOP_RATE:
        raise OutOfRange(0)
