"""What the tests reckon for themselves, by other ways than the program takes."""

import struct
import zlib

WORD = 2 ** 32


def fault_of(function, *args):
    """Return the name of the class of the error that a call raises and its `at`; None if it raises none."""
    try:
        function(*args)
    except ValueError as error:
        return (type(error).__name__, error.at)
    return None


def steps(number):
    """The digits in base 128, from their number on: divided anew for each."""
    count = 1
    while 128 ** count <= number:
        count += 1
    digits = [number // 128 ** k % 128 for k in range(count)]
    return [digit + 128 for digit in digits[:-1]] + digits[-1:]


def sum_of(row):
    return list(struct.pack("<I", zlib.crc32(bytes(row))))


def bits_checksum(row):
    """Point 103, bit by bit."""
    remainder = 0xFFFFFFFF
    for byte in row:
        for place in range(8):
            t = byte >> place & 1 ^ remainder & 1
            remainder = remainder >> 1
            if t == 1:
                remainder = remainder ^ 0xEDB88320
    return remainder ^ 0xFFFFFFFF


def parts_of(leaf):
    """The fields of a leaf's writing, as pairs of the error that its field has and its bytes."""
    kind, stamp, number, track, ordinal, time, span, key, body = leaf
    parts = [
        ("BadKind", [kind]),
        ("BadStamp", list(struct.pack("<I", stamp))),
        ("BadNumber", list(struct.pack("<I", number))),
        ("BadTrack", steps(track)),
        ("BadOrdinal", steps(ordinal)),
        ("BadTime", steps(time)),
        ("BadSpan", steps(span)),
        ("BadKey", [key]),
        ("BadSize", steps(len(body))),
        ("ShortBody", list(body)),
    ]
    return parts


def joined(parts):
    """The bytes of the fields with their checksum behind them."""
    row = [byte for _, part in parts for byte in part]
    return row + sum_of(row)


def starts_of(parts):
    """The index at which each field starts, and the one at which the checksum starts."""
    starts = {}
    at = 0
    for name, part in parts:
        starts[name] = at
        at += len(part)
    starts["BadCheck"] = at
    return starts


def step_there(row, at):
    """The pair of the only number whose bytes stand at `at` and the index behind it, or None."""
    for count in range(1, 7):
        part = row[at:at + count]
        number = sum(byte % 128 * 128 ** k for k, byte in enumerate(part))
        if len(part) == count and number < 2 ** 40 and steps(number) == part:
            return (number, at + count)
    return None


def first_fault(row):
    """The first fault of point 107 as a pair, or the leaf that the row is the writing of."""
    if row[:1] == [] or row[0] > 4:
        return ("BadKind", 0)
    leaf = [row[0]]
    at = 1
    for name in ("BadStamp", "BadNumber"):
        if len(row) - at < 4:
            return (name, at)
        leaf.append(struct.unpack("<I", bytes(row[at:at + 4]))[0])
        at += 4
    tops = (("BadTrack", 15), ("BadOrdinal", 2 ** 24 - 1), ("BadTime", 2 ** 40 - 1), ("BadSpan", 2 ** 24 - 1))
    for name, top in tops:
        found = step_there(row, at)
        if found is None or found[0] > top:
            return (name, at)
        leaf.append(found[0])
        at = found[1]
    if row[at:at + 1] not in ([0], [1]):
        return ("BadKey", at)
    leaf.append(row[at])
    found = step_there(row, at + 1)
    if found is None or found[0] > 1024:
        return ("BadSize", at + 1)
    size, at = found
    if len(row) < at + size:
        return ("ShortBody", at)
    leaf.append(row[at:at + size])
    at += size
    if row[at:] != sum_of(row[:at]):
        return ("BadCheck", at)
    return tuple(leaf)
