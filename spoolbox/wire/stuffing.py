"""Stuffing: rows as pieces that contain no 0."""

from spoolbox.errors import BadStuffing

# The first byte of a block that is full, so that no 0 stands behind its bytes.
FULL = 255


def stuff(row):
    """Return the well stuffed piece that stands for a row."""
    piece = []
    block = []
    for byte in row:
        if byte == 0:
            piece.extend([len(block) + 1, *block])
            block = []
        else:
            block.append(byte)
            if len(block) == FULL - 1:
                piece.extend([FULL, *block])
                block = []
    piece.extend([len(block) + 1, *block])
    return piece


def unstuff(piece):
    """Return the row that a well stuffed piece stands for."""
    if 0 in piece:
        raise BadStuffing(piece.index(0))
    if len(piece) == 0:
        raise BadStuffing(0)
    row = []
    at = 0
    while at < len(piece):
        size = piece[at]
        if at + size > len(piece):
            raise BadStuffing(at)
        row.extend(piece[at + 1:at + size])
        at += size
        if size < FULL:
            row.append(0)
        elif at == len(piece):
            raise BadStuffing(at)
    row.pop()
    return row
