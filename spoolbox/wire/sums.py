"""The checksum of a row, and integers that are stored in four bytes."""

# What four bits add to the remainder, so that a byte takes two steps instead of eight.
HALVES = (
    0x00000000, 0x1DB71064, 0x3B6E20C8, 0x26D930AC,
    0x76DC4190, 0x6B6B51F4, 0x4DB26158, 0x5005713C,
    0xEDB88320, 0xF00F9344, 0xD6D6A3E8, 0xCB61B38C,
    0x9B64C2B0, 0x86D3D2D4, 0xA00AE278, 0xBDBDF21C,
)


def checksum(row):
    """Return the checksum of a row."""
    return checksum_on(0, row)


def checksum_on(total, row):
    """Return the checksum of a row behind other bytes, whose checksum is `total`; that of no bytes is 0."""
    remainder = total ^ 0xFFFFFFFF
    for byte in row:
        remainder = remainder ^ byte
        remainder = remainder >> 4 ^ HALVES[remainder & 15]
        remainder = remainder >> 4 ^ HALVES[remainder & 15]
    return remainder ^ 0xFFFFFFFF


def four_bytes(number):
    """Return an integer below 2 ** 32 as four bytes, the least significant one first."""
    return [number & 255, number >> 8 & 255, number >> 16 & 255, number >> 24 & 255]


def number_of(row):
    """Return the integer that four bytes store."""
    return row[0] + (row[1] << 8) + (row[2] << 16) + (row[3] << 24)
