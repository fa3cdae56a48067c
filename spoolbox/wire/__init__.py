"""The wire: numbers, checksums, stuffing and leaves as rows of bytes."""
