"""Reading whole files."""

from spoolbox.errors import SpoolboxError
from spoolbox.reading.parts import Reader


def read(data):
    """Return the presentation whose file a list of bytes is."""
    reader = Reader()
    reader.feed(data)
    return reader.close()


def is_file(data):
    """Return whether a list of bytes is the file of a presentation."""
    try:
        read(data)
    except SpoolboxError:
        return False
    return True
