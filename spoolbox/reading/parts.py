"""Reading in parts: the units of a file as soon as their leaves are there."""

from spoolbox.errors import SpoolboxError
from spoolbox.reading.leaves import Walk, content_of
from spoolbox.wire.leaves import UNIT


class Reader:
    """A reader of one file, which is fed in parts."""

    def __init__(self):
        self.walk = Walk()
        # All units so far, with their tracks, in the order of the file.
        self.found = []
        # The content of the last unit of each track that has one.
        self.contents = {}
        # The byte at which an error was found: to take it once more raises this error again.
        self.stuck = []

    def feed(self, part):
        """Return the pairs of a track and a unit that are whole now."""
        row = self.stuck + part
        pairs = []
        for byte in row:
            try:
                pairs.extend(self.take(byte))
            except SpoolboxError:
                self.stuck = [byte]
                if len(pairs) == 0:
                    raise
                return pairs
        return pairs

    def close(self):
        """Return the presentation if all that was fed is a file."""
        for byte in self.stuck:
            self.take(byte)
        self.walk.check_whole()
        tracks = []
        for at, row in enumerate(self.walk.rows):
            units = [copied(unit) for track, unit in self.found if track == at + 1]
            tracks.append((row[0], row[1], units))
        return (self.walk.ticks, self.walk.skip, tracks, list(self.walk.tags))

    def given(self):
        """Return the number of units that were returned."""
        return len(self.found)

    def leaves(self):
        """Return the number of leaves that were read."""
        return self.walk.number

    def copy(self):
        """Return an independent reader in the same state."""
        other = Reader()
        other.walk = self.walk.copy()
        other.found = list(self.found)
        other.contents = dict(self.contents)
        other.stuck = list(self.stuck)
        return other

    def take(self, byte):
        """Take the next byte; return the pair of a track and a unit that is whole with it, in a list, or none."""
        leaf = self.walk.leaf_before(byte)
        pairs = []
        if leaf is not None and leaf[0] == UNIT:
            content = content_of(leaf, self.contents)
            unit = (leaf[5], leaf[6], content, leaf[7] == 0)
            self.found.append((leaf[3], unit))
            self.contents[leaf[3]] = content
            pairs.append((leaf[3], copied(unit)))
        self.walk.pass_on(byte, leaf)
        return pairs


def copied(unit):
    """Return the unit with a content of its own."""
    time, span, content, leans = unit
    return (time, span, list(content), leans)
