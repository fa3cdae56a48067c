"""What all reading of files has in common: their leaves, byte by byte, and the errors of these."""

from spoolbox.errors import BadBody, BadCheck, BadKey, BadKind, BadNumber, BadOrdinal, BadSize, BadSpan, BadStamp
from spoolbox.errors import BadStart, BadStuffing, BadTime, BadTrack, Behind, CutOff, EmptyPiece, MissingUnits
from spoolbox.errors import NoEnd, NoTrack, OtherStamp, ShortBody, TooManyUnits, WrongCount, WrongEntry, WrongFields
from spoolbox.errors import WrongKey, WrongNumber, WrongOrder, WrongOrdinal, WrongSum, WrongTime
from spoolbox.model.bodies import read_content, read_end, read_head, read_index, read_tags
from spoolbox.wire.leaves import END, HEAD, INDEX, TAGS, UNIT, read_leaf
from spoolbox.wire.stuffing import unstuff
from spoolbox.wire.sums import checksum_on

# The kind of the leaf before the first one.
NOTHING = -1


def leaves_in(file):
    """Return the leaves of a file; the bodies of its units are not looked at."""
    walk = Walk()
    leaves = []
    for byte in file:
        leaf = walk.leaf_before(byte)
        walk.pass_on(byte, leaf)
        if leaf is not None:
            leaves.append(leaf)
    walk.check_whole()
    return leaves


def leaf_of(piece, number):
    """Return the leaf of a piece; `number` is the number of leaves before it."""
    try:
        return read_leaf(unstuff(piece))
    except BadStuffing:
        raise BadStuffing(number) from None
    except BadKind:
        raise BadKind(number) from None
    except BadStamp:
        raise BadStamp(number) from None
    except BadNumber:
        raise BadNumber(number) from None
    except BadTrack:
        raise BadTrack(number) from None
    except BadOrdinal:
        raise BadOrdinal(number) from None
    except BadTime:
        raise BadTime(number) from None
    except BadSpan:
        raise BadSpan(number) from None
    except BadKey:
        raise BadKey(number) from None
    except BadSize:
        raise BadSize(number) from None
    except ShortBody:
        raise ShortBody(number) from None
    except BadCheck:
        raise BadCheck(number) from None


def told_by(leaf, number):
    """Return what the body of a leaf tells that is not that of a unit; `number` is the number of leaves before it."""
    kind, body = leaf[0], leaf[8]
    try:
        if kind == HEAD:
            return read_head(body)
        if kind == TAGS:
            return read_tags(body)
        if kind == INDEX:
            return read_index(body)
        return read_end(body)
    except BadBody:
        raise BadBody(number) from None


def content_of(leaf, contents):
    """Return the content of a unit; `contents` has that of the unit before it, by its track, if it leans."""
    before = None
    if leaf[7] == 0:
        before = contents[leaf[3]]
    try:
        return read_content(leaf[8], before)
    except BadBody:
        raise BadBody(leaf[2]) from None


class Walk:
    """The way through a file from left to right; the bodies of units are not looked at.

    For each byte there are two steps, so that a reader can look at a leaf before the walk goes on: `leaf_before`
    finds the errors and changes nothing, and `pass_on` raises none.
    """

    def __init__(self):
        self.size = 0
        # The bytes since the last 0, and the checksum of all bytes up to it.
        self.piece = []
        self.total = 0
        # The number of the leaves that were read, and the kind of the last one.
        self.number = 0
        self.kind = NOTHING
        self.stamp = 0
        self.ticks = 0
        self.skip = 0
        # The name, the kind and the number of units of each track, as the head tells them.
        self.rows = []
        self.tags = []
        # For each track the number of its units so far, and where the last one of them ends.
        self.spots = []
        # By the offset of each leaf that the index may name: its track and its time.
        self.named = {}

    def copy(self):
        """Return a walk of its own that stands at the same place."""
        other = Walk()
        other.size = self.size
        other.piece = list(self.piece)
        other.total = self.total
        other.number = self.number
        other.kind = self.kind
        other.stamp = self.stamp
        other.ticks = self.ticks
        other.skip = self.skip
        other.rows = list(self.rows)
        other.tags = list(self.tags)
        other.spots = list(self.spots)
        other.named = dict(self.named)
        return other

    def leaf_before(self, byte):
        """Return the leaf whose piece ends before the next byte, None if none does; raise the error of this byte."""
        if self.size == 0:
            if byte != 0:
                raise BadStart(0)
            return None
        if self.kind == END:
            raise Behind(self.number)
        if byte != 0:
            return None
        if len(self.piece) == 0:
            raise EmptyPiece(self.number)
        leaf = leaf_of(self.piece, self.number)
        self.check(leaf)
        return leaf

    def pass_on(self, byte, leaf):
        """Go on behind a byte for which `leaf_before` gave this leaf, or None."""
        if leaf is not None:
            self.keep(leaf)
        if byte == 0:
            self.total = checksum_on(self.total, self.piece + [0])
            self.piece = []
        else:
            self.piece.append(byte)
        self.size += 1

    def check_whole(self):
        """Raise the error of a file that ends here."""
        if self.size == 0:
            raise BadStart(0)
        if len(self.piece) > 0:
            raise CutOff(self.number)
        if self.kind != END:
            raise NoEnd(self.number)

    def check(self, leaf):
        """Raise the first error of the next leaf."""
        kind, stamp, number = leaf[0], leaf[1], leaf[2]
        if self.number > 0 and stamp != self.stamp:
            raise OtherStamp(self.number)
        if number != self.number:
            raise WrongNumber(self.number)
        if not self.may_follow(kind):
            raise WrongOrder(self.number)
        if kind == UNIT:
            self.check_unit(leaf)
            return
        if leaf[3:8] != (0, 0, 0, 0, 0):
            raise WrongFields(self.number)
        told = told_by(leaf, self.number)
        if kind == INDEX:
            self.check_entries(told)
        if kind == END:
            self.check_end(told)

    def may_follow(self, kind):
        """Return whether a leaf of this kind can be the next one."""
        if self.number == 0:
            return kind == HEAD
        if self.kind == INDEX:
            return kind == END
        if kind == TAGS:
            return self.number == 1
        return kind == UNIT or kind == INDEX

    def check_unit(self, leaf):
        """Raise the first error of the leaf of a unit, without that of its body."""
        _, _, _, track, ordinal, time, span, key, _ = leaf
        if track == 0 or track > len(self.rows):
            raise NoTrack(self.number)
        many, end = self.spots[track - 1]
        if many >= self.rows[track - 1][2]:
            raise TooManyUnits(self.number)
        if ordinal != many:
            raise WrongOrdinal(self.number)
        if span == 0 or time < end:
            raise WrongTime(self.number)
        if key == 0 and many == 0:
            raise WrongKey(self.number)

    def check_entries(self, entries):
        """Raise WrongEntry unless the index may have these entries."""
        last = 0
        for track, time, offset in entries:
            if offset <= last or self.named.get(offset) != (track, time):
                raise WrongEntry(self.number)
            last = offset

    def check_end(self, told):
        """Raise the first error of what the body of the end tells."""
        count, total = told
        if count != self.number + 1:
            raise WrongCount(self.number)
        if total != self.total:
            raise WrongSum(self.number)
        for row, spot in zip(self.rows, self.spots):
            if spot[0] < row[2]:
                raise MissingUnits(self.number)

    def keep(self, leaf):
        """Keep what the next leaf tells, which has no error."""
        kind, stamp, _, track, ordinal, time, span, key, body = leaf
        if kind == HEAD:
            self.stamp = stamp
            self.ticks, self.skip, self.rows = read_head(body)
            self.spots = [(0, 0) for _ in self.rows]
        elif kind == TAGS:
            self.tags = read_tags(body)
        elif kind == UNIT:
            self.spots[track - 1] = (ordinal + 1, time + span)
            if key == 1 and ordinal > 0:
                self.named[self.size - len(self.piece)] = (track, time)
        self.kind = kind
        self.number += 1
