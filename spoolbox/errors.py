"""All errors of the program."""


class SpoolboxError(ValueError):
    """The base class of all errors of the program; `at` says where the fault is."""

    def __init__(self, at):
        self.at = at


class OutOfRange(SpoolboxError):
    """A number is not in its range."""


class LooseNumber(SpoolboxError):
    """A step number has more bytes than it needs."""


class Truncated(SpoolboxError):
    """A row ends within a step number."""


class BadStuffing(SpoolboxError):
    """A piece is not well stuffed."""


class BadKind(SpoolboxError):
    """A writing has no kind of a leaf."""


class BadStamp(SpoolboxError):
    """A writing has no whole stamp."""


class BadNumber(SpoolboxError):
    """A writing has no whole number of a leaf."""


class BadTrack(SpoolboxError):
    """A writing has no track in its range."""


class BadOrdinal(SpoolboxError):
    """A writing has no ordinal in its range."""


class BadTime(SpoolboxError):
    """A writing has no time in its range."""


class BadSpan(SpoolboxError):
    """A writing has no span in its range."""


class BadKey(SpoolboxError):
    """A writing has no key of 0 or 1."""


class BadSize(SpoolboxError):
    """A writing has no size of a body in its range."""


class ShortBody(SpoolboxError):
    """A writing has fewer bytes of the body than its size says."""


class BadCheck(SpoolboxError):
    """A writing does not end in its checksum."""


class NotAPresentation(SpoolboxError):
    """A value is not a presentation."""


class BadChange(SpoolboxError):
    """A change does not belong to the old list."""


class BadBody(SpoolboxError):
    """The body of a leaf is bad."""


class BadStart(SpoolboxError):
    """A file does not begin with a 0."""


class CutOff(SpoolboxError):
    """A file ends within a piece."""


class EmptyPiece(SpoolboxError):
    """A file has a 0 where a piece should begin."""


class OtherStamp(SpoolboxError):
    """A leaf has another stamp than the first one."""


class WrongNumber(SpoolboxError):
    """A leaf has another number than its place tells."""


class WrongOrder(SpoolboxError):
    """A leaf of this kind cannot stand here."""


class WrongFields(SpoolboxError):
    """A leaf that is not that of a unit has a field that is not 0."""


class NoTrack(SpoolboxError):
    """The track of a unit does not exist."""


class TooManyUnits(SpoolboxError):
    """A track has more units than the head tells."""


class WrongOrdinal(SpoolboxError):
    """A unit does not have the next ordinal of its track."""


class WrongTime(SpoolboxError):
    """A unit has no span, or begins before the end of the one before it."""


class WrongKey(SpoolboxError):
    """The first unit of a track leans."""


class WrongEntry(SpoolboxError):
    """The index has an entry that is not allowed."""


class WrongCount(SpoolboxError):
    """The end tells another number of leaves."""


class WrongSum(SpoolboxError):
    """The end tells another checksum of the file."""


class MissingUnits(SpoolboxError):
    """A track has fewer units than the head tells."""


class Behind(SpoolboxError):
    """Bytes follow the end of a file."""


class NoEnd(SpoolboxError):
    """A file has no end."""


class NotAlike(SpoolboxError):
    """Two files to be joined differ in their ticks or tracks."""


class HasSkip(SpoolboxError):
    """The second one of two files to be joined has a skip."""


class TooLong(SpoolboxError):
    """A unit of the second one of two files has no place in the joined file."""


class NoHead(SpoolboxError):
    """A roll has no head from which it can be rebuilt."""


class TooManyTags(SpoolboxError):
    """The tags of two files are too long together."""
