"""The errors of the package.

Each one derives from LeftError alone, so that none is taken for another one.
"""


class LeftError(ValueError):
    """What all errors of the package are."""


class InvalidHouses(LeftError):
    """No number of houses of a tree."""
    def __init__(self, given):
        self.given = given


class InvalidRoads(LeftError):
    """No roads of a tree."""
    def __init__(self, given):
        self.given = given


class InvalidHouse(LeftError):
    """No house."""
    def __init__(self, given):
        self.given = given


class InvalidHouseList(LeftError):
    """No list of houses."""
    def __init__(self, given):
        self.given = given


class InvalidLine(LeftError):
    """No line of a tree, of a store or of a look."""
    def __init__(self, given):
        self.given = given


class InvalidHomes(LeftError):
    """No homes of writes."""
    def __init__(self, given):
        self.given = given


class InvalidCells(LeftError):
    """No cells of writes."""
    def __init__(self, given):
        self.given = given


class InvalidCell(LeftError):
    """No cell."""
    def __init__(self, given):
        self.given = given


class InvalidWrite(LeftError):
    """No write of the store."""
    def __init__(self, given):
        self.given = given


class InvalidScript(LeftError):
    """No script."""
    def __init__(self, given):
        self.given = given


class InvalidBooks(LeftError):
    """No books of the store."""
    def __init__(self, given):
        self.given = given


class InvalidCounts(LeftError):
    """No counts of first lines."""
    def __init__(self, given):
        self.given = given


class InvalidLots(LeftError):
    """No lots of a look."""
    def __init__(self, given):
        self.given = given


class InvalidMoment(LeftError):
    """No moment."""
    def __init__(self, given):
        self.given = given


class InvalidLooks(LeftError):
    """No list of looks of the store."""
    def __init__(self, given):
        self.given = given


class InvalidFirsts(LeftError):
    """No numbers of first writes."""
    def __init__(self, given):
        self.given = given


class InvalidLook(LeftError):
    """No look of the store."""
    def __init__(self, given):
        self.given = given


class InvalidLot(LeftError):
    """No lot of writes."""
    def __init__(self, given):
        self.given = given


class InvalidRow(LeftError):
    """No row of a house."""
    def __init__(self, given):
        self.given = given


class InvalidIndex(LeftError):
    """No index that is asked for."""
    def __init__(self, given):
        self.given = given


class InvalidPast(LeftError):
    """No past of the store."""
    def __init__(self, given):
        self.given = given


class InvalidPairs(LeftError):
    """No pairs of looks."""
    def __init__(self, given):
        self.given = given


class InvalidList(LeftError):
    """No list of indices of looks."""
    def __init__(self, given):
        self.given = given


class InvalidCount(LeftError):
    """No count of last lines."""
    def __init__(self, given):
        self.given = given


class InvalidTable(LeftError):
    """No table of the cell."""
    def __init__(self, given):
        self.given = given


class InvalidAnswers(LeftError):
    """No answers of the cell."""
    def __init__(self, given):
        self.given = given


class InvalidBook(LeftError):
    """No book of a house."""
    def __init__(self, given):
        self.given = given


class InvalidLines(LeftError):
    """No list of lines."""
    def __init__(self, given):
        self.given = given


class NotJoined(LeftError):
    """No way leads from house 0 to this house."""
    def __init__(self, house):
        self.house = house


class NotARoad(LeftError):
    """The two houses are no neighbours."""
    def __init__(self, u, v):
        self.u = u
        self.v = v


class NothingToMake(LeftError):
    """All writes with this home are made."""
    def __init__(self, house):
        self.house = house


class NothingUnderWay(LeftError):
    """Nothing is under way from u to v."""
    def __init__(self, u, v):
        self.u = u
        self.v = v


class Stopped(LeftError):
    """The deed with this index cannot be done."""
    def __init__(self, at):
        self.at = at


class Faulty(LeftError):
    """The books have this fault."""
    def __init__(self, fault):
        self.fault = fault


class Torn(LeftError):
    """The write came from u to v, but is not among the first lines of u."""
    def __init__(self, u, v, write):
        self.u = u
        self.v = v
        self.write = write


class DoNotFit(LeftError):
    """The looks do not fit, as this picture shows."""
    def __init__(self, picture):
        self.picture = picture


class SameWrite(LeftError):
    """Two different writes are asked for."""
    def __init__(self, write):
        self.write = write


class NotAhead(LeftError):
    """x is not surely ahead of z."""
    def __init__(self, x, z):
        self.x = x
        self.z = z


class SurelyAhead(LeftError):
    """x is surely ahead of z."""
    def __init__(self, x, z):
        self.x = x
        self.z = z


class TooManyLooks(LeftError):
    """There would be so many looks."""
    def __init__(self, many):
        self.many = many


class NotARow(LeftError):
    """This house has three roads or more."""
    def __init__(self, house):
        self.house = house


class SameHome(LeftError):
    """The two lines have one home."""
    def __init__(self, x, y):
        self.x = x
        self.y = y


class NotSure(LeftError):
    """x does not surely come no later than z."""
    def __init__(self, x, z):
        self.x = x
        self.z = z


class Sure(LeftError):
    """x surely comes no later than z."""
    def __init__(self, x, z):
        self.x = x
        self.z = z


class Open(LeftError):
    """The fate of the write is another one."""
    def __init__(self, write):
        self.write = write


class CannotHave(LeftError):
    """The lot cannot have come, as this write shows."""
    def __init__(self, write):
        self.write = write


class NeverShown(LeftError):
    """The copy cannot have shown this."""
    def __init__(self, write):
        self.write = write


class NeverLast(LeftError):
    """The write can never be the last one of its cell."""
    def __init__(self, write):
        self.write = write


class NeverCommon(LeftError):
    """The copies of all houses can never show this write."""
    def __init__(self, write):
        self.write = write


class NoMoment(LeftError):
    """The look with this index has no moment."""
    def __init__(self, look):
        self.look = look


class NotSooner(LeftError):
    """Look i is not sooner than look j."""
    def __init__(self, i, j):
        self.i = i
        self.j = j


class NoClock(LeftError):
    """The pairs cannot be so, as this ring shows."""
    def __init__(self, ring):
        self.ring = ring


class NeverWritten(LeftError):
    """No write has this cell."""
    def __init__(self, cell):
        self.cell = cell


class Alone(LeftError):
    """All copies show this write of the cell."""
    def __init__(self, write):
        self.write = write


class Full(LeftError):
    """There would be so many looks on the desk."""
    def __init__(self, many):
        self.many = many


class NothingToUndo(LeftError):
    """Nothing can be taken back."""


class NothingToRedo(LeftError):
    """Nothing can be done again."""
