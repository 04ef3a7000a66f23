"""More errors: those of walls, verdicts, lots, watchers, beds, desks and texts."""

from anywithin.errors import WithinError


class BadWalls(WithinError):
    """A thing of walls is no list of stands."""
    def __init__(self, index):
        self.index = index


class BadWall(WithinError):
    """It is no wall for this plan, this beginning and what is asked."""
    def __init__(self, wall):
        self.wall = wall


class BadPatterns(WithinError):
    """A thing of patterns is no stand."""
    def __init__(self, index):
        self.index = index


class BadOtherAsked(WithinError):
    """A thing of the other stand that is asked is no record of a top kind."""
    def __init__(self, index):
        self.index = index


class BadHolder(WithinError):
    """It is neither None nor a pair of a kind and a mark of it."""
    def __init__(self, holder):
        self.holder = holder


class BadPart(WithinError):
    """It is no pair of a kind that lies directly in the holder's and a mark of it."""
    def __init__(self, part):
        self.part = part


class BadLimit(WithinError):
    """It is no number up to which there can be looked."""
    def __init__(self, limit):
        self.limit = limit


class BadOne(WithinError):
    """It is no pair of a kind and a mark of it."""
    def __init__(self, one):
        self.one = one


class BadHow(WithinError):
    """It is none of the words, or the kinds do not lie as it says."""
    def __init__(self, how):
        self.how = how


class NotKept(WithinError):
    """What is asked can come, or no desk keeps it."""
    def __init__(self, asked):
        self.asked = asked


class BadMenu(WithinError):
    """A thing of the menu is no deed's name with an ask of it, or stood ahead."""
    def __init__(self, index):
        self.index = index


class BadLot(WithinError):
    """It is no ascending list of unlike indexes, or names, that are there."""
    def __init__(self, lot):
        self.lot = lot


class BadLots(WithinError):
    """A thing of lots is no ascending list, or one of another sort."""
    def __init__(self, index):
        self.index = index


class BadPrices(WithinError):
    """It does not lead just the deeds' names to numbers."""
    def __init__(self, prices):
        self.prices = prices


class BadWatcher(WithinError):
    """It is no watcher of this kind."""
    def __init__(self, watcher):
        self.watcher = watcher


class NotBare(WithinError):
    """Some kind lies in this one."""
    def __init__(self, kind):
        self.kind = kind


class BadTop(WithinError):
    """It is no name, or that of a kind."""
    def __init__(self, top):
        self.top = top


class BadNewer(WithinError):
    """It is no plan of the same kinds."""
    def __init__(self, newer):
        self.newer = newer


class Clash(WithinError):
    """Of two deeds of this name neither is narrower."""
    def __init__(self, name):
        self.name = name


class BadBed(WithinError):
    """It is no bed."""
    def __init__(self, bed):
        self.bed = bed


class BadCover(WithinError):
    """It, the other one, is no bed."""
    def __init__(self, cover):
        self.cover = cover


class BadBeds(WithinError):
    """A thing of beds is none."""
    def __init__(self, index):
        self.index = index


class BadDeed(WithinError):
    """It is no deed of these kinds."""
    def __init__(self, deed):
        self.deed = deed


class IsThere(WithinError):
    """A deed of this name is there."""
    def __init__(self, name):
        self.name = name


class LetsIn(WithinError):
    """A pattern that is kept would come."""
    def __init__(self, asked):
        self.asked = asked


class IsKept(WithinError):
    """This pattern is kept."""
    def __init__(self, asked):
        self.asked = asked


class BadKindsText(WithinError):
    """It is no text of kinds."""
    def __init__(self, line, sign):
        self.line = line
        self.sign = sign


class BadStandText(WithinError):
    """It is no text of a stand."""
    def __init__(self, line, sign):
        self.line = line
        self.sign = sign


class BadStandsText(WithinError):
    """It is no text of stands."""
    def __init__(self, line, sign):
        self.line = line
        self.sign = sign


class BadBeginningText(WithinError):
    """It is no text of a beginning."""
    def __init__(self, line, sign):
        self.line = line
        self.sign = sign


class BadPlanText(WithinError):
    """It is no text of a plan."""
    def __init__(self, line, sign):
        self.line = line
        self.sign = sign


class BadPlayText(WithinError):
    """It is no text of a play."""
    def __init__(self, line, sign):
        self.line = line
        self.sign = sign
