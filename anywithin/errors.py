"""The errors: one class for each name that the points name."""


class WithinError(ValueError):
    """What all errors of this package are."""

    def __init__(self):
        """Take nothing: only the classes below keep what they were made with."""

    # What an error keeps may be an int that is too great to be written, so no text shows it.
    def __str__(self):
        return f"{self.__class__.__name__}"

    def __repr__(self):
        return f"{self.__class__.__name__}"


class BadRows(WithinError):
    """A thing of rows is no row, or stands wrongly among the others."""
    def __init__(self, index):
        self.index = index


class BadKinds(WithinError):
    """What was passed as kinds is no Kinds."""
    def __init__(self, kinds):
        self.kinds = kinds


class BadKind(WithinError):
    """It is no kind that may stand here."""
    def __init__(self, kind):
        self.kind = kind


class BadNames(WithinError):
    """These names do not lead each kind and mark, and nothing else, to a fit name."""
    def __init__(self, names):
        self.names = names


class BadStand(WithinError):
    """A thing of the stand is no record of a top kind."""
    def __init__(self, index):
        self.index = index


class BadMate(WithinError):
    """A thing of the other stand, or beginning, is none that may stand there."""
    def __init__(self, index):
        self.index = index


class BadPath(WithinError):
    """It is no path of the stand."""
    def __init__(self, path):
        self.path = path


class BadMark(WithinError):
    """It is no mark of this kind."""
    def __init__(self, mark):
        self.mark = mark


class BadRecord(WithinError):
    """It is no record that may lie there."""
    def __init__(self, record):
        self.record = record


class BadGoal(WithinError):
    """It is no path of a record in which the moved one may lie."""
    def __init__(self, goal):
        self.goal = goal


class BadFlat(WithinError):
    """A thing of flat is no fit triple."""
    def __init__(self, index):
        self.index = index


class BadMany(WithinError):
    """It is no number that may stand here."""
    def __init__(self, many):
        self.many = many


class BadLess(WithinError):
    """A thing of less is no record of a top kind."""
    def __init__(self, index):
        self.index = index


class BadMore(WithinError):
    """A thing of more is no record of a top kind."""
    def __init__(self, index):
        self.index = index


class BadStands(WithinError):
    """A thing of the list is no stand."""
    def __init__(self, index):
        self.index = index


class BadDeeds(WithinError):
    """A thing of the list is no deed, or has the name of one ahead."""
    def __init__(self, index):
        self.index = index


class BadPlan(WithinError):
    """What was passed as a plan is no Plan."""
    def __init__(self, plan):
        self.plan = plan


class BadName(WithinError):
    """It is no deed's name."""
    def __init__(self, name):
        self.name = name


class BadOther(WithinError):
    """It is nothing that can stand beside the first one."""
    def __init__(self, other):
        self.other = other


class BadNameList(WithinError):
    """A thing of the list is no deed's name, or stood ahead."""
    def __init__(self, index):
        self.index = index


class BadIndex(WithinError):
    """It is no index of what is there."""
    def __init__(self, index):
        self.index = index


class BadAsk(WithinError):
    """It is no ask of this deed."""
    def __init__(self, ask):
        self.ask = ask


class BadNumber(WithinError):
    """It is no number that may stand here."""
    def __init__(self, number):
        self.number = number


class NoRecord(WithinError):
    """No record with this number is here."""
    def __init__(self, number):
        self.number = number


class Lasts(WithinError):
    """The record is of a kind that lasts."""
    def __init__(self, number):
        self.number = number


class BadNumbers(WithinError):
    """It is no list of as many numbers as the deed has who."""
    def __init__(self, numbers):
        self.numbers = numbers


class Twice(WithinError):
    """The number stood ahead in the list."""
    def __init__(self, number):
        self.number = number


class NotThere(WithinError):
    """The record of this row of who is not as the row says."""
    def __init__(self, index):
        self.index = index


class Asked(WithinError):
    """This ask of the deed does not hold."""
    def __init__(self, index):
        self.index = index


class BadPlace(WithinError):
    """It is neither None nor an index of who."""
    def __init__(self, place):
        self.place = place


class BadBeginning(WithinError):
    """A thing of the beginning is no seed of a top kind."""
    def __init__(self, index):
        self.index = index


class BadPlay(WithinError):
    """It is no play of this plan and beginning."""
    def __init__(self, play):
        self.play = play


class BadAsked(WithinError):
    """A thing of the asked stand is no record of a top kind."""
    def __init__(self, index):
        self.index = index


class BadSteps(WithinError):
    """A step is none there."""
    def __init__(self, index):
        self.index = index


class NotBrought(WithinError):
    """The play does not bring the asked stand."""
    def __init__(self, asked):
        self.asked = asked


class BadFirst(WithinError):
    """A thing of the first stand is no record of a top kind."""
    def __init__(self, index):
        self.index = index


class NotMore(WithinError):
    """The stand does not lie in the beginning, or has not the play's first in it."""
    def __init__(self, first):
        self.first = first


class BadLater(WithinError):
    """It is no play of this plan and beginning."""
    def __init__(self, later):
        self.later = later


class NotLocal(WithinError):
    """This deed is not local."""
    def __init__(self, name):
        self.name = name
