"""The errors of the program, each directly under TownError."""


class TownError(ValueError):
    """The base class of all errors of the program."""


class BadSigns(TownError):
    """Something is not a string of signs, or a set of signs is empty where it may not be."""


class BadText(TownError):
    """Something is not a text: no string, too long, or with something that is no character."""


class BadKind(TownError):
    """A kind of words is wrong or too large."""


class NoReading(TownError):
    """No record is written as the text."""


class TooMany(TownError):
    """There are more readings or spots than allowed."""


class TooLarge(TownError):
    """A text or a table would grow beyond its limit."""


class BadItem(TownError):
    """The part of a group at index `at` is wrong; -1 stands for the group as a whole."""

    def __init__(self, at):
        self.at = at


class BadForm(TownError):
    """The line of a form at index `at` is wrong; -1 stands for the form as a whole."""

    def __init__(self, at):
        self.at = at


class BadName(TownError):
    """Something is not a name."""

    def __init__(self, name):
        self.name = name


class Unknown(TownError):
    """There is no field or no form of this name."""

    def __init__(self, name):
        self.name = name


class Missing(TownError):
    """A record lacks a field that is needed."""

    def __init__(self, name):
        self.name = name


class BadValue(TownError):
    """The value of a field is not a word of its kind."""

    def __init__(self, name):
        self.name = name


class NotSingle(TownError):
    """A text has more than one reading."""

    def __init__(self, text):
        self.text = text


class NotWithin(TownError):
    """A text is readable for one form and not for the other."""

    def __init__(self, text):
        self.text = text


class NoForm(TownError):
    """What stands for this name is not a form."""

    def __init__(self, name):
        self.name = name


class BadNumber(TownError):
    """Something is not an integer within the limits."""

    def __init__(self, number):
        self.number = number


class TooWide(TownError):
    """A written line cannot be made narrow enough."""

    def __init__(self, line):
        self.line = line


class BadShort(TownError):
    """The short words that are given for a field are wrong."""

    def __init__(self, name):
        self.name = name
