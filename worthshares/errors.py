"""The errors of the package, one class for each kind of invalid argument."""


class ShareError(ValueError):
    """The base class of all errors of the package."""


class BadMany(ShareError):
    """No number of people from 2 to 4."""


class BadGame(ShareError):
    """No game; index is that of the first wrong item, None if the whole is no such tuple."""

    def __init__(self, index):
        super().__init__("this is not a game")
        self.index = index


class BadGroup(ShareError):
    """No group of the people of the game."""


class BadPerson(ShareError):
    """No person of the game."""


class BadRule(ShareError):
    """No rule; person and index tell the first wrong ratio, None where a whole tuple is wrong."""

    def __init__(self, person, index):
        super().__init__("this is not a rule")
        self.person = person
        self.index = index


class BadName(ShareError):
    """No name of a told rule."""


class BadAxiom(ShareError):
    """No name of an axiom."""


class BadAxioms(ShareError):
    """No ascending tuple of different axioms."""


class NotAlike(ShareError):
    """A rule and a game that are not for the same number of people."""


class NotOne(ShareError):
    """Not as many rules as the call needs."""


class NotText(ShareError):
    """A value that is no string."""


class InvalidText(ShareError):
    """A string that does not say what it should."""


class NothingToUndo(ShareError):
    """No line is left that could be taken back."""
