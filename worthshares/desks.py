"""Desks: a game that lines of text change and ask about."""

from worthshares.checks import check_many, check_text
from worthshares.errors import InvalidText, NothingToUndo
from worthshares.games import all_groups
from worthshares.rules import names, shares, told_rule
from worthshares.texts import written_worth


def group_text(group):
    return "+".join([str(person) for person in group])


def ratio_text(ratio):
    top, bottom = ratio
    return str(top) if bottom == 1 else f"{top}/{bottom}"


class Desk:
    """Keeps a game of so many people, at first with all worths 0."""

    def __init__(self, many):
        check_many(many)
        self._many = many
        self._places = {group_text(group): at for at, group in enumerate(all_groups(many))}
        self._game = (0,) * len(self._places)
        self._earlier = []

    @property
    def game(self):
        """The game as the lines have made it."""
        return self._game

    def run(self, line):
        """Sets a worth, or answers with a worth or with the shares by a told rule."""
        check_text(line)
        if line in names():
            return self._shares_text(line)
        if line in self._places:
            return str(self._game[self._places[line]])
        self._set_worth(line)
        return None

    def undo(self):
        """Takes back the last line that set a worth."""
        if not self._earlier:
            raise NothingToUndo("no line has set a worth that still stands")
        self._game = self._earlier.pop()

    def _shares_text(self, name):
        found = shares(told_rule(name, self._many), self._game)
        return " ".join([ratio_text(ratio) for ratio in found])

    def _set_worth(self, line):
        group, _, number = line.partition(" ")
        value = written_worth(number)
        if group not in self._places or value is None:
            raise InvalidText("this line neither sets a worth nor asks for anything")
        at = self._places[group]
        self._earlier.append(self._game)
        self._game = self._game[:at] + (value,) + self._game[at + 1:]
