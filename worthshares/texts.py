"""Texts of games: their integers, one space between."""

from worthshares.checks import PEOPLE_BY_ITEMS, WORTH_LIMIT, check_game, check_text, is_integer
from worthshares.errors import InvalidText

MOST_SIGNS = 5


def written_worth(text):
    """The worth that is written without needless signs, None if the text is no such worth."""
    digits = text.removeprefix("-")
    # The length comes first, since a string of very many digits cannot be made an integer.
    if len(text) > MOST_SIGNS or not digits.isascii() or not digits.isdigit():
        return None
    value = int(text)
    return value if str(value) == text and is_integer(value, -WORTH_LIMIT, WORTH_LIMIT) else None


def write_game(game):
    """The text of a game."""
    check_game(game)
    return " ".join([str(value) for value in game])


def read_game(text):
    """The game of a text."""
    check_text(text)
    game = tuple([written_worth(word) for word in text.split(" ")])
    if len(game) not in PEOPLE_BY_ITEMS or None in game:
        raise InvalidText("this is not the text of a game")
    return game
