"""Reading the lines of tuples of pieces."""

from onesheetmore.common import need
from onesheetmore.errors import InvalidText
from onesheetmore.spreadkinds import is_piece
from onesheetmore.spreadtexts import piece_word
from onesheetmore.textreadings import number_in, pair_in, words_of


def quotient_in(word):
    """The quotient that the word writes, perhaps with None for what is no number."""
    top, slash, bottom = word.partition("/")
    return (number_in(top), 1 if slash == "" else number_in(bottom))


def piece_in(word):
    """The piece that the word writes, perhaps with None for what is no number."""
    kind, _, spot = word.partition("@")
    sheet, _, place = spot.partition(":")
    x, _, y = place.partition(",")
    return (*pair_in(kind, ","), *pair_in(sheet, "."), quotient_in(x), quotient_in(y))


def read_spread(lists, text):
    """The tuple of pieces with this line."""
    need("text", isinstance(text, str))
    pieces = []
    for i, word in enumerate(words_of(text)):
        piece = piece_in(word)
        # Written once more, what is not written as it has to be comes out otherwise.
        if not is_piece(lists, piece) or piece_word(piece) != word:
            raise InvalidText(0, i)
        pieces.append(piece)
    return tuple(pieces)
