"""Reading the lines of lists, lots and stocks."""

from onesheetmore.common import need
from onesheetmore.errors import InvalidText
from onesheetmore.kinds import is_sort, lot_fault, row_fault


def lines_of(text):
    """The lines of a text; "" has none."""
    if text == "":
        return []
    return text.split("\n")


def words_of(text):
    """The words of a line, parted at each single blank; some may be empty."""
    if text == "":
        return []
    return text.split(" ")


def number_in(word):
    """The number that the word writes, or None."""
    if word == "" or not all([figure in "0123456789" for figure in word]):
        return None
    if word[0] == "0" and word != "0":
        return None
    return int(word)


def pair_in(word, sign):
    """The two numbers of a word that writes them with sign between; None for one that is not written so."""
    first, _, second = word.partition(sign)
    return (number_in(first), number_in(second))


def triple_in(word, sign):
    """The three numbers of a word that writes the first two with sign between, or None."""
    left, _, many = word.partition("*")
    numbers = (*pair_in(left, sign), number_in(many))
    if None in numbers:
        return None
    return numbers


def read_lists(text):
    """The lists of this line."""
    need("text", isinstance(text, str))
    words = words_of(text)
    rows = [[]]
    for i, word in enumerate(words):
        if word == "|" and len(rows) == 1 and rows[0] != []:
            rows.append([])
            continue
        size = number_in(word)
        # The size ahead of it alone tells whether the new one fits.
        if row_fault(0, (*rows[-1][-1:], size)) is not None:
            raise InvalidText(0, i)
        rows[-1].append(size)
    if len(rows) == 1 or rows[1] == []:
        raise InvalidText(0, len(words))
    return (tuple(rows[0]), tuple(rows[1]))


def read_lot(lists, text):
    """The lot of the lists with this line."""
    need("text", isinstance(text, str))
    lot = []
    for i, word in enumerate(words_of(text)):
        entry = triple_in(word, ",")
        # The entry ahead of it alone tells whether the new one fits.
        if lot_fault(lists, (*lot[-1:], entry)) is not None:
            raise InvalidText(0, i)
        lot.append(entry)
    return tuple(lot)


def read_stock(text):
    """The stock with this line."""
    need("text", isinstance(text, str))
    stock = []
    for i, word in enumerate(words_of(text)):
        entry = triple_in(word, "x")
        if not is_sort(entry):
            raise InvalidText(0, i)
        stock.append(entry)
    return tuple(stock)
