"""Reading the texts of diaries."""

from onesheetmore.common import need
from onesheetmore.errors import InvalidText
from onesheetmore.kinds import is_index
from onesheetmore.spreadkinds import is_place
from onesheetmore.spreadreadings import quotient_in
from onesheetmore.spreadtexts import quotient_word
from onesheetmore.textreadings import lines_of, number_in, words_of


def place_in(word):
    """The quotient from 0 on that the word writes, or None."""
    place = quotient_in(word)
    # Written once more, what is not written as it has to be comes out otherwise.
    if not is_place(place) or quotient_word(place) != word:
        return None
    return place


def value_in(lists, i, word):
    """What the word writes as the word with this index of an entry that lays a piece, or None."""
    if i >= 4:
        return place_in(word)
    number = number_in(word)
    if i < 2:
        return number if is_index(number, len(lists[i])) else None
    return number


def read_entry(lists, line, words):
    """The entry of this line of these words."""
    values = []
    many = 3 if words[2:3] == ["-"] else 6
    for i, word in enumerate(words):
        if i == 2 and many == 3:
            values.append(None)
            continue
        value = value_in(lists, i, word) if i < many else None
        if value is None:
            raise InvalidText(line, i)
        values.append(value)
    if len(words) < many:
        raise InvalidText(line, len(words))
    return (values[0], values[1], None if many == 3 else tuple(values[2:]))


def read_diary(lists, text):
    """The diary with this text."""
    need("text", isinstance(text, str))
    return tuple([read_entry(lists, i, words_of(line)) for i, line in enumerate(lines_of(text))])
