"""The lines of the text of a format."""

from amidread.arrows import is_kind, is_letter
from amidread.errors import InvalidText
from amidread.words import ALPHABET, is_letters, is_word

DIGITS = "0123456789"


def line_of(arrow):
    """The line of an arrow."""
    source, letter, target, kind = arrow
    line = f"{source} {letter} {target}"
    return line if kind == "" else f"{line} {kind}"


def is_number(word):
    """Whether a string is a number, written without needless zeros."""
    if word == "" or not is_word(DIGITS, word):
        return False
    return word == "0" or word[0] != "0"


def number_of(digits):
    """The number that is written in digits."""
    # Python's int refuses numbers of some thousands of digits, which may stand here.
    number = 0
    for digit in digits:
        number = number * 10 + int(digit)
    return number


def is_letters_line(words):
    """Whether the words of a line are those of a first line."""
    return len(words) == 2 and words[0] == "letters" and is_letters(words[1])


def is_states_line(words):
    """Whether the words of a line are those of a second line."""
    return len(words) == 2 and words[0] == "states" and is_number(words[1]) and words[1] != "0"


def is_arrow_line(words):
    """Whether the words of a line have the form of an arrow's line."""
    if len(words) < 3 or len(words) > 4:
        return False
    if not is_number(words[0]) or not is_letter(ALPHABET, words[1]) or not is_number(words[2]):
        return False
    return len(words) == 3 or is_kind(words[3])


def is_line(at, words):
    """Whether the words of a line have the form of the line with this number."""
    if at == 0:
        return is_letters_line(words)
    if at == 1:
        return is_states_line(words)
    return is_arrow_line(words)


def arrow_of(words):
    """The arrow that the words of a line of its form tell."""
    kind = words[3] if len(words) == 4 else ""
    return number_of(words[0]), words[1], number_of(words[2]), kind


def parts_of(text):
    """(letters, states, arrows) of a text whose lines have their forms; any value may be passed.

    Raises InvalidText for all others. Whether the parts make a format is not asked.
    """
    if not isinstance(text, str):
        raise InvalidText(0)
    rows = [line.split(" ") for line in text.split("\n")]
    for at, words in enumerate(rows):
        if not is_line(at, words):
            raise InvalidText(at)
    if len(rows) < 2:
        raise InvalidText(len(rows))
    return rows[0][1], number_of(rows[1][1]), tuple([arrow_of(words) for words in rows[2:]])
