"""Letters, words, their order and their turns."""

ALPHABET = "abcdefghijklmnopqrstuvwxyz"
FEWEST_LETTERS = 2
MOST_LETTERS = 5


def is_letters(thing):
    """Whether any value is letters: two to five of a to z, ascending."""
    if not isinstance(thing, str) or not FEWEST_LETTERS <= len(thing) <= MOST_LETTERS:
        return False
    return is_word(ALPHABET, thing) and thing == "".join(sorted(set(thing)))


def is_word(letters, thing):
    """Whether any value is a word over letters."""
    return isinstance(thing, str) and all([letter in letters for letter in thing])


def words_with(letters, length):
    """Yields the words with so many letters, in order."""
    word = letters[0] * length
    while word is not None:
        yield word
        word = word_after(letters, word)


def word_after(letters, word):
    """The next word of the same length, or None behind the last one."""
    head = word.rstrip(letters[-1])
    if head == "":
        return None
    higher = letters[letters.index(head[-1]) + 1]
    return head[:-1] + higher + letters[0] * (len(word) - len(head))


def turns(word):
    """The ascending tuple of the turns of a word."""
    # The empty word has no place to turn at, but it is a turn of itself.
    starts = max(1, len(word))
    return tuple(sorted({word[at:] + word[:at] for at in range(starts)}))


def least_turn(word):
    """The first of the turns of a word."""
    return turns(word)[0]


def is_repeated(word):
    """Whether a word that is not empty is a smaller word, repeated."""
    # A word stands within its double, the two ends left out, only if it is
    # one of its own smaller turns.
    return word != "" and word in (word + word)[1:-1]
