"""Words of a line, and what they stand for."""

from roundminutes.names import DIGITS

MOST_DIGITS = 9


def number_of(word):
    """Return the number for which the word stands, or None if it is no number word."""
    # isdigit and int would let digits of other scripts pass.
    if not 1 <= len(word) <= MOST_DIGITS or not all([sign in DIGITS for sign in word]):
        return None
    return None if word[0] == "0" and word != "0" else int(word)


def signed_of(word):
    """Return the number for which a number word behind a sign stands, or None."""
    number = number_of(word[1:])
    if number is None or word[0] not in ("+", "-"):
        return None
    return number if word[0] == "+" else -number


def value_of(word, kind):
    """Return what a word of this kind stands for, or None if it is not of this kind."""
    if kind == "number":
        return number_of(word)
    if kind == "signed":
        return signed_of(word)
    return word if word != "" else None


def values_of(words, kinds):
    """Return what the words stand for, or None unless there is one word of each kind."""
    if len(words) != len(kinds):
        return None
    values = [value_of(word, kind) for word, kind in zip(words, kinds)]
    return None if None in values else values
