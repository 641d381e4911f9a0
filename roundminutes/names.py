"""Names of events."""

from roundminutes.errors import BadName

LETTERS = "abcdefghijklmnopqrstuvwxyz"
DIGITS = "0123456789"
LONGEST_NAME = 8


def is_name(text):
    """Tell whether the string is a name."""
    if not 1 <= len(text) <= LONGEST_NAME:
        return False
    # isalpha and isdigit would let letters and digits of other scripts pass.
    return text[0] in LETTERS and all([sign in LETTERS or sign in DIGITS for sign in text])


def check_name(text):
    """Raise BadName unless the string is a name."""
    if not is_name(text):
        raise BadName(text)
