"""The names of goods and buyers."""

LETTERS = "abcdefghijklmnopqrstuvwxyz"
DIGITS = "0123456789"
MOST_SIGNS = 6


def valid_name(text):
    """Tell whether the string is a name."""
    if not 1 <= len(text) <= MOST_SIGNS:
        return False
    if text[0] not in LETTERS:
        return False
    return all([sign in LETTERS or sign in DIGITS for sign in text])
