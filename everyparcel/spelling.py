"""How names, addresses and numbers are spelled.

This stands in a file of its own because the network and the tables both need it, and the tables need the network.
"""

LETTERS = "abcdefghijklmnopqrstuvwxyz"
DIGITS = "0123456789"


def made_of(text, signs, most):
    """Whether the text has 1 to `most` characters, each of them one of the signs."""
    return 1 <= len(text) <= most and all([sign in signs for sign in text])


def spells_address(text):
    """Whether the text is an address (point 15)."""
    return made_of(text, DIGITS, 8)


def spells_number(text, most):
    """Whether the text is a number of at most `most` digits, without a leading zero."""
    return made_of(text, DIGITS, most) and (text == "0" or text[0] != "0")
