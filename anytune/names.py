"""Names of holes and channels."""

LETTERS = "abcdefghijklmnopqrstuvwxyz"
LONGEST_NAME = 8


def is_name(text):
    """Whether a string is a name."""
    if text == "self" or not 1 <= len(text) <= LONGEST_NAME:
        return False
    return all([letter in LETTERS for letter in text])
