"""Names: texts of one to twelve letters from a to z."""

LETTERS = "abcdefghijklmnopqrstuvwxyz"
MOST_LETTERS = 12


def is_name(text):
    if not 1 <= len(text) <= MOST_LETTERS:
        return False
    return all([sign in LETTERS for sign in text])
