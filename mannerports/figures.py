"""Numbers as lines and rows write them."""

FIGURES = "0123456789"
# No number that is written anywhere here has more.
MOST_FIGURES = 4
NO_NUMBER = -1


def number_by(word):
    """The number that a word writes by figures, no 0 ahead but in 0 itself, else NO_NUMBER."""
    if not 1 <= len(word) <= MOST_FIGURES or not all([sign in FIGURES for sign in word]):
        return NO_NUMBER
    if word[0] == "0" and len(word) > 1:
        return NO_NUMBER
    return int(word)
