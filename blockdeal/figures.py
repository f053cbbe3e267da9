"""Figures: whole numbers from 0 as they are written."""

MOST_FIGURES = 20


def number_of(text):
    """The number that a text of at most twenty figures writes, no 0 ahead but in 0 itself, or None."""
    if not 1 <= len(text) <= MOST_FIGURES or (text[0] == "0" and text != "0"):
        return None
    # Python's own reading would also take signs, blanks and figures of other scripts.
    if not all(["0" <= figure <= "9" for figure in text]):
        return None
    return int(text)
