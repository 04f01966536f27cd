"""Numbers as they are written in texts."""

MOST_DIGITS = 6


def number_of(word):
    """Return the number that a word of one to six digits stands for, without leading zeros; None for another word."""
    if not 1 <= len(word) <= MOST_DIGITS or not all("0" <= letter <= "9" for letter in word):
        return None
    if word[0] == "0" and word != "0":
        return None
    return int(word)
