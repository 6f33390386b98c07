"""Numbers in decimal digits, as they stand in texts."""

DIGITS = "0123456789"


def is_numeral(word, most):
    """Whether a string is a number in at most so many decimal digits, without leading zeros."""
    # The length is looked at here, for int refuses to read thousands of digits.
    if not 1 <= len(word) <= most or not all([sign in DIGITS for sign in word]):
        return False
    return word == "0" or not word.startswith("0")
