"""Numbers in figures."""

FIGURES = "0123456789"
# No number that may stand in any text has more figures; so none of thousands of figures is ever reckoned.
MOST_FIGURES = 9


def number_of(token):
    """The number that a text tells in figures, without a 0 ahead of others, or None."""
    if not 1 <= len(token) <= MOST_FIGURES or not all([sign in FIGURES for sign in token]):
        return None
    if token[0] == "0" and len(token) > 1:
        return None
    return int(token)
