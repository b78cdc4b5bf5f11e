"""What a name and a key are."""

SMALL_LETTERS = "abcdefghijklmnopqrstuvwxyz"
FIGURES = "0123456789"
LONGEST_NAME = 8
LONGEST_KEY = 12


def is_name(text):
    """Tell whether a text is one to eight small letters."""
    return 1 <= len(text) <= LONGEST_NAME and is_made_of(text, SMALL_LETTERS)


def is_key(text):
    """Tell whether a text is one to twelve small letters or figures."""
    return 1 <= len(text) <= LONGEST_KEY and is_made_of(text, SMALL_LETTERS + FIGURES)


def is_made_of(text, signs):
    """Tell whether each sign of a text is one of these."""
    # Strings' own islower and isdigit also take letters beyond a to z and figures beyond 0 to 9.
    return all([sign in signs for sign in text])
