"""What a name is."""

SMALL_LETTERS = "abcdefghijklmnopqrstuvwxyz"
LONGEST_NAME = 8


def is_name(text):
    """Tell whether a text is one to eight small letters."""
    # Strings' own islower also takes letters beyond a to z.
    return 1 <= len(text) <= LONGEST_NAME and all([sign in SMALL_LETTERS for sign in text])
