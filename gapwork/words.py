"""Names, kept words, and how wide numbers are."""

WIDE = 1000000

KEPT = (
    "num", "row", "kind", "def", "more", "first", "others", "long", "match",
    "if", "let", "fold", "call", "gap", "in", "world", "fault", "left",
)

SMALL_LETTERS = "abcdefghijklmnopqrstuvwxyz"
FIGURES = "0123456789"


def is_name(text):
    """Tells whether a text is a name."""
    return 1 <= len(text) <= 6 and text not in KEPT and all([sign in SMALL_LETTERS for sign in text])


def is_figures(text, most):
    """Tells whether a text is a number's figures, of at most so many signs, with no nought ahead of others."""
    if not 1 <= len(text) <= most or not all([sign in FIGURES for sign in text]):
        return False
    return len(text) == 1 or text[0] != "0"
