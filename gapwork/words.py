"""Names, kept words, and how wide numbers are."""

WIDE = 1000000

KEPT = (
    "num", "row", "kind", "def", "more", "first", "others", "long", "match",
    "if", "let", "fold", "call", "gap", "in", "world", "fault", "left",
)

SMALL_LETTERS = "abcdefghijklmnopqrstuvwxyz"


def is_name(text):
    """Tells whether a text is a name."""
    return 1 <= len(text) <= 6 and text not in KEPT and all([sign in SMALL_LETTERS for sign in text])
