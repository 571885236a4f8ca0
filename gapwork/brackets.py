"""Words and brackets, parted by single blanks: how texts of all sorts are written and read.

Nothing here calls itself, as what is written and read may be very deep.
"""

from gapwork.errors import BadText

CLOSE_OF = {"(": ")", "[": "]"}

# What may stand right behind a sign of each sort. Ahead of a text and behind it a blank is thought.
FOLLOWERS = {
    "blank": ("start", "word"),
    "start": ("start", "word", "end"),
    "word": ("word", "blank", "end"),
    "end": ("end", "blank"),
}


def bracketed(opener, words):
    """Tells the pieces of a bracket with these words, or things yet to be spelled, in it."""
    pieces = [opener]
    for at, word in enumerate(words):
        if at > 0:
            pieces.append(" ")
        pieces.append(word)
    pieces.append(CLOSE_OF[opener])
    return pieces


def written(thing, spell):
    """Tells the text of a thing, where spell tells the pieces of one: texts, and things within it."""
    told = []
    waiting = [thing]
    while waiting:
        here = waiting.pop()
        if isinstance(here, str):
            told.append(here)
        else:
            waiting.extend(spell(here)[::-1])
    return "".join(told)


def sort_of(sign):
    """Tells of which sort a sign is."""
    if sign == " ":
        return "blank"
    if sign in "([":
        return "start"
    if sign in ")]":
        return "end"
    return "word"


def well_parted(text):
    """Tells whether words and brackets are parted by one blank, and none stands right within a bracket."""
    sorts = [sort_of(sign) for sign in f" {text} "]
    return all([right in FOLLOWERS[left] for left, right in zip(sorts, sorts[1:])])


def split_words(text):
    """Tells the words and the signs of brackets of a well parted text, in order."""
    for sign in "([":
        text = text.replace(sign, f"{sign} ")
    for sign in ")]":
        text = text.replace(sign, f" {sign}")
    return [word for word in text.split(" ") if word]


def scanned(text, close):
    """Tells a list of a text's words and brackets, each bracket as close tells it of its opener and what is in it."""
    if not well_parted(text):
        raise BadText(0)
    openers = []
    held = [[]]
    for word in split_words(text):
        if word in CLOSE_OF:
            openers.append(word)
            held.append([])
        elif word in (")", "]"):
            if not openers or CLOSE_OF[openers[-1]] != word:
                raise BadText(0)
            inner = held.pop()
            held[-1].append(close(openers.pop(), inner))
        else:
            held[-1].append(word)
    if openers:
        raise BadText(0)
    return held[0]


def scanned_one(text, close):
    """Tells the one word or bracket that a text is."""
    found = scanned(text, close)
    if len(found) != 1:
        raise BadText(0)
    return found[0]
