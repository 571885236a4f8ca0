"""What is told from below of things that have others in them, without a call of itself, however deep they are."""


def from_below(root, inner_of, make):
    """Tells what make tells of the root and of what it told of those right in it, which inner_of tells, in order."""
    told = []
    waiting = [(root, False)]
    while waiting:
        here, inner_told = waiting.pop()
        inner = inner_of(here)
        if inner_told or not inner:
            first = len(told) - len(inner)
            told[first:] = [make(here, told[first:])]
        else:
            waiting.append((here, True))
            waiting.extend([(part, False) for part in inner[::-1]])
    return told[0]
