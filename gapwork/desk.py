"""A desk, where a program is said rows by which it is filled, run and asked."""

from gapwork.errors import NoGap, NoRow
from gapwork.filled import filled
from gapwork.kinds import gap_kinds, is_of, last_kinds, look
from gapwork.programs import gaps
from gapwork.reader import read_kind, read_program, read_term
from gapwork.runs import run
from gapwork.terms import innermost
from gapwork.thingtexts import read_thing, thing_text
from gapwork.wants import musts
from gapwork.words import is_figures
from gapwork.writer import kind_text, program_text

MOST = 200


def split_row(row):
    """Tells a list of the words of a row, parted by the blanks outside of brackets."""
    words = [""]
    depth = 0
    for sign in row:
        if sign == " " and depth == 0:
            words.append("")
            continue
        words[-1] += sign
        if sign in "([":
            depth += 1
        elif sign in ")]":
            depth = max(depth - 1, 0)
    return words


def look_things(program, things, kinds):
    """Refuses other things than one of each kind, and kinds with letters."""
    if len(things) != len(kinds):
        raise NoRow()
    for thing, kind in zip(things, kinds):
        if innermost(kind)[0] == "any" or not is_of(program, thing, kind):
            raise NoRow()


def number_of(words):
    """Tells the gap's number that is the first of the words, others being behind it."""
    if len(words) < 2 or not is_figures(words[0], 2):
        raise NoRow()
    return int(words[0])


def keep_filled(programs, terms, kinds):
    """Keeps the last program with these fillings as the last one, if it is let by."""
    put = filled(programs[-1], terms, kinds)
    look(put)
    programs.append(put)
    return "kept"


# Each of these is handed the desk's programs, the last being the one as it stands, and the words behind the first.


def say_run(programs, words):
    """run THING .."""
    things = [read_thing(word) for word in words]
    look_things(programs[-1], things, last_kinds(programs[-1])[0])
    came = run(programs[-1], things, MOST)
    if came[0] == "fault":
        return "fault"
    word, (thing, rows), many = came
    return f"{thing_text(thing)} left {len(rows)} doings {many}"


def say_fill(programs, words):
    """fill N TERM"""
    n = number_of(words)
    term = read_term(" ".join(words[1:]))
    return keep_filled(programs, ((n, term),), ())


def say_kind(programs, words):
    """kind N KIND"""
    n = number_of(words)
    kind = read_kind(" ".join(words[1:]))
    if innermost(kind)[0] == "any":
        raise NoRow()
    return keep_filled(programs, (), ((n, kind),))


def look_alone(words):
    """Refuses words behind a row's only one."""
    if words:
        raise NoRow()


def say_back(programs, words):
    """back"""
    look_alone(words)
    if len(programs) == 1:
        raise NoGap(-1)
    programs.pop()
    return "kept"


def say_gaps(programs, words):
    """gaps"""
    look_alone(words)
    told = [f"{n} {kind_text(kind)}" for n, (names, kind) in gap_kinds(programs[-1]).items()]
    return " | ".join(told) if told else "none"


def say_must(programs, words):
    """must N THING .. to THING"""
    n = number_of(words)
    if words[-2] != "to":
        raise NoRow()
    program = programs[-1]
    things = [read_thing(word) for word in words[1:-2] + words[-1:]]
    params, kind = last_kinds(program)
    look_things(program, things, params + (kind,))
    if n not in gaps(program)[0]:
        raise NoGap(n)
    word, found = musts(program, ((things[:-1], things[-1]),), MOST)
    if word != "musts":
        return word
    told = ["any" if thing is None else thing_text(thing) for gap, around, thing in found if gap == n]
    return " | ".join(told) if told else "none"


def say_text(programs, words):
    """text"""
    look_alone(words)
    return program_text(programs[-1]).replace("\n", " ; ")


DEEDS = {
    "run": say_run, "fill": say_fill, "kind": say_kind, "back": say_back, "gaps": say_gaps, "must": say_must,
    "text": say_text,
}


class Desk:
    """A program as it stands, filled row by row."""

    def __init__(self, text):
        program = read_program(text)
        look(program)
        # The program as it was read, and behind each filling.
        self.programs = [program]

    def say(self, row):
        """Tells the answer to a row."""
        words = split_row(row)
        if "" in words or words[0] not in DEEDS:
            raise NoRow()
        deed = DEEDS[words[0]]
        return deed(self.programs, words[1:])
