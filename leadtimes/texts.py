"""Texts: numbers, logs and books, written and read."""

from leadtimes.errors import NoText
from leadtimes.logs import log_of
from leadtimes.numbers import is_number

FIGURES = "0123456789"
MOST_FIGURES = 60


def whole_in(word):
    """The whole number from 0 on that a word writes, or None."""
    if word == "" or len(word) > MOST_FIGURES or not all([sign in FIGURES for sign in word]):
        return None
    if word[0] == "0" and word != "0":
        return None
    return int(word)


def top_in(word):
    """The whole number, perhaps below 0, that a word writes, or None."""
    if not word.startswith("-"):
        return whole_in(word)
    top = whole_in(word[1:])
    return None if top is None or top == 0 else -top


def number_in(word):
    """The number that a word writes, or None."""
    parts = word.split("/")
    if len(parts) > 2:
        return None
    top = top_in(parts[0])
    if len(parts) == 1:
        return None if top is None else (top, 1)
    bottom = whole_in(parts[1])
    # A bottom of 1 is not written; None makes no number either.
    return (top, bottom) if bottom != 1 and is_number((top, bottom)) else None


def thing_in(kind, word):
    """The number, or whole number from 0 on, that a word writes, or None."""
    return number_in(word) if kind == "number" else whole_in(word)


def parts_in(line, forms):
    """What a line tells, as a tuple, or None; the forms tell the kinds of words behind the first."""
    words = line.split(" ")
    form = forms.get(words[0])
    if form is None or len(words) != len(form) + 1:
        return None
    parts = [words[0]]
    for kind, word in zip(form, words[1:]):
        parts.append(thing_in(kind, word))
    return None if None in parts else tuple(parts)


def deed_in(line):
    """The deed that a line writes, or None."""
    return parts_in(line, {
        "join": ("number", "number", "number"),
        "leave": ("number", "whole"),
        "turn": ("number", "whole", "number"),
    })


def row_in(line):
    """The row of a book that a line writes, or None."""
    return parts_in(line, {"deed": ("whole",), "pass": ("number", "whole")})


def lines_in(text):
    """The lines of a text, none of the text without signs; NoText of what is no text."""
    if not isinstance(text, str):
        raise NoText(0)
    return text.split("\n") if text != "" else []


def refuse_first_none(parts):
    """NoText where something of a list, read line by line, is None."""
    if None in parts:
        raise NoText(parts.index(None))


def read_number(text):
    """The number that a text writes; NoText."""
    number = number_in(text) if isinstance(text, str) else None
    if number is None:
        raise NoText(0)
    return number


def read_log(text):
    """The log that a text writes; NoText, then NoLog."""
    deeds = [deed_in(line) for line in lines_in(text)]
    refuse_first_none(deeds)
    return log_of(deeds)


def read_book(text):
    """The book that a text writes; NoText."""
    rows = [row_in(line) for line in lines_in(text)]
    refuse_first_none(rows)
    return rows


def show_number(number):
    """A number as it is written."""
    top = number[0]
    bottom = number[1]
    return str(top) if bottom == 1 else f"{top}/{bottom}"


def show_part(part):
    """A part of a deed or a row of a book as it is written: a word, a number or a whole number."""
    return show_number(part) if isinstance(part, tuple) else str(part)


def show_lines(things):
    """Deeds or rows as they are written, a line feed between two."""
    return "\n".join([" ".join([show_part(part) for part in thing]) for thing in things])


def show_log(log):
    """A log as it is written."""
    return show_lines(log)


def show_book(book):
    """A book as it is written."""
    return show_lines(book)
