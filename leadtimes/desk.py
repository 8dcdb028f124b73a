"""The desk: a race that is told rows, and answers each with a text."""

from leadtimes.books import book_of
from leadtimes.checker import fault, order_by
from leadtimes.errors import NoRow
from leadtimes.history import leaders_in
from leadtimes.logs import order_then
from leadtimes.races import Race
from leadtimes.texts import read_book, show_book, show_log, show_number, thing_in


def row_text(words):
    """Words with blanks between, none where there are none."""
    return " ".join(words) if words != [] else "none"


def one_line(text):
    """A text with a sign for each line feed."""
    return text.replace("\n", ";")


def time_text(time):
    """A time, or a sign for None."""
    return "-" if time is None else show_number(time)


def runners_text(order):
    """The runners of an order."""
    return row_text([str(runner) for runner in order])


def step_text(step):
    """Two that were exchanged."""
    return ":".join([show_number(step[0]), str(step[1]), str(step[2])])


def paper_text(paper):
    """A paper."""
    return ":".join([str(paper[0]), str(paper[1]), time_text(paper[2])])


def papers_text(papers):
    """A list of papers."""
    return row_text([paper_text(paper) for paper in papers])


def stretch_text(stretch):
    """A stretch of a row of leaders."""
    runner = "-" if stretch[0] is None else str(stretch[0])
    return ":".join([runner, time_text(stretch[1])])


def answer_join(race, things):
    return str(race.do(("join", things[0], things[1], things[2])))


def answer_leave(race, things):
    race.do(("leave", things[0], things[1]))
    return "ok"


def answer_turn(race, things):
    race.do(("turn", things[0], things[1], things[2]))
    return "ok"


def answer_go(race, things):
    return row_text([step_text(step) for step in race.go(things[0])])


def answer_log(race, things):
    return one_line(show_log(race.log()))


def answer_order(race, things):
    return runners_text(race.order())


def answer_then(race, things):
    return runners_text(order_then(race.log(), things[0]))


def answer_papers(race, things):
    return papers_text(race.papers())


def answer_changed(race, things):
    return " | ".join([papers_text(papers) for papers in race.changed()])


def answer_leaders(race, things):
    return row_text([stretch_text(stretch) for stretch in leaders_in(race.log())])


def answer_book(race, things):
    return one_line(show_book(book_of(race.log(), things[0])))


def answer_check(race, things):
    told = fault(race.log(), things[0], things[1])
    return "yes" if told is None else f"no {told}"


def answer_by(race, things):
    log = race.log()
    if fault(log, things[0], things[2]) is not None:
        return "no"
    order = order_by(log, things[2], things[0])
    return str(order[things[1]]) if things[1] < len(order) else "-"


# What the words behind each first word are; a text takes all the rest of the row.
KINDS = {
    "join": ("number", "number", "number"),
    "leave": ("number", "whole"),
    "turn": ("number", "whole", "number"),
    "go": ("number",),
    "log": (),
    "order": (),
    "then": ("number",),
    "papers": (),
    "changed": (),
    "leaders": (),
    "book": ("number",),
    "check": ("number", "text"),
    "by": ("number", "whole", "text"),
}

ANSWERS = {
    "join": answer_join,
    "leave": answer_leave,
    "turn": answer_turn,
    "go": answer_go,
    "log": answer_log,
    "order": answer_order,
    "then": answer_then,
    "papers": answer_papers,
    "changed": answer_changed,
    "leaders": answer_leaders,
    "book": answer_book,
    "check": answer_check,
    "by": answer_by,
}


def words_of(row):
    """The words of a row, a text at its end being one; NoRow where they are no row's."""
    if not isinstance(row, str) or "\n" in row:
        raise NoRow("a row is a text of one line")
    words = row.split(" ")
    kinds = KINDS.get(words[0])
    if kinds is None:
        raise NoRow("no row begins with this word")
    if "text" in kinds:
        words = row.split(" ", len(kinds))
    if len(words) != len(kinds) + 1:
        raise NoRow("the row has too few words or too many")
    return words


def thing_of(kind, word):
    """What a word of a row tells by its kind; NoRow, and NoText of a text."""
    if kind == "text":
        return read_book(word.replace(";", "\n"))
    thing = thing_in(kind, word)
    if thing is None:
        raise NoRow("a word of the row is no such number")
    return thing


class Desk:
    """A desk with a race, at first without deeds."""

    def __init__(self):
        self.race = Race()

    def say(self, row):
        """The answer to a row; NoRow, then NoText, then as the race refuses."""
        words = words_of(row)
        kinds = KINDS[words[0]]
        things = [thing_of(kind, word) for kind, word in zip(kinds, words[1:])]
        return ANSWERS[words[0]](self.race, things)
