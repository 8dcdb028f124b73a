"""Books for the tests: a checker that asks at each time, and right books made as drawn."""

from fractions import Fraction

from asking import fraction, number
from exact import ahead_shortly_after, exact_meetings
from racing import exact_lines


def is_ahead_through(running, pair, low, high, with_high):
    """Whether the first of two is ahead at each time from low on, up to high or earlier than it."""
    one, other = pair
    marks = [mark for mark in exact_meetings([running[one], running[other]]) if low < mark < high]
    marks = [low] + marks + ([high] if with_high else [])
    return all(ahead_shortly_after(running, one, other, mark) for mark in marks)


def is_right_order(running, listed, low, high, with_high):
    return all(is_ahead_through(running, pair, low, high, with_high)
               for pair in zip(listed, listed[1:]))


def apply_row(log, done, listed, row):
    """The list and the number of deeds done behind a row, or None where its place is wrong."""
    listed = list(listed)
    if row[0] == "pass":
        time, at = fraction(row[1]), row[2]
        if at < 0 or at + 1 >= len(listed):
            return None
        if not ahead_shortly_after(exact_lines(log[:done]), listed[at + 1], listed[at], time):
            return None
        listed[at], listed[at + 1] = listed[at + 1], listed[at]
        return listed, done
    at = row[1]
    deed = log[done]
    if deed[0] == "join":
        joined = sum(1 for other in log[:done] if other[0] == "join")
        if not 0 <= at <= len(listed):
            return None
        return listed[:at] + [joined] + listed[at:], done + 1
    if deed[2] not in listed or listed.index(deed[2]) != at:
        return None
    return [one for one in listed if deed[0] == "turn" or one != deed[2]], done + 1


def exact_fault(log, end, book):
    """What a book is told, by the rules word for word, with fractions."""
    end = fraction(end)
    listed, done, since = [], 0, None
    for number_of_row, row in enumerate(book):
        if row[0] == "deed" and done == len(log):
            return number_of_row
        time = fraction(log[done][1] if row[0] == "deed" else row[1])
        if time > end or (since is not None and time < since):
            return number_of_row
        if since is not None and time > since:
            if not is_right_order(exact_lines(log[:done]), listed, since, time, False):
                return number_of_row
        behind = apply_row(log, done, listed, row)
        if behind is None:
            return number_of_row
        listed, done = behind
        since = time
    if done < len(log):
        return len(book)
    if since is not None and not is_right_order(exact_lines(log), listed, since, end, True):
        return len(book)
    return None


def wrong_neighbours(running, listed, time):
    """The places at which the one behind is ahead from a time on."""
    return [at for at in range(len(listed) - 1)
            if ahead_shortly_after(running, listed[at + 1], listed[at], time)]


def next_time(log, done, listed, now):
    """The next time at which a deed is due or two neighbours change, or None."""
    running = exact_lines(log[:done])
    times = [fraction(log[done][1])] if done < len(log) else []
    for one, other in zip(listed, listed[1:]):
        times += [mark for mark in exact_meetings([running[one], running[other]]) if mark > now]
    return min(times) if times else None


def drawn_book(draw, log, end):
    """A right book: joins anywhere, passes of one time in any turn, between deeds and behind."""
    end = fraction(end)
    book, listed, done = [], [], 0
    now = fraction(log[0][1]) if log else None
    while now is not None and now <= end:
        rows = [("pass", number(now), at)
                for at in wrong_neighbours(exact_lines(log[:done]), listed, now)]
        if done < len(log) and fraction(log[done][1]) == now:
            places = [draw.randint(0, len(listed))]
            if log[done][0] != "join":
                places = [listed.index(log[done][2])]
            rows.append(("deed", places[0]))
        if rows:
            row = draw.choice(rows)
            book.append(row)
            listed, done = apply_row(log, done, listed, row)
        else:
            now = next_time(log, done, listed, now)
    return book


def end_times(log):
    """Ends at the last deed, somewhat behind it, and behind all."""
    last = fraction(log[-1][1]) if log else Fraction(0)
    meetings = exact_meetings(list(exact_lines(log).values()))
    later = [mark for mark in meetings if mark > last]
    ends = [last, last + Fraction(1, 3)]
    if later:
        ends += [later[0], later[-1] + 1]
    return [number(end) for end in ends]
