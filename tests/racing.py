"""Logs for the tests, and what is so at a time by them, reckoned apart from the program."""

import math
import random
from fractions import Fraction

from asking import fraction, line, number
from exact import exact_meetings, exact_order, exact_place, times_about

TOP = 999999999


def join(time, place, slope):
    return ("join", number(time), number(place), number(slope))


def leave(time, runner):
    return ("leave", number(time), runner)


def turn(time, runner, slope):
    return ("turn", number(time), runner, number(slope))


def exact_lines(log, time=None):
    """The lines of those who run, by their numbers, when the deeds not later than time are done."""
    joined = 0
    running = {}
    for deed in log:
        then = fraction(deed[1])
        if time is not None and then > time:
            break
        if deed[0] == "join":
            running[joined] = (then, fraction(deed[2]), fraction(deed[3]))
            joined += 1
        elif deed[0] == "leave":
            del running[deed[2]]
        else:
            since, place, slope = running[deed[2]]
            running[deed[2]] = (then, place + slope * (then - since), fraction(deed[3]))
    return {runner: line(place - slope * since, slope)
            for runner, (since, place, slope) in running.items()}


def exact_order_of(running, time):
    """The order at a time, by a dict of lines."""
    runners = sorted(running)
    return [runners[at] for at in exact_order([running[runner] for runner in runners], time)]


def exact_order_then(log, time):
    return exact_order_of(exact_lines(log, time), time)


def race_times(log):
    """Times at all deeds, at all meetings of those who run at once, between, ahead and behind."""
    marks = [fraction(deed[1]) for deed in log]
    for many in range(1, len(log) + 1):
        marks += exact_meetings(list(exact_lines(log[:many]).values()))
    return times_about(marks)


def drawn_value(draw, size):
    if size == "small":
        return Fraction(draw.randint(-3, 3))
    if size == "fractions":
        return Fraction(draw.randint(-30, 30), draw.randint(1, 12))
    return Fraction(draw.randint(-TOP, TOP), draw.randint(1, 12))


def drawn_deed(draw, size, time, log):
    """A deed that may be the next one; at some times one that is level with another runner."""
    running = exact_lines(log)
    wish = draw.choice(("join", "join", "leave", "turn", "turn", "turn"))
    wish = "join" if len(running) < 4 and draw.random() < 0.7 else wish
    if not running or (wish == "join" and len(running) < 8):
        place = drawn_value(draw, size)
        if running and draw.random() < 0.3:
            told = draw.choice(sorted(running.values()))
            level = fraction(told[0]) + fraction(told[1]) * time
            place = level if level.denominator <= 12 and abs(level.numerator) <= TOP else place
        return join(time, place, drawn_value(draw, size))
    runner = draw.choice(sorted(running))
    if wish == "leave":
        return leave(time, runner)
    slope = abs(drawn_value(draw, size))
    # Mostly towards the start of the road, so that there is a lot of passing.
    towards = -1 if exact_place(running[runner], time) > 0 else 1
    return turn(time, runner, slope * (towards if draw.random() < 0.8 else -towards))


def drawn_log(seed, many, size):
    """A log as drawn, often with deeds of one time, and deeds at meetings."""
    draw = random.Random(f"{seed} {many} {size}")
    time = drawn_value(draw, size)
    log = []
    for count in range(many):
        if draw.random() < 0.6:
            steps = {"small": (1, 2), "fractions": (1, 12), "great": (10 ** 6, 1)}[size]
            time += Fraction(draw.randint(1, 3 * steps[0]), draw.randint(1, steps[1]))
            meetings = [mark for mark in exact_meetings(list(exact_lines(log).values()))
                        if mark >= fraction(log[-1][1]) and mark.denominator <= 12
                        and abs(mark.numerator) <= TOP] if log else []
            if meetings and draw.random() < 0.4:
                time = meetings[0]
            # Bottoms of deeds go up to 12 alone.
            time = time if time.denominator <= 12 else Fraction(math.ceil(time * 12), 12)
        log.append(drawn_deed(draw, size, time, log))
    return log


def told_logs():
    eight = [join(0, at, -at) for at in range(8)]
    return {
        "none": [],
        "one": [join(3, 1, 2)],
        "two": [join(0, 0, 1), join(1, 5, -1)],
        "one time": [join(0, 0, 1), join(0, 0, 0), leave(0, 0), join(0, 0, 2), turn(0, 1, 5),
                     turn(0, 1, -1), leave(0, 1), leave(0, 2)],
        "joined and left at once": [join(1, 0, 0), leave(1, 0), join(2, 0, 0)],
        "at a meeting": [join(0, 0, 2), join(0, 4, 0), join(0, 6, -1), turn(2, 1, 3),
                         join(2, 4, 1), leave(2, 0), turn(4, 3, -9)],
        "eight": eight,
        "eight, others come": eight + [leave(2, 3), join(2, 0, 0), leave(5, 0), join(5, 1, 1)],
        "nobody left": [join(-2, 1, 1), leave(0, 0), join(3, 0, 0), turn(4, 1, 1), leave(6, 1)],
        "alike": [join(0, 0, 1), join(1, 1, 1), join(2, 2, 1), turn(3, 0, 0), turn(5, 1, 0),
                  turn(6, 0, 2)],
        "greatest": [join(Fraction(-TOP, 12), Fraction(TOP, 11), Fraction(-TOP, 7)),
                     join(Fraction(-TOP, 12), -TOP, TOP), turn(0, 0, TOP), turn(TOP, 0, -TOP),
                     turn(TOP, 1, Fraction(1, 12)), leave(TOP, 0)],
        "forty": [join(0, 0, 0)] + [turn(at, 0, at % 3 - 1) for at in range(1, 40)],
    }


def logs():
    told = told_logs()
    for seed in range(14):
        told[f"small {seed}"] = drawn_log(seed, 6 + seed * 7 % 22, "small")
    for seed in range(6):
        told[f"fractions {seed}"] = drawn_log(seed, 9 + seed * 3, "fractions")
    told["small and long"] = drawn_log(99, 40, "small")
    told["great"] = drawn_log(0, 12, "great")
    return told


def some_times(log, many):
    """Not all times of a race, but about so many, and those at the deeds."""
    times = race_times(log)
    deeds = {fraction(deed[1]) for deed in log}
    gap = max(1, len(times) // many)
    return [time for at, time in enumerate(times)
            if at % gap == 0 or time in deeds or at == len(times) - 1]
