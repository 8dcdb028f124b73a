"""The field: who runs, on which lines, as deeds are done one by one."""

from leadtimes.lines import line_through, place_at
from leadtimes.numbers import is_less

MOST_RUNNERS = 8


class Field:
    """Those who run, at first nobody."""

    def __init__(self):
        # The lines by the runners' numbers in the race; these rise, as numbers aren't used twice.
        self.running = {}
        self.joined = 0
        self.last = None

    def allows(self, deed):
        """Whether a deed may be the next one."""
        if self.last is not None and is_less(deed[1], self.last):
            return False
        if deed[0] == "join":
            return len(self.running) < MOST_RUNNERS
        return deed[2] in self.running

    def do(self, deed):
        """Does a deed that is allowed; tells the number of a runner that joins, else None."""
        self.last = deed[1]
        if deed[0] == "join":
            return self.add_runner(line_through(deed[1], deed[2], deed[3]))
        if deed[0] == "leave":
            self.running.pop(deed[2])
        else:
            place = place_at(self.running[deed[2]], deed[1])
            self.running[deed[2]] = line_through(deed[1], place, deed[3])
        return None

    def add_runner(self, line):
        """Puts a new runner on a line; tells its number."""
        runner = self.joined
        self.running[runner] = line
        self.joined += 1
        return runner

    def runners(self):
        """Those who run, rising."""
        return sorted(self.running)

    def lines_running(self):
        """The lines of those who run, in the order of their numbers."""
        return [self.running[runner] for runner in self.runners()]
