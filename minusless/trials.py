"""Trials: deeds on a desk that leave it as it was."""

from minusless.checks import is_series
from minusless.errors import BadDeed, Ended, NoStep
from minusless.raising import entry_stretch


class Trial:
    """Keeps what a desk holds, and puts it back."""

    def __init__(self, desk):
        self.desk = desk
        self.begun = False
        self.closed = False
        self.keep()

    def keep(self):
        """Keep all that the desk holds."""
        self.kept_table = self.desk.table
        self.kept_core = self.desk.core
        self.kept_pattern = self.desk.pattern
        self.kept_judgement = self.desk.judgement
        self.kept_deeds = self.desk.deeds
        self.kept_past = self.desk.past
        self.kept_spot = self.desk.spot

    # Only plain assignments, because the end of a with block runs it, too.
    def put_back(self):
        desk = self.desk
        desk.table = self.kept_table
        desk.core = self.kept_core
        desk.pattern = self.kept_pattern
        desk.judgement = self.kept_judgement
        desk.deeds = self.kept_deeds
        desk.past = self.kept_past
        desk.spot = self.kept_spot
        self.closed = True

    @property
    def ended(self):
        """Tell whether the trial has ended."""
        return self.closed

    def begin(self):
        """Keep the state of the desk and return the desk."""
        if self.begun:
            raise Ended()
        self.begun = True
        self.keep()
        return self.desk

    def finish(self):
        """Put the desk back to that state, and end the trial."""
        if not self.begun:
            raise NoStep()
        if self.closed:
            raise Ended()
        self.put_back()

    def __enter__(self):
        return self.begin()

    def __exit__(self, kind, value, trace):
        self.put_back()


def tried(desk, texts):
    """Return the verdicts behind each deed of the strings, done one behind the other."""
    if not is_series(texts):
        raise BadDeed("")
    found = ()
    with Trial(desk) as same:
        for words in texts:
            same.carry_out(words)
            found = found + (same.verdict,)
    return found


def best_raise(desk, row, column):
    """Return the stretch of the box on the desk."""
    return entry_stretch(desk.table, row, column)
