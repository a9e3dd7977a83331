"""Papers: short certificates that a table is good, or that it is not."""

from minusless.boxways import count_full
from minusless.checks import check_alike
from minusless.errors import BadLot
from minusless.mainrule import core_fault
from minusless.making import made
from minusless.minors import check_lots, is_bad, minor


def about_table(table):
    """Return the string that each paper about the table begins with."""
    return f"about {table.high} x {table.wide}"


class Paper:
    """The base of the papers; it never holds."""

    KIND = "paper"

    def __init__(self, table):
        self.table = table

    def holds(self):
        """Tell whether the paper shows what it claims."""
        return False

    def about(self):
        """Return a string that tells the size of the table."""
        return about_table(self.table)

    def size(self):
        """Return how large the paper is."""
        return 0

    def __eq__(self, other):
        return isinstance(other, Paper) and self.KIND == other.KIND and self.table == other.table


class GoodPaper(Paper):
    """The core of a table, which shows that it is good."""

    KIND = "good"

    def __init__(self, table, core):
        Paper.__init__(self, table)
        check_alike(table.rows, core.rows)
        self.core = core

    def holds(self):
        """Tell whether the core has no number below 0, lies like stairs and makes the table."""
        return core_fault(self.core) is None and made(self.core) == self.table

    def about(self):
        """Return a string that tells the size of the table and the claim."""
        return f"{about_table(self.table)}: good"

    def size(self):
        """Return the number of full boxes of the core."""
        return count_full(self.core)

    def __eq__(self, other):
        return isinstance(other, GoodPaper) and self.table == other.table and self.core == other.core


class BadPaper(Paper):
    """The rows and the columns of a minor below 0, which shows that a table is not good."""

    KIND = "bad"

    def __init__(self, table, rows, columns):
        Paper.__init__(self, table)
        self.rows, self.columns = check_lots(rows, columns, table.high, table.wide)
        if len(self.rows) == 0:
            raise BadLot(-1)

    def value(self):
        """Return the minor."""
        return minor(self.table, self.rows, self.columns)

    def holds(self):
        """Tell whether the minor is below 0."""
        return is_bad(self.table, self.rows, self.columns)

    def about(self):
        """Return a string that tells the size of the table and the claim."""
        return f"{about_table(self.table)}: not good"

    def size(self):
        """Return the size of the lots."""
        return len(self.rows)

    def __eq__(self, other):
        if not isinstance(other, BadPaper):
            return False
        return self.table == other.table and self.rows == other.rows and self.columns == other.columns
