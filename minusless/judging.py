"""Papers judged, and bad papers made lean."""

from minusless.checks import is_series
from minusless.errors import BadWant
from minusless.lots import lot_without
from minusless.minors import is_bad
from minusless.papers import BadPaper, GoodPaper


def judged(paper):
    """Return "good" or "bad" as the paper shows it, "nothing" if it does not hold."""
    if not paper.holds():
        return "nothing"
    return "good" if isinstance(paper, GoodPaper) else "bad"


def judge_all(papers):
    """Return the verdict of the first of the papers that holds, "nothing" if none does."""
    if not is_series(papers) or not all([paper.table == papers[0].table for paper in papers]):
        raise BadWant("papers")
    for paper in papers:
        verdict = judged(paper)
        if verdict != "nothing":
            return verdict
    return "nothing"


def fits(table, paper):
    """Tell whether the paper is about an equal table and holds."""
    return paper.table == table and paper.holds()


def leaner(paper):
    """Return the first paper without one row and one column that holds, None if there is none."""
    for row in paper.rows:
        for column in paper.columns:
            rows = lot_without(paper.rows, row)
            columns = lot_without(paper.columns, column)
            # The empty minor is 1, so a paper is never left without rows.
            if is_bad(paper.table, rows, columns):
                return BadPaper(paper.table, rows, columns)
    return None


def lean(paper):
    """Return a BadPaper inside the paper that no longer holds without any one row and column."""
    if not isinstance(paper, BadPaper) or not paper.holds():
        raise BadWant("paper")
    found = paper
    lesser = leaner(found)
    while lesser is not None:
        found = lesser
        lesser = leaner(found)
    return found
