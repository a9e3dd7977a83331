"""Companies of a core: ways that do not touch."""

from minusless.boxways import boxes_of, count_full, ways_of
from minusless.errors import BadStair, TooMany
from minusless.making import made
from minusless.minors import check_lots, minor
from minusless.stairs import pattern_of, stair_fault

MOST_FULL_BOXES = 14


def check_company_ends(core, rows, columns):
    """Return two lots of one size for a core whose pattern is a stair."""
    ends = check_lots(rows, columns, core.high, core.wide)
    fault = meets_crossing(core)
    if fault is not None:
        raise BadStair(fault[0], fault[1])
    return ends


def ways_between(core, row, column):
    """Return the ways from the row to the column, each with its boxes."""
    return [(way, boxes_of(core, way)) for way in ways_of(core, row, column)]


def meets(boxes, taken):
    """Tell whether one of the boxes is taken."""
    return any([box in taken for box in boxes])


def companies_behind(choices, company, taken):
    """Yield the companies that begin with these ways, whose boxes are taken."""
    at = len(company)
    if at == len(choices):
        yield company
        return
    for way, boxes in choices[at]:
        if not meets(boxes, taken):
            longer = company + (way,)
            more = taken + boxes
            yield from companies_behind(choices, longer, more)


def companies_of_core(core, rows, columns):
    """Yield the companies of the core from rows to columns, each a tuple of ways, in rising order."""
    starts, stops = check_company_ends(core, rows, columns)
    if count_full(core) > MOST_FULL_BOXES:
        raise TooMany(MOST_FULL_BOXES)
    choices = [ways_between(core, row, column) for row, column in zip(starts, stops)]
    yield from companies_behind(choices, (), ())


def core_minor(core, rows, columns):
    """Return the sum of the weights of the companies, which is the minor of the table made of the core."""
    starts, stops = check_company_ends(core, rows, columns)
    return minor(made(core), starts, stops)


def meets_crossing(core):
    """Return the first empty box at which a way from above and one to the left cross, None if there is none.

    A way runs down through an empty box if a full box above it lets one turn down, and to the left if a full
    box left of it does; so these are the boxes that a stair does not have.
    """
    return stair_fault(pattern_of(core))
