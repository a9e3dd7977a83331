"""Chip webs cut in two, and the longest company."""

from minusless.checks import is_from
from minusless.chipwebs import ChipWeb
from minusless.companies import check_ends, lots_reached, totals_from
from minusless.errors import BadChip
from minusless.lots import lots
from minusless.numbers import NOUGHT, plus, times


def cut(web, place):
    """Return the webs of the first place chips and of the rest."""
    if not is_from(place, 0, web.length):
        raise BadChip(place)
    return (ChipWeb(web.wires, web.chips[:place]), ChipWeb(web.wires, web.chips[place:]))


def middle_sum(web, place, rows, columns):
    """Return the total of the web, as a sum over the lots where it is cut."""
    front, back = cut(web, place)
    start, stop = check_ends(web, rows, columns)
    totals = totals_from(front, start)
    # Backwards the companies have the same weights, so one pass finds all that end on the columns.
    totals_back = totals_from(back.turned_web(), stop)
    total = NOUGHT
    for lot, number in totals.items():
        total = plus(total, times(number, totals_back.get(lot, NOUGHT)))
    return total


def longest_company(web):
    """Return the greatest size of lots with a company whose weight is not 0."""
    wires = web.wires
    for many in range(wires, 0, -1):
        if len(lots_reached(web, list(lots(wires, many)), web.length)) > 0:
            return many
    return 0
