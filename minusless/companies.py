"""Companies of a chip web: ways on different wires, told by their rows of lots."""

from minusless.checks import is_from
from minusless.chips import By, Down
from minusless.errors import BadChip, TooMany
from minusless.lots import check_lot, check_rising
from minusless.minors import check_lots
from minusless.numbers import NOUGHT, ONE, plus, times

MOST_CHIPS_LISTED = 20


def moved(lot, wire, stop):
    """Return the lot with a neighbouring wire in place of one."""
    return tuple([stop if thing == wire else thing for thing in lot])


def steps_from(chip, lot):
    """Return the pairs (lot behind the chip, weight), in rising order of the lots."""
    at = chip.at
    if isinstance(chip, By):
        return ((lot, chip.amount if at in lot else ONE),)
    if isinstance(chip, Down):
        if at in lot and at + 1 not in lot:
            return ((lot, ONE), (moved(lot, at, at + 1), chip.amount))
    elif at + 1 in lot and at not in lot:
        return ((moved(lot, at + 1, at), chip.amount), (lot, ONE))
    return ((lot, ONE),)


def step_lots(chip, lot):
    """Return the lots on which ways from this lot may stand behind the chip, each as (lot, weight)."""
    return steps_from(chip, check_rising(lot))


def check_ends(web, rows, columns):
    """Return the lots on which a company starts and ends as tuples."""
    return check_lots(rows, columns, web.wires, web.wires)


def lots_to(web, lot):
    """Return for each place of the web the lots from which ways lead on to this lot."""
    found = [{lot: True}]
    for chip in web.chips[::-1]:
        # The turned chip leads back to where the chip comes from.
        back = chip.turned_chip()
        found = [lots_after(back, found[0], False)] + found
    return found


def lots_after(chip, ahead, seen_only):
    """Return the lots behind the chip, for those ahead; with seen_only those of a weight other than 0."""
    found = {}
    for lot in ahead:
        for stop, weight in steps_from(chip, lot):
            if weight != NOUGHT or not seen_only:
                found[stop] = True
    return found


def totals_after(chip, ahead):
    """Return the sums of the weights on each lot behind the chip, for those ahead."""
    found = {}
    for lot, total in ahead.items():
        for stop, weight in steps_from(chip, lot):
            found[stop] = plus(found.get(stop, NOUGHT), times(total, weight))
    return found


def companies_on(web, leading, row, weight):
    """Yield the companies that begin with this row of lots and go on along the leading ones."""
    place = len(row) - 1
    if place == len(web.chips):
        yield (row, weight)
        return
    for lot, factor in steps_from(web.chips[place], row[-1]):
        if lot in leading[place + 1]:
            longer = row + (lot,)
            product_weight = times(weight, factor)
            yield from companies_on(web, leading, longer, product_weight)


def companies_of(web, rows, columns):
    """Yield the companies from rows to columns as (row of lots, weight), in rising order."""
    start, stop = check_ends(web, rows, columns)
    if len(web.chips) > MOST_CHIPS_LISTED:
        raise TooMany(MOST_CHIPS_LISTED)
    leading = lots_to(web, stop)
    if start in leading[0]:
        row = (start,)
        yield from companies_on(web, leading, row, ONE)


def totals_from(web, lot):
    """Return the sums of the weights of the companies from the lot to each lot that they end on."""
    totals = {lot: ONE}
    for chip in web.chips:
        totals = totals_after(chip, totals)
    return totals


def company_total(web, rows, columns):
    """Return the sum of the weights of the companies from rows to columns."""
    start, stop = check_ends(web, rows, columns)
    return totals_from(web, start).get(stop, NOUGHT)


def has_company(web, rows, columns):
    """Tell whether a company from rows to columns has a weight other than 0."""
    start, stop = check_ends(web, rows, columns)
    return stop in lots_behind(web, start, len(web.chips))


def lots_behind(web, rows, place):
    """Return the lots behind the first place chips that a weight other than 0 reaches from rows."""
    start = check_lot(rows, web.wires)
    if not is_from(place, 0, len(web.chips)):
        raise BadChip(place)
    return tuple(sorted(lots_reached(web, [start], place)))


def lots_reached(web, starts, place):
    """Return the lots behind the first place chips that a weight other than 0 reaches."""
    found = {start: True for start in starts}
    for chip in web.chips[:place]:
        found = lots_after(chip, found, True)
    return list(found)
