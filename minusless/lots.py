"""Lots: rows of rising integers, each one a choice of rows, columns or wires."""

from minusless.checks import check_count, is_count, is_series
from minusless.errors import BadLot, BadWant


def rises_at(lot, place):
    """Tell whether an integer from 0 on stands there, greater than the one before it."""
    return is_count(lot[place]) and (place == 0 or lot[place] > lot[place - 1])


def check_rising(lot):
    """Return the row of rising integers from 0 on as a tuple."""
    if not is_series(lot):
        raise BadLot(-1)
    for place in range(len(lot)):
        if not rises_at(lot, place):
            raise BadLot(place)
    return tuple(lot)


def check_lot(lot, size):
    """Return the lot of integers from 0 to size - 1 as a tuple."""
    if not is_series(lot):
        raise BadLot(-1)
    for place in range(len(lot)):
        if not rises_at(lot, place) or lot[place] >= size:
            raise BadLot(place)
    return tuple(lot)


def lots(size, many):
    """Yield the lots of many of the integers 0 .. size-1, in order."""
    check_count(size, "size")
    check_count(many, "many")
    if many > size:
        return
    lot = tuple(range(many))
    while lot is not None:
        yield lot
        lot = lot_behind(lot, size)


def lot_behind(lot, size):
    """Return the lot of the same length that comes next in order, None behind the last one."""
    many = len(lot)
    for place in reversed(range(many)):
        if lot[place] < size - many + place:
            low = lot[place] + 1
            return lot[:place] + tuple(range(low, low + many - place))
    return None


def all_lots(size):
    """Yield the lots of sizes 0, 1, .., size."""
    check_count(size, "size")
    for many in range(size + 1):
        yield from lots(size, many)


def check_thing(thing):
    """Refuse what cannot stand in a lot."""
    if not is_count(thing):
        raise BadWant("thing")


def lot_without(lot, thing):
    """Return the lot without the thing."""
    found = check_rising(lot)
    check_thing(thing)
    return tuple([kept for kept in found if kept != thing])


def lot_with(lot, thing):
    """Return the lot with the thing in its place."""
    found = check_rising(lot)
    check_thing(thing)
    before = [kept for kept in found if kept < thing]
    behind = [kept for kept in found if kept > thing]
    return tuple(before + [thing] + behind)
