"""Chip webs: wires and the chips on them, one behind the other."""

from minusless.checks import check_count, check_want, is_from, is_series
from minusless.chips import By, Down, Up
from minusless.errors import BadBox, BadChip, OtherSize, TooMany
from minusless.numbers import NOUGHT, ONE, plus, times
from minusless.tables import LIMIT, Table

MOST_CHIPS = 60
MOST_LISTED = 20


def fits(chip, wires):
    """Tell whether this is a chip that fits on so many wires."""
    if not isinstance(chip, Down) and not isinstance(chip, Up) and not isinstance(chip, By):
        return False
    return chip.span() < wires


def check_chips(chips, wires):
    """Return the chips of a web as a tuple."""
    if not is_series(chips):
        raise BadChip(-1)
    for place, chip in enumerate(chips):
        if not fits(chip, wires):
            raise BadChip(place)
    if len(chips) > MOST_CHIPS:
        raise TooMany(MOST_CHIPS)
    return tuple(chips)


def half_turned_chip(chip, wires):
    """Return the chip on the wires counted from the other end."""
    if isinstance(chip, Down):
        return Up(wires - 2 - chip.at, chip.amount)
    if isinstance(chip, Up):
        return Down(wires - 2 - chip.at, chip.amount)
    return By(wires - 1 - chip.at, chip.amount)


def behind_chip(chip, row):
    """Return the row of the weights on the wires behind the chip, for those ahead of it."""
    found = [NOUGHT] * len(row)
    for wire, number in enumerate(row):
        for stop, weight in chip.moves(wire):
            found[stop] = plus(found[stop], times(number, weight))
    return found


def counts_behind(chip, counts):
    """Return how many ways stand on each wire behind the chip, for those ahead of it."""
    found = [0] * len(counts)
    for wire, many in enumerate(counts):
        for stop, _ in chip.moves(wire):
            found[stop] = found[stop] + many
    return found


def wires_to(web, stop):
    """Return for each place of the web the wires from which a way leads on to the wire stop."""
    found = [(stop,)]
    for chip in web.chips[::-1]:
        leading = [wire for wire in range(web.wires) if leads(chip, wire, found[0])]
        found = [tuple(leading)] + found
    return found


def leads(chip, wire, stops):
    """Tell whether the chip leads from the wire to one of the stops."""
    return any([stop in stops for stop, _ in chip.moves(wire)])


def ways_on(web, leading, wires, weight):
    """Yield the ways of the web that begin with these wires and go on along the leading ones."""
    place = len(wires) - 1
    if place == len(web.chips):
        yield (wires, weight)
        return
    for wire, factor in sorted(web.chips[place].moves(wires[-1])):
        if wire in leading[place + 1]:
            longer = wires + (wire,)
            product_weight = times(weight, factor)
            yield from ways_on(web, leading, longer, product_weight)


class ChipWeb:
    """Wires and a row of chips; it never changes."""

    def __init__(self, wires, chips=()):
        check_want(wires, 1, LIMIT, "wires")
        self.chips = check_chips(chips, wires)
        self.wires = wires

    @classmethod
    def empty(cls, wires):
        """Return the web without chips."""
        return cls(wires)

    @property
    def length(self):
        """Tell the number of chips."""
        return len(self.chips)

    def ways_table(self):
        """Return the table of ways."""
        rows = [list(row) for row in Table.unit(self.wires).rows]
        for chip in self.chips:
            rows = [behind_chip(chip, row) for row in rows]
        return Table(rows)

    def chip_table(self, place):
        """Return the table of ways of the chip at this place alone."""
        self.check_place(place, len(self.chips) - 1)
        return ChipWeb(self.wires, self.chips[place:place + 1]).ways_table()

    def check_place(self, place, last):
        """Refuse what is no place up to the last one."""
        if not is_from(place, 0, last):
            raise BadChip(place)

    def turned_web(self):
        """Return the web with the turned table."""
        return ChipWeb(self.wires, [chip.turned_chip() for chip in self.chips[::-1]])

    def half_turned_web(self):
        """Return the web with the half-turned table."""
        return ChipWeb(self.wires, [half_turned_chip(chip, self.wires) for chip in self.chips])

    def with_chip(self, place, chip):
        """Return the web with one more chip, which gets this place."""
        self.check_place(place, len(self.chips))
        return ChipWeb(self.wires, self.chips[:place] + (chip,) + self.chips[place:])

    def without_chip(self, place):
        """Return the web without the chip at this place."""
        self.check_place(place, len(self.chips) - 1)
        return ChipWeb(self.wires, self.chips[:place] + self.chips[place + 1:])

    def check_wires(self, start, stop):
        """Refuse two values of which one is no wire."""
        if not is_from(start, 0, self.wires - 1) or not is_from(stop, 0, self.wires - 1):
            raise BadBox(start, stop)

    def ways(self, start, stop):
        """Yield the ways from one wire to another as (wires, weight), in rising order."""
        self.check_wires(start, stop)
        if len(self.chips) > MOST_LISTED:
            raise TooMany(MOST_LISTED)
        leading = wires_to(self, stop)
        if start in leading[0]:
            wires = (start,)
            yield from ways_on(self, leading, wires, ONE)

    def way_count(self, start, stop):
        """Return how many ways lead from one wire to another."""
        self.check_wires(start, stop)
        counts = [1 if wire == start else 0 for wire in range(self.wires)]
        for chip in self.chips:
            counts = counts_behind(chip, counts)
        return counts[stop]

    def __add__(self, other):
        if not isinstance(other, ChipWeb):
            return NotImplemented
        if self.wires != other.wires:
            raise OtherSize(self.wires, other.wires)
        return ChipWeb(self.wires, self.chips + other.chips)

    def __mul__(self, other):
        check_count(other, "times")
        # The length is looked at first: any number of times none is none, however great it is.
        if len(self.chips) * other > MOST_CHIPS:
            raise TooMany(MOST_CHIPS)
        return ChipWeb(self.wires, self.chips * min(other, MOST_CHIPS))

    def __eq__(self, other):
        return isinstance(other, ChipWeb) and self.wires == other.wires and self.chips == other.chips

    def __len__(self):
        return len(self.chips)

    def __iter__(self):
        return iter(self.chips)
