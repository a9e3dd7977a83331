"""Chips: what stands on the wires of a chip web."""

from minusless.checks import is_count
from minusless.errors import BadChip, BadText
from minusless.numbers import ONE, is_number, is_plain_integer, read_number, written


class Chip:
    """The base of the chips: a place and an amount."""

    KIND = "chip"

    def __init__(self, at, amount):
        if not is_count(at):
            raise BadChip(0)
        if not is_number(amount):
            raise BadChip(1)
        self.at = at
        self.amount = amount

    def span(self):
        """Return the greatest wire that the chip touches."""
        return self.at + 1

    def words(self):
        """Return the string of the chip."""
        return f"{self.KIND} {self.at} {written(self.amount)}"

    def __eq__(self, other):
        if not isinstance(other, Chip):
            return False
        return self.KIND == other.KIND and self.at == other.at and self.amount == other.amount


class Down(Chip):
    """A chip that also leads from wire at to wire at + 1."""

    KIND = "down"

    def moves(self, wire):
        """Return the ways on from the wire as pairs (wire behind the chip, weight)."""
        if wire == self.at:
            return ((wire, ONE), (wire + 1, self.amount))
        return ((wire, ONE),)

    def turned_chip(self):
        """Return the chip with the turned table."""
        return Up(self.at, self.amount)


class Up(Chip):
    """A chip that also leads from wire at + 1 to wire at."""

    KIND = "up"

    def moves(self, wire):
        """Return the ways on from the wire as pairs (wire behind the chip, weight)."""
        if wire == self.at + 1:
            return ((wire, ONE), (self.at, self.amount))
        return ((wire, ONE),)

    def turned_chip(self):
        """Return the chip with the turned table."""
        return Down(self.at, self.amount)


class By(Chip):
    """A chip that gives everything on wire at its weight."""

    KIND = "by"

    def span(self):
        """Return the greatest wire that the chip touches."""
        return self.at

    def moves(self, wire):
        """Return the ways on from the wire as pairs (wire behind the chip, weight)."""
        if wire == self.at:
            return ((wire, self.amount),)
        return ((wire, ONE),)

    def turned_chip(self):
        """Return the chip with the turned table, an equal one."""
        return By(self.at, self.amount)


def chip_of(kind, at, amount):
    """Return the chip with this kind."""
    if kind == "down":
        return Down(at, amount)
    if kind == "up":
        return Up(at, amount)
    return By(at, amount)


def read_chip(words):
    """Return the chip that the string tells."""
    if not isinstance(words, str):
        raise BadText(-1)
    parts = words.split(" ")
    if len(parts) != 3 or parts[0] not in ("down", "up", "by") or not is_plain_integer(parts[1]):
        raise BadText(-1)
    return chip_of(parts[0], int(parts[1]), read_number(parts[2]))
