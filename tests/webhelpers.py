"""Chip webs for the tests, and their ways and companies worked out from the words of the document."""

import random
from fractions import Fraction
from itertools import product

from helpers import all_lots_of, frac, num
from minusless.chips import By, Down, Up
from minusless.chipwebs import ChipWeb

AMOUNTS = tuple(num(value) for value in (Fraction(-2), Fraction(-1, 2), Fraction(0), Fraction(1), Fraction(3, 2)))
FROM_NOUGHT = tuple(number for number in AMOUNTS if number[0] >= 0)


def random_web(rng, most_wires=4, most_chips=7, amounts=AMOUNTS):
    wires = rng.randint(1, most_wires)
    chips = []
    for _ in range(rng.randint(0, most_chips)):
        if wires > 1 and rng.random() < 0.75:
            chips.append(rng.choice((Down, Up))(rng.randrange(wires - 1), rng.choice(amounts)))
        else:
            chips.append(By(rng.randrange(wires), rng.choice(amounts)))
    return ChipWeb(wires, chips)


def webs(count, seed, **named):
    rng = random.Random(seed)
    return [random_web(rng, **named) for _ in range(count)]


def chip_weight(chip, wire, stop):
    """The weight of the one move from wire to stop at the chip, None if there is none."""
    if chip.KIND == "by":
        if wire != stop:
            return None
        return frac(chip.amount) if wire == chip.at else Fraction(1)
    if wire == stop:
        return Fraction(1)
    start, end = (chip.at, chip.at + 1) if chip.KIND == "down" else (chip.at + 1, chip.at)
    return frac(chip.amount) if (wire, stop) == (start, end) else None


def all_ways(web, start, stop):
    """All ways, by trying every row of wires at which a chip can lead on."""
    found = [((start,), Fraction(1))]
    for chip in web.chips:
        longer = []
        for wires, weight in found:
            for wire in range(web.wires):
                share = chip_weight(chip, wires[-1], wire)
                if share is not None:
                    longer.append((wires + (wire,), weight * share))
        found = longer
    return sorted((wires, num(weight)) for wires, weight in found if wires[-1] == stop)


def all_companies(web, rows, columns):
    """All companies, by trying every choice of ways from the k-th of rows to the k-th of columns."""
    found = []
    for choice in product(*[all_ways(web, start, stop) for start, stop in zip(rows, columns)]):
        places = [tuple(way[0][place] for way in choice) for place in range(web.length + 1)]
        if all(len(set(place)) == len(place) for place in places):
            weight = Fraction(1)
            for _, share in choice:
                weight *= frac(share)
            found.append((tuple(places), num(weight)))
    return sorted(found)


def end_pairs(web, least=0):
    return [(rows, columns) for many in range(least, web.wires + 1)
            for rows in all_lots_of(web.wires, many) for columns in all_lots_of(web.wires, many)]
