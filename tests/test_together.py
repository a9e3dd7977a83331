"""Points of the document that speak of several modules, held against one another on tables with many noughts."""

import random
import unittest

from helpers import Case, frac, lot_pairs_of, num, plain_good, plain_minor, random_table, sizes
from minusless.asking import Asker, asked_through, tree_signs
from minusless.blanks import PartTable, known_core, known_minor
from minusless.borders import is_below, star
from minusless.boxcompanies import core_minor
from minusless.boxways import count_full, entry_of
from minusless.breaking import SignPaper, breaking_row, breaks, reaching_row
from minusless.codes import (code_length, code_of_order, column_code, greatest_code, least_code, order_of, row_code,
                             stair_of_codes)
from minusless.counting import count_stairs
from minusless.crossroads import first_unlike
from minusless.desks import Desk
from minusless.fillings import bound_stair, least_filling, numbers_in, rank_low
from minusless.finding import found_core, least_paper, paper_for
from minusless.greedy import company_in
from minusless.judging import judge_all, judged
from minusless.ladders import corner_sizes, ladder, ladder_size
from minusless.listing import desk_lines, summary
from minusless.loose import no_filling
from minusless.mainrule import core_fault, is_good, stair_of
from minusless.making import made
from minusless.meanings import is_all_above_plainly, is_good_plainly, least_bad, meaning, nought_minors
from minusless.minors import determinant, minor, rank_of
from minusless.narrowing import dropped, narrowed
from minusless.noughts import is_nought, nought_entries, noughts_of
from minusless.numbering import next_stair, number_of_stair, stair_at, stairs_of
from minusless.papers import BadPaper, GoodPaper
from minusless.passages import down_from, up
from minusless.polynomials import low_noughts, poly_changes, root_poly
from minusless.powers import all_power, back_with_signs, neighbours_full, power
from minusless.raising import corner_low, endless, entry_stretch, first_emptied, top_stretch
from minusless.reading import corner_ranks, rank_by_core, read_noughts
from minusless.results import power_stair, product_noughts, product_of, result_stair
from minusless.roadminors import by_roads, cell_faults, in_cell, road_minor
from minusless.roads import road_lots, roads
from minusless.roots import nonzero_roots, own_size
from minusless.runs import Run, boxes_between, peeled
from minusless.signs import SignRule, changes, taken
from minusless.stairs import Stair, pattern_of
from minusless.steps import ColumnStep, RowStep
from minusless.strict import is_all_above, most_over, rows_of_signs, strict_row
from minusless.tables import Table
from minusless.takingback import take_most, takeable
from minusless.threeparts import is_solid, three_parts
from minusless.tops import may_bottom, may_left, may_right, may_top, top_numbers
from minusless.trials import Trial, best_raise, tried
from minusless.unmaking import unmade
from minusless.words import amounts_of, code_of_word, least_run, least_steps, shortest_word, word_table
from stairhelpers import good_on, random_stair, tree_order_of

NOUGHT, ONE = (0, 1), (1, 1)
RNG = random.Random(181)
GOOD = [good_on(RNG, random_stair(RNG, high, wide, full)) for high, wide in sizes(4)
        for full in (0.2, 0.4, 0.6, 0.9, 1)]
SQUARE = ([table for table in GOOD if table.high == table.wide]
          + [good_on(RNG, random_stair(RNG, size, size, full)) for size in (2, 3, 4) for full in (0.4, 0.6, 0.8)
             for _ in range(6)])
SOLID = [table for table in SQUARE if determinant(table) != NOUGHT]
SOLID += [good_on(RNG, stair_of_codes(*[[RNG.randint(0, place) for place in range(size)] for _ in range(2)]))
          for size in (1, 2, 3, 4, 4, 4, 4)]
ANY = GOOD[::2] + [random_table(RNG, high, wide, low=low, noughts=0.5) for high, wide in sizes(4)
                     for low in (0, -1, -1)]


def boxes_of(table):
    return [(row, column) for row in range(table.high) for column in range(table.wide)]


class Verdicts(Case):
    def test_all_verdicts_are_one(self):
        seen = {True: 0, False: 0}
        for table in ANY:
            good = plain_good(table)
            seen[good] += 1
            desk = Desk(table, marked=(0, 0))
            row = breaking_row(table)
            paper = paper_for(table)
            self.assertEqual([is_good(table), is_good(table, plainly=True), is_good_plainly(table),
                              core_fault(unmade(table)) is None, least_bad(table) is None, least_paper(table) is None,
                              row is None, no_filling(PartTable(table.rows)) is None, asked_through(table).end == "good",
                              desk.verdict == "good", desk.cell() is not None, isinstance(paper, GoodPaper),
                              judged(paper) == "good", desk.what_if("turn") == "good",
                              tried(desk, ["half_turn"]) == ("good",), "good" in summary(table).split(", "),
                              "verdict good" in desk_lines(desk), numbers_in(PartTable(table.rows), table) == ()],
                             [good] * 18)
            if not good:
                self.assertEqual(no_filling(PartTable(table.rows)), (paper.rows, paper.columns))
                sign_paper = SignPaper(table, row)
                self.assertEqual([judged(sign_paper), judged(least_paper(table)), judge_all([sign_paper, paper])],
                                 ["bad"] * 3)
                self.assertIs(breaks(table, row), True)
                self.assertEqual(strict_row(table), row)
            elif table.wide < 4:
                self.assertTrue(all(SignRule(table).verdicts(list(rows_of_signs(table.wide)))))
        self.assertGreater(min(seen.values()), 15)


class Order(Case):
    def test_the_order_of_the_tree(self):
        for table in GOOD:
            boxes = tree_order_of(table.high, table.wide)
            stair = stair_of(table)
            asker, asked = Asker(table.high, table.wide), []
            while asker:
                asked.append(asker.box())
                self.assertEqual(asker.question(), road_lots(stair, *asker.box()))
                asker(minor(table, *asker.question()))
            self.assertEqual(asked, boxes)
            self.assertEqual([box for box, _ in roads(stair)], boxes)
            self.assertEqual(tree_signs(stair), tuple(stair.rows[row][column] for row, column in boxes))
            self.assertEqual(asker.stair(), stair)
            self.assertEqual(found_core(table), unmade(table).rows)
            self.assertEqual(by_roads(table, stair), unmade(table))
            other = random_stair(RNG, table.high, table.wide)
            self.assertEqual(cell_faults(table, other), tuple(box for box in boxes if not passes(table, other, box)))
            if other != stair:
                row, column = first_unlike(stair, other)
                self.assertEqual((row, column), next(box for box in boxes if (box in stair) != (box in other)))
                # The stair that has the first unlike box empty is the lesser one.
                self.assertIs(number_of_stair(stair) < number_of_stair(other), not stair.has(row, column))

    def test_numbers_of_stairs(self):
        for high, wide in sizes(3):
            for place, stair in enumerate(stairs_of(high, wide)):
                self.assertEqual((number_of_stair(stair), stair_at(high, wide, place)), (place, stair))
                desk = Desk(good_on(RNG, stair))
                self.assertEqual(desk.cell(), place)
                self.assertIn(f"cell {place} of {count_stairs(high, wide)}", desk_lines(desk))
                following = next_stair(stair)
                self.assertEqual(following is None, place == count_stairs(high, wide) - 1)
                self.assertTrue(following is None or number_of_stair(following) == place + 1)


def passes(table, stair, box):
    top = road_minor(table, stair, *box)[0]
    return top > 0 if box in stair else top == 0


class Noughts(Case):
    def test_all_above(self):
        for table in GOOD + [table.raised(0, 0, corner_low(table)) for table in GOOD]:
            stair = stair_of(table)
            above = stair == Stair.all_full(table.high, table.wide)
            full = Stair.all_full(table.high, table.wide)
            self.assertEqual([is_all_above(table), is_all_above_plainly(table), strict_row(table) is None,
                              noughts_of(stair) == (), nought_minors(table) == (), in_cell(table, full),
                              all(road_minor(table, full, *box)[0] > 0 for box in boxes_of(table))], [above] * 7)

    def test_noughts(self):
        for table in GOOD:
            stair, core = stair_of(table), unmade(table)
            part = PartTable(table.rows)
            noughts = []
            for rows, columns, value in meaning(table):
                nought = value == NOUGHT
                self.assertEqual([is_nought(stair, rows, columns), company_in(stair, rows, columns) is None],
                                 [nought, nought])
                self.assertEqual(core_minor(core, rows, columns), value)
                self.assertEqual(known_minor(part, rows, columns), value)
                noughts += [(rows, columns)] if nought else []
            self.assertEqual(noughts_of(stair), tuple(noughts))
            self.assertEqual(nought_minors(table), tuple(noughts))
            self.assertEqual(nought_entries(stair), tuple(box for box in boxes_of(table)
                                                          if table.entry(*box) == NOUGHT))
            self.assertTrue(all(entry_of(core, *box) == table.entry(*box) for box in boxes_of(table)))

    def test_reading(self):
        for table in GOOD:
            stair = stair_of(table)
            desk = Desk(table)
            self.assertEqual([read_noughts(table), Stair.of_core(desk.core), Stair(desk.pattern),
                              bound_stair(PartTable(table.rows))], [stair] * 4)
            self.assertIs(in_cell(table, stair), True)
            self.assertEqual(desk.core, unmade(table))
            self.assertEqual(pattern_of(desk.core), desk.pattern)
            self.assertEqual(known_core(PartTable(table.rows)), desk.core.rows)


class Ranks(Case):
    def test_rank(self):
        for table in GOOD:
            stair = stair_of(table)
            rank = max([len(rows) for rows, _, value in meaning(table) if value != NOUGHT], default=0)
            left, _ = peeled(table)
            row = reaching_row(table)
            self.assertEqual([rank_of(table), rank_by_core(table), ladder_size(stair), len(ladder(stair)),
                              corner_ranks(table)[0][0], Desk(table).ranks(), rank_low(PartTable(table.rows)),
                              changes(taken(table, row)) + 1, rank_of(left)], [rank] * 9)
            self.assertLessEqual(most_over(table), rank - 1)
            self.assertEqual(corner_ranks(table), corner_sizes(stair))
            self.assertIn(f"rank {rank}", desk_lines(Desk(table)))
            self.assertIn(f"rank {rank}", summary(table).split(", "))
            self.assertIs(SignRule(table)(row), True)
            self.assertIs(SignPaper(table, row).holds(), False)

    def test_peeled(self):
        for table in GOOD:
            left, deeds = peeled(table)
            rank = rank_of(table)
            size = max(rank, 1)
            self.assertEqual((left.high, left.wide), (size, size))
            self.assertTrue(all((left.entry(row, column)[0] > 0) == (row == column and rank > 0)
                                for row, column in boxes_of(left)))
            steps = [deed for deed in deeds if deed[0] in ("down", "right")]
            self.assertEqual(len(steps), count_full(unmade(table)) - rank)
            # The same number in whatever order.
            now, many = table, 0
            while True:
                choices = [(kind, at) for kind, at in takeable(now) if kind in ("down", "right")]
                nought_row = [at for at in range(now.high) if now.high > 1 and now.has_nought_row(at)]
                nought_column = [at for at in range(now.wide) if now.wide > 1 and now.turned().has_nought_row(at)]
                if nought_row and (not choices or RNG.random() < 0.5):
                    now = now.without_row(RNG.choice(nought_row))
                elif nought_column and (not choices or RNG.random() < 0.5):
                    now = now.without_column(RNG.choice(nought_column))
                elif choices:
                    now, many = take_most(now, *RNG.choice(choices)), many + 1
                else:
                    break
            self.assertEqual(many, len(steps))
            self.assertEqual((now.high, now.wide), (size, size))


class Solid(Case):
    def test_codes(self):
        for table in SOLID:
            self.assertIs(is_solid(table), True)
            rows_code, columns_code = row_code(table), column_code(table)
            stair = stair_of_codes(rows_code, columns_code)
            self.assertEqual(stair, stair_of(table))
            self.assertEqual(code_of_order(order_of(rows_code)), rows_code)
            self.assertEqual(column_code(table.turned()), rows_code)
            many = table.high + code_length(rows_code) + code_length(columns_code)
            self.assertEqual([stair.many, count_full(unmade(table)), Desk(table).paper().size()], [many] * 3)
            self.assertEqual(code_of_word(shortest_word(rows_code), table.high), rows_code)
            lower, middle, upper = three_parts(table)
            self.assertEqual(product_of([lower, middle, upper]), table)
            word = shortest_word(rows_code)
            self.assertEqual(word_table(word, amounts_of(table, word), table.high), lower)

    def test_least_steps(self):
        for table in SOLID:
            diagonal, run = least_run(table)
            many = least_steps(table)
            self.assertEqual([len(run), boxes_between(diagonal, table), count_full(unmade(table)) - table.high,
                              len([deed for deed in peeled(table)[1] if deed[0] in ("down", "right")])], [many] * 4)
            self.assertEqual(run.done(diagonal), table)
            self.assertEqual(run.growth(diagonal), tuple(range(table.high, table.high + many + 1)))
            desk = Desk(diagonal)
            for step in run:
                self.assertEqual(desk.carry_out("step " + step.words()), ("good", "good", 1))
            self.assertEqual(desk.table, table)
            # Backwards, each step is the most that can be taken back there.
            now = table
            for step in run.steps[::-1]:
                self.assertEqual(take_most(now, step.kind_word(), step.at), step.back(now))
                now = step.back(now)
            self.assertEqual(now, diagonal)

    def test_powers(self):
        for table in SOLID:
            if not neighbours_full(table):
                continue
            least = all_power(table)
            rows_code = found = row_code(table)
            for times in range(1, least + 2):
                behind = power(table, times)
                self.assertEqual([is_all_above(behind), power_stair(stair_of(table), times) == full_of(table),
                                  row_code(behind) == column_code(behind) == greatest_code(table.high)],
                                 [times >= least] * 3)
                self.assertEqual(row_code(behind), found)
                self.assertIs(is_below(rows_code, found), True)
                found = star(rows_code, found)

    def test_turned_back(self):
        for table in SOLID:
            found = back_with_signs(table)
            self.assertTrue(is_solid(found))
            self.assertEqual(least_steps(found), least_steps(table))
            self.assertIs(is_below(least_code(table.high), row_code(found)), True)


def full_of(table):
    return Stair.all_full(table.high, table.wide)


class Corners(Case):
    def test_corners(self):
        for table in GOOD:
            low = corner_low(table)
            desk = Desk(table, marked=(0, 0))
            self.assertEqual([entry_stretch(table, 0, 0), top_stretch(table, 0), best_raise(desk, 0, 0),
                              (num(-frac(unmade(table).entry(0, 0))), None)], [(low, None)] * 4)
            self.assertEqual([endless(table, 0, 0), first_emptied(table, 0) is None], [True, True])
            last = desk_lines(desk)[-1]
            self.assertTrue(last.startswith("marked 0 0 from ") and last.endswith(" to no end"))
            least = table.raised(0, 0, low)
            self.assertTrue(is_good(least))
            if (table.high, table.wide) != (1, 1):
                part = PartTable.of_table(table, (1,) + (0,) * (table.high - 1))
                if part.shape()[-1] < table.wide:
                    self.assertEqual(least_filling(part), least)
            corner = (table.high - 1, table.wide - 1)
            half = table.half_turned()
            self.assertEqual(entry_stretch(table, *corner), (corner_low(half), None))

    def test_stretches_on_the_desk(self):
        for table in GOOD[::2]:
            desk = Desk(table)
            for row, column in boxes_of(table):
                low, high = best_raise(desk, row, column)
                self.assertIs(high is None, endless(table, row, column))
                for end, beyond in ((low, -1), (high, 1)):
                    if end is not None:
                        words = f"raise_entry {row} {column} "
                        more = frac(end) + num_step(beyond)
                        self.assertEqual(desk.what_if(words + str(frac(end))), "good")
                        self.assertEqual(desk.what_if(words + str(more)), "not good")


def num_step(sign):
    return sign * frac((1, 10 ** 6))


class Sides(Case):
    def test_sides_on_the_desk(self):
        for table in GOOD[::3]:
            desk = Desk(table)
            for _ in range(4):
                row = [num(RNG.choice((0, 0, 1, 2))) for _ in range(table.wide)]
                column = [num(RNG.choice((0, 0, 1, 2))) for _ in range(table.high)]
                row_words = " ".join(str(frac(number)) for number in row)
                column_words = " ".join(str(frac(number)) for number in column)
                self.assertEqual(may_top(table, row), desk.what_if("put_row 0 " + row_words) == "good")
                self.assertEqual(may_bottom(table, row), desk.what_if(f"put_row {table.high} {row_words}") == "good")
                self.assertEqual(may_left(table, column), desk.what_if("put_column 0 " + column_words) == "good")
                self.assertEqual(may_right(table, column),
                                 desk.what_if(f"put_column {table.wide} {column_words}") == "good")
                self.assertEqual(top_numbers(table, row) is None, not may_top(table, row))
                with Trial(desk) as same:
                    same.put_row(0, row)
                    self.assertEqual(same.core.rows[0], up(table, row))
                    self.assertEqual(same.core.rows[1:], unmade(table).rows)
                self.assertEqual(down_from(table, up(table, row)), tuple(row))
                self.assertEqual((desk.table, desk.deeds), (table, ()))


class Results(Case):
    def test_stairs_of_results(self):
        for table in GOOD:
            stair = stair_of(table)
            desk = Desk(table)
            for words, deed, at in (("turn", "turned", 0), ("half_turn", "half", 0), ("copy_row 0", "copied", 0)):
                if table.high < 12:
                    desk.carry_out(words)
                    self.assertEqual(Stair(desk.pattern), result_stair(stair, deed, at))
                    desk.undo()
            if table.high > 1:
                desk.leave_row(table.high - 1)
                self.assertEqual(Stair(desk.pattern), result_stair(stair, "without row", table.high - 1))
                desk.undo()
            other = good_on(RNG, random_stair(RNG, table.wide, 3, 0.5))
            desk.take_with(other)
            self.assertEqual(Stair(desk.pattern), product_noughts(stair, stair_of(other)))
            self.assertEqual(desk.table, product_of([table, other]))

    def test_changes_do_not_rise(self):
        for table in GOOD[::2]:
            other = good_on(RNG, random_stair(RNG, table.wide, 3, 0.6))
            for row in list(rows_of_signs(3)):
                self.assertTrue(changes(row) >= changes(taken(other, row)) >= changes(taken(table * other, row)))


class Fillings(Case):
    def test_least_fillings(self):
        for table in GOOD:
            shapes = [(1,) * (table.high - 1) + (0,)] + ([(2,) + (1,) * (table.high - 1)] if table.wide > 2 else [])
            for shape in shapes:
                part = PartTable.of_table(table, shape)
                least = least_filling(part)
                self.assertTrue(is_good(least) and part.agrees(least))
                self.assertIs(bound_stair(part).inside(stair_of(table)), True)
                self.assertLessEqual(rank_low(part), rank_of(table))
                self.assertTrue(set(noughts_of(stair_of(table))) <= set(noughts_of(bound_stair(part))))
                for rows, columns in lot_pairs_of(table.high, table.wide):
                    self.assertLessEqual(frac(plain_minor(least, rows, columns)),
                                         frac(plain_minor(table, rows, columns)))
                self.assertEqual(made(Table([[NOUGHT if number is None else number for number in row]
                                             for row in known_core(part)])), least)


class Roots(Case):
    def test_roots_above_nought(self):
        for table in SQUARE:
            stair = stair_of(table)
            poly = root_poly(table)
            left, deeds = narrowed(table)
            self.assertEqual([nonzero_roots(table), poly_changes(poly), table.high - low_noughts(poly),
                              nonzero_roots(left), nonzero_roots(table.turned()), nonzero_roots(table.half_turned()),
                              nonzero_roots(power(table, 3)), own_size(power_stair(stair, 3))], [own_size(stair)] * 8)
            self.assertEqual(left.high, table.high - dropped(deeds))
            self.assertEqual(root_poly(left) + (NOUGHT,) * dropped(deeds), poly)
            self.assertEqual(own_size(stair) == table.high, determinant(table) != NOUGHT)


class Steps(Case):
    def test_steps_and_runs_on_the_desk(self):
        for table in GOOD[::2]:
            steps = [RowStep(at, ONE, up=bool(at % 2)) for at in range(table.high - 1)]
            steps += [ColumnStep(at, (1, 2), left=bool(at % 2)) for at in range(table.wide - 1)]
            run, desk = Run(steps), Desk(table)
            growth = [count_full(desk.core)]
            for step in steps:
                before, after, more = desk.carry_out("step " + step.words())
                self.assertEqual((before, after), ("good", "good"))
                self.assertIn(more, (0, 1))
                growth.append(growth[-1] + more)
            self.assertEqual(desk.table, run.done(table))
            self.assertEqual(run.growth(table), tuple(growth))
            self.assertEqual(desk.ranks(), rank_of(table))
            self.assertLessEqual(boxes_between(table, desk.table), len(run))
            desk.go_back(len(steps))
            self.assertEqual((desk.table, desk.deeds), (table, ()))

    def test_papers_of_corners(self):
        for table in GOOD:
            for row, column in boxes_of(table):
                self.assertEqual(paper_for(table.corner(row, column)).core, unmade(table).corner(row, column))
            self.assertFalse(BadPaper(table, (0,), (0,)).holds())


if __name__ == "__main__":
    unittest.main()
