"""The examples of the document, as they stand."""

import unittest

from helpers import Case
from minusless.errors import BadChip, BadNumber, BadStair, NotGood

RAISED = {"BadNumber(1)": BadNumber(1), "BadChip(1)": BadChip(1), "NotGood(row=0, column=0)": NotGood(0, 0),
          "BadStair(row=1, column=1)": BadStair(1, 1)}

EXAMPLES = r'''
>>> from minusless.minors import determinant
>>> from minusless.tables import Table
>>> table = Table.read("1 1/2\n1 1")
>>> [determinant(table), (~table).rows, (table * table).rows]
[(1, 2), (((1, 1), (1, 1)), ((1, 2), (1, 1))), (((3, 2), (1, 1)), ((2, 1), (3, 2)))]

>>> from minusless.meanings import least_bad, meaning
>>> from minusless.tables import Table
>>> table = Table.read("1 2\n3 4")
>>> [least_bad(table), meaning(table)[2:]]
[((0, 1), (0, 1)), (((1,), (0,), (3, 1)), ((1,), (1,), (4, 1)), ((0, 1), (0, 1), (-2, 1)))]

>>> from minusless.tables import Table
>>> Table([[(1, 1), (2, 4)]])
raises BadNumber(1)

>>> from minusless.chips import By, Down, Up
>>> from minusless.chipwebs import ChipWeb
>>> from minusless.companies import company_total, lots_behind
>>> web = ChipWeb(2, [Down(0, (2, 1)), Up(0, (3, 1)), By(1, (1, 2))])
>>> [web.ways_table().words(), list(web.ways(0, 0)), company_total(web, (0, 1), (0, 1)), lots_behind(web, (0,), 2)]
['7 1\n3 1/2', [((0, 0, 0, 0), (1, 1)), ((0, 1, 0, 0), (6, 1))], (1, 2), ((0,), (1,))]

>>> from minusless.chips import read_chip
>>> read_chip("up 2 3/4").turned_chip().words()
'down 2 3/4'

>>> from minusless.chips import Down
>>> from minusless.chipwebs import ChipWeb
>>> ChipWeb(2, [Down(0, (1, 1)), Down(1, (1, 1))])
raises BadChip(1)

>>> from minusless.tables import Table
>>> from minusless.unmaking import unmade
>>> unmade(Table.read('1 2\n1 3')).words()
'1/3 2\n1 3'

>>> from minusless.tables import Table
>>> from minusless.boxways import ways_of
>>> core = Table.read('1/3 2\n1 3')
>>> list(ways_of(core, 0, 0))
[((0, 0),), ((0, 1), (1, 1), (1, 0))]

>>> from minusless.tables import Table
>>> from minusless.boxways import boxes_of, weight_of
>>> core = Table.read('1/3 2\n1 3')
>>> [weight_of(core, [(0, 1), (1, 1), (1, 0)]), boxes_of(core, [(0, 0)])]
[(2, 3), ((0, 1), (0, 0), (1, 0))]

>>> from minusless.mainrule import numbers_of, table_on
>>> from minusless.stairs import read_stair
>>> table = table_on(read_stair('.#\n##'), [(2, 1), (1, 1), (3, 1)])
>>> [table.words(), numbers_of(table)]
['2/3 2\n1 3', ((2, 1), (1, 1), (3, 1))]

>>> from minusless.tables import Table
>>> from minusless.onerow import row_verdict
>>> [row_verdict(Table.read('1\n-1')), row_verdict(Table.read('0 1\n1 0')), row_verdict(Table.read('0 1\n1 1'))]
['below', 'column', 'above']

>>> from minusless.tables import Table
>>> from minusless.boxcompanies import companies_of_core, core_minor
>>> core = Table.read('1/3 2\n1 3')
>>> [list(companies_of_core(core, [0, 1], [0, 1])), core_minor(core, [0, 1], [0, 1])]
[[(((0, 0),), ((1, 1),))], (1, 1)]

>>> from minusless.roads import road, next_box
>>> pattern = [[0, 1, 1], [1, 0, 1], [1, 1, 1]]
>>> (road(pattern, 0, 0), road(pattern, 0, 1), next_box(pattern, 1, 2))
(((0, 0), (1, 2)), ((0, 1), (2, 2)), None)

>>> from minusless.tables import Table
>>> from minusless.roadminors import by_roads
>>> by_roads(Table.read("1 1\n1 0"), [[1, 1], [1, 1]])
raises NotGood(row=0, column=0)

>>> from minusless.choosing import chosen
>>> chosen([[0, 1], [1, 1]], [[(0, 1), (2, 1)], [(3, 1), (5, 1)]]).words()
'6/5 2\n3 5'

>>> from minusless.tables import Table
>>> from minusless.asking import asked_through
>>> asker = asked_through(Table.read("1 1 0\n1 1 1\n0 1 1"))
>>> (asker.end, asker.asked, asker.found)
('column', 8, ((0, 1, 0), (1, 0, 1), (0, 1, 1)))
>>> (asker.paper_rows, asker.paper_columns)
((0, 1, 2), (0, 1, 2))

>>> from minusless.tables import Table
>>> from minusless.papers import BadPaper
>>> paper = BadPaper(Table.read("1 2 0\n3 4 0"), [0, 1], [0, 1])
>>> (paper.KIND, paper.about(), paper.value(), paper.holds())
('bad', 'about 2 x 3: not good', (-2, 1), True)

>>> from minusless.tables import Table
>>> from minusless.papers import BadPaper
>>> from minusless.judging import lean
>>> paper = lean(BadPaper(Table.read("-1 0\n0 1"), (0, 1), (0, 1)))
>>> (paper.rows, paper.columns)
((0,), (0,))

>>> from minusless.tables import Table
>>> from minusless.finding import paper_for, found_core, bad_value
>>> paper_for(Table.read("1 1\n1 2")).core.words()
'1/2 1\n1 2'

>>> from minusless.tables import Table
>>> from minusless.finding import paper_for, found_core, bad_value
>>> table = Table.read("7 2\n3 0")
>>> (found_core(table), bad_value(table))
(((None, (2, 1)), ((3, 1), (0, 1))), (-6, 1))

>>> from minusless.stairs import read_stair
>>> from minusless.greedy import company_in, furthest_way
>>> stair = read_stair('###\n###')
>>> [furthest_way(stair, 0, 0), company_in(stair, [0, 1], [0, 2])]
[((0, 2), (1, 2), (1, 0)), (((0, 1), (1, 1), (1, 0)), ((1, 2),))]

>>> from minusless.stairs import read_stair
>>> from minusless.ladders import corner_sizes, ladder_of
>>> sizes = corner_sizes(read_stair('.##\n###'))
>>> [sizes, ladder_of([((0, 1), (1, 1), (1, 0)), ((1, 2),)])]
[((2, 2, 1), (1, 1, 1)), ((0, 1), (1, 2))]

>>> from minusless.tables import Table
>>> from minusless.stairs import read_stair
>>> from minusless.noughts import noughts_of, why_nought
>>> [noughts_of(read_stair('##\n.#')), why_nought(Table.read('1 0\n0 1'), 0, 1)]
[(((1,), (0,)),), 'above']

>>> from minusless.tables import Table
>>> from minusless.reading import rank_by_core, read_noughts
>>> table = Table.read('1 1\n1 1')
>>> [read_noughts(table).words(), rank_by_core(table)]
['.#\n##', 1]

>>> from minusless.counting import count_stairs, covering, crowded
>>> [count_stairs(3, 3), covering(3, 3), crowded(2, 2)]
[230, 115, 5]

>>> from minusless.byboxes import even_odd, stairs_by_boxes, turnable_by_boxes
>>> [stairs_by_boxes(2, 2), even_odd(2, 2), turnable_by_boxes(2)]
[(1, 4, 5, 3, 1), (7, 7), (1, 2, 1)]

>>> from minusless.stairs import read_stair
>>> from minusless.numbering import next_stair, number_of_stair, stair_at
>>> stair = stair_at(2, 2, 5)
>>> [number_of_stair(read_stair('.#\n##')), stair.words(), next_stair(stair).words()]
[12, '#.\n#.', '..\n.#']

>>> from minusless.stairs import read_stair
>>> from minusless.filling import fillable_boxes, lacking_one
>>> [fillable_boxes(read_stair('..\n#.')), len(lacking_one(2, 3))]
[((0, 0), (1, 1)), 4]

>>> from minusless.tables import Table
>>> from minusless.unmaking import unmade
>>> from minusless.coresteps import core_step
>>> core_step(unmade(Table.read('1 1\n0 0')), 0, (2, 1)).words()
'0 1\n2 2'

>>> from minusless.tables import Table
>>> from minusless.unmaking import unmade
>>> from minusless.coresteps import climb, climb_boxes
>>> core = unmade(Table.read('2 1\n2 1\n1 1'))
>>> [core.words(), climb_boxes(core, 1), climb(core, 1, (1, 1)).words()]
['0 1\n1 1\n1 1', ((1, 1), (0, 0)), '1/2 1\n1 2\n1 1']

>>> from minusless.tables import Table
>>> from minusless.takingback import most_back, take_most
>>> table = Table.read('1 1\n1 2')
>>> [most_back(table, 'up', 0), take_most(table, 'up', 0).words()]
[(1, 2), '1/2 0\n1 2']

>>> from minusless.tables import Table
>>> from minusless.steps import ColumnStep, RowStep
>>> from minusless.runs import run_of
>>> run = run_of(RowStep(0, (1, 1)), ColumnStep(0, (2, 1)))
>>> [run.done(Table.unit(2)).words(), run.growth(Table.unit(2)), run.turned_run().steps[1].words()]
['1 2\n1 3', (2, 3, 4), 'down 0 2']

>>> from minusless.words import code_of_word
>>> from minusless.codes import order_of, reach
>>> [code_of_word([0, 1], 3), order_of((0, 1, 0)), reach((0, 1, 0), 2, 0)]
[(0, 1, 0), (1, 2, 0), 1]

>>> from minusless.words import amounts_of, word_table
>>> table = word_table((0, 1), [(2, 1), (3, 1)], 3)
>>> [table.words(), amounts_of(table, (0, 1))]
['1 0 0\n2 1 0\n6 3 1', ((2, 1), (3, 1))]

>>> from minusless.exchanges import exchanged
>>> exchanged((0, 1, 0), [(1, 1), (2, 1), (3, 1)], 0)
((1, 0, 1), ((3, 2), (4, 1), (1, 2)))

>>> from minusless.borders import codes_below, telling_noughts
>>> [codes_below((0, 1, 0)), telling_noughts((0, 1, 0), (0, 0, 2))]
[((0, 0, 2), (0, 1, 0), (0, 1, 1), (0, 1, 2)), ((2,), (0,))]

>>> from minusless.tables import Table
>>> from minusless.passages import up
>>> from minusless.tops import top_edges
>>> table = Table.read('1 1\n1 2')
>>> [up(table, [(3, 1), (1, 1)]), top_edges(table)]
[((2, 1), (1, 1)), ((0, ((1, 1), (0, 1))), (1, ((1, 1), (1, 1))))]

>>> from minusless.tables import Table
>>> from minusless.raising import entry_stretch, top_stretch, first_emptied
>>> table = Table.read('1 1 1\n1 1 1\n0 1 1')
>>> [entry_stretch(Table.read('1 1\n1 2'), 1, 0), top_stretch(table, 2), first_emptied(table, 2)]
[((-1, 1), (1, 1)), ((0, 1), (0, 1)), 0]

>>> from minusless.tables import Table
>>> from minusless.powers import all_power, back_with_signs
>>> [all_power(Table.read('1 1 0\n1 2 1\n0 1 2')), back_with_signs(Table.read('1 2\n2 5')).words()]
[2, '5 2\n2 1']

>>> from minusless.signs import changes, most_changes, filled_signs
>>> row = [(1, 1), (0, 1), (2, 1), (-1, 2)]
>>> [changes(row), most_changes(row), filled_signs(row, 1), filled_signs(row, -1)]
[1, 3, (1, -1, 1, -1), None]

>>> from minusless.tables import Table
>>> from minusless.signs import taken
>>> from minusless.breaking import breaking_row, SignPaper
>>> table = Table.read('1 2\n2 1')
>>> row = breaking_row(table)
>>> paper = SignPaper(table, row)
>>> [row, taken(table, row), paper.about(), paper.holds()]
[((-1, 1), (1, 1)), ((1, 1), (-1, 1)), 'about 2 x 2: signs', True]

>>> from minusless.tables import Table
>>> from minusless.breaking import reaching_row
>>> from minusless.strict import strict_row, most_over
>>> table = Table.read('1 1\n1 1')
>>> [strict_row(table), reaching_row(table), most_over(table)]
[((1, 1), (-1, 1)), ((1, 1), (0, 1)), 0]

>>> from minusless.blanks import PartTable, known_core
>>> from minusless.fillings import least_filling
>>> part = PartTable([[None, (1, 1)], [(1, 1), (1, 1)]])
>>> [known_core(part), least_filling(part).words()]
[((None, (1, 1)), ((1, 1), (1, 1))), '1 1\n1 1']

>>> from minusless.blanks import PartTable
>>> from minusless.loose import loose_value, no_filling
>>> part = PartTable([[None, (1, 1)], [(1, 1), (0, 1)]])
>>> [no_filling(part), loose_value(part, [0, 1], [0, 1])]
[((0, 1), (0, 1)), (-1, 1)]

>>> from minusless.blanks import PartTable
>>> from minusless.fillings import free_blanks, good_filling
>>> part = PartTable([[None, (1, 1)], [None, (0, 1)]])
>>> [free_blanks(part), good_filling(part, [(2, 1), (0, 1)]).words()]
[((0, 0),), '2 1\n0 0']
>>> good_filling(part, [(0, 1), (1, 1)])
raises BadStair(row=1, column=1)

>>> from minusless.polynomials import poly_words, root_poly
>>> from minusless.roots import by_turns, root_words
>>> from minusless.tables import Table
>>> table = Table.read("2 1\n1 1")
>>> [poly_words(root_poly(table)), by_turns(table, (1, 1)), root_words(table, 100)]
['x^2 - 3 x + 1', (0, 0, 1), ('261/100', '38/100')]

>>> from minusless.narrowing import narrowed
>>> from minusless.tables import Table
>>> narrow, deeds = narrowed(Table.read("1 1 0\n1 2 1\n1 2 2"))
>>> [narrow.words(), deeds]
['1 1 0\n1 3 1\n0 1 1', (('row', 2, (1, 1)),)]

>>> from minusless.desks import Desk
>>> from minusless.tables import Table
>>> desk = Desk(Table.read("1 1\n0 1"))
>>> [desk.step("down", 0, (1, 1)), desk.raise_entry(0, 1, (2, 1)), desk.undo(), desk.deeds]
[('good', 'good', 1), ('good', 'not good', 0), ('not good', 'good', 0), ('step down 0 1',)]

>>> from minusless.desks import Desk
>>> from minusless.listing import desk_lines
>>> from minusless.tables import Table
>>> desk_lines(Desk(Table.read("1 1\n1 2"), marked=(0, 0)))[-6:]
('verdict good', 'cell 13 of 14', 'rank 2', 'paper about 2 x 2: good, size 4', 'deeds 0', 'marked 0 0 from -1/2 to no end')
'''


class Examples(Case):
    def test_examples(self):
        examples = EXAMPLES.strip().split("\n\n")
        self.assertEqual(len(examples), 49)
        for example in examples:
            with self.subTest(example):
                self.check(example.split("\n"))

    def check(self, lines):
        names = {}
        for line, wanted in zip(lines, lines[1:] + [">>> "]):
            if not line.startswith(">>> "):
                continue
            asked = line.removeprefix(">>> ")
            if wanted.startswith(">>> "):
                exec(asked, names)
            elif wanted.startswith("raises "):
                self.refuses(RAISED[wanted.removeprefix("raises ")], eval, asked, names)
            else:
                self.assertEqual(repr(eval(asked, names)), wanted)


if __name__ == "__main__":
    unittest.main()
