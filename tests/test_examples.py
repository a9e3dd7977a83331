"""The examples of the document, as they stand."""

import unittest

from helpers import Case
from minusless.errors import BadChip, BadNumber, NotGood

RAISED = {"BadNumber(1)": BadNumber(1), "BadChip(1)": BadChip(1), "NotGood(row=0, column=0)": NotGood(0, 0)}

EXAMPLES = r'''
>>> from minusless.minors import determinant
>>> from minusless.tables import Table
>>> table = Table.read("1 1/2\n1 1")
>>> [determinant(table), (~table).rows, (table * table).rows]
[(1, 2), (((1, 1), (1, 1)), ((1, 2), (1, 1))), (((3, 2), (1, 1)), ((2, 1), (3, 2)))]

>>> from minusless.meanings import least_bad, meaning
>>> from minusless.tables import Table
>>> table = Table.read("1 2\n3 4")
>>> [least_bad(table), meaning(table)[2:]]
[((0, 1), (0, 1)), (((1,), (0,), (3, 1)), ((1,), (1,), (4, 1)), ((0, 1), (0, 1), (-2, 1)))]

>>> from minusless.tables import Table
>>> Table([[(1, 1), (2, 4)]])
raises BadNumber(1)

>>> from minusless.chips import By, Down, Up
>>> from minusless.chipwebs import ChipWeb
>>> from minusless.companies import company_total, lots_behind
>>> web = ChipWeb(2, [Down(0, (2, 1)), Up(0, (3, 1)), By(1, (1, 2))])
>>> [web.ways_table().words(), list(web.ways(0, 0)), company_total(web, (0, 1), (0, 1)), lots_behind(web, (0,), 2)]
['7 1\n3 1/2', [((0, 0, 0, 0), (1, 1)), ((0, 1, 0, 0), (6, 1))], (1, 2), ((0,), (1,))]

>>> from minusless.chips import read_chip
>>> read_chip("up 2 3/4").turned_chip().words()
'down 2 3/4'

>>> from minusless.chips import Down
>>> from minusless.chipwebs import ChipWeb
>>> ChipWeb(2, [Down(0, (1, 1)), Down(1, (1, 1))])
raises BadChip(1)

>>> from minusless.tables import Table
>>> from minusless.unmaking import unmade
>>> unmade(Table.read('1 2\n1 3')).words()
'1/3 2\n1 3'

>>> from minusless.tables import Table
>>> from minusless.boxways import ways_of
>>> core = Table.read('1/3 2\n1 3')
>>> list(ways_of(core, 0, 0))
[((0, 0),), ((0, 1), (1, 1), (1, 0))]

>>> from minusless.tables import Table
>>> from minusless.boxways import boxes_of, weight_of
>>> core = Table.read('1/3 2\n1 3')
>>> [weight_of(core, [(0, 1), (1, 1), (1, 0)]), boxes_of(core, [(0, 0)])]
[(2, 3), ((0, 1), (0, 0), (1, 0))]

>>> from minusless.mainrule import numbers_of, table_on
>>> from minusless.stairs import read_stair
>>> table = table_on(read_stair('.#\n##'), [(2, 1), (1, 1), (3, 1)])
>>> [table.words(), numbers_of(table)]
['2/3 2\n1 3', ((2, 1), (1, 1), (3, 1))]

>>> from minusless.tables import Table
>>> from minusless.onerow import row_verdict
>>> [row_verdict(Table.read('1\n-1')), row_verdict(Table.read('0 1\n1 0')), row_verdict(Table.read('0 1\n1 1'))]
['below', 'column', 'above']

>>> from minusless.tables import Table
>>> from minusless.boxcompanies import companies_of_core, core_minor
>>> core = Table.read('1/3 2\n1 3')
>>> [list(companies_of_core(core, [0, 1], [0, 1])), core_minor(core, [0, 1], [0, 1])]
[[(((0, 0),), ((1, 1),))], (1, 1)]

>>> from minusless.roads import road, next_box
>>> pattern = [[0, 1, 1], [1, 0, 1], [1, 1, 1]]
>>> (road(pattern, 0, 0), road(pattern, 0, 1), next_box(pattern, 1, 2))
(((0, 0), (1, 2)), ((0, 1), (2, 2)), None)

>>> from minusless.tables import Table
>>> from minusless.roadminors import by_roads
>>> by_roads(Table.read("1 1\n1 0"), [[1, 1], [1, 1]])
raises NotGood(row=0, column=0)
'''


class Examples(Case):
    def test_examples(self):
        examples = EXAMPLES.strip().split("\n\n")
        self.assertEqual(len(examples), 14)
        for example in examples:
            with self.subTest(example):
                self.check(example.split("\n"))

    def check(self, lines):
        names = {}
        for line in lines[:-2]:
            exec(line.removeprefix(">>> "), names)
        last, wanted = lines[-2].removeprefix(">>> "), lines[-1]
        if wanted.startswith("raises "):
            self.refuses(RAISED[wanted.removeprefix("raises ")], eval, last, names)
        else:
            self.assertEqual(repr(eval(last, names)), wanted)


if __name__ == "__main__":
    unittest.main()
