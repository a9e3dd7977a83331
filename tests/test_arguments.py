"""What holds for all functions: the kinds of their arguments and results."""

import copy
import inspect
import unittest

from helpers import Case
from minusless import (asking, blanks, borders, boxcompanies, boxways, breaking, byboxes, chips, chipwebs, choosing,
                       clearing, codes, companies, coresteps, counting, crossroads, cutting, desks, exchanges, filling,
                       fillings, finding, greedy, judging, ladders, listing, loose, lots, mainrule, making, meanings,
                       minors, narrowing, noughts, numbering, numbers, onerow, papers, passages, polynomials, powers,
                       raising, reading, results, roadminors, roads, roots, runs, signs, stairs, steps, strict, tables,
                       takingback, threeparts, tops, trials, unmaking, words)
from minusless.asking import Asker
from minusless.blanks import PartTable
from minusless.breaking import SignPaper
from minusless.chips import By, Chip, Down, Up
from minusless.chipwebs import ChipWeb
from minusless.desks import Desk
from minusless.papers import BadPaper, GoodPaper, Paper
from minusless.runs import Run
from minusless.signs import SignRule
from minusless.stairs import Stair
from minusless.steps import ColumnStep, RowStep, Step
from minusless.tables import Table
from minusless.trials import Trial

ONE, HALF = (1, 1), (1, 2)
TABLE = Table.read("1 1/2\n1 1")
SQUARE = Table.read("1 1 1\n1 2 3\n1 3 6")
WEB = ChipWeb(2, [Down(0, (2, 1)), Up(0, (3, 1)), By(1, (1, 2))])
WAY = [[0, 1], [1, 1], [1, 0]]
PATTERN = [[0, 1, 1], [1, 0, 1], [1, 1, 1]]
PART = PartTable([[None, ONE], [ONE, ONE]])

# The interface: where each function stands and the names of its arguments.
FUNCTIONS = {
    numbers: {"number_of": "top under", "whole": "top", "check_number": "number", "check_row": "row",
              "plus": "one other", "less": "one other", "times": "one other", "over": "one other", "sign_of": "number",
              "is_above": "one other", "written": "number", "read_number": "words"},
    lots: {"check_lot": "lot size", "lots": "size many", "all_lots": "size", "lot_without": "lot thing",
           "lot_with": "lot thing"},
    tables: {"beside": "tables"},
    minors: {"determinant": "table", "plain_determinant": "table", "minor": "table rows columns",
             "is_bad": "table rows columns", "rank_of": "table"},
    meanings: {"meaning": "table", "is_good_plainly": "table", "is_all_above_plainly": "table", "least_bad": "table",
               "nought_minors": "table", "product_minor": "one other rows columns"},
    chips: {"read_chip": "words"},
    companies: {"step_lots": "chip lot", "companies_of": "web rows columns", "company_total": "web rows columns",
                "has_company": "web rows columns", "lots_behind": "web rows place"},
    cutting: {"cut": "web place", "middle_sum": "web place rows columns", "longest_company": "web"},
    unmaking: {"next_full": "row column", "unmade_row": "row by", "unmade": "table", "level": "table at",
               "core_row": "table at", "last_round": "table"},
    making: {"made_row": "row by", "made": "core", "put_under": "table row"},
    boxways: {"ways_of": "core row column", "weight_of": "core way", "boxes_of": "core way",
              "entry_of": "core row column", "turned_way": "way", "touch": "core one other"},
    clearing: {"cleared": "table", "clear_column": "table column", "clear_part": "table column number"},
    stairs: {"pattern_of": "table", "read_stair": "words"},
    mainrule: {"core_fault": "core", "is_good": "table plainly", "stair_of": "table", "table_on": "stair numbers",
               "numbers_of": "table", "same_cell": "one other"},
    onerow: {"row_verdict": "table", "clearing_room": "table column"},
    boxcompanies: {"companies_of_core": "core rows columns", "core_minor": "core rows columns",
                   "meets_crossing": "core"},
    roads: {"pattern_rows": "pattern", "road": "pattern row column", "next_box": "pattern row column",
            "road_lots": "pattern row column", "roads": "pattern", "road_ends": "pattern"},
    roadminors: {"road_minor": "table pattern row column", "road_minors": "table pattern", "by_roads": "table pattern",
                 "road_product": "core row column", "cell_faults": "table stair", "in_cell": "table stair"},
    choosing: {"chosen": "pattern numbers", "spoilt": "table pattern row column number",
               "entry_room": "table pattern row column"},
    asking: {"asked_through": "table", "tree_signs": "stair", "roads_to": "high wide signs"},
    crossroads: {"cross_road": "pattern row column", "cross_minors": "table pattern",
                 "by_cross_roads": "table pattern", "first_unlike": "one other", "telling_minor": "one other"},
    judging: {"judged": "paper", "judge_all": "papers", "fits": "table paper", "lean": "paper"},
    finding: {"paper_for": "table", "found_core": "table", "bad_value": "table", "least_paper": "table"},
    greedy: {"furthest_way": "stair row column sent", "company_in": "stair rows columns"},
    ladders: {"corner_sizes": "stair", "ladder_size": "stair", "ladder": "stair", "is_ladder": "stair boxes",
              "hooks": "stair boxes", "ladder_of": "ways"},
    noughts: {"is_nought": "stair rows columns", "noughts_of": "stair", "nought_entries": "stair",
              "why_nought": "table row column", "more_noughts": "one other"},
    reading: {"read_noughts": "table", "same_noughts": "one other", "rank_by_core": "table", "corner_ranks": "table"},
    counting: {"choose": "size many", "covering": "high wide", "count_stairs": "high wide", "crowded": "high wide"},
    byboxes: {"covering_by_boxes": "high wide", "stairs_by_boxes": "high wide", "even_odd": "high wide",
              "turnable": "size", "turnable_by_boxes": "size"},
    numbering: {"stairs_of": "high wide boxes", "number_of_stair": "stair", "stair_at": "high wide number",
                "next_stair": "stair", "count_above": "high wide taken"},
    filling: {"fillable_boxes": "stair", "emptiable_boxes": "stair", "lacking_one": "high wide"},
    steps: {"step_on": "table kind at amount back"},
    coresteps: {"core_row_at": "core at", "core_step": "core at amount", "core_column_step": "core at amount",
                "climb": "core at amount", "left_climb": "core at amount", "climb_boxes": "core at",
                "adds_box": "stair at", "step_pattern": "stair at"},
    takingback: {"may_take": "table kind at", "most_back": "table kind at", "take_most": "table kind at",
                 "takeable": "table"},
    runs: {"run_of": "steps", "peeled": "table", "boxes_between": "one other"},
    codes: {"check_code": "code", "row_code": "table", "column_code": "table", "code_length": "code",
            "order_of": "code", "code_of_order": "order", "turned_order": "code", "reach": "code row column",
            "stair_of_codes": "rows_code columns_code", "codes_listed": "size", "least_code": "size",
            "greatest_code": "size"},
    threeparts: {"three_parts": "table", "is_solid": "table", "joined_parts": "lower middle upper"},
    words: {"check_word": "word size", "after_letter": "code letter", "is_idle": "code letter",
            "code_of_word": "word size", "idle_places": "word size", "is_shortest": "word size",
            "shortest_word": "code", "word_table": "word amounts size", "amounts_of": "table word",
            "least_steps": "table", "least_run": "table"},
    exchanges: {"may_exchange": "word place", "exchanged": "word amounts place", "shortened": "word amounts size",
                "shortest_words": "code", "exchange_chain": "one other size"},
    borders: {"is_below": "lesser greater", "below_by_words": "lesser greater", "codes_below": "code",
              "nearing": "word amounts kept number size", "border_table": "word amounts kept size",
              "telling_corner": "lesser greater", "telling_noughts": "lesser greater", "star": "one other"},
    passages: {"passage": "core", "row_passage": "row", "up": "table row", "down_from": "table row"},
    tops: {"may_top": "table row", "may_bottom": "table row", "may_left": "table column", "may_right": "table column",
           "top_edges": "table", "top_numbers": "table row", "bottom_edges": "table"},
    raising: {"entry_stretch": "table row column", "top_stretch": "table column", "corner_low": "table",
              "ending_minor": "table row column lowest", "first_emptied": "table column",
              "endless": "table row column"},
    results: {"product_noughts": "one other", "result_stair": "stair deed at", "power_stair": "stair times",
              "product_of": "tables"},
    powers: {"all_power": "table", "power": "table times", "back_with_signs": "table", "neighbours_full": "table"},
    signs: {"changes": "row", "most_changes": "row", "begins": "row", "ends": "row", "filled_signs": "row begin",
            "taken": "table row", "taken_left": "table row"},
    breaking: {"solved": "table row", "breaks": "table row", "breaking_row": "table", "reaching_row": "table"},
    strict: {"is_all_above": "table", "strict_row": "table", "rows_of_signs": "size", "most_over": "table"},
    blanks: {"part_of_half": "rows", "known_core": "part", "known_minor": "part rows columns"},
    fillings: {"is_fillable": "part", "filled": "part numbers", "good_filling": "part numbers",
               "numbers_in": "part table", "least_filling": "part", "free_blanks": "part", "rank_low": "part",
               "bound_stair": "part"},
    loose: {"is_loose": "part rows columns", "loose_value": "part rows columns", "no_filling": "part",
            "holds_against": "part rows columns"},
    polynomials: {"check_poly": "poly", "value_at": "poly number", "poly_times": "one other", "shifted": "poly number",
                  "poly_changes": "poly", "low_noughts": "poly", "root_poly": "table", "trail": "table",
                  "poly_words": "poly"},
    roots: {"above_count": "table number", "at_count": "table number", "by_turns": "table number",
            "root_floor": "table place under", "nonzero_roots": "table", "own_size": "stair",
            "root_words": "table under"},
    narrowing: {"narrowed": "table", "replayed": "table deeds", "dropped": "deeds"},
    desks: {"read_deed": "words"},
    trials: {"tried": "desk texts", "best_raise": "desk row column"},
    listing: {"desk_lines": "desk", "summary": "table"},
}

# These are passed by name only.
NAMED_ONLY = {(raising, "ending_minor"): ["lowest"], (mainrule, "is_good"): ["plainly"],
              (numbering, "stairs_of"): ["boxes"], (steps, "step_on"): ["back"]}

METHODS = {
    Table: {"unit": "size", "nought": "high wide", "read": "words", "words": "", "entry": "row column", "turned": "",
            "half_turned": "", "part": "rows columns", "corner": "row column", "without_row": "at",
            "without_column": "at", "with_row": "at row", "with_column": "at column", "copied_row": "at",
            "joined_rows": "at", "times_row": "at number", "raised": "row column number", "has_nought_row": "at",
            "__mul__": "other", "__invert__": "", "__eq__": "other", "__len__": "", "__getitem__": "at",
            "__iter__": ""},
    Chip: {"span": "", "words": "", "__eq__": "other"},
    Down: {"moves": "wire", "turned_chip": ""},
    Up: {"moves": "wire", "turned_chip": ""},
    By: {"span": "", "moves": "wire", "turned_chip": ""},
    ChipWeb: {"empty": "wires", "ways_table": "", "chip_table": "place", "turned_web": "", "half_turned_web": "",
              "with_chip": "place chip", "without_chip": "place", "ways": "start stop", "way_count": "start stop",
              "__add__": "other", "__mul__": "other", "__eq__": "other", "__len__": "", "__iter__": ""},
    Stair: {"all_full": "high wide", "all_empty": "high wide", "of_core": "core", "is_stair": "rows",
            "has": "row column", "full_boxes": "", "empty_boxes": "", "first": "row", "top": "column", "barred": "",
            "inside": "other", "corner": "row column", "with_box": "row column", "without_box": "row column",
            "words": "", "__invert__": "", "__eq__": "other", "__len__": "", "__contains__": "box", "__iter__": ""},
    Asker: {"__call__": "number", "question": "", "box": "", "stair": "", "back": "", "__bool__": "", "__len__": ""},
    Paper: {"holds": "", "about": "", "size": "", "__eq__": "other"},
    GoodPaper: {"holds": "", "about": "", "size": ""},
    BadPaper: {"holds": "", "about": "", "size": "", "value": ""},
    Step: {"kind_word": "", "words": "", "done": "table", "back": "table", "__eq__": "other"},
    RowStep: {"kind_word": "", "turned_step": "", "half_turned_step": "size"},
    ColumnStep: {"kind_word": "", "turned_step": "", "half_turned_step": "size"},
    Run: {"done": "table", "cores": "table", "growth": "table", "turned_run": "", "__add__": "other",
          "__eq__": "other", "__len__": "", "__iter__": ""},
    SignRule: {"__call__": "row", "strict": "row", "verdicts": "rows", "turned_rule": ""},
    SignPaper: {"holds": "", "about": "", "size": ""},
    PartTable: {"of_table": "table shape", "is_blank": "row column", "blanks": "", "known_boxes": "", "shape": "",
                "turned_part": "", "agrees": "table", "with_known": "row column number", "__eq__": "other",
                "__iter__": ""},
    Desk: {"put_mark": "box", "step": "kind at amount", "take_back": "kind at amount",
           "raise_entry": "row column number", "put_row": "at row", "put_column": "at column", "leave_row": "at",
           "leave_column": "at", "copy_row": "at", "turn": "", "half_turn": "", "take_with": "table",
           "carry_out": "words", "what_if": "words", "go_back": "many", "undo": "", "paper": "", "cell": "",
           "ranks": ""},
    Trial: {"begin": "", "finish": "", "__enter__": "", "__exit__": "kind value trace"},
}


def calls():
    """Calls with a list wherever a list or a tuple may be passed, each as (callable, arguments)."""
    row, by, two = [ONE, HALF], [HALF, ONE], [0, 1]
    return [
        (numbers.check_row, row), (lots.check_lot, two, 3), (lots.lot_with, two, 5), (lots.lot_without, two, 1),
        (Table, [row, by]), (TABLE.part, [0], two), (TABLE.with_row, 1, row), (TABLE.with_column, 1, by),
        (minors.minor, TABLE, two, [0, 1]), (minors.is_bad, TABLE, two, [0, 1]),
        (meanings.product_minor, TABLE, TABLE, two, [0, 1]), (ChipWeb, 2, [Down(0, ONE)]),
        (companies.step_lots, Down(0, ONE), [0]), (companies.companies_of, WEB, [0], [1]),
        (companies.company_total, WEB, [0], [1]), (companies.has_company, WEB, [0], [1]),
        (companies.lots_behind, WEB, [0], 2), (cutting.middle_sum, WEB, 1, [0], [1]),
        (unmaking.next_full, row, 0), (unmaking.unmade_row, row, by), (making.made_row, row, by),
        (making.put_under, TABLE, row), (boxways.weight_of, TABLE, WAY), (boxways.boxes_of, TABLE, WAY),
        (boxways.turned_way, WAY), (boxways.touch, TABLE, WAY, [[0, 0]]), (Stair, [[0, 1], [1, 1]]),
        (Stair.is_stair, [[0, 1], [1, 1]]), (mainrule.table_on, Stair.all_full(1, 2), row),
        (boxcompanies.companies_of_core, TABLE, two, [0, 1]), (boxcompanies.core_minor, TABLE, two, [0, 1]),
        (roads.pattern_rows, PATTERN), (roads.road, PATTERN, 0, 0), (roads.next_box, PATTERN, 0, 0),
        (roads.road_lots, PATTERN, 0, 0), (roads.roads, PATTERN), (roads.road_ends, PATTERN),
        (roadminors.road_minor, SQUARE, PATTERN, 0, 0), (roadminors.road_minors, SQUARE, PATTERN),
        (roadminors.by_roads, SQUARE, [[1] * 3] * 3), (roadminors.cell_faults, SQUARE, [[1] * 3] * 3),
        (roadminors.in_cell, SQUARE, [[1] * 3] * 3), (choosing.chosen, [[0, 1], [1, 1]], [row, by]),
        (choosing.spoilt, SQUARE, PATTERN, 0, 0, ONE), (choosing.entry_room, SQUARE, PATTERN, 0, 0),
        (asked, [1, 0, 1]), (crossroads.cross_road, PATTERN, 0, 0), (crossroads.cross_minors, SQUARE, PATTERN),
        (crossroads.by_cross_roads, SQUARE, [[1] * 3] * 3), (crossroads.first_unlike, PATTERN, [[1] * 3] * 3),
        (BadPaper, TABLE, two, [0, 1]), (judging.judge_all, [Paper(TABLE)]),
        (greedy.furthest_way, Stair.all_full(2, 2), 0, 0, [[[1, 1]]]),
        (greedy.company_in, Stair.all_full(2, 2), two, [0, 1]),
        (ladders.is_ladder, Stair.all_full(2, 2), [[0, 0], [1, 1]]),
        (ladders.hooks, Stair.all_full(2, 2), [[0, 0], [1, 1]]), (ladders.ladder_of, [WAY, [[1, 2]]]),
        (noughts.is_nought, Stair.all_full(2, 2), two, [0, 1]), (numbering.count_above, 2, 3, two),
        (Run, [RowStep(0, ONE)]), (codes.check_code, [0, 1, 0]), (codes.code_length, [0, 1, 0]),
        (codes.order_of, [0, 1, 0]), (codes.code_of_order, [1, 2, 0]), (codes.turned_order, [0, 1, 0]),
        (codes.reach, [0, 1, 0], 2, 0), (codes.stair_of_codes, [0, 1, 0], [0, 0, 2]),
        (words.check_word, two, 3), (words.after_letter, [0, 1, 2], 0), (words.is_idle, [0, 1, 2], 0),
        (words.code_of_word, two, 3), (words.idle_places, [0, 0], 3), (words.is_shortest, two, 3),
        (words.shortest_word, [0, 0, 0]), (words.word_table, two, [ONE, HALF], 3), (words.amounts_of, SQUARE, [0, 1, 0]),
        (exchanges.may_exchange, [0, 1, 0], 0), (exchanges.exchanged, [0, 1, 0], [ONE, HALF, ONE], 0),
        (exchanges.shortened, [0, 0], row, 2), (exchanges.shortest_words, [0, 0, 0]),
        (exchanges.exchange_chain, [0, 1, 0], [1, 0, 1], 3), (borders.is_below, [0, 1, 0], [0, 0, 0]),
        (borders.below_by_words, [0, 1, 0], [0, 0, 0]), (borders.codes_below, [0, 1, 0]),
        (borders.nearing, two, row, [0], ONE, 3), (borders.border_table, two, row, [0], 3),
        (borders.telling_corner, [0, 1, 0], [0, 0, 2]), (borders.telling_noughts, [0, 1, 0], [0, 0, 2]),
        (borders.star, [0, 1, 0], [0, 0, 2]), (passages.row_passage, row), (passages.up, TABLE, row),
        (passages.down_from, TABLE, row), (tops.may_top, TABLE, row), (tops.may_bottom, TABLE, row),
        (tops.may_left, TABLE, row), (tops.may_right, TABLE, row), (tops.top_numbers, TABLE, row),
        (results.product_of, [TABLE, TABLE]), (signs.changes, row), (signs.most_changes, row), (signs.begins, row),
        (signs.ends, row), (signs.filled_signs, row, 1), (signs.taken, TABLE, row), (signs.taken_left, TABLE, row),
        (SignRule(TABLE), row), (SignRule(TABLE).strict, row), (SignRule(TABLE).verdicts, [row, by]),
        (breaking.solved, TABLE, row), (breaking.breaks, TABLE, row), (SignPaper, TABLE, row),
        (PartTable, [[None, ONE], [ONE, ONE]]), (PartTable.of_table, TABLE, [1, 0]), (blanks.part_of_half, [[ONE, None]]),
        (blanks.known_minor, PART, [1], [1]), (fillings.filled, PART, [ONE]), (fillings.good_filling, PART, [ONE]),
        (loose.is_loose, PART, two, [0, 1]), (loose.loose_value, PART, [1], [0]), (loose.holds_against, PART, [1], [0]),
        (polynomials.check_poly, row), (polynomials.value_at, row, ONE), (polynomials.poly_times, row, by),
        (polynomials.shifted, row, ONE), (polynomials.poly_changes, row), (polynomials.low_noughts, row),
        (polynomials.poly_words, row), (narrowing.replayed, TABLE, [["row", 1, ONE], ["column", 1, ONE]]),
        (narrowing.dropped, [["row", 1, ONE], ["drop", 1]]), (marked, [1, 0]), (row_put, [ONE, HALF]),
        (trials.tried, Desk(TABLE), ["turn", "half_turn"]),
    ]


def marked(box):
    """What a desk with this marked box holds."""
    desk = Desk(TABLE, marked=box)
    return (desk.marked, desk.core, desk.pattern, desk.deeds)


def row_put(row):
    """What a desk gives back and holds when a row and a column have been put in."""
    desk = Desk(TABLE)
    return (desk.put_row(0, row), desk.put_column(0, [ONE] * 3), desk.table, desk.deeds)


def asked(signs):
    """The answers and the pattern behind these signs, for an Asker is equal to itself alone."""
    asker = asking.roads_to(2, 2, signs)
    return (asker.answers, asker.found)


def frozen(thing):
    """The thing with tuples in the place of all lists."""
    return tuple(frozen(part) for part in thing) if isinstance(thing, list) else thing


def listed(found):
    return list(found) if inspect.isgenerator(found) else found


def holds_no_list(thing):
    if isinstance(thing, tuple):
        return all(holds_no_list(part) for part in thing)
    return not isinstance(thing, (list, dict, set))


class Arguments(Case):
    def test_nothing_that_is_passed_in_is_changed(self):
        for call, *arguments in calls():
            before = copy.deepcopy([part for part in arguments if isinstance(part, list)])
            listed(call(*arguments))
            self.assertEqual([part for part in arguments if isinstance(part, list)], before, call)

    def test_lists_and_tuples_alike(self):
        for call, *arguments in calls():
            found = listed(call(*arguments))
            self.assertEqual(found, listed(call(*[frozen(part) for part in arguments])), call)
            self.assertEqual(found, listed(call(*arguments)), call)

    def test_tuples_come_back(self):
        for call, *arguments in calls():
            found = listed(call(*arguments))
            for part in found if isinstance(found, list) else [found]:
                self.assertTrue(holds_no_list(part), call)

    def test_objects_hold_no_lists(self):
        for found in (Table([[ONE]]).rows, ChipWeb(2, [Down(0, ONE)]).chips, Stair([[1]]).rows,
                      meanings.meaning(TABLE), meanings.nought_minors(TABLE), WEB.chips, stairs.pattern_of(TABLE),
                      unmaking.last_round(TABLE), unmaking.core_row(TABLE, 0), mainrule.numbers_of(TABLE),
                      Stair.all_full(2, 2).full_boxes(), Stair.all_full(2, 2).barred(), TABLE[0], cutting.cut(WEB, 1),
                      asking.roads_to(2, 2, [1]).answers, asking.roads_to(2, 2, [1]).found,
                      asking.roads_to(2, 2, [1, -1]).paper_rows, asking.roads_to(2, 2, [1]).question(),
                      asking.tree_signs(Stair([[1]])), crossroads.telling_minor(Stair([[1]]), Stair([[0]])),
                      BadPaper(TABLE, [0], [0]).rows, BadPaper(TABLE, [0], [0]).columns, finding.found_core(TABLE),
                      ladders.corner_sizes(Stair([[1]])), ladders.ladder(Stair([[1]])),
                      noughts.noughts_of(Stair([[0]])), noughts.nought_entries(Stair([[0]])),
                      reading.corner_ranks(TABLE), byboxes.stairs_by_boxes(2, 2), byboxes.covering_by_boxes(2, 2),
                      byboxes.even_odd(2, 2), byboxes.turnable_by_boxes(2), filling.lacking_one(2, 2),
                      filling.fillable_boxes(Stair([[0]])), filling.emptiable_boxes(Stair([[1]])),
                      coresteps.core_row_at(TABLE, 0), coresteps.climb_boxes(TABLE, 0), takingback.takeable(TABLE),
                      Run([RowStep(0, ONE)]).steps, Run([RowStep(0, ONE)]).cores(TABLE), Run().growth(TABLE),
                      runs.peeled(TABLE)[1], codes.row_code(TABLE), codes.column_code(TABLE), codes.least_code(2),
                      codes.greatest_code(2), threeparts.three_parts(TABLE), words.shortest_word((0, 0, 0)),
                      words.least_run(SQUARE), words.amounts_of(SQUARE, (0, 1, 0)), tops.top_edges(TABLE),
                      tops.bottom_edges(TABLE), raising.entry_stretch(TABLE, 0, 1), raising.ending_minor(TABLE, 0, 1),
                      raising.top_stretch(TABLE, 1), breaking.reaching_row(TABLE), SignPaper(TABLE, [ONE, ONE]).row_told,
                      breaking.breaking_row(Table.read("1 2\n2 1")), borders.codes_below((0, 0, 0)),
                      PART.rows, PART.blanks(), PART.known_boxes(), PART.shape(), blanks.known_core(PART),
                      fillings.numbers_in(PART, TABLE.raised(0, 1, HALF)), fillings.free_blanks(PART),
                      loose.no_filling(PartTable([[(-1, 1)]])), polynomials.root_poly(TABLE), polynomials.trail(TABLE),
                      roots.by_turns(TABLE, ONE), roots.root_words(TABLE, 10), narrowing.narrowed(SQUARE),
                      strict.strict_row(Table.read("0 1")), listing.desk_lines(Desk(TABLE)), desks.read_deed("turn"),
                      desks.read_deed("put_row 0 1 2"), Desk(TABLE).pattern, Desk(TABLE).turn(), Desk(TABLE).deeds):
            self.assertIs(type(found), tuple)
            self.assertTrue(holds_no_list(found))


class Interface(Case):
    def test_functions_stand_where_they_are_listed(self):
        for module, told in FUNCTIONS.items():
            for name, parameters in told.items():
                function = getattr(module, name)
                self.assertEqual(function.__module__, module.__name__)
                self.assertEqual(list(inspect.signature(function).parameters), parameters.split(), name)

    def test_passed_by_name_only(self):
        for module, told in FUNCTIONS.items():
            for name in told:
                held = inspect.signature(getattr(module, name)).parameters.values()
                named = [part.name for part in held if part.kind is part.KEYWORD_ONLY]
                self.assertEqual(named, NAMED_ONLY.get((module, name), []), name)

    def test_methods_stand_in_their_class(self):
        for kind, told in METHODS.items():
            for name, parameters in told.items():
                self.assertIn(name, vars(kind))
                if name.startswith("__"):
                    continue
                names = list(inspect.signature(getattr(kind, name)).parameters)
                self.assertEqual([part for part in names if part != "self"], parameters.split(), name)

    def test_properties(self):
        for kind, name in ((Table, "square"), (ChipWeb, "length"), (Stair, "many"), (Desk, "verdict"),
                           (Desk, "marked"), (Trial, "ended")):
            self.assertIsInstance(vars(kind)[name], property)
            self.assertEqual(vars(kind)[name].fset is None, name != "marked")

    def test_constructors(self):
        for kind, parameters in ((Table, "rows"), (Chip, "at amount"), (Down, "at amount"), (Up, "at amount"),
                                 (By, "at amount"), (ChipWeb, "wires chips"), (Stair, "rows"), (Asker, "high wide"),
                                 (Paper, "table"), (GoodPaper, "table core"), (BadPaper, "table rows columns"),
                                 (Step, "at amount"), (RowStep, "at amount up"), (ColumnStep, "at amount left"),
                                 (Run, "steps"), (SignRule, "table"), (SignPaper, "table row"), (PartTable, "rows"),
                                 (Desk, "table marked"), (Trial, "desk")):
            self.assertEqual(list(inspect.signature(kind).parameters), parameters.split())
        self.assertIs(inspect.signature(Desk).parameters["marked"].kind, inspect.Parameter.KEYWORD_ONLY)


if __name__ == "__main__":
    unittest.main()
