"""What holds of the arguments and results of all functions, but for those of shapes and pieces alone."""

import copy
import unittest

from holeslides import insertion, listing, sinks, slides, turning, words
from holeslides.board import Board
from holeslides.errors import (
    InvalidNumber, InvalidOrder, InvalidTable, InvalidWord, NoCorner, NoHole, NotAlike, NotSorted,
)
from tests.things import lists_in
from tests.wrong import (
    GREATEST, MISSING, ROWS, SHAPE, STRAIGHT, UNLIKE, WORD, wrong, wrong_fillings, wrong_growths, wrong_listed,
    wrong_missing, wrong_missing_within, wrong_numbers, wrong_orders_of_holes, wrong_rows, wrong_shapes,
    wrong_straight, wrong_tables, wrong_unlike, wrong_words,
)

# Passed where no argument that comes after a wrong one may be looked at.
LATER = [None, True, "x", [], [None], 10 ** 5000]


def listed(shape):
    """All that `all_sorted` yields, in a list."""
    return list(listing.all_sorted(shape))


# Of each function valid arguments by their names, and for each name the wrong ones.
PIECE = {"missing": MISSING, "rows": ROWS}
WRONG_PIECE = {"missing": wrong_missing, "rows": wrong_rows}
FAR = [0, -1, 5, 8, 9, 10 ** 70, -10 ** 70]
FUNCTIONS = [
    (slides.holes, {"missing": MISSING}, {"missing": wrong_missing}),
    (slides.ends, PIECE, WRONG_PIECE),
    (slides.slide, {**PIECE, "row": 1}, {**WRONG_PIECE, "row": lambda: wrong(NoHole, "row", [3, 4] + FAR)}),
    (slides.slide_back, {**PIECE, "row": 4}, {**WRONG_PIECE, "row": lambda: wrong(NoCorner, "row", [2, 3] + FAR)}),
    (slides.straightened, PIECE, WRONG_PIECE),
    (slides.straightened_by, {**PIECE, "order": [1, 2, 1]}, {**WRONG_PIECE, "order": wrong_orders_of_holes}),
    (slides.count_orders, {"missing": MISSING}, {"missing": wrong_missing}),
    (words.straight_of, {"word": WORD}, {"word": wrong_words}),
    (words.exchanges, {"word": WORD}, {"word": wrong_words}),
    (words.are_alike, {"word": WORD, "other": [1, 2]}, {"word": wrong_words, "other": wrong_words}),
    (words.chain, {"word": WORD, "other": [5, 3, 4, 1, 1, 2]}, {"word": wrong_words, "other": wrong_words}),
    (words.longest, {"word": WORD, "many": 2},
     {"word": wrong_words, "many": lambda: wrong(InvalidNumber, "number", [-1, -10 ** 70])}),
    (words.longest_falling, {"word": WORD, "many": 2},
     {"word": wrong_words, "many": lambda: wrong(InvalidNumber, "number", [-1, -10 ** 70])}),
    (words.a_pick, {"word": WORD}, {"word": wrong_words}),
    (insertion.put_in, {"rows": STRAIGHT, "number": 2},
     {"rows": wrong_straight, "number": lambda: wrong(InvalidNumber, "number", [])}),
    (insertion.take_out, {"rows": STRAIGHT, "row": 2},
     {"rows": wrong_straight, "row": lambda: wrong(NoCorner, "row", [3, 4] + FAR)}),
    (insertion.pair_of, {"word": WORD}, {"word": wrong_words}),
    (insertion.word_from, {"rows": STRAIGHT, "order": [1, 2, 1, 2, 1]},
     {"rows": wrong_straight, "order": wrong_growths}),
    (turning.least_out, {"rows": STRAIGHT}, {"rows": wrong_straight}),
    (turning.freed, {"rows": STRAIGHT}, {"rows": wrong_straight}),
    (turning.turned, {"rows": UNLIKE}, {"rows": wrong_unlike}),
    (sinks.sorted_of, {"rows": [[5, 1, 3], [4, 2]]}, {"rows": wrong_fillings}),
    (sinks.table_of, {"rows": [[5, 1, 3], [4, 2]]}, {"rows": wrong_fillings}),
    (sinks.filling_from, {"rows": UNLIKE, "table": GREATEST}, {"rows": wrong_unlike, "table": wrong_tables}),
    (sinks.count_fillings, {"shape": SHAPE}, {"shape": wrong_shapes}),
    (sinks.table_numbered, {"shape": SHAPE, "number": 239},
     {"shape": wrong_shapes, "number": lambda: wrong_numbers(240)}),
    (listing.count_between, {"shape": SHAPE, "missing": [1, 1, 0]},
     {"shape": wrong_shapes, "missing": wrong_missing_within}),
    (listing.sorted_numbered, {"shape": SHAPE, "number": 20},
     {"shape": wrong_shapes, "number": lambda: wrong_numbers(21)}),
    (listing.sorted_number, {"rows": [[1, 3], [2, 4]]}, {"rows": wrong_listed}),
    (listed, {"shape": SHAPE}, {"shape": wrong_shapes}),
]
CHECKED = FUNCTIONS + [(Board, PIECE, WRONG_PIECE)]
# More calls, of pieces and words that are short, long, empty or out of the ordinary.
SAME = [5] * 40
CALLS = [(function, valid) for function, valid, _ in FUNCTIONS] + [
    (slides.holes, {"missing": [0] * 8}),
    (slides.ends, {"missing": [0], "rows": [[]]}),
    (slides.slide, {"missing": [1, 1], "rows": [[]] * 2, "row": 2}),
    (slides.slide, {"missing": [1, 0, 0], "rows": [[1], [1], []], "row": 1}),
    (slides.slide_back, {"missing": [0], "rows": [[]], "row": 1}),
    (slides.slide_back, {"missing": [0, 0], "rows": [[1], [2]], "row": 3}),
    (slides.straightened, {"missing": [0], "rows": [[]]}),
    (slides.straightened, {"missing": [0, 0], "rows": [[1, 2], [2, 3]]}),
    (slides.straightened, {"missing": [2, 2], "rows": [[]] * 2}),
    (slides.straightened_by, {"missing": [0], "rows": [[1]], "order": []}),
    (slides.straightened_by, {"missing": [0, 0], "rows": [[]] * 2, "order": []}),
    (words.straight_of, {"word": [1]}),
    (words.straight_of, {"word": SAME}),
    (words.exchanges, {"word": [2, 1, 2, 1, 3, 2, 5, 1, 4]}),
    (words.are_alike, {"word": SAME, "other": SAME}),
    (words.chain, {"word": [1], "other": [1]}),
    (words.chain, {"word": SAME, "other": SAME}),
    (words.chain, {"word": [2, 1, 3, 5, 4], "other": [2, 3, 5, 1, 4]}),
    (words.chain, {"word": [1, 3, 2], "other": [3, 1, 2]}),
    (words.chain, {"word": [3, 1, 2], "other": [1, 3, 2]}),
    (words.longest, {"word": [1], "many": 0}),
    (words.longest_falling, {"word": [1], "many": 0}),
    (words.a_pick, {"word": [1]}),
    (insertion.put_in, {"rows": [[1]], "number": 1}),
    (insertion.put_in, {"rows": [[1, 2], [2]], "number": 0}),
    (insertion.take_out, {"rows": [[1]], "row": 1}),
    (insertion.take_out, {"rows": [[1, 2], [3]], "row": 1}),
    (insertion.pair_of, {"word": [1]}),
    (insertion.word_from, {"rows": [[1]], "order": [1]}),
    (turning.least_out, {"rows": [[1]]}),
    (turning.least_out, {"rows": [[1, 1], [2, 2]]}),
    (turning.freed, {"rows": [[1]]}),
    (turning.turned, {"rows": [[1]]}),
    (turning.turned, {"rows": [[1, 2, 3]]}),
    (sinks.sorted_of, {"rows": [[1]]}),
    (sinks.sorted_of, {"rows": [[1, 2], [3]]}),
    (sinks.table_of, {"rows": [[1]]}),
    (sinks.table_of, {"rows": [[1, 2], [3]]}),
    (sinks.filling_from, {"rows": [[1]], "table": [[0]]}),
    (sinks.filling_from, {"rows": UNLIKE, "table": [[0, 0, 0], [0, 0]]}),
    (sinks.count_fillings, {"shape": [1]}),
    (sinks.table_numbered, {"shape": [1], "number": 0}),
    (sinks.table_numbered, {"shape": SHAPE, "number": 0}),
    (listing.count_between, {"shape": SHAPE, "missing": [0, 0, 0]}),
    (listing.count_between, {"shape": SHAPE, "missing": SHAPE}),
    (listing.sorted_numbered, {"shape": [1], "number": 0}),
    (listing.sorted_numbered, {"shape": SHAPE, "number": 0}),
    (listing.sorted_number, {"rows": [[1]]}),
    (listed, {"shape": [1]}),
    (listed, {"shape": [2, 2, 2]}),
]
# The functions that return a whole number.
NUMBERS = [
    slides.count_orders, words.longest, words.longest_falling, sinks.count_fillings, listing.count_between,
    listing.sorted_number,
]


class TestWrongArguments(unittest.TestCase):

    def check(self, function, arguments, expected):
        """The call raises the error; `expected` tells its class, its field and what that holds."""
        kind, field, held = expected
        with self.assertRaises(ValueError if issubclass(kind, ValueError) else LookupError) as caught:
            function(*arguments)
        error = caught.exception
        self.assertIs(type(error), kind)
        if field != "index" and kind not in [NotSorted, InvalidTable]:
            self.assertIs(getattr(error, field), held)
        else:
            self.assertEqual(getattr(error, field), held)
            self.assertIs(type(getattr(error, field)), type(held))

    def test_each_wrong_argument_beside_right_ones(self):
        for function, valid, wrongs in CHECKED:
            names = list(valid)
            self.assertEqual(names, list(wrongs))
            for at, name in enumerate(names):
                for thing, *expected in wrongs[name]():
                    arguments = list(valid.values())
                    arguments[at] = thing
                    self.check(function, arguments, expected)

    def test_of_several_wrong_arguments_the_first_one_is_told(self):
        for function, valid, wrongs in CHECKED:
            names = list(valid)
            for at, name in enumerate(names[:-1]):
                for later in LATER:
                    for thing, *expected in wrongs[name]():
                        arguments = list(valid.values())[:at] + [thing] + [later] * (len(names) - at - 1)
                        self.check(function, arguments, expected)

    def test_words_are_checked_before_they_are_compared(self):
        for function in [words.are_alike, words.chain]:
            for thing in [[], [1] * 41, None, [True], [1, 2, None]]:
                with self.assertRaises(InvalidWord):
                    function([1, 2], thing)
                with self.assertRaises(InvalidWord):
                    function(thing, thing)

    def test_not_alike_has_no_fields(self):
        with self.assertRaises(NotAlike) as caught:
            words.chain([1, 2], [2, 1])
        self.assertEqual(vars(caught.exception), {})

    def test_things_that_are_no_whole_numbers_equal_none(self):
        for thing in [True, 1.0, 1 + 0j]:
            for call, kind in [
                (lambda: slides.slide([1], [[]], thing), NoHole),
                (lambda: slides.slide_back([0], [[]], thing), NoCorner),
                (lambda: slides.straightened_by([1], [[]], [thing]), InvalidOrder),
                (lambda: insertion.take_out([[1]], thing), NoCorner),
                (lambda: insertion.word_from([[1]], [thing]), InvalidOrder),
                (lambda: insertion.put_in([[1]], thing), InvalidNumber),
                (lambda: words.longest([1], thing), InvalidNumber),
                (lambda: words.longest_falling([1], thing), InvalidNumber),
            ]:
                self.assertRaises(kind, call)

    def test_no_row_is_put_where_none_is_allowed(self):
        eight = [[row] for row in range(8)]
        for missing, rows, row in [([0] * 8, eight, 9), ([0], [[]], 2), ([0, 0], [[1], []], 3), ([0, 0], [[1], []], 4),
                                   ([0], [list(range(8))], 1), ([8], [[]], 1), ([2, 2], [[3], [4]], 2)]:
            self.check(slides.slide_back, [missing, rows, row], [NoCorner, "row", row])

    def test_no_hole_is_filled_where_none_is(self):
        for missing, row in [([0], 1), ([0] * 8, 8), ([2, 2, 1], 1), ([3, 0], 2), ([8] * 8, 7), ([1], 2)]:
            self.check(slides.slide, [missing, [[] for _ in missing], row], [NoHole, "row", row])

    def test_no_cell_is_taken_out_where_no_corner_is(self):
        for rows, row in [([[1]], 2), ([[1, 2], [3, 4]], 1), ([[1], [2], [3]], 2), ([[1]], 0), ([[1]], -1)]:
            self.check(insertion.take_out, [rows, row], [NoCorner, "row", row])

    def test_wrong_arguments_stay_as_they_are(self):
        for function, valid, wrongs in CHECKED:
            for at, name in enumerate(valid):
                for thing, *_ in wrongs[name]():
                    arguments = list(valid.values())
                    arguments[at] = thing
                    before = [(one, list(one)) for one in lists_in(tuple(arguments))]
                    self.assertRaises((ValueError, LookupError), function, *arguments)
                    for one, parts in before:
                        self.assertEqual(len(one), len(parts))
                        self.assertTrue(all(now is part for now, part in zip(one, parts)))


class TestRightArguments(unittest.TestCase):

    def test_arguments_stay_as_they_are(self):
        for function, valid in CALLS:
            arguments = copy.deepcopy(valid)
            inner = [id(one) for one in lists_in(tuple(arguments.values()))]
            function(*arguments.values())
            self.assertEqual(arguments, valid)
            self.assertEqual([id(one) for one in lists_in(tuple(arguments.values()))], inner)

    def test_arguments_can_be_passed_by_name_in_any_order(self):
        for function, valid in CALLS:
            expected = function(*valid.values())
            self.assertEqual(function(**valid), expected)
            self.assertEqual(function(**dict(reversed(list(valid.items())))), expected)

    def test_the_same_comes_again(self):
        for function, valid in CALLS:
            self.assertEqual(function(**valid), function(**copy.deepcopy(valid)))

    def test_lists_that_are_returned_are_new(self):
        for function, valid in CALLS:
            arguments = copy.deepcopy(valid)
            answers = function(**arguments), function(**arguments)
            returned = lists_in(answers)
            self.assertTrue(all(type(one) is list for one in returned))
            different = {id(one) for one in returned}
            self.assertEqual(len(different), len(returned), function)
            passed = {id(one) for one in lists_in(tuple(arguments.values()))}
            self.assertFalse(passed & different, function)

    def test_changes_to_what_is_returned_have_no_effect(self):
        for function, valid in CALLS:
            arguments = copy.deepcopy(valid)
            expected = function(**copy.deepcopy(valid))
            for one in lists_in(function(**arguments)):
                one.append("changed")
            self.assertEqual(arguments, valid)
            self.assertEqual(function(**arguments), expected)

    def test_tuples_and_numbers_are_of_the_right_kind(self):
        for function, valid in CALLS:
            answer = function(**valid)
            if function in [slides.slide, slides.slide_back]:
                self.assertEqual([type(part) for part in answer], [list, list, int])
            elif function in [slides.straightened_by, insertion.pair_of]:
                self.assertEqual([type(part) for part in answer], [list, list])
            elif function in [insertion.put_in, insertion.take_out, turning.least_out]:
                self.assertEqual([type(part) for part in answer], [list, int])
            elif function in NUMBERS:
                self.assertIs(type(answer), int)
            elif function is words.are_alike:
                self.assertIs(type(answer), bool)
            else:
                self.assertIs(type(answer), list)
            for part in answer if isinstance(answer, tuple) else ():
                self.assertNotIsInstance(part, bool)


if __name__ == "__main__":
    unittest.main()
