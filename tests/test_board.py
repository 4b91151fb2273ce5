import random
import unittest

from holeslides import pieces, slides
from holeslides.board import Board
from holeslides.errors import NoCorner, NoHole, NothingToUndo
from tests.by_cells import any_order
from tests.things import great_pieces, lists_in, no_lists, no_numbers, small_pieces, unsorted_rows

MISSING = [2, 1, 0]
ROWS = [[2], [1, 4], [1, 3, 5]]


def a_board():
    return Board([2, 1, 0], [[2], [1, 4], [1, 3, 5]])


def state_of(board):
    return board.missing, board.rows, len(board)


def do_any(board, numbers):
    """Do a deed, where there is one, and tell what it returned and what it had to."""
    deeds = [("slide", row) for row in slides.holes(board.missing)]
    deeds += [("slide_back", row) for row in slides.ends(board.missing, board.rows)]
    name, row = numbers.choice(deeds)
    expected = getattr(slides, name)(board.missing, board.rows, row)
    return getattr(board, name)(row), expected


class Checks(unittest.TestCase):

    def check_refused(self, board, name, thing, kind):
        """A call with this argument raises the error, which holds it, and changes nothing."""
        before = state_of(board)
        with self.assertRaises(LookupError) as caught:
            getattr(board, name)(thing)
        self.assertIs(type(caught.exception), kind)
        self.assertIs(caught.exception.row, thing)
        self.assertEqual(state_of(board), before)


class TestExamples(unittest.TestCase):

    def test_the_examples_of_the_document(self):
        board = Board([1, 0], [[2], [1, 3]])
        self.assertEqual(board.holes(), [1])
        self.assertEqual(board.slide(1), 2)
        self.assertEqual((board.missing, board.rows), ([0, 0], [[1, 2], [3]]))
        self.assertEqual((board.straight(), board.word()), ([[1, 2], [3]], [3, 1, 2]))
        self.assertEqual((board.slide_back(2), board.rows, len(board)), (1, [[2], [1, 3]], 2))
        self.assertEqual((board.undo(), board.ends(), list(board.run([]))), (None, [1, 2, 3], []))


class TestNewBoards(unittest.TestCase):

    def test_edges(self):
        board = Board([0], [[]])
        self.assertEqual(state_of(board), ([0], [[]], 0))
        self.assertEqual((board.holes(), board.ends(), board.word(), board.straight()), ([], [1], [], []))
        board = Board([8] * 8, [[]] * 8)
        self.assertEqual((board.holes(), board.ends(), board.word(), board.straight()), ([8], [], [], []))
        full = [list(range(row, row + 8)) for row in range(8)]
        board = Board([0] * 8, full)
        self.assertEqual((board.holes(), board.ends(), board.straight()), ([], [], full))
        self.assertEqual(board.word(), sum(full[::-1], []))

    def test_all_is_told_of_the_piece(self):
        for missing, rows in list(small_pieces(3, 3, 4, 2)) + great_pieces(300):
            board = Board(missing, rows)
            self.assertEqual(state_of(board), (missing, rows, 0))
            self.assertEqual(board.holes(), slides.holes(missing))
            self.assertEqual(board.ends(), slides.ends(missing, rows))
            self.assertEqual(board.word(), pieces.word_of(missing, rows))
            self.assertEqual(board.straight(), slides.straightened(missing, rows))
            self.assertEqual(state_of(board), (missing, rows, 0))

    def test_arguments_can_be_passed_by_name(self):
        board = Board(rows=[[2], [1, 3]], missing=[1, 0])
        self.assertEqual(board.slide(row=1), 2)
        self.assertEqual(board.slide_back(row=2), 1)
        self.assertEqual(list(board.run(order=[1])), [[[1, 2], [3]]])


class TestLists(unittest.TestCase):

    def test_changes_to_what_was_passed_have_no_effect(self):
        missing, rows = [2, 1, 0], [[2], [1, 4], [1, 3, 5]]
        board = Board(missing, rows)
        for one in [missing, rows] + rows[:]:
            one.append(0)
            one.reverse()
        self.assertEqual((board.missing, board.rows), (MISSING, ROWS))
        board.slide(1)
        self.assertEqual((board.missing, board.rows), ([1, 1, 0], [[1, 2], [3, 4], [1, 5]]))
        board.undo()
        self.assertEqual((board.missing, board.rows), (MISSING, ROWS))

    def test_what_was_passed_stays_as_it_is(self):
        missing, rows = [2, 1, 0], [[2], [1, 4], [1, 3, 5]]
        board = Board(missing, rows)
        board.slide(1)
        board.slide_back(4)
        list(board.run(board.holes()))
        board.undo()
        board.straight()
        self.assertEqual((missing, rows), (MISSING, ROWS))

    def test_one_list_passed_for_several_rows_is_copied_for_each(self):
        row = []
        board = Board([2, 1, 1], [row] * 3)
        row.append(5)
        self.assertEqual(board.rows, [[], [], []])
        self.assertEqual(len({id(one) for one in lists_in(board.rows)}), 4)

    def test_changes_to_what_was_read_have_no_effect(self):
        board = a_board()
        board.slide(2)
        expected = state_of(board), board.holes(), board.ends(), board.word(), board.straight()
        told = [board.missing, board.rows, board.holes(), board.ends(), board.word(), board.straight()]
        for one in lists_in(told):
            one.clear()
        for rows in board.run([]):
            rows.clear()
        self.assertEqual((state_of(board), board.holes(), board.ends(), board.word(), board.straight()), expected)
        board.undo()
        self.assertEqual((board.missing, board.rows), (MISSING, ROWS))

    def test_all_lists_are_new(self):
        board = a_board()
        told = []
        for _ in range(2):
            told += [board.missing, board.rows, board.holes(), board.ends(), board.word(), board.straight()]
            told += list(board.run([1]))
            board.undo()
        different = {id(one) for one in lists_in(told)}
        self.assertEqual(len(different), len(lists_in(told)))

    def test_two_boards_have_nothing_in_common(self):
        one, other = a_board(), a_board()
        one.slide(1)
        self.assertEqual(state_of(other), (MISSING, ROWS, 0))
        again = Board(one.missing, one.rows)
        one.undo()
        self.assertEqual(state_of(again), ([1, 1, 0], [[1, 2], [3, 4], [1, 5]], 0))


class TestDeeds(Checks):

    def test_a_slide(self):
        board = a_board()
        self.assertEqual(board.slide(1), 3)
        self.assertEqual(state_of(board), ([1, 1, 0], [[1, 2], [3, 4], [1, 5]], 1))
        self.assertEqual(board.slide(2), 3)
        self.assertEqual(state_of(board), ([1, 0, 0], [[1, 2], [1, 3, 4], [5]], 2))

    def test_rows_without_numbers_stay(self):
        board = Board([1, 0, 0], [[], [4], []])
        self.assertEqual(board.slide(1), 2)
        self.assertEqual(board.rows, [[4], [], []])
        self.assertEqual(board.straight(), [[4]])
        self.assertEqual(board.ends(), [1, 2])

    def test_a_new_row_is_put_and_taken_back(self):
        board = Board([0, 0], [[1, 2], [3]])
        self.assertEqual(board.slide_back(3), 1)
        self.assertEqual(state_of(board), ([1, 0, 0], [[2], [1], [3]], 1))
        self.assertIs(board.undo(), None)
        self.assertEqual(state_of(board), ([0, 0], [[1, 2], [3]], 0))

    def test_a_new_row_stays_when_its_hole_is_filled(self):
        board = Board([0, 0], [[1, 2], [3]])
        self.assertEqual(board.slide(board.slide_back(3)), 3)
        self.assertEqual(state_of(board), ([0, 0, 0], [[1, 2], [3], []], 2))
        board.undo()
        self.assertEqual(state_of(board), ([1, 0, 0], [[2], [1], [3]], 1))

    def test_drawn_deeds_and_taking_them_back(self):
        numbers = random.Random(21)
        for missing, rows in great_pieces(60):
            board = Board(missing, rows)
            word = sorted(board.word())
            states = [(missing, rows)]
            for _ in range(40):
                if len(states) > 1 and numbers.random() < 0.3:
                    states.pop()
                    self.assertIs(board.undo(), None)
                elif board.holes() or board.ends():
                    returned, expected = do_any(board, numbers)
                    self.assertIs(type(returned), int)
                    self.assertEqual((board.missing, board.rows, returned), expected)
                    states.append(expected[:2])
                self.assertEqual(state_of(board), states[-1] + (len(states) - 1,))
                self.assertEqual(unsorted_rows(board.missing, board.rows), [])
                self.assertEqual(sorted(board.word()), word)
            while len(board):
                states.pop()
                board.undo()
                self.assertEqual(state_of(board), states[-1] + (len(states) - 1,))
            self.assertRaises(NothingToUndo, board.undo)

    def test_slides_leave_the_straightened_piece_as_it_is(self):
        numbers = random.Random(22)
        for missing, rows in great_pieces(100):
            board = Board(missing, rows)
            expected = board.straight()
            for _ in range(15):
                if board.holes() or board.ends():
                    do_any(board, numbers)
                    self.assertEqual(board.straight(), expected)

    def test_slides_lead_to_the_straightened_piece(self):
        numbers = random.Random(23)
        for missing, rows in great_pieces(100):
            board = Board(missing, rows)
            while board.holes():
                board.slide(numbers.choice(board.holes()))
            self.assertEqual([row for row in board.rows if row], slides.straightened(missing, rows))
            self.assertEqual(len(board), sum(missing))

    def test_a_slide_and_the_slide_back_are_two_deeds(self):
        board = a_board()
        self.assertEqual(board.slide_back(board.slide(1)), 1)
        self.assertEqual(state_of(board), (MISSING, ROWS, 2))

    def test_there_is_nothing_to_undo(self):
        board = a_board()
        for _ in range(2):
            with self.assertRaises(NothingToUndo) as caught:
                board.undo()
            self.assertEqual(vars(caught.exception), {})
            self.assertEqual(state_of(board), (MISSING, ROWS, 0))
        board.slide(2)
        board.undo()
        self.assertRaises(NothingToUndo, board.undo)
        self.assertEqual(board.slide(1), 3)

    def test_deeds_that_are_refused(self):
        for prepare in [lambda board: None, lambda board: board.slide(1), lambda board: board.slide_back(4)]:
            board = a_board()
            prepare(board)
            wrong = no_numbers() + [thing for thing in no_lists() if type(thing) is not int]
            wrong += [0, -1, 9, 10 ** 70, -10 ** 70]
            for thing in wrong + [row for row in range(1, 9) if row not in board.holes()]:
                self.check_refused(board, "slide", thing, NoHole)
            for thing in wrong + [row for row in range(1, 9) if row not in board.ends()]:
                self.check_refused(board, "slide_back", thing, NoCorner)
            self.assertIn(board.slide(board.holes()[0]), [1, 2, 3, 4])

    def test_no_hole_and_no_end(self):
        full = Board([0] * 8, [list(range(row, row + 8)) for row in range(8)])
        for row in range(1, 10):
            self.check_refused(full, "slide", row, NoHole)
            self.check_refused(full, "slide_back", row, NoCorner)
        empty = Board([0, 0], [[], []])
        for row in [2, 3]:
            self.check_refused(empty, "slide_back", row, NoCorner)
        self.assertEqual(empty.slide_back(1), 1)
        self.assertEqual(empty.missing, [1, 0])


class TestRuns(Checks):

    def test_it_fills_holes_and_yields_the_rows(self):
        board = a_board()
        expected, piece = [], (MISSING, ROWS)
        for row in [1, 2, 1]:
            piece = slides.slide(piece[0], piece[1], row)[:2]
            expected.append(piece[1])
        self.assertEqual(list(board.run([1, 2, 1])), expected)
        self.assertEqual(state_of(board), (piece[0], piece[1], 3))
        self.assertEqual(board.rows, [[1, 1, 2], [3, 4], [5]])

    def test_it_goes_on_only_when_asked(self):
        board = a_board()
        run = board.run([1, 2, 1])
        self.assertIs(iter(run), run)
        self.assertEqual(state_of(board), (MISSING, ROWS, 0))
        self.assertEqual(next(run), [[1, 2], [3, 4], [1, 5]])
        self.assertEqual(state_of(board), ([1, 1, 0], [[1, 2], [3, 4], [1, 5]], 1))
        self.assertEqual(next(run), board.rows)
        self.assertEqual(len(board), 2)
        self.assertEqual(next(run), [[1, 1, 2], [3, 4], [5]])
        for _ in range(2):
            self.assertRaises(StopIteration, next, run)
            self.assertEqual(len(board), 3)

    def test_each_step_is_a_deed(self):
        board = a_board()
        states = [(board.missing, board.rows)]
        for rows in board.run([2, 1, 1]):
            self.assertEqual(rows, board.rows)
            states.append((board.missing, rows))
        for before in states[2::-1]:
            board.undo()
            self.assertEqual((board.missing, board.rows), before)
        self.assertRaises(NothingToUndo, board.undo)

    def test_it_need_not_fill_all_holes(self):
        board = a_board()
        self.assertEqual(list(board.run([])), [])
        self.assertEqual(state_of(board), (MISSING, ROWS, 0))
        self.assertEqual(len(list(board.run([2, 1]))), 2)
        self.assertEqual(board.missing, [1, 0, 0])
        self.assertEqual(list(board.run([1])), [[[1, 1, 2], [3, 4], [5]]])

    def test_a_run_that_is_broken_off(self):
        board = a_board()
        for _ in board.run([1, 2, 1]):
            break
        self.assertEqual(state_of(board), ([1, 1, 0], [[1, 2], [3, 4], [1, 5]], 1))
        run = board.run([2, 1])
        next(run)
        run.close()
        self.assertEqual((board.missing, len(board)), ([1, 0, 0], 2))

    def test_what_is_no_hole_is_refused_when_it_is_come_to(self):
        wrong = no_numbers() + [thing for thing in no_lists() if type(thing) is not int] + [0, -1, 2, 3, 4, 10 ** 70]
        for thing in wrong:
            board = a_board()
            run = board.run([2, thing, 1])
            next(run)
            before = state_of(board)
            with self.assertRaises(NoHole) as caught:
                next(run)
            self.assertIs(caught.exception.row, thing)
            self.assertEqual(state_of(board), before)
            self.assertRaises(StopIteration, next, run)
            self.assertEqual(state_of(board), before)

    def test_the_first_thing_can_be_refused(self):
        board = a_board()
        run = board.run([3])
        self.assertEqual(state_of(board), (MISSING, ROWS, 0))
        self.assertRaises(NoHole, next, run)
        self.assertEqual(state_of(board), (MISSING, ROWS, 0))

    def test_more_rows_than_there_are_holes(self):
        board = Board([1, 0], [[2], [1, 3]])
        run = board.run([1, 1])
        self.assertEqual(next(run), [[1, 2], [3]])
        self.assertRaises(NoHole, next, run)
        self.assertEqual(state_of(board), ([0, 0], [[1, 2], [3]], 1))

    def test_deeds_between_two_steps(self):
        board = a_board()
        run = board.run([1, 1, 1])
        next(run)
        # The hole of the first row can be filled again once that of the second one is filled.
        board.slide(2)
        self.assertEqual(next(run), [[1, 1, 2], [3, 4], [5]])
        self.assertEqual((board.missing, len(board)), ([0, 0, 0], 3))
        self.assertEqual(board.slide_back(1), 1)
        self.assertEqual(next(run), board.rows)
        self.assertEqual(state_of(board), ([0, 0, 0], [[1, 1, 2], [3, 4], [5]], 5))

    def test_a_step_that_is_taken_back_before_the_next_one(self):
        board = a_board()
        run = board.run([1, 1, 2])
        for _ in range(2):
            self.assertEqual(next(run), [[1, 2], [3, 4], [1, 5]])
            self.assertEqual(len(board), 1)
            board.undo()
        self.assertEqual(next(run), [[2], [1, 1, 4], [3, 5]])
        self.assertEqual(state_of(board), ([2, 0, 0], [[2], [1, 1, 4], [3, 5]], 1))

    def test_two_runs_beside_each_other(self):
        board = a_board()
        one, other = board.run([1, 1]), board.run([2, 1])
        next(one)
        next(other)
        self.assertEqual(next(one), [[1, 1, 2], [3, 4], [5]])
        self.assertRaises(NoHole, next, other)
        self.assertEqual((board.missing, len(board)), ([0, 0, 0], 3))

    def test_the_order_is_not_copied(self):
        board = a_board()
        order = [3]
        run = board.run(order)
        order[:] = [2, 3]
        next(run)
        self.assertEqual(board.missing, [2, 0, 0])
        order[1] = 1
        order.append(1)
        self.assertEqual(len(list(run)), 2)
        self.assertEqual((board.missing, order), ([0, 0, 0], [2, 1, 1]))

    def test_changes_to_what_is_yielded_have_no_effect(self):
        board = a_board()
        for rows in board.run([1, 2, 1]):
            for one in lists_in(rows):
                one.clear()
        self.assertEqual(board.rows, [[1, 1, 2], [3, 4], [5]])
        board.undo()
        self.assertEqual(board.missing, [1, 0, 0])

    def test_drawn_orders(self):
        numbers = random.Random(24)
        for missing, rows in great_pieces(100):
            order = any_order(missing, numbers)
            board = Board(missing, rows)
            yielded = list(board.run(order))
            self.assertEqual(len(yielded), len(order))
            self.assertEqual(board.missing, [0] * len(missing))
            self.assertEqual([row for row in board.rows if row], slides.straightened(missing, rows))
            for _ in order:
                board.undo()
            self.assertEqual(state_of(board), (missing, rows, 0))


if __name__ == "__main__":
    unittest.main()
