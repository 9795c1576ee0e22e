"""Turnings: points 5, 6 and 7, and kinhearth/turns.py of the interface."""

import itertools
import math
import unittest

from kinhearth.errors import BadTurn
from kinhearth.turns import back, behind, fixed, is_turn, number_of, numbered, order_of, rounds, still, times
from tests.helper import FIFTY, all_turns, soon

SIXTY = 10 ** 60 - 1
NO_TURNS = [
    (0, 0), (1,), (1, 2), (0, 2), (-1, 0), (0, 1, 1), (0, 1, 3), (-1, 0, 1), (FIFTY, 0), (0, -FIFTY),
    (2, 2, 2), (0, 1, 2, 3, 4, 5, 6, 8), (7, 6, 5, 4, 3, 2, 1, 1),
]


def some_turns(size):
    """All turnings of a small size, and every so manyth of a great one."""
    return all_turns(size)[::max(1, math.factorial(size) // 150)]


def done_over(turn, many):
    """What `times` promises, step by step, for a small number not below nought."""
    row = list(range(len(turn)))
    for step in range(many):
        row = [turn[section] for section in row]
    return tuple(row)


class IsTurn(unittest.TestCase):
    def test_lists_and_tuples(self):
        for row in ([], (), [0], (0,), [1, 0], (1, 0), [2, 0, 1], (2, 0, 1), (7, 6, 5, 4, 3, 2, 1, 0)):
            with self.subTest(row=row):
                self.assertIs(is_turn(row), True)

    def test_rows_of_up_to_sixty(self):
        for size in range(61):
            row = list(range(size))[::-1]
            self.assertIs(is_turn(row), True)
            self.assertIs(is_turn(tuple(row)), True)
            self.assertIs(is_turn([number + 1 for number in row]), size == 0)

    def test_each_row_of_small_numbers(self):
        for size in range(5):
            turns = set(all_turns(size))
            for row in itertools.product(range(-1, size + 1), repeat=size):
                self.assertIs(is_turn(row), row in turns)
                self.assertIs(is_turn(list(row)), row in turns)

    def test_what_is_none(self):
        for row in NO_TURNS:
            with self.subTest(row=row):
                self.assertIs(is_turn(row), False)
                self.assertIs(is_turn(list(row)), False)

    def test_one_wrong_number_among_sixty(self):
        for wrong in (0, 58, 60, -1, FIFTY, -FIFTY, SIXTY, -SIXTY):
            self.assertIs(is_turn(list(range(59)) + [wrong]), False)
        self.assertIs(is_turn(list(range(59)) + [59]), True)

    def test_true_and_false_are_no_numbers(self):
        self.assertIs(is_turn([True, False]), False)
        self.assertIs(is_turn((False,)), False)
        self.assertIs(is_turn((0, True, 2)), False)

    def test_the_row_stays(self):
        for row in ([2, 0, 1], [5, 5], [FIFTY, 0]):
            kept = list(row)
            is_turn(row)
            self.assertEqual(row, kept)


class Still(unittest.TestCase):
    def test_each_size(self):
        for size in range(9):
            self.assertEqual(still(size), tuple(range(size)))
            self.assertIsInstance(still(size), tuple)


class Behind(unittest.TestCase):
    def test_the_second_one_leads_what_the_first_one_led_to(self):
        self.assertEqual(behind((1, 2, 0), (0, 2, 1)), (2, 1, 0))
        self.assertEqual(behind((0, 2, 1), (1, 2, 0)), (1, 0, 2))

    def test_each_size(self):
        for size in range(9):
            turns = some_turns(size)
            for first, then in zip(turns, turns[::-1]):
                told = behind(first, then)
                self.assertIsInstance(told, tuple)
                self.assertEqual(len(told), size)
                for section in range(size):
                    self.assertEqual(told[section], then[first[section]])

    def test_still_changes_nothing(self):
        for size in range(9):
            for turn in some_turns(size):
                self.assertEqual(behind(turn, still(size)), turn)
                self.assertEqual(behind(still(size), turn), turn)

    def test_refuses_what_is_no_turning(self):
        for row in NO_TURNS:
            with self.subTest(row=row):
                self.assertRaises(BadTurn, behind, row, still(len(row)))
                self.assertRaises(BadTurn, behind, still(len(row)), row)
                self.assertRaises(BadTurn, behind, row, row)

    def test_refuses_unlike_sizes(self):
        for one, other in itertools.permutations(range(9), 2):
            with self.subTest(one=one, other=other):
                self.assertRaises(BadTurn, behind, still(one), still(other))


class Back(unittest.TestCase):
    def test_leads_back(self):
        self.assertEqual(back((1, 2, 0)), (2, 0, 1))
        self.assertEqual(back((1, 3, 0, 2)), (2, 0, 3, 1))

    def test_each_size(self):
        for size in range(9):
            for turn in some_turns(size):
                told = back(turn)
                self.assertIsInstance(told, tuple)
                self.assertEqual(behind(turn, told), still(size))
                self.assertEqual(behind(told, turn), still(size))

    def test_refuses_what_is_no_turning(self):
        for row in NO_TURNS:
            with self.subTest(row=row):
                self.assertRaises(BadTurn, back, row)


class FixedAndRounds(unittest.TestCase):
    def test_fixed(self):
        self.assertEqual(fixed(()), [])
        self.assertEqual(fixed((0,)), [0])
        self.assertEqual(fixed((1, 0)), [])
        self.assertEqual(fixed((0, 2, 1, 3)), [0, 3])
        self.assertEqual(fixed((7, 1, 2, 4, 3, 5, 6, 0)), [1, 2, 5, 6])

    def test_fixed_of_each_size(self):
        for size in range(9):
            for turn in some_turns(size):
                self.assertEqual(fixed(turn), [at for at, led in enumerate(turn) if at == led])

    def test_rounds(self):
        self.assertEqual(rounds(()), [])
        self.assertEqual(rounds((0,)), [[0]])
        self.assertEqual(rounds((0, 1, 2)), [[0], [1], [2]])
        self.assertEqual(rounds((2, 0, 1)), [[0, 2, 1]])
        self.assertEqual(rounds((3, 1, 4, 0, 2)), [[0, 3], [1], [2, 4]])
        self.assertEqual(rounds((7, 3, 5, 1, 4, 6, 2, 0)), [[0, 7], [1, 3], [2, 5, 6], [4]])

    def test_rounds_of_each_size(self):
        for size in range(9):
            for turn in some_turns(size):
                told = rounds(turn)
                self.assertEqual(sorted(sum(told, [])), list(range(size)))
                self.assertEqual([way[0] for way in told], sorted(way[0] for way in told))
                for way in told:
                    self.assertIsInstance(way, list)
                    self.assertEqual(way[0], min(way))
                    self.assertEqual([turn[section] for section in way], way[1:] + way[:1])

    def test_what_was_told_is_not_kept(self):
        turn = (1, 0, 2)
        rounds(turn)[0].clear()
        fixed(turn).clear()
        self.assertEqual(rounds(turn), [[0, 1], [2]])
        self.assertEqual(fixed(turn), [2])


class OrderAndTimes(unittest.TestCase):
    def test_order(self):
        self.assertEqual(order_of(()), 1)
        self.assertEqual(order_of((0,)), 1)
        self.assertEqual(order_of((1, 0)), 2)
        self.assertEqual(order_of((1, 2, 0, 4, 3)), 6)
        self.assertEqual(order_of((1, 0, 3, 4, 5, 2)), 4)
        self.assertEqual(order_of((1, 2, 3, 0, 5, 4, 7, 6)), 4)
        self.assertEqual(order_of((1, 2, 3, 4, 0, 6, 7, 5)), 15)

    def test_order_of_each_size(self):
        for size in range(9):
            self.assertEqual(order_of(still(size)), 1)
            for turn in some_turns(size):
                order = order_of(turn)
                self.assertEqual(done_over(turn, order), still(size))
                for fewer in range(1, order):
                    self.assertNotEqual(done_over(turn, fewer), still(size))

    def test_few_times_either_way(self):
        for size in range(9):
            for turn in some_turns(size):
                for many in range(20):
                    told = times(turn, many)
                    self.assertIsInstance(told, tuple)
                    self.assertEqual(told, done_over(turn, many))
                    self.assertEqual(behind(times(turn, -many), told), still(size))

    def test_nought_and_once(self):
        for size in range(9):
            for turn in some_turns(size):
                self.assertEqual(times(turn, 0), still(size))
                self.assertEqual(times(turn, 1), turn)
                self.assertEqual(times(turn, -1), back(turn))

    def test_numbers_of_many_figures_are_told_soon(self):
        with soon():
            for size in range(9):
                for turn in some_turns(size):
                    for many in (FIFTY, -FIFTY, SIXTY, -SIXTY):
                        self.assertEqual(times(turn, many), done_over(turn, many % order_of(turn)))


class Numbers(unittest.TestCase):
    def test_each_turning_by_its_number_and_back(self):
        for size in range(8):
            for number, turn in enumerate(all_turns(size)):
                self.assertEqual(number_of(turn), number)
                self.assertEqual(numbered(size, number), turn)

    def test_size_eight(self):
        turns = all_turns(8)
        for number in list(range(0, 40320, 97)) + [40319]:
            self.assertEqual(number_of(turns[number]), number)
            self.assertEqual(numbered(8, number), turns[number])

    def test_the_order_is_that_of_the_first_unlike_place(self):
        self.assertEqual([numbered(3, number) for number in range(6)],
                         [(0, 1, 2), (0, 2, 1), (1, 0, 2), (1, 2, 0), (2, 0, 1), (2, 1, 0)])
        self.assertEqual(numbered(0, 0), ())
        self.assertEqual(number_of(()), 0)

    def test_tuples_are_told(self):
        for size in range(9):
            self.assertIsInstance(numbered(size, 0), tuple)

    def test_refuses_numbers_of_none(self):
        for size in range(9):
            count = math.factorial(size)
            self.assertEqual(numbered(size, count - 1), tuple(range(size))[::-1])
            for number in (count, count + 1, 2 * count, -1, -count, FIFTY, -FIFTY, SIXTY, -SIXTY):
                with self.subTest(size=size, number=number):
                    self.assertRaises(BadTurn, numbered, size, number)

    def test_refuses_a_size_below_nought(self):
        self.assertRaises(BadTurn, numbered, -1, 0)


if __name__ == "__main__":
    unittest.main()
