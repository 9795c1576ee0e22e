"""Joins: point 10, what point 1 says of a dealing, and kinhearth/joins.py of the interface."""

import itertools
import random
import unittest

from kinhearth.joins import Joins
from kinhearth.turns import back, still
from tests.helper import all_turns, soon

# So many people have not too many dealings to count them one by one.
FEW_PEOPLE = {1: 5, 2: 6, 3: 5, 4: 4, 5: 3, 6: 3, 7: 3, 8: 3}


def ring(size, by=1):
    return tuple((section + by) % size for section in range(size))


def turned(size):
    return tuple(range(size))[::-1]


class AllDealings:
    """Plain counting: a list of all dealings that keep all ties and sayings."""

    def __init__(self, size):
        self.size = size
        self.people = 0
        self.dealings = [()]
        self.tied = []

    def add(self):
        self.people += 1
        self.dealings = [dealing + (section,) for dealing in self.dealings for section in range(self.size)]
        return self.people - 1

    def keeping(self, one, other, turn):
        return [dealing for dealing in self.dealings if turn[dealing[one]] == dealing[other]]

    def narrowed(self, dealings):
        if dealings:
            self.dealings = dealings
        return dealings != []

    def tie(self, one, other, turn):
        kept = self.narrowed(self.keeping(one, other, turn))
        if kept:
            self.tied.append((one, other))
        return kept

    def say(self, one, section):
        return self.narrowed([dealing for dealing in self.dealings if dealing[one] == section])

    def open_at(self, one):
        return sorted({dealing[one] for dealing in self.dealings})

    def left(self, one, other, turn):
        return sorted({dealing[one] for dealing in self.keeping(one, other, turn)})

    def together(self, one, other):
        reached = {one}
        for step in range(self.people):
            for first, second in self.tied:
                if first in reached or second in reached:
                    reached |= {first, second}
        return other in reached

    def pairs(self, one, other):
        return sorted({(dealing[one], dealing[other]) for dealing in self.dealings})

    def dealt(self):
        return len(self.dealings)

    def dealt_with(self, one, other, turn):
        return len(self.keeping(one, other, turn))


def filled(size, people):
    joins = Joins(size)
    for number in range(people):
        joins.add()
    return joins


def told(joins, people):
    """All that a Joins tells, but for what it would tell of further ties."""
    couples = list(itertools.product(range(people), repeat=2))
    return (
        [joins.open_at(one) for one in range(people)],
        [joins.pairs(one, other) for one, other in couples],
        [joins.together(one, other) for one, other in couples],
        joins.dealt(),
    )


def do(joins, deed):
    return joins.say(*deed) if len(deed) == 2 else joins.tie(*deed)


def some_deeds(chance, size, people, many):
    """Ties and sayings, some of which come again."""
    turns = [still(size), ring(size), turned(size)] + [tuple(chance.sample(range(size), size)) for turn in range(4)]
    deeds = []
    for deed in range(many):
        if deeds and chance.random() < 0.1:
            deeds.append(chance.choice(deeds))
        elif chance.random() < 0.15:
            deeds.append((chance.randrange(people), chance.randrange(size)))
        else:
            deeds.append((chance.randrange(people), chance.randrange(people), chance.choice(turns)))
    return deeds


class Adding(unittest.TestCase):
    def test_numbers_from_nought_on(self):
        for size in range(1, 9):
            joins = Joins(size)
            self.assertEqual([joins.add() for number in range(5)], [0, 1, 2, 3, 4])

    def test_everything_is_open_at_first(self):
        for size in range(1, 9):
            joins = filled(size, 3)
            for one in range(3):
                self.assertEqual(joins.open_at(one), list(range(size)))
                self.assertIsInstance(joins.open_at(one), list)
            self.assertEqual(joins.pairs(0, 2), list(itertools.product(range(size), repeat=2)))
            self.assertEqual(joins.pairs(1, 1), [(section, section) for section in range(size)])
            self.assertEqual(joins.dealt(), size ** 3)

    def test_one_dealing_where_there_is_nobody(self):
        for size in range(1, 9):
            self.assertEqual(Joins(size).dealt(), 1)

    def test_one_more_behind_ties_and_sayings(self):
        joins = filled(4, 2)
        joins.tie(0, 1, ring(4))
        joins.say(1, 3)
        self.assertEqual(joins.add(), 2)
        self.assertEqual(joins.open_at(2), [0, 1, 2, 3])
        self.assertIs(joins.together(2, 0), False)
        self.assertEqual(joins.dealt(), 4)
        self.assertIs(joins.tie(2, 0, turned(4)), True)
        self.assertEqual(joins.open_at(2), [1])

    def test_two_of_them_have_nothing_to_do_with_one_another(self):
        one, other = filled(3, 2), filled(3, 2)
        one.tie(0, 1, ring(3))
        one.say(0, 2)
        self.assertEqual(told(other, 2), told(filled(3, 2), 2))
        self.assertEqual(one.add(), 2)
        self.assertEqual(other.add(), 2)


class Ties(unittest.TestCase):
    def test_a_tie_leads_from_the_first_one_to_the_other_one(self):
        for size in range(1, 9):
            joins = filled(size, 2)
            self.assertIs(joins.tie(0, 1, ring(size)), True)
            self.assertEqual(joins.pairs(0, 1), sorted((at, (at + 1) % size) for at in range(size)))
            self.assertEqual(joins.pairs(1, 0), sorted(((at + 1) % size, at) for at in range(size)))
            self.assertIs(joins.say(0, size - 1), True)
            self.assertEqual(joins.open_at(1), [0])

    def test_ties_one_after_another(self):
        joins = filled(5, 4)
        for one in range(3):
            self.assertIs(joins.tie(one, one + 1, ring(5)), True)
        self.assertEqual(joins.pairs(0, 3), [(0, 3), (1, 4), (2, 0), (3, 1), (4, 2)])
        self.assertEqual(joins.dealt(), 5)
        self.assertIs(joins.say(3, 1), True)
        self.assertEqual([joins.open_at(one) for one in range(4)], [[3], [4], [0], [1]])

    def test_ties_are_gone_either_way(self):
        # From 0 to 1, back to 2, on to 3: each by a turning that is not its own turning back.
        joins = filled(3, 4)
        joins.tie(0, 1, (1, 2, 0))
        joins.tie(2, 1, (0, 2, 1))
        joins.tie(2, 3, (2, 0, 1))
        self.assertEqual(joins.pairs(0, 1), [(0, 1), (1, 2), (2, 0)])
        self.assertEqual(joins.pairs(0, 2), [(0, 2), (1, 1), (2, 0)])
        self.assertEqual(joins.pairs(0, 3), [(0, 1), (1, 0), (2, 2)])

    def test_two_groups_are_tied_by_members_that_are_no_heads(self):
        joins, plain = filled(4, 4), AllDealings(4)
        for number in range(4):
            plain.add()
        for deed in ((0, 1, (1, 2, 3, 0)), (3, 2, (1, 0, 3, 2)), (1, 2, (2, 0, 1, 3)), (3, 0, (1, 2, 0, 3))):
            self.assertIs(do(joins, deed), do(plain, deed))
            self.assertEqual(told(joins, 4), told(plain, 4))

    def test_a_second_tie_narrows(self):
        joins = filled(4, 2)
        self.assertIs(joins.tie(0, 1, (0, 1, 2, 3)), True)
        self.assertIs(joins.tie(0, 1, (0, 2, 1, 3)), True)
        self.assertEqual(joins.open_at(0), [0, 3])
        self.assertEqual(joins.open_at(1), [0, 3])
        self.assertIs(joins.tie(1, 0, (3, 1, 2, 0)), False)
        self.assertIs(joins.tie(1, 0, (2, 1, 0, 3)), True)
        self.assertEqual(joins.pairs(0, 1), [(3, 3)])

    def test_a_tie_that_leaves_none_changes_nothing(self):
        for size in range(2, 9):
            joins = filled(size, 3)
            joins.tie(0, 1, ring(size))
            joins.tie(1, 2, turned(size))
            before = told(joins, 3)
            # A round that would lead each section of the first one one further.
            self.assertIs(joins.tie(0, 1, ring(size, 2)), False)
            self.assertIs(joins.tie(1, 0, still(size)), False)
            self.assertEqual(told(joins, 3), before)
            self.assertIs(joins.tie(1, 0, back(ring(size))), True)
            self.assertEqual(told(joins, 3), before)

    def test_a_tie_of_two_groups_that_leaves_none_keeps_them_apart(self):
        joins = filled(3, 4)
        joins.tie(0, 1, ring(3))
        joins.tie(2, 3, ring(3))
        joins.say(0, 0)
        joins.say(2, 0)
        before = told(joins, 4)
        self.assertIs(joins.tie(1, 3, ring(3)), False)
        self.assertIs(joins.tie(3, 0, still(3)), False)
        self.assertEqual(told(joins, 4), before)
        self.assertIs(joins.together(1, 3), False)
        self.assertIs(joins.tie(3, 1, still(3)), True)
        self.assertIs(joins.together(1, 3), True)

    def test_told_again(self):
        for size in range(1, 9):
            joins = filled(size, 3)
            deeds = [(0, 1, ring(size)), (2, 1, turned(size)), (2, 0)]
            for deed in deeds:
                self.assertIs(do(joins, deed), True)
                before = told(joins, 3)
                self.assertIs(do(joins, deed), True)
                self.assertEqual(told(joins, 3), before)
            for deed in deeds + deeds[::-1]:
                self.assertIs(do(joins, deed), True)
                self.assertEqual(told(joins, 3), before)

    def test_a_tie_of_one_to_itself(self):
        joins = filled(4, 2)
        joins.tie(0, 1, ring(4))
        self.assertIs(joins.tie(0, 0, still(4)), True)
        self.assertEqual(joins.open_at(0), [0, 1, 2, 3])
        before = told(joins, 2)
        self.assertIs(joins.tie(0, 0, ring(4)), False)
        self.assertIs(joins.tie(1, 1, (1, 0, 3, 2)), False)
        self.assertEqual(told(joins, 2), before)
        self.assertIs(joins.tie(0, 0, (0, 2, 1, 3)), True)
        self.assertEqual(joins.open_at(0), [0, 3])
        self.assertEqual(joins.open_at(1), [0, 1])
        self.assertIs(joins.tie(0, 0, (3, 1, 2, 0)), False)
        self.assertEqual(joins.open_at(0), [0, 3])

    def test_each_turning_of_one_to_itself(self):
        for size in range(1, 6):
            for turn in all_turns(size):
                joins = filled(size, 1)
                fixed = [section for section in range(size) if turn[section] == section]
                self.assertEqual(joins.left(0, 0, turn), fixed)
                self.assertEqual(joins.dealt_with(0, 0, turn), len(fixed))
                self.assertIs(joins.tie(0, 0, turn), fixed != [])
                self.assertEqual(joins.open_at(0), fixed or list(range(size)))


class Sayings(unittest.TestCase):
    def test_a_saying_that_fits(self):
        for size in range(1, 9):
            for section in range(size):
                joins = filled(size, 2)
                self.assertIs(joins.say(1, section), True)
                self.assertEqual(joins.open_at(1), [section])
                self.assertEqual(joins.open_at(0), list(range(size)))
                self.assertEqual(joins.dealt(), size)

    def test_a_saying_that_does_not_fit_changes_nothing(self):
        for size in range(2, 9):
            joins = filled(size, 2)
            joins.tie(0, 1, ring(size))
            joins.say(0, 0)
            before = told(joins, 2)
            for section in range(size):
                self.assertIs(joins.say(0, section), section == 0)
                self.assertIs(joins.say(1, section), section == 1)
            self.assertEqual(told(joins, 2), before)

    def test_sayings_narrow_all_who_are_together(self):
        joins = filled(4, 4)
        joins.tie(1, 0, (1, 2, 3, 0))
        joins.tie(1, 2, (3, 2, 1, 0))
        joins.say(2, 1)
        self.assertEqual([joins.open_at(one) for one in range(4)], [[3], [2], [1], [0, 1, 2, 3]])


class AgainstPlainCounting(unittest.TestCase):
    def check(self, joins, plain, turns):
        people = plain.people
        self.assertEqual(told(joins, people), told(plain, people))
        before = told(joins, people)
        for one, other in itertools.product(range(people), repeat=2):
            for turn in turns:
                self.assertEqual(joins.left(one, other, turn), plain.left(one, other, turn))
                self.assertEqual(joins.dealt_with(one, other, turn), plain.dealt_with(one, other, turn))
        self.assertEqual(told(joins, people), before)

    def test_rows_of_ties_and_sayings(self):
        for size, people in FEW_PEOPLE.items():
            for seed in range(6):
                chance = random.Random(100 * size + seed)
                joins, plain = Joins(size), AllDealings(size)
                for number in range(people):
                    self.assertEqual(joins.add(), plain.add())
                turns = [still(size), ring(size), tuple(chance.sample(range(size), size))]
                for deed in some_deeds(chance, size, people, 9):
                    with self.subTest(size=size, seed=seed, deed=deed):
                        self.assertIs(do(joins, deed), do(plain, deed))
                        self.check(joins, plain, turns)

    def test_people_who_come_between_ties(self):
        for seed in range(20):
            chance = random.Random(seed)
            size = chance.randint(2, 4)
            joins, plain = Joins(size), AllDealings(size)
            for people in range(1, 6):
                self.assertEqual(joins.add(), plain.add())
                for deed in some_deeds(chance, size, people, 2):
                    self.assertIs(do(joins, deed), do(plain, deed))
                self.check(joins, plain, [turned(size)])

    def test_each_three_ties_of_two_sections(self):
        ties = [(one, other, turn) for one in range(3) for other in range(3) for turn in all_turns(2)]
        for deeds in itertools.product(ties, repeat=3):
            joins, plain = Joins(2), AllDealings(2)
            for number in range(3):
                joins.add()
                plain.add()
            for deed in deeds:
                self.assertIs(do(joins, deed), do(plain, deed))
            self.assertEqual(told(joins, 3), told(plain, 3))

    def test_each_two_ties_of_three_sections(self):
        for first, second in itertools.product(all_turns(3), repeat=2):
            for one, other in itertools.product(range(2), repeat=2):
                joins, plain = filled(3, 2), AllDealings(3)
                plain.add()
                plain.add()
                for deed in ((0, 1, first), (one, other, second)):
                    self.assertIs(do(joins, deed), do(plain, deed))
                self.assertEqual(told(joins, 2), told(plain, 2))


class Kinds(unittest.TestCase):
    def setUp(self):
        self.joins = filled(4, 4)
        self.joins.tie(0, 1, (3, 1, 0, 2))
        self.joins.tie(0, 0, (0, 2, 1, 3))

    def test_rising_lists(self):
        self.assertEqual(self.joins.open_at(1), [2, 3])
        self.assertEqual(self.joins.left(1, 2, turned(4)), [2, 3])
        self.assertEqual(self.joins.pairs(0, 1), [(0, 3), (3, 2)])
        self.assertEqual(self.joins.pairs(1, 0), [(2, 3), (3, 0)])
        self.assertEqual(self.joins.pairs(1, 2), [(first, second) for first in (2, 3) for second in range(4)])
        for pair in self.joins.pairs(0, 1) + self.joins.pairs(1, 2):
            self.assertIsInstance(pair, tuple)

    def test_left_may_be_empty(self):
        self.assertEqual(self.joins.left(0, 1, (1, 0, 2, 3)), [])
        self.assertEqual(self.joins.left(0, 0, (1, 0, 3, 2)), [])
        self.assertEqual(self.joins.dealt_with(0, 1, (1, 0, 2, 3)), 0)
        self.joins.say(2, 1)
        self.joins.say(3, 1)
        self.assertEqual(self.joins.left(2, 3, ring(4)), [])
        self.assertEqual(self.joins.left(2, 3, still(4)), [1])

    def test_what_was_told_is_not_kept(self):
        before = told(self.joins, 4)
        self.joins.open_at(0).clear()
        self.joins.open_at(2).append(9)
        self.joins.pairs(0, 1).clear()
        self.joins.pairs(1, 1).reverse()
        self.joins.pairs(2, 3).pop()
        self.joins.left(0, 1, (3, 1, 0, 2)).clear()
        self.joins.left(2, 3, still(4)).append(0)
        self.assertEqual(told(self.joins, 4), before)

    def test_asking_changes_nothing(self):
        before = told(self.joins, 4)
        for one, other in itertools.product(range(4), repeat=2):
            for turn in all_turns(4):
                self.joins.left(one, other, turn)
                self.joins.dealt_with(one, other, turn)
        self.assertEqual(told(self.joins, 4), before)


class Together(unittest.TestCase):
    def test_each_one_is_together_with_itself(self):
        joins = filled(2, 3)
        for one, other in itertools.product(range(3), repeat=2):
            self.assertIs(joins.together(one, other), one == other)

    def test_by_a_row_of_ties_either_way_round(self):
        joins = filled(3, 7)
        # 0 to 1, 2 to 1, 2 to 3; 5 to 4; 6 is tied to nobody but itself.
        for one, other in ((0, 1), (2, 3), (2, 1), (5, 4), (6, 6)):
            self.assertIs(joins.tie(one, other, still(3)), True)
        for one, other in itertools.product(range(7), repeat=2):
            groups = [{0, 1, 2, 3}, {4, 5}, {6}]
            self.assertIs(joins.together(one, other), any({one, other} <= group for group in groups))

    def test_sayings_bring_nobody_together(self):
        joins = filled(2, 2)
        joins.say(0, 1)
        joins.say(1, 1)
        self.assertIs(joins.together(0, 1), False)
        self.assertIs(joins.together(1, 0), False)

    def test_one_head_for_those_who_are_together(self):
        for seed in range(10):
            joins, chance = filled(4, 9), random.Random(seed)
            for deed in some_deeds(chance, 4, 9, 6):
                do(joins, deed)
                for one, other in itertools.product(range(9), repeat=2):
                    self.assertIs(joins.head_of(one) == joins.head_of(other), joins.together(one, other))


class OtherOrders(unittest.TestCase):
    def test_the_same_in_another_order(self):
        for size in range(1, 9):
            for seed in range(5):
                chance = random.Random(1000 * size + seed)
                joins = filled(size, 8)
                deeds = [deed for deed in some_deeds(chance, size, 8, 14) if do(joins, deed)]
                for turn in range(4):
                    chance.shuffle(deeds)
                    again = filled(size, 8)
                    for deed in deeds:
                        self.assertIs(do(again, deed), True)
                    self.assertEqual(told(again, 8), told(joins, 8))

    def test_ties_told_from_the_other_side(self):
        for seed in range(20):
            chance = random.Random(seed)
            joins, turned_round = filled(5, 6), filled(5, 6)
            for one, other, turn in [deed for deed in some_deeds(chance, 5, 6, 12) if len(deed) == 3]:
                self.assertIs(joins.tie(one, other, turn), turned_round.tie(other, one, back(turn)))
            self.assertEqual(told(joins, 6), told(turned_round, 6))


class Many(unittest.TestCase):
    def test_counts_with_many_figures(self):
        with soon():
            joins = filled(8, 200)
            self.assertEqual(joins.dealt(), 8 ** 200)
            self.assertEqual(joins.dealt_with(0, 199, ring(8)), 8 ** 199)
            self.assertEqual(joins.dealt_with(5, 5, still(8)), 8 ** 200)
            self.assertEqual(joins.dealt_with(5, 5, ring(8)), 0)
            self.assertEqual(joins.dealt_with(5, 5, (1, 0, 2, 3, 4, 5, 6, 7)), 8 ** 199 * 6)
            joins.tie(0, 1, ring(8))
            joins.say(2, 7)
            self.assertEqual(joins.dealt(), 8 ** 198)
            self.assertEqual(joins.dealt_with(1, 2, still(8)), 8 ** 197)

    def test_a_long_row_of_ties(self):
        with soon():
            for numbers in (list(range(2000)), list(range(2000))[::-1]):
                joins = filled(8, 2000)
                for one, other in zip(numbers, numbers[1:]):
                    self.assertIs(joins.tie(one, other, ring(8)), True)
                first, last = numbers[0], numbers[-1]
                self.assertEqual(joins.pairs(first, last), [(at, (at + 1999) % 8) for at in range(8)])
                self.assertEqual(joins.dealt(), 8)
                self.assertIs(joins.tie(last, first, ring(8, -1998)), False)
                self.assertIs(joins.tie(last, first, ring(8, -1999)), True)
                self.assertIs(joins.say(first, 3), True)
                self.assertEqual(joins.open_at(last), [(3 + 1999) % 8])

    def test_a_book_of_the_greatest_size(self):
        with soon():
            for seed in range(5):
                chance = random.Random(seed)
                # A dealing to begin with: ties that it keeps leave it, in whatever order they come.
                dealing = [chance.randrange(8) for one in range(200)]
                joins = filled(8, 200)
                for tie in range(400):
                    one, other = chance.randrange(200), chance.randrange(200)
                    turn = chance.sample(range(8), 8)
                    at = turn.index(dealing[other])
                    turn[at], turn[dealing[one]] = turn[dealing[one]], turn[at]
                    many = joins.dealt_with(one, other, tuple(turn))
                    self.assertIn(dealing[one], joins.left(one, other, tuple(turn)))
                    self.assertIs(joins.tie(one, other, tuple(turn)), True)
                    self.assertEqual(joins.dealt(), many)
                    self.assertIn((dealing[one], dealing[other]), joins.pairs(one, other))
                for one in range(200):
                    self.assertIn(dealing[one], joins.open_at(one))
                    self.assertIs(joins.say(one, dealing[one]), True)
                self.assertEqual(joins.dealt(), 1)

    def test_groups_of_many(self):
        with soon():
            joins = filled(7, 150)
            for one in range(0, 150, 3):
                joins.tie(one, one + 1, ring(7))
                joins.tie(one + 2, one + 1, ring(7, 2))
            self.assertEqual(joins.dealt(), 7 ** 50)
            joins.tie(0, 149, still(7))
            self.assertEqual(joins.dealt(), 7 ** 49)
            self.assertIs(joins.together(2, 148), True)
            self.assertIs(joins.together(2, 146), False)


if __name__ == "__main__":
    unittest.main()
