"""Lands: point 8, the letters of point 9, and kinhearth/land.py of the interface."""

import itertools
import unittest

from kinhearth.errors import BadLand, BadTurn, BadWord, NoSection, Unequal
from kinhearth.land import Land, alike_lands, cousins, land_of, man_line, renamed, woman_line
from tests.helper import CROOKED, FIFTY, KARIERA, LANDS, RING, all_lands, all_turns, great_lands, soon


class Making(unittest.TestCase):
    def test_size_and_turnings(self):
        self.assertEqual(KARIERA.size, 4)
        self.assertEqual(KARIERA.mother, (2, 3, 0, 1))
        self.assertEqual(KARIERA.father, (3, 2, 1, 0))
        self.assertEqual(KARIERA.wife, (1, 0, 3, 2))
        for land in LANDS:
            for turn in (land.mother, land.father, land.wife):
                self.assertIsInstance(turn, tuple)
                self.assertEqual(len(turn), land.size)

    def test_each_size_from_two_to_eight(self):
        self.assertEqual([land.size for land in great_lands()], [2, 3, 4, 5, 6, 7, 8])

    def test_each_three_turnings_of_a_small_size(self):
        for size in (2, 3):
            for mother, father, wife in itertools.product(all_turns(size), repeat=3):
                wrong = [man for man in range(size) if father[man] != mother[wife[man]]]
                if not wrong:
                    land = Land(mother, father, wife)
                    self.assertEqual((land.mother, land.father, land.wife), (mother, father, wife))
                    continue
                with self.assertRaises(Unequal) as caught:
                    Land(mother, father, wife)
                self.assertEqual(caught.exception.section, wrong[0])

    def test_unequal_has_the_least_section_of_a_man(self):
        cases = [
            ((0, 1), (1, 0), (0, 1), 0),
            ((0, 1, 2, 3), (0, 1, 3, 2), (0, 1, 2, 3), 2),
            ((0, 1, 2, 3), (0, 2, 1, 3), (0, 1, 2, 3), 1),
            # The wrong ones are men of 1 and 2, whose wives are of 0 and 3.
            ((2, 0, 1, 3), (0, 3, 2, 1), (1, 0, 3, 2), 1),
            ((0, 1, 2, 3, 4, 5, 6, 7), (0, 1, 2, 3, 4, 5, 7, 6), (0, 1, 2, 3, 4, 5, 6, 7), 6),
        ]
        for mother, father, wife, section in cases:
            with self.subTest(mother=mother, father=father, wife=wife):
                with self.assertRaises(Unequal) as caught:
                    Land(mother, father, wife)
                self.assertEqual(caught.exception.section, section)

    def test_refuses_rows_that_are_no_turnings(self):
        wrong = [(0, 0), (1, 2), (-1, 0), (0, FIFTY), (0, -FIFTY), (True, False)]
        for row in wrong:
            for rows in itertools.permutations([row, (1, 0), (1, 0)]):
                with self.subTest(rows=rows):
                    self.assertRaises(BadLand, Land, *rows)

    def test_refuses_unlike_sizes(self):
        for rows in itertools.product([(0, 1), (1, 2, 0), (0, 1, 2, 3)], repeat=3):
            if len({len(row) for row in rows}) > 1:
                with self.subTest(rows=rows):
                    self.assertRaises(BadLand, Land, *rows)

    def test_refuses_sizes_out_of_two_to_eight(self):
        for size in (0, 1, 9):
            turn = tuple(range(size))
            self.assertRaises(BadLand, Land, turn, turn, turn)

    def test_bad_land_comes_ahead_of_unequal(self):
        nine, swapped = tuple(range(9)), (1, 0) + tuple(range(2, 9))
        self.assertRaises(BadLand, Land, nine, swapped, nine)
        self.assertRaises(BadLand, Land, (1, 0, 2), (0, 1, 1), (0, 1, 2))
        self.assertRaises(BadLand, Land, (0, 1), (1, 0), (0, 1, 2))


class Steps(unittest.TestCase):
    def test_each_letter(self):
        self.assertEqual(CROOKED.step("c"), (1, 2, 3, 4, 0))
        self.assertEqual(CROOKED.step("k"), (2, 4, 3, 0, 1))
        self.assertEqual(CROOKED.step("w"), (1, 3, 2, 4, 0))
        self.assertEqual(CROOKED.step("m"), (4, 0, 1, 2, 3))
        self.assertEqual(CROOKED.step("f"), (3, 4, 0, 2, 1))
        self.assertEqual(CROOKED.step("h"), (4, 0, 2, 1, 3))
        self.assertEqual(CROOKED.step("s"), (0, 1, 2, 3, 4))

    def test_there_and_back_in_each_land(self):
        for land in LANDS:
            self.assertEqual((land.step("c"), land.step("k"), land.step("w")), (land.mother, land.father, land.wife))
            for there, home in ("cm", "kf", "wh", "mc", "fk", "hw", "ss"):
                self.assertIsInstance(land.step(there), tuple)
                for section in range(land.size):
                    self.assertEqual(land.step(home)[land.step(there)[section]], section)

    def test_refuses_any_other_text(self):
        signs = [chr(code) for code in range(32, 127) if chr(code) not in "mfckwhs%"]
        for text in signs + ["", "mm", "mf", "cs", " m", "m ", "m\n", "\n", "M", "S", "mother", "m" * 200]:
            with self.subTest(text=text):
                self.assertRaises(BadWord, KARIERA.step, text)


class OfTwo(unittest.TestCase):
    def test_the_one_land_of_two_turnings(self):
        for land in LANDS:
            told = land_of(land.mother, land.wife)
            self.assertEqual((told.size, told.mother, told.father, told.wife),
                             (land.size, land.mother, land.father, land.wife))
            self.assertIsInstance(told.father, tuple)

    def test_the_fathers_turning(self):
        self.assertEqual(land_of((1, 2, 0), (0, 2, 1)).father, (1, 0, 2))
        self.assertEqual(land_of((0, 2, 1), (1, 2, 0)).father, (2, 1, 0))

    def test_refuses_where_there_is_none(self):
        nine = tuple(range(9))
        cases = [
            ((0, 0), (0, 1)), ((0, 1), (0, 0)), ((1, 2), (1, 0)), ((1, 0), (-1, 0)), ((0, FIFTY), (0, 1)),
            ((0, 1), (0, 1, 2)), ((0, 1, 2), (0, 1)), ((), ()), ((0,), (0,)), (nine, nine), ((), (0, 1)),
            ((0, 1), ()), (nine, nine[:8]), (nine[:8], nine), ((0, 1, 1), (0, 1, 2)),
        ]
        for mother, wife in cases:
            with self.subTest(mother=mother, wife=wife):
                self.assertRaises(BadLand, land_of, mother, wife)


class Alike(unittest.TestCase):
    def test_lands_of_the_same_turnings(self):
        for land in LANDS:
            self.assertIs(alike_lands(land, land), True)
            self.assertIs(alike_lands(land, Land(land.mother, land.father, land.wife)), True)

    def test_each_two_lands(self):
        lands = all_lands(3)
        for one, other in itertools.product(lands, repeat=2):
            same = (one.mother, one.father, one.wife) == (other.mother, other.father, other.wife)
            self.assertIs(alike_lands(one, other), same)

    def test_one_turning_alike_is_not_enough(self):
        self.assertIs(alike_lands(land_of((0, 1), (0, 1)), land_of((0, 1), (1, 0))), False)
        self.assertIs(alike_lands(land_of((0, 1), (1, 0)), land_of((1, 0), (1, 0))), False)
        self.assertIs(alike_lands(land_of((0, 1), (1, 0)), land_of((1, 0), (0, 1))), False)

    def test_other_sizes(self):
        self.assertIs(alike_lands(land_of((0, 1), (0, 1)), land_of((0, 1, 2), (0, 1, 2))), False)


class Renamed(unittest.TestCase):
    def test_one_land(self):
        told = renamed(RING, (1, 0, 2))
        self.assertEqual(told.mother, (0, 1, 2))
        self.assertEqual(told.father, (2, 0, 1))
        self.assertEqual(told.wife, (2, 0, 1))
        told = renamed(CROOKED, (1, 2, 3, 4, 0))
        self.assertEqual(told.wife, (1, 2, 4, 3, 0))

    def test_each_section_is_called_what_it_is_led_to(self):
        for land in LANDS:
            for turn in all_turns(land.size)[::max(1, len(all_turns(land.size)) // 12)]:
                told = renamed(land, turn)
                self.assertEqual(told.size, land.size)
                for letter in "mfckwhs":
                    for section in range(land.size):
                        self.assertEqual(told.step(letter)[turn[section]], turn[land.step(letter)[section]])
                home = tuple(turn.index(section) for section in range(land.size))
                self.assertTrue(alike_lands(renamed(told, home), land))

    def test_the_land_stays(self):
        renamed(CROOKED, (4, 3, 2, 1, 0))
        self.assertEqual((CROOKED.mother, CROOKED.father, CROOKED.wife),
                         ((1, 2, 3, 4, 0), (2, 4, 3, 0, 1), (1, 3, 2, 4, 0)))

    def test_still_leaves_the_land(self):
        for land in LANDS:
            self.assertTrue(alike_lands(renamed(land, tuple(range(land.size))), land))

    def test_refuses_what_is_no_turning_of_the_size(self):
        wrong = [(), (0,), (0, 1), (0, 1, 2, 3), tuple(range(9)), (0, 1, 1), (1, 2, 3), (-1, 0, 1), (0, 1, FIFTY)]
        for turn in wrong:
            with self.subTest(turn=turn):
                self.assertRaises(BadTurn, renamed, RING, turn)


class Lines(unittest.TestCase):
    def test_no_step_and_one_step(self):
        for land in LANDS:
            for section in range(land.size):
                self.assertEqual(woman_line(land, section, 0), section)
                self.assertEqual(man_line(land, section, 0), section)
                self.assertEqual(woman_line(land, section, 1), land.mother[section])
                self.assertEqual(man_line(land, section, 1), land.father[section])

    def test_steps_down_and_up(self):
        for land in LANDS:
            for line, turn in ((woman_line, land.mother), (man_line, land.father)):
                for first in range(land.size):
                    section = first
                    for many in range(12):
                        self.assertEqual(line(land, first, many), section)
                        self.assertEqual(line(land, section, -many), first)
                        section = turn[section]

    def test_one_step_up(self):
        self.assertEqual(woman_line(CROOKED, 0, -1), 4)
        self.assertEqual(man_line(CROOKED, 0, -1), 3)

    def test_counts_of_fifty_figures_are_told_soon(self):
        with soon():
            for land in great_lands():
                for section in range(land.size):
                    self.assertEqual(woman_line(land, section, FIFTY), (section + FIFTY) % land.size)
                    self.assertEqual(woman_line(land, section, -FIFTY), (section - FIFTY) % land.size)
                    for many in (FIFTY, -FIFTY):
                        # The fathers' turning of these lands is its own turning back.
                        self.assertEqual(man_line(land, section, many), man_line(land, section, many % 2))

    def test_refuses_what_is_no_section(self):
        for land in great_lands():
            for line in (woman_line, man_line):
                for section in (-1, -land.size, land.size, land.size + 1, FIFTY, -FIFTY):
                    for many in (0, 1, -1, FIFTY):
                        with self.subTest(size=land.size, section=section, many=many):
                            self.assertRaises(NoSection, line, land, section, many)


class Cousins(unittest.TestCase):
    def test_both_kinds(self):
        self.assertEqual(cousins(KARIERA), ([0, 1, 2, 3], [0, 1, 2, 3]))

    def test_the_mothers_side_alone(self):
        self.assertEqual(cousins(RING), ([0, 1, 2], []))

    def test_the_fathers_side_alone(self):
        self.assertEqual(cousins(Land((0, 2, 1), (2, 1, 0), (1, 2, 0))), ([], [0, 1, 2]))

    def test_some_sections_alone(self):
        self.assertEqual(cousins(Land((0, 1, 3, 2), (1, 3, 2, 0), (1, 2, 3, 0))), ([0], [2]))

    def test_by_the_words_of_the_interface(self):
        for land in LANDS:
            told = cousins(land)
            self.assertIsInstance(told, tuple)
            by_mother, by_father = [], []
            for man in range(land.size):
                mother, father = land.mother.index(man), land.father.index(man)
                if land.father[mother] == land.wife[man]:
                    by_mother.append(man)
                if land.mother[father] == land.wife[man]:
                    by_father.append(man)
            self.assertEqual(told, (by_mother, by_father))

    def test_what_was_told_is_not_kept(self):
        cousins(RING)[0].clear()
        self.assertEqual(cousins(RING), ([0, 1, 2], []))


if __name__ == "__main__":
    unittest.main()
