"""Words of kin: point 9, and kinhearth/terms.py of the interface."""

import itertools
import random
import unittest

from kinhearth.errors import BadWord, TooMany
from kinhearth.land import land_of
from kinhearth.terms import alike, least_words, shortest, turn_of, way_back
from kinhearth.turns import back, still
from tests.helper import CROOKED, KARIERA, LANDS, RING, all_lands, great_lands, soon

LETTERS = "cfhkmsw"
NO_LETTERS = [chr(code) for code in range(32, 127) if chr(code) not in LETTERS + "%"] + ["\n"]
# Lands of 24, 168, 720 and 1344 turnings, all of which words have.
ALL_OF_FOUR = land_of((1, 2, 3, 0), (1, 0, 2, 3))
OF_168 = land_of((0, 2, 4, 6, 3, 1, 7, 5), (0, 1, 3, 2, 4, 5, 7, 6))
ALL_OF_SIX = land_of((1, 2, 3, 4, 5, 0), (1, 0, 2, 3, 4, 5))
OF_1344 = land_of((1, 3, 5, 7, 2, 0, 6, 4), (0, 1, 3, 2, 4, 5, 7, 6))
ALL_OF_EIGHT = land_of((1, 2, 3, 4, 5, 6, 7, 0), (1, 0, 2, 3, 4, 5, 6, 7))
COUNTED = [(ALL_OF_FOUR, 24), (OF_168, 168), (ALL_OF_SIX, 720), (OF_1344, 1344)]


def led(land, letter, section):
    """Where a letter leads a section, by the words of point 9."""
    if letter in "ckw":
        return {"c": land.mother, "k": land.father, "w": land.wife}[letter][section]
    if letter in "mfh":
        return {"m": land.mother, "f": land.father, "h": land.wife}[letter].index(section)
    return section


def walked(land, word):
    """The turning of a word, section by section and letter by letter."""
    ends = []
    for section in range(land.size):
        for letter in word:
            section = led(land, letter, section)
        ends.append(section)
    return tuple(ends)


def some_words(seed, longest, many):
    chance = random.Random(seed)
    return ["".join(chance.choices(LETTERS, k=chance.randint(0, longest))) for word in range(many)]


def words_by_rising_length(land):
    """The least words by a plain search over all words, until no longer ones bring another turning."""
    found = {}
    for length in itertools.count():
        before = len(found)
        for letters in itertools.product(LETTERS, repeat=length):
            found.setdefault(walked(land, letters), "".join(letters))
        if len(found) == before:
            return found


def no_words():
    """Words with one sign that is no letter, at the first, a middle and the last place."""
    words = []
    for sign in NO_LETTERS:
        words += [sign, sign + "mf", "m" + sign + "f", "mf" + sign]
    long_word = "mfckwhs" * 28
    return words + ["x" + long_word, long_word[:98] + "x" + long_word[98:], long_word + "x", "mother", "mm ", "M"]


class TurnOf(unittest.TestCase):
    def test_the_empty_word_leaves_all(self):
        for land in LANDS:
            self.assertEqual(turn_of(land, ""), tuple(range(land.size)))
            self.assertIsInstance(turn_of(land, ""), tuple)

    def test_each_letter(self):
        self.assertEqual(turn_of(CROOKED, "c"), (1, 2, 3, 4, 0))
        self.assertEqual(turn_of(CROOKED, "k"), (2, 4, 3, 0, 1))
        self.assertEqual(turn_of(CROOKED, "w"), (1, 3, 2, 4, 0))
        self.assertEqual(turn_of(CROOKED, "m"), (4, 0, 1, 2, 3))
        self.assertEqual(turn_of(CROOKED, "f"), (3, 4, 0, 2, 1))
        self.assertEqual(turn_of(CROOKED, "h"), (4, 0, 2, 1, 3))
        self.assertEqual(turn_of(CROOKED, "s"), (0, 1, 2, 3, 4))
        for land in LANDS:
            for letter in LETTERS:
                self.assertEqual(turn_of(land, letter), walked(land, letter))

    def test_the_first_letter_comes_first(self):
        # From 0 to the mother's 4 and her husband's 3; the other way from 0 to 4 and its mother's 3.
        self.assertEqual(turn_of(CROOKED, "mh"), (3, 4, 0, 2, 1))
        self.assertEqual(turn_of(CROOKED, "hm"), (3, 4, 1, 0, 2))
        self.assertEqual(turn_of(CROOKED, "mf"), (1, 3, 4, 0, 2))
        self.assertEqual(turn_of(CROOKED, "fm"), (2, 3, 4, 1, 0))

    def test_each_short_word(self):
        for land in (KARIERA, RING, CROOKED, OF_168):
            for length in range(4):
                for letters in itertools.product(LETTERS, repeat=length):
                    word = "".join(letters)
                    self.assertEqual(turn_of(land, word), walked(land, word))

    def test_long_words_in_lands_of_each_size(self):
        lands = great_lands() + [ALL_OF_FOUR, OF_168, ALL_OF_SIX, OF_1344, ALL_OF_EIGHT]
        self.assertEqual(sorted({land.size for land in lands}), [2, 3, 4, 5, 6, 7, 8])
        words = some_words(1, 200, 40) + [letter * 200 for letter in LETTERS] + ["mfckwhs" * 28 + "wkfm"]
        self.assertEqual(max(len(word) for word in words), 200)
        with soon():
            for land in lands:
                for word in words:
                    told = turn_of(land, word)
                    self.assertIsInstance(told, tuple)
                    self.assertEqual(told, walked(land, word))

    def test_a_word_somewhat_too_long_is_not_refused(self):
        self.assertEqual(turn_of(CROOKED, "c" * 251), CROOKED.mother)

    def test_refuses_any_other_letter(self):
        for land in (KARIERA, CROOKED):
            for word in no_words():
                with self.subTest(word=word):
                    self.assertRaises(BadWord, turn_of, land, word)


class WayBack(unittest.TestCase):
    def test_the_empty_word(self):
        self.assertEqual(way_back(""), "")

    def test_each_letter(self):
        for there, home in ("mc", "cm", "fk", "kf", "wh", "hw", "ss"):
            self.assertEqual(way_back(there), home)

    def test_the_order_is_turned(self):
        self.assertEqual(way_back("mf"), "kc")
        self.assertEqual(way_back("mfs"), "skc")
        self.assertEqual(way_back("mfckwhs"), "swhfmkc")
        self.assertEqual(way_back("mm" + "s" * 196 + "hw"), "hw" + "s" * 196 + "cc")

    def test_twice_back_is_the_word_again(self):
        for word in some_words(2, 200, 100):
            self.assertEqual(way_back(way_back(word)), word)
            self.assertEqual(len(way_back(word)), len(word))

    def test_its_turning_is_the_turning_back(self):
        for land in LANDS + [OF_168, OF_1344]:
            for word in some_words(3, 30, 20):
                self.assertEqual(turn_of(land, way_back(word)), back(turn_of(land, word)))
                self.assertEqual(turn_of(land, word + way_back(word)), still(land.size))

    def test_refuses_any_other_letter(self):
        for word in no_words():
            with self.subTest(word=word):
                self.assertRaises(BadWord, way_back, word)


class Alike(unittest.TestCase):
    def test_words_of_one_turning(self):
        for land in LANDS:
            for one, other in (("", ""), ("", "s"), ("mc", "hw"), ("wc", "k"), ("fw", "m"), ("mh", "f"), ("sms", "m")):
                self.assertIs(alike(land, one, other), True)

    def test_words_of_two_turnings(self):
        for one, other in (("m", "f"), ("mf", "fm"), ("c", "m"), ("w", ""), ("mh", "hm"), ("ccccc", "c")):
            self.assertIs(alike(CROOKED, one, other), False)
            self.assertIs(alike(CROOKED, other, one), False)

    def test_the_same_words_in_two_lands(self):
        self.assertIs(alike(KARIERA, "c", "m"), True)
        self.assertIs(alike(CROOKED, "c", "m"), False)
        self.assertIs(alike(RING, "www", ""), True)
        self.assertIs(alike(KARIERA, "www", ""), False)

    def test_each_two_of_some_words(self):
        for land in LANDS[::5]:
            for one, other in itertools.product(some_words(4, 6, 12), repeat=2):
                self.assertIs(alike(land, one, other), walked(land, one) == walked(land, other))

    def test_refuses_where_one_of_them_is_no_word(self):
        for word in no_words():
            with self.subTest(word=word):
                self.assertRaises(BadWord, alike, KARIERA, word, "m")
                self.assertRaises(BadWord, alike, KARIERA, "m", word)
                self.assertRaises(BadWord, alike, KARIERA, word, word)


class LeastWords(unittest.TestCase):
    def test_some_lands(self):
        self.assertEqual(least_words(land_of((0, 1), (0, 1)), 1), {(0, 1): ""})
        self.assertEqual(least_words(land_of((1, 0), (0, 1)), 2), {(0, 1): "", (1, 0): "c"})
        self.assertEqual(least_words(land_of((0, 1), (1, 0)), 2), {(0, 1): "", (1, 0): "f"})
        self.assertEqual(least_words(land_of((1, 0), (1, 0)), 2), {(0, 1): "", (1, 0): "c"})
        self.assertEqual(least_words(RING, 3), {(0, 1, 2): "", (2, 0, 1): "f", (1, 2, 0): "k"})
        self.assertEqual(least_words(KARIERA, 4),
                         {(0, 1, 2, 3): "", (2, 3, 0, 1): "c", (3, 2, 1, 0): "f", (1, 0, 3, 2): "h"})

    def test_against_a_plain_search_over_all_words(self):
        for land in all_lands(3) + all_lands(4)[::37] + great_lands()[:4] + [KARIERA]:
            with self.subTest(mother=land.mother, wife=land.wife):
                told = least_words(land, 2000)
                self.assertIsInstance(told, dict)
                self.assertEqual(told, words_by_rising_length(land))

    def test_many_turnings(self):
        for land, many in COUNTED:
            with soon():
                told = least_words(land, 2000)
            self.assertEqual(len(told), many)
            self.assertEqual(told[still(land.size)], "")
            for turn, word in told.items():
                self.assertIsInstance(turn, tuple)
                self.assertEqual(walked(land, word), turn)
                # What is left behind the first letter is as short as any that is left behind a letter,
                # and no letter ahead of it by the alphabet leaves as little.
                rests = [len(told[walked(land, way_back(letter) + word)]) for letter in LETTERS]
                if word:
                    self.assertEqual(min(rests), len(word) - 1)
                    self.assertEqual(LETTERS[rests.index(min(rests))], word[0])
                    self.assertEqual(told[walked(land, word[1:])], word[1:])

    def test_too_many_just_where_there_are_more(self):
        for land in all_lands(3) + [KARIERA, ALL_OF_FOUR]:
            many = len(words_by_rising_length(land)) if land.size < 4 else len(least_words(land, 2000))
            for most in range(1, many):
                self.assertRaises(TooMany, least_words, land, most)
            for most in (many, many + 1, 2000):
                self.assertEqual(len(least_words(land, most)), many)
        for land, many in COUNTED:
            self.assertRaises(TooMany, least_words, land, many - 1)
            self.assertEqual(len(least_words(land, many)), many)

    def test_too_many_of_very_many_is_told_soon(self):
        with soon():
            for most in (1, 2, 7, 100, 1999, 2000):
                self.assertRaises(TooMany, least_words, ALL_OF_EIGHT, most)

    def test_what_was_told_is_not_kept(self):
        told = least_words(KARIERA, 4)
        kept = dict(told)
        told.clear()
        told[(0, 1, 2, 3)] = "m"
        self.assertEqual(least_words(KARIERA, 4), kept)
        self.assertEqual(shortest(KARIERA, "s", 4), "")

    def test_the_land_stays(self):
        least_words(CROOKED, 2000)
        self.assertRaises(TooMany, least_words, CROOKED, 2)
        self.assertEqual((CROOKED.mother, CROOKED.father, CROOKED.wife),
                         ((1, 2, 3, 4, 0), (2, 4, 3, 0, 1), (1, 3, 2, 4, 0)))


class Shortest(unittest.TestCase):
    def test_some_words(self):
        self.assertEqual(shortest(KARIERA, "", 4), "")
        self.assertEqual(shortest(KARIERA, "sss", 4), "")
        self.assertEqual(shortest(KARIERA, "m", 4), "c")
        self.assertEqual(shortest(KARIERA, "w", 4), "h")
        self.assertEqual(shortest(RING, "ww", 3), "f")
        self.assertEqual(shortest(RING, "mkwmkw", 3), "k")

    def test_the_least_word_with_the_turning(self):
        for land in all_lands(3) + [KARIERA]:
            found = words_by_rising_length(land)
            for word in some_words(5, 200, 10) + list(LETTERS) + list(found.values()):
                self.assertEqual(shortest(land, word, len(found)), found[walked(land, word)])

    def test_in_great_lands(self):
        for land, many in COUNTED:
            found = least_words(land, many)
            for word in some_words(6, 200, 4):
                self.assertEqual(shortest(land, word, many), found[walked(land, word)])

    def test_too_many_as_least_words(self):
        for land, many in COUNTED + [(KARIERA, 4), (RING, 3)]:
            for word in ("", "s", "m", "mf" * 100):
                self.assertRaises(TooMany, shortest, land, word, many - 1)
                self.assertRaises(TooMany, shortest, land, word, 1)
                self.assertIsInstance(shortest(land, word, many), str)

    def test_refuses_any_other_letter(self):
        for word in no_words():
            with self.subTest(word=word):
                self.assertRaises(BadWord, shortest, RING, word, 3)

    def test_bad_word_comes_ahead_of_too_many(self):
        for word in ("x", "mx", "xm", "mxm", " ", "M"):
            self.assertRaises(BadWord, shortest, KARIERA, word, 1)
            self.assertRaises(BadWord, shortest, ALL_OF_EIGHT, word, 2000)


if __name__ == "__main__":
    unittest.main()
