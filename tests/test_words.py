import inspect
import unittest
from itertools import product

from lookwords.errors import NoLook, NoRoom, NoWords, NoWorths
from lookwords.words import numbered, pairs
from tests.samples import NO_LOOKS, NO_ROOMS, NO_WORDS, ODD_THINGS, near_worths

# For each word its letters at the places -3, -2, -1, 0, 1, 2, written out by hand.
SEEN = {
    "k": "kkkkkk",
    "no": "nnonoo",
    "cat": "catcat",
    "bird": "irdbir",
    "mouse": "usemou",
    "ponies": "iespon",
}
PLACES = range(-3, 3)


class PairsTest(unittest.TestCase):
    def test_names_of_arguments(self):
        self.assertEqual(list(inspect.signature(pairs).parameters), ["words", "look"])
        self.assertEqual(pairs(look=(0, -1), words=("cat",)), [("c", "t")])

    def test_every_place_on_words_of_every_length(self):
        words = tuple(SEEN)
        for one, two in product(PLACES, repeat=2):
            with self.subTest(look=(one, two)):
                asked = [(SEEN[word][one + 3], SEEN[word][two + 3]) for word in words]
                self.assertEqual(pairs(words, (one, two)), asked)
                for word, pair in zip(words, asked):
                    self.assertEqual(pairs((word,), (one, two)), [pair])

    def test_kinds(self):
        seen = pairs(("cat", "dog"), (0, 2))
        self.assertIs(type(seen), list)
        self.assertEqual([type(pair) for pair in seen], [tuple, tuple])

    def test_words_keep_their_order_and_may_be_seen_alike(self):
        self.assertEqual(pairs(("tac", "cat", "cut"), (0, -1)), [("t", "c"), ("c", "t"), ("c", "t")])

    def test_all_letters_from_a_to_z(self):
        for letter in "abcdefghijklmnopqrstuvwxyz":
            self.assertEqual(pairs((letter,), (0, 0)), [(letter, letter)])

    def test_six_words_are_taken(self):
        self.assertEqual(pairs(tuple("fedcba"), (0, -1)), [(letter, letter) for letter in "fedcba"])

    def test_no_words(self):
        for at, wrong in enumerate(NO_WORDS):
            with self.subTest(at), self.assertRaises(NoWords):
                pairs(wrong, (0, 1))

    def test_no_look(self):
        for at, wrong in enumerate(NO_LOOKS):
            with self.subTest(at), self.assertRaises(NoLook):
                pairs(("ab", "bc"), wrong)

    def test_no_words_ahead_of_no_look(self):
        for wrong_words, wrong_look in product(NO_WORDS, NO_LOOKS):
            with self.assertRaises(NoWords):
                pairs(wrong_words, wrong_look)

    def test_told_lists_are_new(self):
        first = pairs(("ab", "bc"), (0, 1))
        first.append("more")
        first[0] = None
        self.assertEqual(pairs(("ab", "bc"), (0, 1)), [("a", "b"), ("b", "c")])


class NumberedTest(unittest.TestCase):
    def test_names_of_arguments(self):
        self.assertEqual(list(inspect.signature(numbered).parameters), ["words", "look", "room", "worths"])
        self.assertEqual(numbered(worths=(("a", 2),), room=5, look=(0, 0), words=("a",)), (4,))

    def test_sums_below_the_room_equal_to_it_and_above(self):
        for one, two, asked in ((3, 6, 9), (3, 7, 0), (3, 8, 1), (9, 9, 8), (0, 0, 0), (0, 9, 9)):
            with self.subTest(worths=(one, two)):
                self.assertEqual(numbered(("ab",), (0, 1), 10, (("a", one), ("b", two))), (asked,))

    def test_every_sum_within_small_rooms(self):
        for room in range(1, 9):
            for one, two in product(range(room), repeat=2):
                worths = (("a", one), ("b", two))
                asked = tuple((sum(pair) % room) for pair in ((one, two), (two, one), (one, one), (two, two)))
                self.assertEqual(numbered(("ab", "ba", "aa", "bb"), (0, 1), room, worths), asked)

    def test_one_letter_twice_counts_twice(self):
        self.assertEqual(numbered(("axa",), (0, -1), 10, (("a", 4),)), (8,))
        self.assertEqual(numbered(("axa",), (0, -1), 10, (("a", 5),)), (0,))
        self.assertEqual(numbered(("axa",), (0, -1), 10, (("a", 6),)), (2,))
        self.assertEqual(numbered(("axb",), (1, 1), 10, (("x", 6),)), (2,))

    def test_least_and_greatest_room(self):
        self.assertEqual(numbered(("ab", "ba"), (0, 1), 1, (("a", 0), ("b", 0))), (0, 0))
        worths = (("a", 98), ("b", 1), ("c", 0))
        self.assertEqual(numbered(("aa", "ab", "ac", "bb", "bc"), (0, 1), 99, worths), (97, 0, 98, 2, 1))

    def test_worths_of_more_letters_than_are_seen(self):
        worths = tuple((letter, at) for at, letter in enumerate("abcdefghijklmnopqrstuvwxyz"))
        self.assertEqual(numbered(("cat", "dog"), (0, -1), 26, worths), (21, 9))

    def test_the_look_is_what_counts(self):
        worths = (("a", 1), ("c", 10), ("t", 30))
        asked = {(0, 1): 11, (1, 2): 31, (0, 2): 40, (-1, -1): 60, (-3, -2): 11, (2, -3): 40}
        for look, number in asked.items():
            self.assertEqual(numbered(("cat",), look, 99, worths), (number,))

    def test_a_tuple_in_the_order_of_the_words(self):
        told = numbered(("cc", "aa", "bb"), (0, 1), 9, (("a", 1), ("b", 2), ("c", 3)))
        self.assertIs(type(told), tuple)
        self.assertEqual(told, (6, 2, 4))

    def test_words_may_have_one_number(self):
        self.assertEqual(numbered(("ab", "ba"), (0, 1), 9, (("a", 1), ("b", 2))), (3, 3))


class NumberedRefusalsTest(unittest.TestCase):
    WORTHS = (("a", 1), ("b", 2), ("c", 3))

    def test_no_words(self):
        for at, wrong in enumerate(NO_WORDS):
            with self.subTest(at), self.assertRaises(NoWords):
                numbered(wrong, (0, 1), 9, self.WORTHS)

    def test_no_look(self):
        for at, wrong in enumerate(NO_LOOKS):
            with self.subTest(at), self.assertRaises(NoLook):
                numbered(("ab", "bc"), wrong, 9, self.WORTHS)

    def test_no_room(self):
        for at, wrong in enumerate(NO_ROOMS):
            with self.subTest(at), self.assertRaises(NoRoom):
                numbered(("ab", "bc"), (0, 1), wrong, self.WORTHS)

    def test_no_worths(self):
        for at, wrong in enumerate(ODD_THINGS + near_worths(self.WORTHS, 9)):
            with self.subTest(at), self.assertRaises(NoWorths):
                numbered(("ab", "bc"), (0, 1), 9, wrong)

    def test_a_number_out_of_the_room(self):
        self.assertEqual(numbered(("aa",), (0, 1), 4, (("a", 3),)), (2,))
        for wrong in (4, 5, -1):
            with self.subTest(wrong), self.assertRaises(NoWorths):
                numbered(("aa",), (0, 1), 4, (("a", wrong),))
        # Also where the letter is not seen.
        with self.assertRaises(NoWorths):
            numbered(("aa",), (0, 1), 4, (("a", 3), ("b", 4)))

    def test_a_letter_that_is_seen_is_lacking(self):
        for left_out in range(3):
            lacking = self.WORTHS[:left_out] + self.WORTHS[left_out + 1:]
            with self.subTest(left_out), self.assertRaises(NoWorths):
                numbered(("ab", "bc"), (0, 1), 9, lacking)
        with self.assertRaises(NoWorths):
            numbered(("ab",), (0, 1), 9, ())
        # A letter of a word that is not seen need not be there.
        self.assertEqual(numbered(("axb",), (0, 2), 9, self.WORTHS), (3,))

    def test_order(self):
        good = (("ab", "bc"), (0, 1), 9, self.WORTHS)
        wrong = (("ab", "ab"), (0, 3), 100, (("b", 0), ("a", 0)))
        for first, refusal in enumerate((NoWords, NoLook, NoRoom, NoWorths)):
            with self.subTest(refusal.__name__), self.assertRaises(refusal):
                numbered(*good[:first], *wrong[first:])


if __name__ == "__main__":
    unittest.main()
