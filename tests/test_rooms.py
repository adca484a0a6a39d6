import inspect
import random
import time
import unittest
from itertools import combinations, permutations, product

from lookwords.errors import Never, NoLook, NoRoom, NoWords
from lookwords.rooms import clash, in_order, least_room, looks, one_to_one
from lookwords.telling import is_telling
from lookwords.words import numbered, pairs
from tests.samples import (ALL_LOOKS, NO_LOOKS, NO_ROOMS, NO_WORDS, first_by_steps, first_one_to_one, letters_in,
                           numbers_that_can_be)

LOOK = (0, 1)
LOOPS = ("aa", "bb", "cc", "dd", "ee", "ff")
FOUR_ALL = ("ab", "ac", "ad", "bc", "bd", "cd")
THREE_ALL = ("aa", "ab", "ac", "bb", "bc", "cc")


def two_letter_words(letters):
    """All ways in which words can be seen as two letters, without a clash."""
    return [one + two for one, two in product(letters, repeat=2) if one <= two]


def some_words(chance, count, letters):
    """Words of two letters without a clash, letters in either order, by a chance that is the same each time."""
    chosen = chance.sample(two_letter_words(letters), count)
    return tuple(word[::chance.choice((1, -1))] for word in chosen)


class ClashTest(unittest.TestCase):
    def test_names_of_arguments(self):
        self.assertEqual(list(inspect.signature(clash).parameters), ["words", "look"])

    def test_none(self):
        for words in (("ab",), ("aa",), ("ab", "ac"), ("aa", "bb"), ("aa", "ab"), ("ab", "aa", "bb"), LOOPS, FOUR_ALL):
            self.assertIsNone(clash(words, LOOK))

    def test_the_same_two_letters(self):
        self.assertEqual(clash(("cat", "cut"), (0, -1)), (0, 1))
        self.assertIsNone(clash(("cat", "cut"), (0, 1)))

    def test_in_the_other_order(self):
        self.assertEqual(clash(("ab", "ba"), LOOK), (0, 1))
        self.assertEqual(clash(("ba", "xy", "ab"), LOOK), (0, 2))

    def test_one_letter_twice(self):
        self.assertEqual(clash(("aa", "aba"), (0, -1)), (0, 1))
        self.assertEqual(clash(("bb", "aa", "aba"), (0, -1)), (1, 2))
        self.assertIsNone(clash(("aa", "ab", "bb"), LOOK))

    def test_three_that_clash(self):
        self.assertEqual(clash(("ab", "ba", "abc"), LOOK), (0, 1))
        self.assertEqual(clash(("xy", "ab", "ba", "abc"), LOOK), (1, 2))

    def test_the_first_word_that_clashes_with_one_ahead(self):
        # Not the first one that clashes with any other.
        self.assertEqual(clash(("ab", "cd", "dc", "ba"), LOOK), (1, 2))
        self.assertEqual(clash(("ab", "cd", "ba", "dc"), LOOK), (0, 2))
        self.assertEqual(clash(("ab", "cd", "ef", "fe", "dc", "ba"), LOOK), (2, 3))

    def test_all_words_of_two_letters(self):
        for words in permutations(("aa", "aab", "ab", "ba", "bb"), 4):
            seen = [sorted(word[:2]) for word in words]
            asked = [(first, second) for second in range(4) for first in range(second) if seen[first] == seen[second]]
            self.assertEqual(clash(words, LOOK), asked[0] if asked else None)

    def test_kind(self):
        self.assertIs(type(clash(("ab", "ba"), LOOK)), tuple)


class OneToOneTest(unittest.TestCase):
    def check(self, words, look, room, asked):
        self.assertEqual(one_to_one(words, look, room), asked, (words, look, room))

    def test_names_of_arguments(self):
        self.assertEqual(list(inspect.signature(one_to_one).parameters), ["words", "look", "room"])

    def test_all_of_up_to_three_words_of_three_letters(self):
        every = [one + two for one, two in product("abc", repeat=2)]
        for count in (1, 2, 3):
            for words in combinations(every, count):
                for room in range(1, 7):
                    self.check(words, LOOK, room, first_one_to_one(pairs(words, LOOK), room))

    def test_all_of_four_words_of_four_letters(self):
        for words in combinations(two_letter_words("abcd"), 4):
            for room in range(3, 8):
                self.check(words, LOOK, room, first_one_to_one(pairs(words, LOOK), room))

    def test_five_and_six_words_of_few_letters(self):
        for count in (5, 6):
            for words in combinations(two_letter_words("abc"), count):
                for room in range(4, 12):
                    self.check(words, LOOK, room, first_one_to_one(pairs(words, LOOK), room))
        for words in list(combinations(two_letter_words("abcd"), 6))[::10] + [FOUR_ALL]:
            for room in (6, 7, 8):
                self.check(words, LOOK, room, first_one_to_one(pairs(words, LOOK), room))

    def test_words_that_clash_with_others_among_them(self):
        for words in (("ab", "ba"), ("aa", "aab"), ("ab", "cd", "dc"), ("cd", "ab", "ef", "ba")):
            for room in (1, 2, 5, 50, 99):
                self.check(words, LOOK, room, None)

    def test_more_letters(self):
        chance = random.Random(6)
        for count, letters in product((4, 5, 6), ("bcdfg", "abdefh", "abcdefgz", "abcdefghijkl")):
            for turn in range(12):
                words = some_words(chance, count, letters)
                for room in (count, count + 1, count + 2, 11):
                    self.check(words, LOOK, room, first_by_steps(pairs(words, LOOK), room))

    def test_every_look(self):
        words = ("a", "ba", "cab", "abcd", "bedcaf")
        for look in ALL_LOOKS:
            for room in (4, 5, 6, 7):
                self.check(words, look, room, first_by_steps(pairs(words, look), room))

    def test_room_of_one(self):
        self.check(("ab",), LOOK, 1, (("a", 0), ("b", 0)))
        self.check(("a",), LOOK, 1, (("a", 0),))
        self.check(("ab", "cd"), LOOK, 1, None)

    def test_room_of_two(self):
        self.check(("ab", "cd"), LOOK, 2, (("a", 0), ("b", 0), ("c", 0), ("d", 1)))
        # Twice a worth is always 0 there.
        self.check(("aa", "bb"), LOOK, 2, None)
        self.check(("aa", "bb"), LOOK, 3, (("a", 0), ("b", 1)))

    def test_room_of_ninety_nine(self):
        self.check(("ab",), LOOK, 99, (("a", 0), ("b", 0)))
        self.check(LOOPS, LOOK, 99, tuple(zip("abcdef", range(6))))
        for words in (FOUR_ALL, THREE_ALL, ("la", "kb", "jc", "id", "he", "gf"), ("ab", "bc", "cd", "de", "ef", "fa")):
            self.check(words, LOOK, 99, first_by_steps(pairs(words, LOOK), 99))
        self.check(FOUR_ALL, LOOK, 99, (("a", 0), ("b", 1), ("c", 2), ("d", 4)))
        self.check(THREE_ALL, LOOK, 99, (("a", 0), ("b", 1), ("c", 3)))

    def test_the_room_is_too_small(self):
        for count in range(1, 7):
            words = ("ag", "bh", "ci", "dj", "ek", "fl")[:count]
            for room in range(1, count):
                self.check(words, LOOK, room, None)
            self.check(words, LOOK, count, first_by_steps(pairs(words, LOOK), count))

    def test_a_greater_room_may_have_none(self):
        # In an even room only even numbers are twice a worth.
        for room in range(6, 15):
            told = one_to_one(LOOPS, LOOK, room)
            self.assertEqual(told is None, room in (6, 8, 10), room)

    def test_just_the_letters_that_are_seen(self):
        told = one_to_one(("cat", "dog"), (0, -1), 5)
        self.assertEqual(told, (("c", 0), ("d", 0), ("g", 0), ("t", 1)))
        self.assertEqual((type(told), [type(part) for part in told]), (tuple, [tuple] * 4))

    def test_refusals(self):
        for at, wrong in enumerate(NO_WORDS):
            with self.subTest(at), self.assertRaises(NoWords):
                one_to_one(wrong, LOOK, 9)
        for at, wrong in enumerate(NO_LOOKS):
            with self.subTest(at), self.assertRaises(NoLook):
                one_to_one(("ab", "ba"), wrong, 9)
        for at, wrong in enumerate(NO_ROOMS):
            with self.subTest(at), self.assertRaises(NoRoom):
                one_to_one(("ab", "ba"), LOOK, wrong)

    def test_order_of_refusals(self):
        good = (("ab", "ba"), LOOK, 9)
        wrong = (("ab", "ab"), (0, 3), 100)
        for first, second in combinations(range(3), 2):
            asked = list(good)
            asked[first], asked[second] = wrong[first], wrong[second]
            with self.assertRaises((NoWords, NoLook, NoRoom)[first]):
                one_to_one(*asked)
        with self.assertRaises(NoWords):
            one_to_one(*wrong)


class LeastRoomTest(unittest.TestCase):
    def check_room_by_room(self, words, look):
        told = least_room(words, look)
        self.assertIs(type(told), int)
        self.assertIsNotNone(one_to_one(words, look, told), words)
        for room in range(1, told):
            self.assertIsNone(one_to_one(words, look, room), (words, look, room))
        return told

    def test_names_of_arguments(self):
        self.assertEqual(list(inspect.signature(least_room).parameters), ["words", "look"])

    def test_written_out(self):
        for words, asked in ((("ab",), 1), (("aa",), 1), (("ab", "cd"), 2), (("aa", "bb"), 3), (LOOPS[:3], 3),
                             (LOOPS[:4], 5), (LOOPS[:5], 5), (LOOPS, 7), (FOUR_ALL, 6), (THREE_ALL, 7),
                             (("ag", "bh", "ci", "dj", "ek", "fl"), 6)):
            self.assertEqual(least_room(words, LOOK), asked, words)

    def test_all_of_up_to_four_words_room_by_room(self):
        for count in (1, 2, 3, 4):
            for words in combinations(two_letter_words("abcd"), count):
                told = self.check_room_by_room(words, LOOK)
                self.assertIsNotNone(first_one_to_one(pairs(words, LOOK), told))
                self.assertIsNone(first_one_to_one(pairs(words, LOOK), told - 1))

    def test_six_words_room_by_room(self):
        chance = random.Random(7)
        for letters in ("abc", "abcd", "abcde", "abcdef", "abcdefgh", "abcdefghijkl"):
            for turn in range(10):
                self.check_room_by_room(some_words(chance, 6, letters), LOOK)

    def test_every_look(self):
        words = ("a", "ba", "cab", "abcd", "bedcaf")
        for look in ALL_LOOKS:
            if clash(words, look) is None:
                self.check_room_by_room(words, look)
            else:
                with self.assertRaises(Never):
                    least_room(words, look)

    def test_never(self):
        for words in (("ab", "ba"), ("ab", "abc"), ("aa", "aab"), ("cd", "ab", "ef", "ba")):
            with self.subTest(words), self.assertRaises(Never):
                least_room(words, LOOK)

    def test_refusals_in_their_order(self):
        for at, wrong in enumerate(NO_LOOKS):
            with self.subTest(at), self.assertRaises(NoLook):
                least_room(("ab", "ba"), wrong)
        for at, wrong in enumerate(NO_WORDS):
            for look in (LOOK, (0, 3)):
                with self.subTest(at), self.assertRaises(NoWords):
                    least_room(wrong, look)

    def test_short_time(self):
        chance = random.Random(8)
        asked = [("al", "bk", "cj", "di", "eh", "fg"), ("mad", "beg", "chi", "jfk", "lap", "own"),
                 ("abcdef", "bcdefg", "cdefgh", "defghi", "efghij", "kl"), LOOPS, FOUR_ALL, THREE_ALL]
        asked += [some_words(chance, 6, letters) for letters in ("abcdef", "abcdefgh", "abcdefghijkl") * 5]
        for words in asked:
            start = time.perf_counter()
            told = least_room(words, LOOK)
            for room in (told, 8, 10, 12, 99):
                one_to_one(words, LOOK, room)
            # Far more than it takes, so that a slow machine does not count as a fault.
            self.assertLess(time.perf_counter() - start, 10, words)


class LooksTest(unittest.TestCase):
    def check(self, words):
        told = looks(words)
        self.assertIs(type(told), list)
        self.assertEqual([type(look) for look in told], [tuple] * len(told))
        asked = [look for look in ALL_LOOKS if one_to_one(words, look, len(words)) is not None]
        self.assertEqual(told, asked, words)
        return told

    def test_names_of_arguments(self):
        self.assertEqual(list(inspect.signature(looks).parameters), ["words"])

    def test_all_thirty_six(self):
        for words in (("cat", "dog"), ("cat", "dog", "tag"), ("cat", "cut", "tac"), ("abcdef", "fedcba"), ("aa", "bb"),
                      ("a", "ba", "cab", "abcd", "bedcaf"), ("mad", "beg", "chi", "jfk", "lap", "own"), LOOPS, FOUR_ALL):
            self.check(words)

    def test_by_all_worths(self):
        words = ("ab", "cab", "abca")
        asked = [look for look in ALL_LOOKS if first_one_to_one(pairs(words, look), 3) is not None]
        self.assertEqual(looks(words), asked)
        self.assertNotIn(asked, ([], ALL_LOOKS))

    def test_rising(self):
        told = looks(("cat", "dog", "tag"))
        self.assertEqual(told, sorted(told))
        self.assertGreater(len(told), 1)

    def test_a_word_alone(self):
        for word in ("a", "ab", "aa", "abcdef"):
            self.assertEqual(looks((word,)), ALL_LOOKS)

    def test_none(self):
        self.assertEqual(looks(LOOPS), [])
        self.assertEqual(looks(("aa", "aaa")), [])

    def test_told_lists_are_new(self):
        first = looks(("a",))
        first.clear()
        self.assertEqual(looks(("a",)), ALL_LOOKS)

    def test_no_words(self):
        for at, wrong in enumerate(NO_WORDS):
            with self.subTest(at), self.assertRaises(NoWords):
                looks(wrong)


class InOrderTest(unittest.TestCase):
    def check(self, words, look, asked):
        self.assertIs(in_order(words, look), asked, (words, look))

    def test_names_of_arguments(self):
        self.assertEqual(list(inspect.signature(in_order).parameters), ["words", "look"])

    def test_a_word_alone(self):
        for word in ("a", "aa", "ab"):
            self.check((word,), LOOK, True)

    def test_the_order_counts(self):
        # In a room of 4 the words bb and dd can have even numbers alone.
        self.check(("bb", "ac", "dd", "ae"), LOOK, True)
        self.check(("bb", "dd", "ac", "ae"), LOOK, False)

    def test_up_to_four_words_by_all_worths(self):
        for count in (1, 2, 3):
            for words in permutations(("aa", "ab", "bb", "ac", "ca", "cc"), count):
                can_be = numbers_that_can_be(pairs(words, LOOK), count)
                self.check(words, LOOK, tuple(range(count)) in can_be)
        for words in combinations(two_letter_words("abcd"), 4):
            self.check(words, LOOK, (0, 1, 2, 3) in numbers_that_can_be(pairs(words, LOOK), 4))

    def test_five_and_six_words_by_all_worths(self):
        for words in (("ab", "bc", "cd", "de", "ea"), ("ab", "bc", "cd", "da", "ac"), LOOPS[:5], FOUR_ALL, THREE_ALL,
                      ("ab", "bc", "cd", "da", "ee", "fe"), ("ee", "ab", "fe", "bc", "cd", "da")):
            can_be = numbers_that_can_be(pairs(words, LOOK), len(words))
            self.check(words, LOOK, tuple(range(len(words))) in can_be)

    def test_every_look(self):
        words = ("ab", "cab", "abca", "c")
        for look in ALL_LOOKS:
            self.check(words, look, (0, 1, 2, 3) in numbers_that_can_be(pairs(words, look), 4))

    def test_words_that_clash(self):
        self.check(("ab", "ba"), LOOK, False)

    def test_refusals_in_their_order(self):
        for function in (in_order, clash):
            for at, wrong in enumerate(NO_LOOKS):
                with self.subTest(at), self.assertRaises(NoLook):
                    function(("ab", "ba"), wrong)
            for at, wrong in enumerate(NO_WORDS):
                for look in (LOOK, (0, 3), None):
                    with self.subTest(at), self.assertRaises(NoWords):
                        function(wrong, look)


class TogetherTest(unittest.TestCase):
    def test_worths_that_are_told_have_the_numbers_they_give(self):
        chance = random.Random(9)
        for turn in range(20):
            words = some_words(chance, 6, "abcdefgh")
            room = least_room(words, LOOK)
            told = one_to_one(words, LOOK, room)
            self.assertEqual([letter for letter, number in told], letters_in(pairs(words, LOOK)))
            numbers = numbered(words, LOOK, room, told)
            self.assertEqual(len(set(numbers)), 6)
            self.assertIs(is_telling(words, LOOK, room, numbers, told), True)

    def test_equal_things_give_equal_answers(self):
        for words in (FOUR_ALL, LOOPS, ("cat", "dog", "tag")):
            again = tuple("".join(list(word)) for word in words)
            for room in (7, 9):
                self.assertEqual(one_to_one(words, LOOK, room), one_to_one(again, (0, 1), room))
            self.assertEqual(looks(words), looks(again))


if __name__ == "__main__":
    unittest.main()
