import inspect
import time
import unittest
from itertools import combinations, product

from lookwords.counting import how_many, place_of, worths_at
from lookwords.errors import NoNumbers, NoPlace, NoWorths
from lookwords.telling import bar, is_telling
from lookwords.words import pairs
from tests.samples import ALL_LOOKS, FourRefusals, ODD_THINGS, all_worths, near_worths, numbers_by

LOOK = (0, 1)
LOOPS = ("aa", "bb", "cc", "dd", "ee", "ff")
TWELVE = ("al", "bk", "cj", "di", "eh", "fg")


def worths_by_numbers(seen, room):
    """For each numbers that can be all their worths, rising, by trying all worths."""
    found = {}
    for worths in all_worths(seen, room):
        found.setdefault(numbers_by(seen, room, worths), []).append(worths)
    return found


class CountingCase(unittest.TestCase):
    def check_counted(self, words, look, room, numbers, asked):
        self.assertEqual(how_many(words, look, room, numbers), len(asked), (words, look, room, numbers))
        told = [worths_at(words, look, room, numbers, at) for at in range(len(asked))]
        self.assertEqual(told, asked, (words, look, room, numbers))
        self.assertEqual([place_of(words, look, room, numbers, thing) for thing in told], list(range(len(asked))))
        for at in (-1, len(asked), len(asked) + 1):
            with self.assertRaises(NoPlace):
                worths_at(words, look, room, numbers, at)

    def check_all_numbers(self, words, look, room):
        found = worths_by_numbers(pairs(words, look), room)
        for numbers in product(range(room), repeat=len(words)):
            self.check_counted(words, look, room, numbers, found.get(numbers, []))


class CountedTest(CountingCase):
    def test_names_of_arguments(self):
        four = ["words", "look", "room", "numbers"]
        for function, names in ((how_many, four), (worths_at, four + ["at"]), (place_of, four + ["thing"])):
            self.assertEqual(list(inspect.signature(function).parameters), names)

    def test_all_of_up_to_two_words_of_three_letters(self):
        every = [one + two for one, two in product("abc", repeat=2)]
        for count in (1, 2):
            for words in combinations(every, count):
                for room in range(1, 7):
                    self.check_all_numbers(words, LOOK, room)

    def test_all_of_three_words_of_three_letters(self):
        for words in combinations([one + two for one, two in product("abc", repeat=2)], 3):
            for room in (2, 3, 4):
                self.check_all_numbers(words, LOOK, room)

    def test_four_words(self):
        for words in combinations([one + two for one, two in product("abcd", repeat=2) if one <= two], 4):
            for room in (2, 3):
                self.check_all_numbers(words, LOOK, room)

    def test_five_words(self):
        for words in (("ab", "bc", "cd", "de", "ea"), ("ab", "bc", "cd", "da", "ee"), ("ae", "eb", "bd", "dc", "cc"),
                      ("aa", "bb", "cc", "dd", "ee"), ("ad", "be", "ca", "fe", "ba"), ("aa", "aab", "ab", "bb", "ba"),
                      ("fa", "eb", "dc", "ab", "gg")):
            for room in (1, 2, 3):
                self.check_all_numbers(words, LOOK, room)
        self.check_all_numbers(("ca", "bb", "ad", "db", "cd"), LOOK, 4)

    def test_letters_that_hang_together_across_others(self):
        # The letters of unlike words lie between one another's.
        for words in (("ac", "bd"), ("ad", "bc"), ("ca", "db"), ("ac", "bb"), ("ae", "bd", "cc")):
            for room in (4, 5):
                self.check_all_numbers(words, LOOK, room)

    def test_every_look(self):
        words = ("a", "ba", "cab")
        for look in ALL_LOOKS:
            for room in (3, 4):
                self.check_all_numbers(words, look, room)

    def test_written_out(self):
        self.check_counted(("ab",), LOOK, 3, (1,), [(("a", 0), ("b", 1)), (("a", 1), ("b", 0)), (("a", 2), ("b", 2))])
        self.check_counted(("aa",), LOOK, 6, (2,), [(("a", 1),), (("a", 4),)])
        self.check_counted(("aa",), LOOK, 5, (3,), [(("a", 4),)])
        self.check_counted(("aa",), LOOK, 6, (3,), [])
        self.check_counted(("aa", "bb"), LOOK, 2, (0, 0), [(("a", one), ("b", two)) for one in (0, 1) for two in (0, 1)])
        self.check_counted(TWELVE, LOOK, 1, (0,) * 6, [tuple((letter, 0) for letter in "abcdefghijkl")])

    def test_barred_numbers(self):
        for words, room, numbers in ((("ab", "ba"), 9, (3, 4)), (("aa",), 98, (97,)), (("ab", "bc", "ca"), 8, (1, 2, 4)),
                                     (("ab", "cd", "dc"), 99, (0, 0, 98))):
            self.assertIsNotNone(bar(words, LOOK, room, numbers))
            self.check_counted(words, LOOK, room, numbers, [])
            with self.assertRaises(NoPlace):
                worths_at(words, LOOK, room, numbers, 0)

    def test_kinds(self):
        asked = (("ab",), LOOK, 5, (3,))
        told = worths_at(*asked, 2)
        self.assertEqual((type(told), [type(part) for part in told]), (tuple, [tuple, tuple]))
        self.assertEqual((type(how_many(*asked)), type(place_of(*asked, told))), (int, int))
        self.assertIs(type(how_many(("ab", "ba"), LOOK, 9, (3, 4))), int)

    def test_great_counts_in_a_short_time(self):
        start = time.perf_counter()
        asked = (TWELVE, LOOK, 99, (98, 0, 50, 1, 2, 3))
        count = how_many(*asked)
        self.assertEqual(count, 99 ** 6)
        ahead = None
        for at in (0, 1, 98, 99, 99 ** 3 - 1, 99 ** 3, 99 ** 5 + 7, count // 2, count - 2, count - 1):
            told = worths_at(*asked, at)
            self.assertIs(is_telling(*asked, told), True)
            self.assertEqual(place_of(*asked, told), at)
            self.assertTrue(ahead is None or ahead < told)
            ahead = told
        with self.assertRaises(NoPlace):
            worths_at(*asked, count)
        self.assertEqual(how_many(LOOPS, LOOK, 98, (0, 2, 4, 6, 8, 96)), 2 ** 6)
        self.assertEqual(how_many(LOOPS, LOOK, 98, (0, 2, 4, 6, 8, 97)), 0)
        self.assertEqual(how_many(LOOPS, LOOK, 99, (0, 2, 4, 6, 8, 97)), 1)
        self.assertEqual(how_many(("ab", "bc", "cd", "de", "ef", "fa"), LOOK, 99, (1, 2, 3, 4, 5, 3)), 99)
        # Far more than it takes, so that a slow machine does not count as a fault.
        self.assertLess(time.perf_counter() - start, 10)

    def test_equal_things_give_equal_answers(self):
        for at in range(5):
            self.assertEqual(worths_at(("ab",), LOOK, 5, (3,), at), worths_at(("ab",), (0, 1), 5, (3,), at))


class RefusalsTest(FourRefusals, unittest.TestCase):
    CALLS = (how_many, lambda *asked: worths_at(*asked, None), lambda *asked: place_of(*asked, None),
             lambda *asked: worths_at(*asked, 0), lambda *asked: place_of(*asked, (("a", 0), ("b", 3))))

    def test_these_come_ahead_of_no_place_and_no_worths(self):
        with self.assertRaises(NoNumbers):
            worths_at(("ab",), LOOK, 9, (9,), -1)
        with self.assertRaises(NoNumbers):
            place_of(("ab",), LOOK, 9, (9,), (("a", 4), ("b", 5)))


class NoPlaceTest(unittest.TestCase):
    ASKED = (("ab", "cd"), LOOK, 5, (3, 4))

    def check_none(self, at):
        with self.assertRaises(NoPlace):
            worths_at(*self.ASKED, at)

    def test_bounds(self):
        self.assertEqual(how_many(*self.ASKED), 25)
        self.assertEqual(worths_at(*self.ASKED, 0), (("a", 0), ("b", 3), ("c", 0), ("d", 4)))
        self.assertEqual(worths_at(*self.ASKED, 24), (("a", 4), ("b", 4), ("c", 4), ("d", 0)))
        for at in (-1, -2, -25, 25, 26, 50, 10 ** 30):
            self.check_none(at)

    def test_what_is_no_whole_number(self):
        for at, wrong in enumerate(ODD_THINGS + ["0", "1", (0,), [0], b"0", {0: 0}]):
            if type(wrong) is int and 0 <= wrong < 25:
                continue
            with self.subTest(at):
                self.check_none(wrong)

    def test_a_refusal_changes_nothing(self):
        first = worths_at(*self.ASKED, 7)
        self.check_none(True)
        self.assertEqual(worths_at(*self.ASKED, 7), first)


class NoWorthsTest(unittest.TestCase):
    WORDS = ("ab", "bc", "ac")
    SOME = (("a", 1), ("b", 2), ("c", 6))
    ASKED = (WORDS, LOOK, 8, (3, 0, 7))

    def check_none(self, thing):
        with self.assertRaises(NoWorths):
            place_of(*self.ASKED, thing)

    def test_every_other_number(self):
        places = {(1, 2, 6): 0, (5, 6, 2): 1}
        for values in product(range(8), repeat=3):
            thing = tuple(zip("abc", values))
            if values in places:
                self.assertEqual(place_of(*self.ASKED, thing), places[values])
            else:
                self.check_none(thing)

    def test_more_letters_than_are_seen(self):
        more = self.SOME + (("d", 0),)
        self.assertIs(is_telling(*self.ASKED, more), True)
        self.check_none(more)
        self.check_none(self.SOME + (("x", 7), ("z", 7)))
        # A letter of a word that is not seen is one too many as well.
        with self.assertRaises(NoWorths):
            place_of(("axb",), (0, 2), 9, (3,), (("a", 1), ("b", 2), ("x", 0)))
        self.assertEqual(place_of(("axb",), (0, 2), 9, (3,), (("a", 1), ("b", 2))), 1)

    def test_fewer_letters_than_are_seen(self):
        for at in range(3):
            self.check_none(self.SOME[:at] + self.SOME[at + 1:])
        self.check_none(())
        self.check_none((("a", 1), ("b", 2), ("d", 6)))

    def test_near_worths(self):
        for at, thing in enumerate(near_worths(self.SOME, 8)):
            with self.subTest(at):
                self.check_none(thing)

    def test_true_and_false_are_no_numbers(self):
        self.check_none((("a", True), ("b", 2), ("c", 6)))
        with self.assertRaises(NoWorths):
            place_of(("aa",), LOOK, 2, (0,), (("a", False),))

    def test_things_of_any_other_kind(self):
        for at, thing in enumerate(ODD_THINGS):
            with self.subTest(at):
                self.check_none(thing)

    def test_barred_numbers(self):
        for values in product(range(3), repeat=2):
            with self.assertRaises(NoWorths):
                place_of(("ab", "ba"), LOOK, 3, (1, 2), tuple(zip("ab", values)))

    def test_a_refusal_changes_nothing(self):
        self.check_none(list(self.SOME))
        self.assertEqual(place_of(*self.ASKED, self.SOME), 0)


if __name__ == "__main__":
    unittest.main()
