import inspect
import unittest
from itertools import combinations, product

from lookwords.errors import Never, NoNumbers
from lookwords.telling import bar, is_bar, is_telling, worths
from lookwords.words import numbered, pairs
from tests.samples import (ALL_LOOKS, FourRefusals, ODD_THINGS, is_bar_plainly, letters_in, near_worths,
                           numbers_that_can_be)

LOOK = (0, 1)


class TellingCase(unittest.TestCase):
    def check_told(self, words, look, room, numbers, can_be):
        """Either worths or a bar, and each of them in truth."""
        seen = pairs(words, look)
        told = bar(words, look, room, numbers)
        if can_be:
            self.assertIsNone(told, (words, look, room, numbers))
            some = worths(words, look, room, numbers)
            self.assertEqual([letter for letter, number in some], letters_in(seen))
            self.assertEqual(numbered(words, look, room, some), numbers)
            self.assertIs(is_telling(words, look, room, numbers, some), True)
        else:
            with self.assertRaises(Never, msg=(words, look, room, numbers)):
                worths(words, look, room, numbers)
            self.assertEqual((type(told), len(told)), (tuple, 2))
            self.assertEqual((type(told[0]), type(told[1])), (str, list))
            self.assertTrue(is_bar_plainly(seen, room, numbers, *told), (words, look, room, numbers, told))
            self.assertIs(is_bar(words, look, room, numbers, told), True)

    def check_all_numbers(self, words, look, room):
        can_be = numbers_that_can_be(pairs(words, look), room)
        for numbers in product(range(room), repeat=len(words)):
            self.check_told(words, look, room, numbers, numbers in can_be)


class BarOrWorthsTest(TellingCase):
    def test_names_of_arguments(self):
        four = ["words", "look", "room", "numbers"]
        for function, names in ((bar, four), (worths, four), (is_telling, four + ["thing"]), (is_bar, four + ["thing"])):
            self.assertEqual(list(inspect.signature(function).parameters), names)

    def test_all_of_up_to_three_words_of_three_letters(self):
        all_words = [one + two for one, two in product("abc", repeat=2)]
        for count in (1, 2, 3):
            for words in combinations(all_words, count):
                for room in range(1, 5):
                    self.check_all_numbers(words, LOOK, room)

    def test_all_of_four_words_of_four_letters_seen_unlike(self):
        all_words = [one + two for one, two in product("abcd", repeat=2) if one <= two]
        for words in combinations(all_words, 4):
            for room in (2, 3):
                self.check_all_numbers(words, LOOK, room)

    def test_six_words(self):
        for words in (("ab", "bc", "cd", "de", "ef", "fa"), ("ab", "bc", "cd", "de", "ea", "ef"),
                      ("ab", "bc", "ca", "de", "ef", "fd"), ("ab", "ac", "ad", "bc", "bd", "cd"),
                      ("ab", "bc", "cd", "de", "ef", "fg"), ("ag", "gb", "bf", "fc", "ce", "ee"),
                      ("aa", "bb", "cc", "dd", "ee", "ff"), ("aa", "ab", "bc", "cd", "de", "ee"),
                      ("ab", "ba", "aba", "abc", "abcd", "abcdef"), ("aa", "bb", "ab", "ba", "aab", "bba")):
            for room in (1, 2, 3):
                self.check_all_numbers(words, LOOK, room)

    def test_every_look(self):
        words = ("a", "ba", "cab", "abcd")
        for look in ALL_LOOKS:
            for room in (2, 3):
                self.check_all_numbers(words, look, room)

    def test_great_rooms(self):
        for room in (96, 97, 98, 99):
            numbers = (room - 1, 1, 0, room // 2)
            self.check_told(("ab", "bc", "ca", "cd"), LOOK, room, numbers, room % 2 == 1 or sum(numbers[:3]) % 2 == 0)
            self.check_told(("ab", "bc", "cd", "da"), LOOK, room, (5, 90, 95, 10), True)
            self.check_told(("ab", "bc", "cd", "da"), LOOK, room, (5, 90, 95, 11), False)

    def test_two_letters_the_same(self):
        for room in (1, 2, 3, 10, 11, 98, 99):
            for number in range(room):
                self.check_told(("aa",), LOOK, room, (number,), room % 2 == 1 or number % 2 == 0)

    def test_two_odd_ways_that_do_not_agree(self):
        # Twice the worth of a is both 2 and 4.
        self.check_told(("ab", "bb", "ca", "cc"), LOOK, 10, (0, 2, 0, 4), False)
        self.check_told(("ab", "bb", "ca", "cc"), LOOK, 10, (0, 2, 0, 2), True)
        self.check_told(("aa", "axa"), (0, -1), 9, (1, 3), False)
        self.check_told(("aa", "axa"), (0, -1), 9, (3, 3), True)

    def test_letters_that_do_not_hang_together(self):
        self.check_told(("ab", "cd", "ef"), LOOK, 99, (98, 0, 50), True)
        # The fault may lie with whichever letters.
        self.check_told(("aa", "bb", "cc"), LOOK, 8, (2, 4, 6), True)
        for numbers in ((1, 4, 6), (2, 1, 6), (2, 4, 1), (1, 1, 1)):
            self.check_told(("aa", "bb", "cc"), LOOK, 8, numbers, False)
        # Odd circles of unlike sums are no bar where they do not hang together.
        self.check_told(("aa", "bb"), LOOK, 9, (1, 3), True)

    def test_words_seen_alike_in_whichever_order(self):
        self.check_told(("ab", "ba"), LOOK, 7, (3, 3), True)
        self.check_told(("ab", "ba"), LOOK, 7, (3, 4), False)

    def test_numbers_from_worths_are_always_told(self):
        words = ("cat", "dog", "tag", "goat", "cod", "toad")
        for look in ALL_LOOKS:
            for room in (1, 2, 13, 50, 99):
                some = tuple((letter, (7 * at * at + 5 * at) % room)
                             for at, letter in enumerate("abcdefghijklmnopqrstuvwxyz"))
                self.check_told(words, look, room, numbered(words, look, room, some), True)

    def test_a_tuple_of_tuples_or_never(self):
        some = worths(("ba",), LOOK, 5, (3,))
        self.assertIs(type(some), tuple)
        self.assertEqual([type(part) for part in some], [tuple, tuple])


class RefusalsTest(FourRefusals, unittest.TestCase):
    CALLS = (bar, worths, lambda *asked: is_telling(*asked, None), lambda *asked: is_bar(*asked, None))

    def test_numbers_up_to_the_room_are_taken(self):
        for room in (1, 2, 99):
            self.assertIsNone(bar(("ab", "ba"), LOOK, room, (room - 1, room - 1)))

    def test_never_comes_last(self):
        with self.assertRaises(Never):
            worths(*self.GOOD)

    def test_a_good_thing_is_no_way_round_a_refusal(self):
        with self.assertRaises(NoNumbers):
            is_telling(("ab",), LOOK, 9, (9,), (("a", 4), ("b", 5)))
        with self.assertRaises(NoNumbers):
            is_bar(("ab", "ba"), LOOK, 9, (3, 13), ("a", [0, 1]))


class IsTellingTest(unittest.TestCase):
    WORDS = ("ab", "bc", "ac")
    SOME = (("a", 1), ("b", 2), ("c", 6))
    NUMBERS = (3, 0, 7)

    def check(self, thing, asked, room=8):
        self.assertIs(is_telling(self.WORDS, LOOK, room, self.NUMBERS, thing), asked)

    def test_worths_that_are(self):
        self.check(self.SOME, True)
        # Half the room more or less at each letter gives the same numbers.
        self.check((("a", 5), ("b", 6), ("c", 2)), True)

    def test_worths_of_more_letters(self):
        self.check(self.SOME + (("d", 0),), True)
        self.check(self.SOME + (("x", 7), ("z", 7)), True)
        self.check(self.SOME + (("x", 8),), False)

    def test_every_other_number(self):
        for values in product(range(8), repeat=3):
            self.check(tuple(zip("abc", values)), values in ((1, 2, 6), (5, 6, 2)))

    def test_a_letter_left_out_or_exchanged(self):
        for at in range(3):
            self.check(self.SOME[:at] + self.SOME[at + 1:], False)
        self.check((("a", 1), ("b", 2), ("d", 6)), False)
        self.check((), False)

    def test_near_worths(self):
        for at, thing in enumerate(near_worths(self.SOME, 8)):
            with self.subTest(at):
                self.check(thing, False)

    def test_true_and_false_are_no_numbers(self):
        self.check((("a", True), ("b", 2), ("c", 6)), False)
        self.assertIs(is_telling(("aa",), LOOK, 2, (0,), (("a", False),)), False)
        self.assertIs(is_telling(("aa",), LOOK, 2, (0,), (("a", 0),)), True)

    def test_numbers_must_be_just_these(self):
        self.assertIs(is_telling(self.WORDS, LOOK, 9, self.NUMBERS, self.SOME), False)
        self.assertIs(is_telling(self.WORDS, LOOK, 9, (3, 8, 7), self.SOME), True)

    def test_things_of_any_other_kind(self):
        for at, thing in enumerate(ODD_THINGS):
            with self.subTest(at):
                self.check(thing, False)

    def test_a_bar_is_no_telling(self):
        told = bar(("ab", "ba"), LOOK, 9, (3, 4))
        self.assertIs(is_telling(("ab", "ba"), LOOK, 9, (3, 4), told), False)


class IsBarTest(unittest.TestCase):
    def check(self, words, room, numbers, thing, asked):
        self.assertIs(is_bar(words, LOOK, room, numbers, thing), asked)

    def test_even_walks(self):
        self.check(("ab", "ba"), 7, (3, 4), ("a", [0, 1]), True)
        self.check(("ab", "ba"), 7, (3, 4), ("b", [0, 1]), True)
        self.check(("ab", "ba"), 7, (3, 4), ("a", [1, 0]), True)
        self.check(("ab", "ba"), 7, (3, 4), ("a", [0, 0]), False)
        self.check(("ab", "ba"), 7, (3, 3), ("a", [0, 1]), False)
        # A sum that is a multiple of the room, but not 0.
        self.check(("ab", "ba"), 3, (1, 2), ("a", [0, 1, 0, 1]), True)
        self.check(("ab", "ba"), 3, (1, 2), ("a", [0, 1, 0, 1, 0, 1]), False)
        self.check(("ab", "ba"), 3, (2, 1), ("a", [0, 1, 0, 1, 0, 1]), False)
        self.check(("ab", "ba"), 1, (0, 0), ("a", [0, 1]), False)

    def test_even_walks_are_not_judged_by_an_odd_sum(self):
        self.check(("ab", "ba"), 8, (1, 3), ("a", [0, 1]), True)
        self.check(("ab", "ba"), 9, (1, 2), ("a", [0, 1]), True)

    def test_odd_walks(self):
        triangle = ("ab", "bc", "ca")
        for numbers, odd in (((1, 2, 4), True), ((2, 2, 4), False), ((1, 1, 1), True), ((7, 7, 7), True),
                             ((1, 1, 2), False)):
            for letter, walk in (("a", [0, 1, 2]), ("b", [1, 2, 0]), ("c", [2, 0, 1]), ("a", [2, 1, 0])):
                self.check(triangle, 8, numbers, (letter, walk), odd)
                self.check(triangle, 9, numbers, (letter, walk), False)

    def test_a_walk_must_lead_on_and_back(self):
        words = ("ab", "bc", "ca", "dd")
        numbers = (1, 2, 4, 1)
        for thing in (("a", [0, 1]), ("a", [0]), ("b", [0, 1, 2]), ("a", [1, 2, 0]), ("a", [0, 2, 1]), ("d", [0, 1, 2]),
                      ("a", [0, 1, 2, 3]), ("a", [3]), ("z", [0, 1, 2]), ("a", [0, 1, 2, 0]), ("a", [0, 1, 2, 1])):
            self.check(words, 8, numbers, thing, False)
        self.check(words, 8, numbers, ("a", [0, 1, 2]), True)
        self.check(words, 8, numbers, ("d", [3]), True)

    def test_both_letters_the_same(self):
        self.check(("aa",), 4, (1,), ("a", [0]), True)
        self.check(("aa",), 4, (2,), ("a", [0]), False)
        self.check(("aa",), 5, (1,), ("a", [0]), False)
        self.check(("aa", "axa"), 5, (1, 1), ("a", [0, 0]), False)
        self.check(("ab", "bb"), 6, (4, 1), ("a", [0, 1, 0]), True)
        self.check(("ab", "bb"), 6, (4, 1), ("b", [1]), True)
        self.check(("ab", "bb"), 6, (4, 1), ("a", [1, 0, 0]), False)

    def test_length_of_a_walk(self):
        for length in range(45):
            # The sum is 1 behind an odd count of words, else 0.
            self.check(("aa",), 4, (1,), ("a", [0] * length), length % 2 == 1 and length <= 40)
        for times in range(1, 25):
            # The sum is as many as times.
            self.check(("ab", "ba"), 50, (0, 1), ("a", [0, 1] * times), times <= 20)
        self.check(("ab", "ba"), 50, (0, 1), ("a", []), False)

    def test_places_of_words_are_bounded(self):
        for walk in ([-2, -1], [-2, 1], [0, -1], [0, 2], [2, 1], [0, 10 ** 5000], [0, 1, 2, 2]):
            self.check(("ab", "ba"), 7, (3, 4), ("a", walk), False)

    def test_true_and_false_are_no_places(self):
        for walk in ([0, True], [False, 1], [False, True]):
            self.check(("ab", "ba"), 7, (3, 4), ("a", walk), False)
        self.check(("aa",), 4, (1,), ("a", [False]), False)

    def test_kinds(self):
        for thing in (["a", [0, 1]], ("a", (0, 1)), ("a", range(2)), ("a", {0: 0, 1: 1}), ("a", {0, 1}), ("a", "01"),
                      ("a", ["0", "1"]), ("a", [(0,), (1,)]), ("a", [0, None]), ("a", [[0], [1]]), ("a", [0, []]),
                      (["a"], [0, 1]), (b"a", [0, 1]), (0, [0, 1]), (None, [0, 1]), ("", [0, 1]), ("ab", [0, 1]),
                      ("A", [0, 1]), (("a",), [0, 1]), ("a",), ("a", [0, 1], None), ("a", [0, 1], [0, 1]), ([0, 1], "a"),
                      ("a", None), ("a", 0), {"a": [0, 1]}, "a", [0, 1], ("a", 0, 1), ("a", ["ab", "ba"])):
            self.check(("ab", "ba"), 7, (3, 4), thing, False)

    def test_things_of_any_other_kind(self):
        for at, thing in enumerate(ODD_THINGS):
            is_one = type(thing) is int and thing == 1
            with self.subTest(at):
                self.assertIs(is_bar(("ab", "ba"), LOOK, 7, (3, 4), thing), False)
                self.assertIs(is_bar(("ab", "ba"), LOOK, 7, (3, 4), ("a", thing)), False)
                self.assertIs(is_bar(("ab", "ba"), LOOK, 7, (3, 4), ("a", [0, thing])), is_one)
                self.assertIs(is_bar(("ab", "ba"), LOOK, 7, (3, 4), (thing, [0, 1])), False)

    def test_things_near_a_bar(self):
        for words, room, numbers in ((("ab", "bc", "ca", "cd"), 8, (1, 2, 4, 5)),
                                     (("ab", "bb", "ca", "cc"), 10, (0, 2, 0, 4)),
                                     (("ab", "bc", "cd", "da"), 9, (5, 1, 5, 2)), (("aa", "bb", "ab"), 7, (1, 3, 5))):
            seen = pairs(words, LOOK)
            letter, walk = bar(words, LOOK, room, numbers)
            near = [(other, walk) for other in "abcdz"]
            for at in range(len(walk) + 1):
                near.append((letter, walk[:at] + walk[at + 1:]))
                near.append((letter, walk[:at]))
                for word in range(-1, len(words) + 1):
                    near.append((letter, walk[:at] + [word] + walk[at + 1:]))
                    near.append((letter, walk[:at] + [word] + walk[at:]))
                    near.append((letter, walk[:at] + [word, word] + walk[at:]))
            for thing in near:
                self.check(words, room, numbers, thing, is_bar_plainly(seen, room, numbers, *thing))

    def test_all_short_walks(self):
        for words, room, numbers in ((("ab", "bc", "ca"), 4, (1, 2, 2)), (("ab", "ba", "bb"), 3, (1, 2, 0)),
                                     (("ab", "bc", "cc"), 6, (5, 4, 3))):
            seen = pairs(words, LOOK)
            for length in range(6):
                for walk in product(range(3), repeat=length):
                    for letter in "abc":
                        asked = is_bar_plainly(seen, room, numbers, letter, list(walk))
                        self.check(words, room, numbers, (letter, list(walk)), asked)

    def test_where_there_are_worths_nothing_bars(self):
        for walk in product(range(3), repeat=4):
            for letter in "abc":
                self.check(("ab", "bc", "ac"), 8, (3, 0, 7), (letter, list(walk)), False)

    def test_worths_are_no_bar(self):
        self.check(("ab",), 8, (3,), (("a", 1), ("b", 2)), False)


class NothingKeptTest(unittest.TestCase):
    def test_the_walk_that_is_handed_in_stays(self):
        walk = [0, 1]
        thing = ("a", walk)
        is_bar(("ab", "ba"), LOOK, 7, (3, 4), thing)
        self.assertEqual(thing, ("a", [0, 1]))
        self.assertIs(thing[1], walk)

    def test_a_thing_changed_later_is_asked_anew(self):
        walk = [0, 1]
        self.assertIs(is_bar(("ab", "ba"), LOOK, 7, (3, 4), ("a", walk)), True)
        walk.append(1)
        self.assertIs(is_bar(("ab", "ba"), LOOK, 7, (3, 4), ("a", walk)), False)

    def test_the_walk_that_is_told_is_new(self):
        for asked in ((("ab", "ba"), LOOK, 7, (3, 4)), (("aa",), LOOK, 4, (1,)), (("aa", "aba"), (0, -1), 9, (1, 3))):
            first = bar(*asked)
            kept = (first[0], list(first[1]))
            first[1].clear()
            first[1].append("more")
            self.assertEqual(bar(*asked), kept)

    def test_equal_things_give_equal_answers(self):
        words = ("ab", "bc", "ca", "cd")
        for numbers in product(range(4), repeat=4):
            again = tuple("".join(list(word)) for word in words)
            first = bar(words, LOOK, 4, numbers)
            self.assertEqual(bar(again, (0, 1), 4, tuple(list(numbers))), first)
            if first is None:
                self.assertEqual(worths(words, LOOK, 4, numbers), worths(again, (0, 1), 4, tuple(list(numbers))))

    def test_a_refusal_changes_nothing(self):
        asked = (("ab", "ba"), LOOK, 7, (3, 4))
        first = bar(*asked)
        for wrong in ODD_THINGS:
            with self.assertRaises(NoNumbers):
                bar(*asked[:3], wrong)
        self.assertEqual(bar(*asked), first)


if __name__ == "__main__":
    unittest.main()
