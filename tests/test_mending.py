import inspect
import random
import time
import unittest
from itertools import combinations, product

from lookwords.mending import left_out, mended
from lookwords.telling import bar
from lookwords.words import pairs
from tests.samples import ALL_LOOKS, FourRefusals, numbers_that_can_be

LOOK = (0, 1)
LOOPS = ("aa", "bb", "cc", "dd", "ee", "ff")
ALIKE = ("ab", "ba", "abc", "bac", "abd", "bad")
# Among them words that are seen alike, also as one letter twice.
EVERY = ("aa", "aab", "ab", "ba", "bb", "bc", "ca", "cc")


def others(one, two):
    """The places at which two tuples of numbers are unlike."""
    return tuple(at for at in range(len(one)) if one[at] != two[at])


class MendingCase(unittest.TestCase):
    def check(self, words, look, room, numbers, can_be):
        """Both held against point 10, by all numbers that some worths give."""
        asked = (words, look, room, numbers)
        sets = [gone for count in range(len(words) + 1) for gone in combinations(range(len(words)), count)]
        can_go = [gone for gone in sets if any(set(others(numbers, some)) <= set(gone) for some in can_be)]
        few = min(len(others(numbers, some)) for some in can_be)
        near = [some for some in can_be if len(others(numbers, some)) == few]
        gone, told = left_out(*asked), mended(*asked)
        self.assertEqual(gone, min(can_go, key=lambda some: (len(some), some)), asked)
        self.assertEqual(told, min(near), asked)
        self.assertEqual(len(gone), len(others(numbers, told)), asked)

    def check_all_numbers(self, words, look, room):
        can_be = numbers_that_can_be(pairs(words, look), room)
        for numbers in product(range(room), repeat=len(words)):
            self.check(words, look, room, numbers, can_be)


class MendingTest(MendingCase):
    def test_names_of_arguments(self):
        for function in (left_out, mended):
            self.assertEqual(list(inspect.signature(function).parameters), ["words", "look", "room", "numbers"])
            self.assertEqual(function(numbers=(0,), room=1, look=LOOK, words=("ab",)), (0,) if function == mended else ())

    def test_all_of_up_to_two_words(self):
        for count in (1, 2):
            for words in combinations(EVERY, count):
                for room in range(1, 8):
                    self.check_all_numbers(words, LOOK, room)

    def test_all_of_three_words(self):
        for words in combinations(EVERY, 3):
            for room in (1, 2, 3, 4):
                self.check_all_numbers(words, LOOK, room)

    def test_four_words(self):
        for words in combinations(EVERY, 4):
            self.check_all_numbers(words, LOOK, 2)
        for words in list(combinations(EVERY, 4))[::9] + [ALIKE[:4], LOOPS[:4], ("ab", "bc", "cd", "da")]:
            self.check_all_numbers(words, LOOK, 3)
            self.check_all_numbers(words, LOOK, 4)

    def test_five_words(self):
        for words in (ALIKE[:5], LOOPS[:5], ("ab", "bc", "cd", "de", "ea"), ("aa", "ab", "ba", "bb", "bc"),
                      ("ab", "ba", "bc", "cb", "ca"), ("ad", "bc", "cb", "da", "dd"), ("cc", "ca", "cb", "ab", "ba")):
            self.check_all_numbers(words, LOOK, 2)
            self.check_all_numbers(words, LOOK, 3)

    def test_five_and_six_words_by_chance_that_is_the_same_each_time(self):
        chance = random.Random(10)
        every = ["".join(word) for word in product("abcd", repeat=2)] + ["abx", "bax", "aax", "ddx", "cbx"]
        for turn in range(150):
            words = tuple(chance.sample(every, chance.choice((5, 6))))
            room = chance.choice((3, 4, 5))
            can_be = numbers_that_can_be(pairs(words, LOOK), room)
            for numbers in [tuple(chance.randrange(room) for word in words) for other in range(4)]:
                self.check(words, LOOK, room, numbers, can_be)

    def test_every_look(self):
        words = ("a", "ba", "cab", "abca")
        for look in ALL_LOOKS:
            can_be = {room: numbers_that_can_be(pairs(words, look), room) for room in (3, 4)}
            for room, numbers in product((3, 4), ((0, 1, 2, 0), (1, 1, 2, 2), (2, 0, 1, 1), (1, 2, 2, 2), (0, 0, 0, 0))):
                self.check(words, look, room, numbers, can_be[room])

    def test_just_where_nothing_bars_them(self):
        words = ("ab", "bc", "ca", "cd")
        for room in (3, 4):
            for numbers in product(range(room), repeat=4):
                asked = (words, LOOK, room, numbers)
                free = bar(*asked) is None
                self.assertIs(left_out(*asked) == (), free)
                self.assertIs(mended(*asked) == numbers, free)

    def test_mended_numbers_mended_again_stay(self):
        chance = random.Random(11)
        for words in (ALIKE, LOOPS, ("ab", "bc", "ca", "ad", "dd", "cb"), ("ab", "bc", "cd", "de", "ef", "fa")):
            for room in (1, 2, 7, 12, 98, 99):
                told = mended(words, LOOK, room, tuple(chance.randrange(room) for word in words))
                self.assertIsNone(bar(words, LOOK, room, told))
                self.assertEqual(mended(words, LOOK, room, told), told)
                self.assertEqual(left_out(words, LOOK, room, told), ())

    def test_kinds(self):
        for room, numbers in ((9, (3, 3)), (9, (3, 4))):
            for told in (left_out(("ab", "ba"), LOOK, room, numbers), mended(("ab", "ba"), LOOK, room, numbers)):
                self.assertIs(type(told), tuple)
                self.assertEqual([type(part) for part in told], [int] * len(told))


class WrittenOutTest(unittest.TestCase):
    def check_told(self, words, room, numbers, gone, told):
        self.assertEqual(left_out(words, LOOK, room, numbers), gone)
        self.assertEqual(mended(words, LOOK, room, numbers), told)

    def test_seen_alike(self):
        self.check_told(("ab", "ba"), 9, (3, 3), (), (3, 3))
        self.check_told(("ab", "ba"), 9, (3, 4), (0,), (3, 3))
        self.check_told(("ab", "ba"), 9, (4, 3), (0,), (3, 3))
        self.check_told(("ab", "ba", "abc"), 9, (8, 5, 8), (1,), (8, 8, 8))
        # The first two can be left out as well as others; the least numbers are those without other ones.
        self.check_told(("ab", "ba", "abc"), 9, (1, 2, 3), (0, 1), (1, 1, 1))
        self.check_told(ALIKE, 99, (98, 97, 96, 95, 94, 93), (0, 1, 2, 3, 4), (93,) * 6)

    def test_one_letter_twice(self):
        # In an even room twice a worth is even; in an odd one it is any number.
        self.check_told(("aa",), 2, (1,), (0,), (0,))
        self.check_told(("aa",), 98, (97,), (0,), (0,))
        self.check_told(("aa",), 99, (97,), (), (97,))
        self.check_told(LOOPS, 98, (1, 3, 5, 7, 9, 11), (0, 1, 2, 3, 4, 5), (0,) * 6)
        self.check_told(LOOPS, 98, (1, 2, 5, 8, 9, 11), (0, 2, 4, 5), (0, 2, 0, 8, 0, 0))
        self.check_told(LOOPS, 99, (1, 3, 5, 7, 9, 11), (), (1, 3, 5, 7, 9, 11))
        self.check_told(("aa", "aab"), 7, (3, 4), (0,), (3, 3))
        self.check_told(("aa", "aab"), 8, (3, 4), (0,), (4, 4))
        self.check_told(("aa", "aab"), 8, (4, 3), (1,), (4, 4))
        self.check_told(("aa", "aab"), 8, (5, 3), (0, 1), (0, 0))

    def test_three_in_a_circle(self):
        self.check_told(("ab", "bc", "ca"), 8, (1, 2, 4), (0,), (0, 2, 4))
        self.check_told(("ab", "bc", "ca"), 9, (1, 2, 4), (), (1, 2, 4))
        self.check_told(("ab", "bc", "ca"), 8, (0, 0, 1), (0,), (0, 0, 0))

    def test_room_of_one(self):
        self.check_told(ALIKE, 1, (0,) * 6, (), (0,) * 6)

    def test_least_of_those_left_out_and_least_numbers_may_be_of_unlike_words(self):
        # Without the first word it would get 5; without the second one that gets 1.
        self.check_told(("ab", "ba"), 9, (1, 5), (0,), (1, 1))

    def test_a_short_time_for_six_words_in_a_room_of_99(self):
        start = time.perf_counter()
        chance = random.Random(12)
        for words in (("al", "bk", "cj", "di", "eh", "fg"), ALIKE, LOOPS, ("ab", "ba", "cd", "dc", "ef", "fe"),
                      ("aa", "aab", "aac", "aad", "aae", "aaf"), ("ab", "bc", "ca", "ac", "cb", "ba"),
                      ("aa", "ab", "bb", "ba", "aab", "bba"), ("ab", "bc", "cd", "da", "ac", "bd")):
            for room in (98, 99):
                for numbers in ((room - 1,) * 6, tuple(range(room - 6, room)), (room - 1, room - 2) * 3,
                                tuple(chance.randrange(room) for word in words)):
                    told = mended(words, LOOK, room, numbers)
                    self.assertIsNone(bar(words, LOOK, room, told))
                    self.assertEqual(len(others(numbers, told)), len(left_out(words, LOOK, room, numbers)))
        # Far more than it takes, so that a slow machine does not count as a fault.
        self.assertLess(time.perf_counter() - start, 10)


class RefusalsTest(FourRefusals, unittest.TestCase):
    CALLS = (left_out, mended)


if __name__ == "__main__":
    unittest.main()
