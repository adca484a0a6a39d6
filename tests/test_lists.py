import inspect
import random
import unittest
from itertools import permutations, product

from lookwords.errors import Full, Known, Never, NoLook, NoWord
from lookwords.lists import Words
from lookwords.rooms import clash, least_room, one_to_one
from lookwords.words import numbered, pairs
from tests.samples import ALL_LOOKS, NO_LOOKS, NO_WORD, all_told, first_by_steps, list_of_words, numbers_by

LOOK = (0, 1)
LOOPS = ("aa", "bb", "cc", "dd", "ee", "ff")
APART = ("ag", "bh", "ci", "dj", "ek", "fl")


class ListCase(unittest.TestCase):
    def check_refused(self, refusal, some, word):
        ahead = all_told(some)
        with self.assertRaises(refusal):
            some.come(word)
        self.assertEqual(all_told(some), ahead)
        for known, number in ahead[2]:
            self.assertEqual(some.number(known), number)

    def check_comes(self, some, word, look=LOOK):
        """A word that comes, held against point 8 by worths tried out letter by letter."""
        words = some.words() + (word,)
        seen = pairs(words, look)
        rooms = range(max(some.room(), len(words)), 20)
        room = next(room for room in rooms if first_by_steps(seen, room) is not None)
        self.assertEqual(some.come(word), room)
        numbers = numbers_by(seen, room, first_by_steps(seen, room))
        self.assertEqual(all_told(some), (words, room, list(zip(words, numbers))))
        self.assertEqual([some.number(known) for known in words], list(numbers))


class AtFirstTest(ListCase):
    def test_names_of_arguments(self):
        self.assertEqual(list(inspect.signature(Words).parameters), ["look"])
        for name, asked in (("words", []), ("room", []), ("come", ["word"]), ("number", ["word"]), ("numbers", [])):
            self.assertEqual(list(inspect.signature(getattr(Words, name)).parameters), ["self"] + asked)

    def test_no_words_and_a_room_of_0(self):
        for look in ALL_LOOKS:
            some = Words(look)
            self.assertEqual(all_told(some), ((), 0, []))
            self.assertEqual((type(some.words()), type(some.room()), type(some.numbers())), (tuple, int, list))

    def test_no_look(self):
        for at, wrong in enumerate(NO_LOOKS):
            with self.subTest(at), self.assertRaises(NoLook):
                Words(wrong)

    def test_no_number_yet(self):
        with self.assertRaises(NoWord):
            Words(LOOK).number("ab")


class ComeTest(ListCase):
    def test_a_word(self):
        some = Words(LOOK)
        self.assertEqual(some.come("ab"), 1)
        self.assertEqual(all_told(some), (("ab",), 1, [("ab", 0)]))
        self.assertEqual(some.number("ab"), 0)
        self.assertEqual([type(part) for part in some.numbers()], [tuple])

    def test_a_room_that_stays_and_one_that_becomes_greater(self):
        some = Words(LOOK)
        # Of one letter twice, words have unlike numbers in odd rooms alone, or far greater ones.
        self.assertEqual([some.come(word) for word in LOOPS], [1, 3, 3, 5, 5, 7])
        self.assertEqual(some.numbers(), list(zip(LOOPS, (0, 2, 4, 6, 1, 3))))

    def test_numbers_as_words_come(self):
        some = Words((0, -1))
        self.check_comes(some, "cat", (0, -1))
        self.check_comes(some, "dog", (0, -1))
        self.check_comes(some, "tag", (0, -1))
        self.check_comes(some, "ada", (0, -1))
        self.check_comes(some, "gob", (0, -1))
        self.check_comes(some, "bob", (0, -1))

    def test_words_are_told_as_they_came(self):
        some = list_of_words(("zy", "ab", "mn"))
        self.assertEqual(some.words(), ("zy", "ab", "mn"))
        self.assertEqual([word for word, number in some.numbers()], ["zy", "ab", "mn"])

    def test_words_in_every_order(self):
        for words in permutations(("aa", "ab", "bb", "bc")):
            some = Words(LOOK)
            for word in words:
                self.check_comes(some, word)

    def test_words_by_chance_that_is_the_same_each_time(self):
        chance = random.Random(5)
        for turn in range(40):
            look = (chance.randint(-3, 2), chance.randint(-3, 2))
            letters = "abcdefgh"[:chance.randint(2, 8)]
            some = Words(look)
            for step in range(12):
                word = "".join(chance.choice(letters) for place in range(chance.randint(1, 6)))
                if word in some.words():
                    self.check_refused(Known, some, word)
                elif len(some.words()) == 6:
                    self.check_refused(Full, some, word)
                elif clash(some.words() + (word,), look) is not None:
                    self.check_refused(Never, some, word)
                else:
                    self.check_comes(some, word, look)

    def test_the_room_is_never_less_and_told_numbers_are_by_the_least_worths(self):
        chance = random.Random(4)
        for turn in range(30):
            words = [one + two for one, two in product("abcde", repeat=2) if one <= two]
            some, ahead = Words(LOOK), 0
            for word in chance.sample(words, 6):
                room = some.come(word)
                self.assertGreaterEqual(room, ahead)
                self.assertEqual(room, some.room())
                self.assertEqual(room, least_room(some.words(), LOOK))
                least = one_to_one(some.words(), LOOK, room)
                told = tuple(number for word, number in some.numbers())
                self.assertEqual(told, numbered(some.words(), LOOK, room, least))
                ahead = room


class RefusalsTest(ListCase):
    def test_no_word(self):
        for words in ((), ("ab",), APART):
            some = list_of_words(words)
            for at, wrong in enumerate(NO_WORD):
                with self.subTest(at):
                    self.check_refused(NoWord, some, wrong)

    def test_known(self):
        some = list_of_words(APART[:3])
        for word in APART[:3]:
            self.check_refused(Known, some, word)

    def test_full(self):
        some = list_of_words(APART)
        self.check_refused(Full, some, "xy")
        self.check_refused(Full, some, "xy")

    def test_never(self):
        some = list_of_words(("ab", "cc"))
        for word in ("ba", "abc", "bac", "cca"):
            self.check_refused(Never, some, word)
        # A refused word is not there, and others come behind it.
        self.check_comes(some, "ac")

    def test_order(self):
        some = list_of_words(APART)
        self.check_refused(NoWord, some, "agagaga")
        # Where there are 6, and it clashes with itself.
        self.check_refused(Known, some, "ag")
        # Where there are 6, and it clashes.
        self.check_refused(Full, some, "ga")
        self.check_refused(Never, list_of_words(APART[:5]), "ga")
        self.check_refused(Known, list_of_words(APART[:5]), "ag")

    def test_words_come_as_if_nothing_was_refused(self):
        some, other = Words(LOOK), Words(LOOK)
        for word in LOOPS:
            self.check_refused(NoWord, some, word.upper())
            self.assertEqual(some.come(word), other.come(word))
            self.check_refused(Known, some, word)
            if len(some.words()) < 6:
                self.check_refused(Never, some, word + "x")
            self.assertEqual(all_told(some), all_told(other))

    def test_number_of_a_word_that_is_not_there(self):
        some = list_of_words(("ab", "cd"))
        for at, wrong in enumerate(NO_WORD + ["ba", "abc", "a", "xy", "dc"]):
            with self.subTest(at), self.assertRaises(NoWord):
                some.number(wrong)
        self.check_refused(Never, some, "ba")
        with self.assertRaises(NoWord):
            some.number("ba")
        self.assertEqual(all_told(some), (("ab", "cd"), 2, [("ab", 0), ("cd", 1)]))


class NothingSharedTest(ListCase):
    def test_two_lists_do_not_change_each_other(self):
        some, other = Words(LOOK), Words(LOOK)
        some.come("aa")
        self.assertEqual(all_told(other), ((), 0, []))
        other.come("bb")
        other.come("aa")
        self.assertEqual(all_told(some), (("aa",), 1, [("aa", 0)]))
        some.come("bb")
        self.assertEqual(all_told(other), (("bb", "aa"), 3, [("bb", 2), ("aa", 0)]))
        self.assertEqual(all_told(some), (("aa", "bb"), 3, [("aa", 0), ("bb", 2)]))

    def test_two_lists_of_unlike_looks(self):
        some, other = list_of_words(("aba", "aca"), (0, 1)), list_of_words(("aba",), (0, 2))
        self.assertEqual(some.room(), 2)
        self.check_refused(Never, other, "aca")

    def test_a_told_list_that_is_changed(self):
        some = list_of_words(("ab", "cd"))
        for told in (some.numbers(), some.numbers()):
            self.assertEqual(told, [("ab", 0), ("cd", 1)])
            told.append(("ef", 2))
            told[0] = None
        self.assertEqual(some.come("ef"), 3)
        self.assertEqual(some.numbers(), [("ab", 0), ("cd", 1), ("ef", 2)])

    def test_words_told_earlier_stay(self):
        some = list_of_words(("ab",))
        words, numbers = some.words(), some.numbers()
        some.come("cd")
        self.assertEqual((words, numbers), (("ab",), [("ab", 0)]))

    def test_equal_behind_the_same_calls(self):
        for words in (LOOPS, APART, ("cat", "dog", "tag")):
            self.assertEqual(all_told(list_of_words(words)), all_told(list_of_words(words)))


if __name__ == "__main__":
    unittest.main()
