import inspect
import random
import unittest
from itertools import combinations, permutations, product
from string import ascii_lowercase

from lookwords.errors import NoLetters, NoLook, NoWords
from lookwords.rooms import clash
from lookwords.seeing import alike, best_looks, mirrored, renamed, turned
from lookwords.words import pairs
from tests.samples import ALL_LOOKS, NO_LOOKS, NO_WORDS, ODD_THINGS

LOOK = (0, 1)
BACKWARD = ascii_lowercase[::-1]
ONE_ON = ascii_lowercase[1:] + "a"
ONE_BACK = "z" + ascii_lowercase[:-1]
SOME_WORDS = [
    ("a",), ("no", "on"), ("cat", "tac", "act"), ("k", "no", "cat", "bird", "mouse", "ponies"), ("z", "az", "za"),
    ("abcabc", "abcacb", "bacabc", "cbacba"), ("aa", "aab", "baa", "aba", "ab", "ba"),
]

NO_LETTERS = ODD_THINGS + [
    ascii_lowercase[:25], ascii_lowercase[1:], ascii_lowercase + "a", "a" + ascii_lowercase, ascii_lowercase[:25] + "a",
    "b" + ascii_lowercase[1:], "a" * 26, ascii_lowercase.upper(), "A" + ascii_lowercase[1:], ascii_lowercase[:25] + "Z",
    ascii_lowercase[:25] + "{", "`" + ascii_lowercase[1:], ascii_lowercase[:25] + " ", ascii_lowercase + " ",
    " " + ascii_lowercase, ascii_lowercase + "\n", ascii_lowercase[:25] + "\u00e4", "\u0430" + ascii_lowercase[1:],
    ascii_lowercase[:25] + "1", list(ascii_lowercase), tuple(ascii_lowercase), set(ascii_lowercase),
    dict.fromkeys(ascii_lowercase), ascii_lowercase.encode(), ascii_lowercase * 2, (ascii_lowercase,),
]


def letters_that_undo(letters):
    return "".join(ascii_lowercase[letters.index(letter)] for letter in ascii_lowercase)


class SeeingCase(unittest.TestCase):
    def check_refused(self, refusal, function, wrong_things, behind=()):
        for at, wrong in enumerate(wrong_things):
            with self.subTest(at), self.assertRaises(refusal):
                function(wrong, *behind)


class AlikeTest(SeeingCase):
    def check(self, words, look):
        seen = [sorted(pair) for pair in pairs(words, look)]
        told = alike(words, look)
        self.assertEqual(told, sorted(told))
        self.assertEqual(sorted(at for group in told for at in group), list(range(len(words))))
        for group in told:
            self.assertEqual(group, sorted(group))
        for one, two in product(range(len(words)), repeat=2):
            together = any(one in group and two in group for group in told)
            self.assertIs(together, seen[one] == seen[two], (words, look, one, two))

    def test_names_of_arguments(self):
        self.assertEqual(list(inspect.signature(alike).parameters), ["words", "look"])
        self.assertEqual(alike(look=LOOK, words=("ab", "ba")), [[0, 1]])

    def test_written_out(self):
        for words, asked in (
            (("ab",), [[0]]), (("aa",), [[0]]), (("ab", "cd"), [[0], [1]]), (("ab", "ba"), [[0, 1]]),
            (("ab", "abc"), [[0, 1]]), (("aa", "aab"), [[0, 1]]), (("aa", "ab", "bb"), [[0], [1], [2]]),
            (("ab", "cd", "dc", "ba"), [[0, 3], [1, 2]]), (("ab", "cd", "ba", "dc"), [[0, 2], [1, 3]]),
            (("ef", "ab", "ba", "abx", "fe", "bax"), [[0, 4], [1, 2, 3, 5]]),
            (("ab", "ba", "abc", "bac", "abd", "bad"), [[0, 1, 2, 3, 4, 5]]),
            (("zz", "yy", "a", "aa", "ya", "ay"), [[0], [1], [2, 3], [4, 5]]),
        ):
            self.assertEqual(alike(words, LOOK), asked)

    def test_the_same_two_letters_in_every_order_of_words(self):
        for words in permutations(("aa", "aab", "ab", "ba", "bb", "bac"), 5):
            self.check(words, LOOK)

    def test_every_look(self):
        for words, look in product(SOME_WORDS, ALL_LOOKS):
            self.check(words, look)

    def test_a_word_of_one_letter_is_seen_as_it_twice(self):
        self.assertEqual(alike(("a", "aba", "aa", "ab"), (0, -1)), [[0, 1, 2], [3]])

    def test_lists_of_one_word_each_just_without_a_clash(self):
        for words, look in product(SOME_WORDS, ALL_LOOKS):
            self.assertIs(len(alike(words, look)) == len(words), clash(words, look) is None)

    def test_kinds(self):
        told = alike(("ab", "ba", "cc"), LOOK)
        self.assertEqual((type(told), [type(group) for group in told]), (list, [list, list]))
        self.assertEqual([type(at) for group in told for at in group], [int] * 3)

    def test_told_lists_are_new(self):
        for turn in range(2):
            told = alike(("ab", "ba", "cc"), LOOK)
            self.assertEqual(told, [[0, 1], [2]])
            told[0].append(2)
            told[1][0] = None
            told.append([])

    def test_refusals(self):
        self.check_refused(NoWords, alike, NO_WORDS, (LOOK,))
        for at, wrong in enumerate(NO_LOOKS):
            with self.subTest(at), self.assertRaises(NoLook):
                alike(("ab", "bc"), wrong)

    def test_no_words_ahead_of_no_look(self):
        for wrong_look in NO_LOOKS:
            self.check_refused(NoWords, alike, NO_WORDS, (wrong_look,))


class BestLooksTest(SeeingCase):
    def test_names_of_arguments(self):
        self.assertEqual(list(inspect.signature(best_looks).parameters), ["words"])

    def test_all_looks_held_against_alike(self):
        every = SOME_WORDS + list(combinations(("aba", "abb", "bab", "baa", "abab", "b", "bb"), 4))
        for words in every:
            counts = {look: len(alike(words, look)) for look in ALL_LOOKS}
            most = max(counts.values())
            self.assertEqual(best_looks(words), sorted(look for look in ALL_LOOKS if counts[look] == most))

    def test_written_out(self):
        # Told apart by their middle letter alone.
        middle = [(-3, -2), (-3, 1), (-2, -3), (-2, -2), (-2, -1), (-2, 0), (-2, 1), (-2, 2), (-1, -2), (-1, 1), (0, -2),
                  (0, 1), (1, -3), (1, -2), (1, -1), (1, 0), (1, 1), (1, 2), (2, -2), (2, 1)]
        self.assertEqual(best_looks(("cat", "cut")), middle)
        # Read backward, so never by both ends.
        self.assertEqual(best_looks(("ab", "ba")), [(one, two) for one, two in ALL_LOOKS
                                                    if (one in (-3, -2, 0)) == (two in (-3, -2, 0))])

    def test_words_that_no_look_tells_apart(self):
        # There is one list by each look, so all are among the best.
        self.assertEqual(best_looks(("a", "aa", "aaa")), ALL_LOOKS)

    def test_a_word_alone(self):
        for word in ("a", "ab", "cat", "ponies"):
            self.assertEqual(best_looks((word,)), ALL_LOOKS)

    def test_kinds_and_new_lists(self):
        for turn in range(2):
            told = best_looks(("cat", "cut"))
            self.assertEqual((type(told), {type(look) for look in told}, len(told)), (list, {tuple}, 20))
            told.clear()

    def test_refusals(self):
        self.check_refused(NoWords, best_looks, NO_WORDS)


class MirroredTest(SeeingCase):
    def test_names_of_arguments(self):
        self.assertEqual(list(inspect.signature(mirrored).parameters), ["words"])

    def test_written_out(self):
        self.assertEqual(mirrored(("cat", "a", "no", "ponies")), ("tac", "a", "on", "seinop"))
        self.assertEqual(mirrored(("ab", "ba")), ("ba", "ab"))
        self.assertEqual(mirrored(("aba",)), ("aba",))
        self.assertIs(type(mirrored(("ab",))), tuple)

    def test_twice(self):
        for words in SOME_WORDS:
            self.assertEqual(mirrored(mirrored(words)), words)

    def test_mirrored_words_by_the_turned_look_are_seen_as_before(self):
        for words, look in product(SOME_WORDS, ALL_LOOKS):
            self.assertEqual(pairs(mirrored(words), turned(look)), pairs(words, look))

    def test_refusals(self):
        self.check_refused(NoWords, mirrored, NO_WORDS)


class TurnedTest(SeeingCase):
    def test_names_of_arguments(self):
        self.assertEqual(list(inspect.signature(turned).parameters), ["look"])

    def test_each_look(self):
        back = {0: -1, 1: -2, 2: -3, -1: 0, -2: 1, -3: 2}
        for one, two in ALL_LOOKS:
            told = turned((one, two))
            self.assertEqual(told, (back[one], back[two]))
            self.assertIs(type(told), tuple)
            self.assertEqual(turned(told), (one, two))

    def test_refusals(self):
        self.check_refused(NoLook, turned, NO_LOOKS)


class RenamedTest(SeeingCase):
    def test_names_of_arguments(self):
        self.assertEqual(list(inspect.signature(renamed).parameters), ["words", "letters"])
        self.assertEqual(renamed(letters=ONE_ON, words=("ab",)), ("bc",))

    def test_written_out(self):
        self.assertEqual(renamed(("cat", "z", "azzaza"), ascii_lowercase), ("cat", "z", "azzaza"))
        self.assertEqual(renamed(("cat", "z", "aabz"), ONE_ON), ("dbu", "a", "bbca"))
        self.assertEqual(renamed(("cat", "z", "aabz"), ONE_BACK), ("bzs", "y", "zzay"))
        self.assertEqual(renamed(("cat", "z"), BACKWARD), ("xzg", "a"))
        # The first letter stands for a: the other way round abc would be kxv.
        self.assertEqual(renamed(("abc", "q"), "qwertyuiopasdfghjklzxcvbnm"), ("qwe", "j"))
        self.assertIs(type(renamed(("ab",), ONE_ON)), tuple)

    def test_each_letter(self):
        letters = "qwertyuiopasdfghjklzxcvbnm"
        for at, letter in enumerate(ascii_lowercase):
            self.assertEqual(renamed((letter,), letters), (letters[at],))

    def test_letters_in_any_order_and_back(self):
        chance = random.Random(13)
        for turn in range(50):
            letters = "".join(chance.sample(ascii_lowercase, 26))
            for words in SOME_WORDS:
                told = renamed(words, letters)
                self.assertEqual([len(word) for word in told], [len(word) for word in words])
                self.assertEqual(renamed(told, letters_that_undo(letters)), words)

    def test_what_is_seen_is_renamed_too(self):
        for words, look in product(SOME_WORDS, ALL_LOOKS):
            seen = pairs(words, look)
            told = pairs(renamed(words, ONE_ON), look)
            self.assertEqual(told, [tuple(ONE_ON[ord(letter) - ord("a")] for letter in pair) for pair in seen])
            self.assertEqual(alike(renamed(words, ONE_ON), look), alike(words, look))

    def test_no_letters(self):
        for at, wrong in enumerate(NO_LETTERS):
            with self.subTest(at), self.assertRaises(NoLetters):
                renamed(("ab", "cat"), wrong)

    def test_each_letter_must_be_there(self):
        for at in range(26):
            for wrong in (ascii_lowercase[:at] + ascii_lowercase[at + 1:],
                          ascii_lowercase[:at] + "-" + ascii_lowercase[at + 1:],
                          ascii_lowercase[:at] + ascii_lowercase[at - 1] + ascii_lowercase[at + 1:]):
                with self.subTest(wrong), self.assertRaises(NoLetters):
                    renamed(("m",), wrong)

    def test_no_words(self):
        self.check_refused(NoWords, renamed, NO_WORDS, (ONE_ON,))

    def test_no_words_ahead_of_no_letters(self):
        for wrong_letters in NO_LETTERS:
            self.check_refused(NoWords, renamed, NO_WORDS, (wrong_letters,))


if __name__ == "__main__":
    unittest.main()
