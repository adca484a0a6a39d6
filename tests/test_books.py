import inspect
import random
import unittest
from itertools import combinations, product

from lookwords.books import Book
from lookwords.errors import Never, NoLook, NoRoom, NoWord, NoWords, NoWorths, Nothing
from lookwords.rooms import least_room, one_to_one
from lookwords.words import numbered
from tests.samples import ALL_LOOKS, NO_LOOKS, NO_ROOMS, NO_WORD, NO_WORDS, ODD_THINGS, near_worths

LOOK = (0, 1)
WORDS = ("ab", "bc", "ca")
WORTHS = (("a", 0), ("b", 1), ("c", 3))
# "ab" stands at 1, "bc" at 4, "ca" at 3; none does at 0 and 2.
PLACES = [None, "ab", None, "ca", "bc"]
GOOD = (WORDS, LOOK, 5, WORTHS)


class BookCase(unittest.TestCase):
    def check_told(self, book, places, counts):
        self.assertEqual((book.places(), book.counts()), (places, counts))

    def check_refused(self, refusal, *asked):
        with self.assertRaises(refusal):
            Book(*asked)


class PlacesTest(BookCase):
    def test_names_of_arguments(self):
        self.assertEqual(list(inspect.signature(Book).parameters), ["words", "look", "room", "worths"])
        for name, asked in (("places", []), ("ask", ["word"]), ("counts", []), ("undo", [])):
            self.assertEqual(list(inspect.signature(getattr(Book, name)).parameters), ["self"] + asked)
        book = Book(worths=WORTHS, room=5, look=LOOK, words=WORDS)
        self.assertEqual(book.ask(word="ab"), 1)

    def test_each_word_stands_at_its_number(self):
        self.check_told(Book(*GOOD), PLACES, (0, 0, 0))

    def test_the_list_has_the_room_s_length(self):
        for room in (1, 2, 50, 99):
            places = Book(("ab",), LOOK, room, (("a", room - 1), ("b", 0))).places()
            self.assertIs(type(places), list)
            self.assertEqual(places, [None] * (room - 1) + ["ab"])

    def test_a_sum_beyond_the_room(self):
        self.assertEqual(Book(("ab", "aa"), LOOK, 5, (("a", 4), ("b", 3))).places(), [None, None, "ab", "aa", None])

    def test_a_full_room(self):
        words = ("al", "bk", "cj", "di", "eh", "fg")
        book = Book(words, LOOK, 6, one_to_one(words, LOOK, 6))
        self.assertEqual(sorted(book.places()), sorted(words))

    def test_every_look(self):
        words = ("cat", "do", "ponies")
        worths = tuple((letter, 3 * at) for at, letter in enumerate("acdeinopst"))
        for look in ALL_LOOKS:
            numbers = numbered(words, look, 97, worths)
            if len(set(numbers)) == 3:
                places = Book(words, look, 97, worths).places()
                self.assertEqual([places.index(word) for word in words], list(numbers))
                self.assertEqual(places.count(None), 94)

    def test_a_told_list_that_is_changed(self):
        book = Book(*GOOD)
        for turn in range(2):
            told = book.places()
            self.assertEqual(told, PLACES)
            told[0], told[1] = "xy", None
            told.append("more")
        self.assertEqual(book.ask("ab"), 1)
        self.assertIsNone(book.ask("aa"))
        self.check_told(book, PLACES, (1, 0, 1))


class AskTest(BookCase):
    def test_a_word_of_the_book(self):
        book = Book(*GOOD)
        for count, (word, number) in enumerate((("ab", 1), ("bc", 4), ("ca", 3), ("ab", 1)), start=1):
            told = book.ask(word)
            self.assertEqual((told, type(told)), (number, int))
            self.check_told(book, PLACES, (count, 0, 0))

    def test_a_word_at_number_0_is_there(self):
        book = Book(("ab",), LOOK, 3, (("a", 0), ("b", 0)))
        told = book.ask("ab")
        self.assertEqual((told, type(told)), (0, int))
        self.assertEqual(book.counts(), (1, 0, 0))

    def test_another_word_at_whose_number_one_stands(self):
        book = Book(*GOOD)
        # "cc" comes to 6, so to 1; others are seen as the same two letters.
        for count, word in enumerate(("cc", "ba", "abc", "ac", "cb", "bcx", "ba"), start=1):
            self.assertIsNone(book.ask(word), word)
            self.check_told(book, PLACES, (0, count, 0))

    def test_a_word_at_whose_number_none_stands(self):
        book = Book(*GOOD)
        for count, word in enumerate(("aa", "bb", "a", "b", "aaz", "aa"), start=1):
            self.assertIsNone(book.ask(word), word)
            self.check_told(book, PLACES, (0, 0, count))

    def test_a_word_that_has_a_letter_without_worth(self):
        book = Book(*GOOD)
        for count, word in enumerate(("ad", "da", "dd", "d", "zebra", "bz"), start=1):
            self.assertIsNone(book.ask(word), word)
            self.check_told(book, PLACES, (0, 0, count))

    def test_a_letter_that_is_not_seen_needs_no_worth(self):
        book = Book(("axb",), (0, -1), 5, (("a", 1), ("b", 2)))
        self.assertEqual(book.ask("axb"), 3)
        self.assertIsNone(book.ask("ayb"))
        self.assertEqual(book.counts(), (1, 1, 0))
        self.assertIsNone(book.ask("abx"))
        self.assertEqual(book.counts(), (1, 1, 1))

    def test_worths_of_letters_that_no_word_has(self):
        book = Book(("ab",), LOOK, 5, (("a", 1), ("b", 2), ("x", 3), ("y", 0), ("z", 4)))
        # Behind its own word: "xy" comes to 3 as well, "zx" to 2, and "q" has no worth.
        self.assertEqual([book.ask(word) for word in ("ab", "xy", "zx", "zz", "qa")], [3, None, None, None, None])
        self.assertEqual(book.counts(), (1, 2, 2))

    def test_all_words_of_two_letters(self):
        book = Book(*GOOD)
        counts = [0, 0, 0]
        for word in ["".join(word) for word in product("abcd", repeat=2)]:
            asked = None
            if "d" in word:
                counts[2] += 1
            else:
                number = numbered((word,), LOOK, 5, WORTHS)[0]
                asked = number if PLACES[number] == word else None
                counts[0 if asked is not None else 1 if PLACES[number] is not None else 2] += 1
            self.assertEqual(book.ask(word), asked, word)
            self.check_told(book, PLACES, tuple(counts))

    def test_counts_are_a_tuple(self):
        told = Book(*GOOD).counts()
        self.assertEqual((type(told), [type(count) for count in told]), (tuple, [int] * 3))

    def test_no_word(self):
        book = Book(*GOOD)
        book.ask("ab")
        for at, wrong in enumerate(NO_WORD):
            with self.subTest(at), self.assertRaises(NoWord):
                book.ask(wrong)
            self.check_told(book, PLACES, (1, 0, 0))
        # It is not taken back either.
        self.assertEqual(book.undo(), "ab")
        self.check_told(book, PLACES, (0, 0, 0))


class UndoTest(BookCase):
    def check_nothing(self, book):
        for turn in range(2):
            with self.assertRaises(Nothing):
                book.undo()
            self.check_told(book, PLACES, (0, 0, 0))

    def test_nothing_at_first(self):
        self.check_nothing(Book(*GOOD))

    def test_back_to_nothing_asked(self):
        book = Book(*GOOD)
        for word in ("ab", "ba", "dd", "aa", "bc", "ab"):
            book.ask(word)
        self.check_told(book, PLACES, (3, 1, 2))
        for word, counts in (("ab", (2, 1, 2)), ("bc", (1, 1, 2)), ("aa", (1, 1, 1)), ("dd", (1, 1, 0)),
                             ("ba", (1, 0, 0)), ("ab", (0, 0, 0))):
            self.assertEqual(book.undo(), word)
            self.check_told(book, PLACES, counts)
        self.check_nothing(book)
        # All is as before.
        self.assertEqual(book.ask("ca"), 3)
        self.check_told(book, PLACES, (1, 0, 0))
        self.assertEqual(book.undo(), "ca")
        self.check_nothing(book)

    def test_what_is_taken_back_is_not_taken_back_again(self):
        book = Book(*GOOD)
        for word in ("ab", "bc"):
            book.ask(word)
        self.assertEqual(book.undo(), "bc")
        book.ask("aa")
        self.assertEqual(book.counts(), (1, 0, 1))
        self.assertEqual([book.undo(), book.undo()], ["aa", "ab"])
        self.check_nothing(book)

    def test_calls_by_chance_that_is_the_same_each_time(self):
        chance = random.Random(14)
        kinds = {"ab": 0, "bc": 0, "ca": 0, "ba": 1, "cc": 1, "cbx": 1, "aa": 2, "b": 2, "xa": 2, "ponies": 2}
        book, asked = Book(*GOOD), []
        for turn in range(400):
            if chance.randrange(5) < 3:
                asked.append(chance.choice(sorted(kinds)))
                self.assertEqual(book.ask(asked[-1]), PLACES.index(asked[-1]) if kinds[asked[-1]] == 0 else None)
            elif asked:
                self.assertEqual(book.undo(), asked.pop())
            told = [kinds[word] for word in asked]
            self.check_told(book, PLACES, (told.count(0), told.count(1), told.count(2)))


class ByThemselvesTest(BookCase):
    def test_two_books(self):
        one, two = Book(*GOOD), Book(*GOOD)
        other = Book(("ba", "aa"), LOOK, 5, WORTHS)
        one.ask("ab")
        one.ask("ba")
        two.ask("dd")
        self.assertEqual(other.ask("ba"), 1)
        self.check_told(one, PLACES, (1, 1, 0))
        self.check_told(two, PLACES, (0, 0, 1))
        self.check_told(other, ["aa", "ba", None, None, None], (1, 0, 0))
        self.assertEqual(two.undo(), "dd")
        with self.assertRaises(Nothing):
            two.undo()
        self.check_told(one, PLACES, (1, 1, 0))
        self.check_told(other, ["aa", "ba", None, None, None], (1, 0, 0))

    def test_equal_behind_the_same_calls(self):
        one, two = Book(*GOOD), Book(*GOOD)
        for word in ("ab", "ba", "dd", "aa", "ca"):
            self.assertEqual(one.ask(word), two.ask(word))
            self.assertEqual((one.places(), one.counts()), (two.places(), two.counts()))


class RefusalsTest(BookCase):
    def test_no_words(self):
        for at, wrong in enumerate(NO_WORDS):
            with self.subTest(at):
                self.check_refused(NoWords, wrong, *GOOD[1:])

    def test_no_look(self):
        for at, wrong in enumerate(NO_LOOKS):
            with self.subTest(at):
                self.check_refused(NoLook, WORDS, wrong, 5, WORTHS)

    def test_no_room(self):
        for at, wrong in enumerate(NO_ROOMS):
            with self.subTest(at):
                self.check_refused(NoRoom, WORDS, LOOK, wrong, WORTHS)

    def test_no_worths(self):
        for at, wrong in enumerate(ODD_THINGS + near_worths(WORTHS, 5)):
            with self.subTest(at):
                self.check_refused(NoWorths, WORDS, LOOK, 5, wrong)
        # All letters that are seen have to be there.
        for at in range(3):
            self.check_refused(NoWorths, WORDS, LOOK, 5, WORTHS[:at] + WORTHS[at + 1:])
        self.check_refused(NoWorths, WORDS, LOOK, 3, WORTHS)

    def test_never(self):
        self.check_refused(Never, ("ab", "ba"), LOOK, 5, WORTHS)
        self.check_refused(Never, ("ab", "cc"), LOOK, 5, WORTHS)
        self.check_refused(Never, ("ab", "ca", "bc", "cc"), LOOK, 5, WORTHS)
        self.check_refused(Never, ("ab", "cd"), LOOK, 1, (("a", 0), ("b", 0), ("c", 0), ("d", 0)))
        self.assertEqual(Book(("ab", "cc"), LOOK, 7, WORTHS).places()[6], "cc")

    def test_never_just_where_two_have_one_number(self):
        for words in combinations(("aa", "ab", "bb", "bc", "ca"), 3):
            for values in product(range(4), repeat=3):
                worths = tuple(zip("abc", values))
                numbers = numbered(words, LOOK, 4, worths)
                if len(set(numbers)) < 3:
                    self.check_refused(Never, words, LOOK, 4, worths)
                else:
                    self.assertEqual([Book(words, LOOK, 4, worths).ask(word) for word in words], list(numbers))

    def test_order(self):
        # Words that would have one number, were nothing else wrong.
        good = (("ab", "ba"), LOOK, 5, WORTHS)
        wrong = (("ab", "ab"), (0, 3), 100, (("b", 0), ("a", 0)))
        order = (NoWords, NoLook, NoRoom, NoWorths)
        for first in range(4):
            self.check_refused(order[first], *good[:first], *wrong[first:])
            self.check_refused(order[first], *good[:first], wrong[first], *good[first + 1:])
            for second in range(first + 1, 4):
                asked = list(good)
                asked[first], asked[second] = wrong[first], wrong[second]
                self.check_refused(order[first], *asked)
        self.check_refused(NoWorths, ("ab", "ba"), LOOK, 5, WORTHS[:1])
        self.check_refused(Never, *good)

    def test_books_by_the_least_worths(self):
        for words in combinations(("aa", "ab", "bb", "bc", "ca", "cd"), 4):
            room = least_room(words, LOOK)
            worths = one_to_one(words, LOOK, room)
            book = Book(words, LOOK, room, worths)
            self.assertEqual(tuple(book.ask(word) for word in words), numbered(words, LOOK, room, worths))
            self.assertEqual(book.counts(), (4, 0, 0))


if __name__ == "__main__":
    unittest.main()
