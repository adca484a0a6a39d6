"""What is promised over the whole program."""

import ast
import copy
import importlib
import unittest
from pathlib import Path
from string import ascii_lowercase

from lookwords.books import Book
from lookwords.counting import how_many, place_of, worths_at
from lookwords.errors import NoNumbers, NoPlace, NoRoom, NoWorths, WordError
from lookwords.lists import Words
from lookwords.mending import left_out, mended
from lookwords.rooms import clash, in_order, least_room, looks, one_to_one
from lookwords.seeing import alike, best_looks, mirrored, renamed, turned
from lookwords.telling import bar, is_bar, is_telling, worths
from lookwords.words import numbered, pairs
from lookwords.writing import list_of, list_text, read_worths, worths_text
from tests.samples import all_told, list_of_words

LOOK = (0, 1)
FREE = (("ab", "bc", "cc"), LOOK, 9, (3, 4, 5))
BARRED = (("ab", "ba", "cd"), LOOK, 9, (3, 4, 5))
WORTHS = (("a", 0), ("b", 1), ("c", 3))
BAR = ("a", [0, 1])

NAMES = {
    "words": ["pairs", "numbered"], "telling": ["bar", "worths", "is_telling", "is_bar"],
    "rooms": ["clash", "one_to_one", "least_room", "looks", "in_order"], "lists": ["Words"],
    "counting": ["how_many", "worths_at", "place_of"], "mending": ["left_out", "mended"],
    "seeing": ["alike", "best_looks", "mirrored", "turned", "renamed"], "books": ["Book"],
    "writing": ["worths_text", "read_worths", "list_text", "list_of"],
}

# Each function of the program with things to ask it.
ASKED = [
    (pairs, FREE[:2]), (pairs, BARRED[:2]), (numbered, (FREE[0], LOOK, 9, WORTHS)),
    (bar, FREE), (bar, BARRED), (worths, FREE), (worths, BARRED), (is_telling, FREE + (WORTHS,)),
    (is_telling, FREE + ([WORTHS],)), (is_bar, BARRED + (BAR,)), (is_bar, FREE + (BAR,)), (is_bar, BARRED + ([["a"]],)),
    (clash, FREE[:2]), (clash, BARRED[:2]), (one_to_one, FREE[:3]), (one_to_one, BARRED[:3]), (least_room, FREE[:2]),
    (least_room, BARRED[:2]), (looks, FREE[:1]), (looks, BARRED[:1]), (in_order, FREE[:2]), (in_order, BARRED[:2]),
    (how_many, FREE), (how_many, BARRED), (worths_at, FREE + (0,)), (worths_at, BARRED + (0,)),
    (place_of, FREE + (worths(*FREE),)), (place_of, FREE + ([],)),
    (left_out, FREE), (left_out, BARRED), (mended, FREE), (mended, BARRED),
    (alike, FREE[:2]), (alike, BARRED[:2]), (best_looks, FREE[:1]), (best_looks, BARRED[:1]), (mirrored, FREE[:1]),
    (turned, (LOOK,)), (renamed, (FREE[0], ascii_lowercase[::-1])), (renamed, (FREE[0], ["a"])),
    (worths_text, (WORTHS, 9)), (worths_text, ([WORTHS], 9)), (read_worths, ("a0 b1", 9)), (read_worths, (["a0"], 9)),
    (list_text, (list_of_words(("ab", "cc")),)), (list_of, ("0 1: ab cc",)), (list_of, (["0 1:"],)),
    (pairs, (["ab"], LOOK)), (pairs, (("ab",), [0, 1])), (left_out, FREE[:3] + ([3, 4, 5],)),
]


def answer(function, asked):
    """What is told, or which refusal; of a list of words what it tells."""
    try:
        told = function(*asked)
    except WordError as refusal:
        return type(refusal)
    return all_told(told) if isinstance(told, Words) else told


def spoil(told):
    """Changes all lists within what was told."""
    if isinstance(told, (list, tuple)):
        for part in told:
            spoil(part)
    if isinstance(told, list):
        told.reverse()
        told.append("more")


class WholeTest(unittest.TestCase):
    def test_every_function_is_asked(self):
        asked = {(function.__module__, function.__name__) for function, things in ASKED}
        names = {(f"lookwords.{module}", name) for module, names in NAMES.items() for name in names}
        self.assertEqual(asked, names - {("lookwords.lists", "Words"), ("lookwords.books", "Book")})

    def test_asked_twice_each_tells_the_same(self):
        for at, (function, asked) in enumerate(ASKED):
            with self.subTest(at, function=function.__name__):
                self.assertEqual(answer(function, asked), answer(function, asked))

    def test_equal_things_give_equal_answers(self):
        for at, (function, asked) in enumerate(ASKED):
            with self.subTest(at, function=function.__name__):
                self.assertEqual(answer(function, asked), answer(function, copy.deepcopy(asked)))

    def test_told_lists_that_are_changed_change_nothing_told_later(self):
        first = [copy.deepcopy(answer(function, asked)) for function, asked in ASKED]
        for turn in range(2):
            for function, asked in ASKED:
                spoil(answer(function, asked))
        self.assertEqual([answer(function, asked) for function, asked in ASKED], first)

    def test_what_is_handed_in_is_not_changed(self):
        for at, (function, asked) in enumerate(ASKED):
            if function != list_text:
                ahead = copy.deepcopy(asked)
                answer(function, asked)
                self.assertEqual(asked, ahead, at)

    def test_what_is_handed_in_is_not_kept(self):
        walk = [0, 1]
        self.assertIs(is_bar(*BARRED, ("a", walk)), True)
        walk.append(2)
        self.assertIs(is_bar(*BARRED, ("a", [0, 1])), True)
        self.assertIs(is_bar(*BARRED, ("a", walk)), False)

    def test_lists_of_words_and_books_whose_told_lists_are_changed(self):
        some, book = list_of_words(("ab", "cc")), Book(("ab", "cc"), LOOK, 9, WORTHS)
        told, places = all_told(some), book.places()
        for turn in range(2):
            spoil(some.numbers())
            spoil(book.places())
        self.assertEqual((all_told(some), book.places()), (told, places))
        self.assertEqual([book.ask(word) for word in ("ab", "cc")], [1, 6])
        self.assertEqual(some.come("ac"), list_of_words(("ab", "cc", "ac")).room())
        self.assertEqual(all_told(some), all_told(list_of_words(("ab", "cc", "ac"))))

    def test_true_and_false_are_no_whole_numbers(self):
        for call, refusal in (
            (lambda: bar(("ab",), LOOK, True, (0,)), NoRoom), (lambda: bar(("ab",), LOOK, 2, (True,)), NoNumbers),
            (lambda: mended(("ab",), LOOK, 2, (False,)), NoNumbers), (lambda: left_out(("ab",), LOOK, True, (0,)), NoRoom),
            (lambda: Book(("aa",), LOOK, True, (("a", 0),)), NoRoom),
            (lambda: Book(("aa",), LOOK, 2, (("a", True),)), NoWorths),
            (lambda: worths_text((("a", True),), 2), NoWorths), (lambda: worths_text((("a", 0),), True), NoRoom),
            (lambda: read_worths("a0", True), NoRoom), (lambda: worths_at(("ab",), LOOK, 2, (0,), True), NoPlace),
        ):
            with self.assertRaises(refusal):
                call()
        self.assertIs(is_bar(*BARRED, ("a", [False, True])), False)
        self.assertIs(is_telling(("aa",), LOOK, 3, (2,), (("a", True),)), False)

    def test_no_answer_is_true_or_false_where_a_number_is_told(self):
        def numbers_in(told):
            parts = told if isinstance(told, (list, tuple)) else []
            return [told] if isinstance(told, int) else [number for part in parts for number in numbers_in(part)]
        for function, asked in ASKED:
            if function not in (is_telling, is_bar, in_order):
                self.assertEqual({type(number) for number in numbers_in(answer(function, asked))} - {int}, set())


class InterfaceTest(unittest.TestCase):
    def test_names(self):
        for module, names in NAMES.items():
            for name in names:
                self.assertTrue(callable(getattr(importlib.import_module(f"lookwords.{module}"), name)))

    def test_only_the_package_itself_is_drawn_from(self):
        # So there is no clock, no chance, no file.
        for path in sorted((Path(__file__).resolve().parent.parent / "lookwords").glob("*.py")):
            for node in ast.walk(ast.parse(path.read_text())):
                self.assertNotIsInstance(node, ast.Import)
                if isinstance(node, ast.ImportFrom):
                    self.assertRegex(node.module, r"^lookwords\.[a-z]+$")


if __name__ == "__main__":
    unittest.main()
