import inspect
import random
import re
import unittest
from itertools import product

from lookwords.errors import Full, Known, Never, NoRoom, NoText, NoWord, NoWorths
from lookwords.lists import Words
from lookwords.rooms import clash
from lookwords.writing import list_of, list_text, read_worths, worths_text
from tests.samples import ALL_LOOKS, NO_ROOMS, NO_TEXTS, ODD_THINGS, all_told, list_of_words, near_worths

ALL_LETTERS = "abcdefghijklmnopqrstuvwxyz"
# Among them figures of other scripts, blanks that are none, and letters that look like others.
SIGNS = "ab0129 :;,-+._\n\t\x00\r\xa0\u2003\u0661\u00b2\uff11\u0967\u2212\u0430\uff1aAZ(){}'\""
LISTS = [
    ((0, 1), ()), ((0, 1), ("ab",)), ((0, -1), ("cat", "dog")), ((-3, 2), ("cat", "dog", "tag")), ((-1, -2), ("a", "b")),
    ((0, 1), ("aa", "bb", "cc", "dd", "ee", "ff")), ((1, 0), ("zy", "ab", "mn", "ponies")),
    ((-2, -2), ("abc", "cda", "ccc", "bbeb", "a")), ((2, 2), ("k",)), ((-3, -3), ()),
]


def near_texts(text, signs=SIGNS):
    """Texts with a sign left out, put in, exchanged, doubled, or changed with the next one."""
    found = {text[:at] + text[at + 1:] for at in range(len(text))}
    found |= {text[:at] + sign + text[at:] for at in range(len(text) + 1) for sign in signs}
    found |= {text[:at] + sign + text[at + 1:] for at in range(len(text)) for sign in signs}
    found |= {text[:at] + text[at:at + 2][::-1] + text[at + 2:] for at in range(len(text))}
    found |= {text[:at] + text[at] + text[at:] for at in range(len(text))}
    return sorted(found)


def worths_plainly(text, room):
    """The worths that a text writes, or None: point 13 once more."""
    if not re.fullmatch(r"([a-z](0|[1-9][0-9]*)( [a-z](0|[1-9][0-9]*))*)?", text, re.ASCII):
        return None
    worths = tuple((part[0], int(part[1:])) for part in text.split())
    letters = [letter for letter, number in worths]
    fits = letters == sorted(set(letters)) and all(number < room for letter, number in worths)
    return worths if fits else None


def list_plainly(text):
    """The look and words that a text writes, or None."""
    if not re.fullmatch(r"(-[123]|[012]) (-[123]|[012]):( [a-z]{1,6})*", text, re.ASCII):
        return None
    head, tail = text.split(":")
    look, words = tuple(int(place) for place in head.split()), tuple(tail.split())
    if len(words) > 6 or len(set(words)) < len(words):
        return None
    return None if words and clash(words, look) is not None else (look, words)


class WritingCase(unittest.TestCase):
    def check_no_text(self, function, *asked):
        with self.assertRaises(NoText):
            function(*asked)


class WorthsTextTest(WritingCase):
    def check(self, worths, room, text):
        told = worths_text(worths, room)
        self.assertEqual((told, type(told)), (text, str))
        self.assertEqual(read_worths(text, room), worths)

    def test_names_of_arguments(self):
        self.assertEqual(list(inspect.signature(worths_text).parameters), ["worths", "room"])
        self.assertEqual(list(inspect.signature(read_worths).parameters), ["text", "room"])

    def test_none(self):
        for room in (1, 2, 99):
            self.check((), room, "")

    def test_one(self):
        self.check((("a", 0),), 1, "a0")
        self.check((("q", 7),), 8, "q7")
        self.check((("z", 98),), 99, "z98")

    def test_several(self):
        self.check((("a", 0), ("b", 1), ("z", 2)), 3, "a0 b1 z2")
        self.check((("a", 10), ("c", 9), ("d", 10), ("x", 0)), 11, "a10 c9 d10 x0")
        self.check((("a", 90), ("b", 9), ("c", 98)), 99, "a90 b9 c98")

    def test_each_number(self):
        for number in range(99):
            self.check((("m", number),), 99, "m" + str(number))
            self.check((("m", number),), number + 1, "m" + str(number))

    def test_all_letters(self):
        worths = tuple((letter, 3 * at) for at, letter in enumerate(ALL_LETTERS))
        self.check(worths, 99, " ".join(letter + str(number) for letter, number in worths))

    def test_worths_by_chance_that_is_the_same_each_time(self):
        chance = random.Random(15)
        for turn in range(300):
            room = chance.randint(1, 99)
            letters = sorted(chance.sample(ALL_LETTERS, chance.randint(0, 26)))
            worths = tuple((letter, chance.randrange(room)) for letter in letters)
            self.assertEqual(read_worths(worths_text(worths, room), room), worths)

    def test_no_room(self):
        for at, wrong in enumerate(NO_ROOMS):
            with self.subTest(at), self.assertRaises(NoRoom):
                worths_text((("a", 0),), wrong)

    def test_no_worths(self):
        worths = (("a", 1), ("b", 2), ("c", 3))
        for at, wrong in enumerate(ODD_THINGS + near_worths(worths, 9)):
            # Of worths of any letters none is lacking: so the empty tuple is as good as others.
            if not (isinstance(wrong, tuple) and len(wrong) == 0):
                with self.subTest(at), self.assertRaises(NoWorths):
                    worths_text(wrong, 9)
        with self.assertRaises(NoWorths):
            worths_text(worths, 3)

    def test_no_room_ahead_of_no_worths(self):
        for wrong in NO_ROOMS:
            for thing in (None, [], (("a", -1),), (("b", 0), ("a", 0)), "a0"):
                with self.assertRaises(NoRoom):
                    worths_text(thing, wrong)


class ReadWorthsTest(WritingCase):
    def check(self, text, room):
        asked = worths_plainly(text, room)
        if asked is None:
            self.check_no_text(read_worths, text, room)
        else:
            self.assertEqual(read_worths(text, room), asked)

    def test_kinds(self):
        told = read_worths("a3 b12", 20)
        self.assertEqual(told, (("a", 3), ("b", 12)))
        self.assertEqual((type(told), [type(part) for part in told]), (tuple, [tuple, tuple]))
        self.assertEqual([(type(letter), type(number)) for letter, number in told], [(str, int)] * 2)
        self.assertEqual(type(read_worths("", 20)), tuple)

    def test_texts_that_are_nearly_those_of_worths(self):
        for text, room in (("", 5), ("a0", 1), ("a0", 2), ("b1", 12), ("a0 b1", 2), ("a10 b9", 20), ("a1 b12 z98", 99),
                           ("a9 b10 c11", 12), ("y98 z98", 99)):
            for near in near_texts(text):
                with self.subTest(near):
                    self.check(near, room)

    def test_written_out(self):
        for text in ("a", "1", "a 1", "a1b2", "a1  b2", " a1", "a1 ", "a1 b2 ", " ", "  ", "a01", "a00", "b2 a1", "a1 a2",
                     "a1 a1", "a9", "a10", "a-1", "a-0", "a+1", "aa1", "a1a", "A1", "1a", "a1,b2", "a1, b2", "a1\nb2",
                     "a1\tb2", "a1\n", "\na1", "a1\x00", "a1.0", "a1_0", "a0x1", "a1 b", "a1 2", "a\u0661", "a\u00b2",
                     "a\uff11", "\u00e41", "\u04301", "a1\u2003b2", "a1\xa0b2", "a()", "{1", "`1", "a" + "9" * 5000, "a1e0",
                     "('a', 1)", "None", "a1 b2 b3", "a1 c2 b3", "\ud8001", "a\ud800", "a1 " * 7 + "b2", "a" + "0" * 5000):
            with self.subTest(text):
                self.check_no_text(read_worths, text, 9)

    def test_a_number_not_within_the_room(self):
        for room in range(1, 100):
            self.assertEqual(read_worths(f"a{room - 1}", room), (("a", room - 1),))
            for wrong in (room, room + 1, 99, 100, 101, 999):
                if wrong >= room:
                    self.check_no_text(read_worths, f"a{wrong}", room)

    def test_letters_that_do_not_rise(self):
        for letters in product("abcd", repeat=3):
            self.check(" ".join(letter + "1" for letter in letters), 9)

    def test_things_of_any_other_kind(self):
        for at, wrong in enumerate(NO_TEXTS):
            with self.subTest(at):
                self.check_no_text(read_worths, wrong, 9)

    def test_no_room(self):
        for at, wrong in enumerate(NO_ROOMS):
            with self.subTest(at), self.assertRaises(NoRoom):
                read_worths("a0", wrong)

    def test_no_room_ahead_of_no_text(self):
        for wrong, thing in product(NO_ROOMS, NO_TEXTS + ["a", "a00", " ", "b0 a0"]):
            with self.assertRaises(NoRoom):
                read_worths(thing, wrong)


class ListTextTest(WritingCase):
    def check_goes_on(self, one, two, words=("xy", "ab", "bb", "ponies", "zz", "zy", "no", "Ab", "")):
        """Both lists tell the same, also behind the same calls."""
        self.assertEqual(all_told(one), all_told(two))
        for word in words:
            answers = []
            for some in (one, two):
                try:
                    answers.append(some.come(word))
                except (NoWord, Known, Full, Never) as refusal:
                    answers.append(type(refusal))
            self.assertEqual(answers[0], answers[1], word)
            self.assertEqual(all_told(one), all_told(two))
        self.assertEqual(list_text(one), list_text(two))

    def test_names_of_arguments(self):
        self.assertEqual(list(inspect.signature(list_text).parameters), ["some"])
        self.assertEqual(list(inspect.signature(list_of).parameters), ["text"])

    def test_a_list_at_first(self):
        for one, two in ALL_LOOKS:
            text = list_text(Words((one, two)))
            self.assertEqual((text, type(text)), (f"{one} {two}:", str))
            some = list_of(text)
            self.assertIs(type(some), Words)
            self.assertEqual(all_told(some), ((), 0, []))
            self.check_goes_on(some, Words((one, two)))

    def test_written_out(self):
        self.assertEqual(list_text(list_of_words(("ab",))), "0 1: ab")
        self.assertEqual(list_text(list_of_words(("cat", "dog"), (0, -1))), "0 -1: cat dog")
        self.assertEqual(list_text(list_of_words(("zy", "ab", "mn"), (-3, -2))), "-3 -2: zy ab mn")
        self.assertEqual(list_text(list_of_words(("aa", "bb", "cc", "dd", "ee", "ff"))), "0 1: aa bb cc dd ee ff")
        self.assertEqual(list_text(list_of_words(("ponies", "a"), (2, 0))), "2 0: ponies a")

    def test_what_is_read_is_what_was_written(self):
        for look, words in LISTS:
            some = list_of_words(words, look)
            told = list_of(list_text(some))
            self.assertEqual(all_told(told), all_told(some))
            self.assertEqual(list_text(told), list_text(some))
            self.assertEqual([told.number(word) for word in words], [some.number(word) for word in words])

    def test_it_goes_on_as_the_written_one(self):
        for look, words in LISTS:
            some = list_of_words(words, look)
            self.check_goes_on(list_of(list_text(some)), some)

    def test_each_list_on_the_way(self):
        words = ("aa", "bb", "ab", "cc", "ca", "dd")
        some = Words((0, 1))
        for at, word in enumerate(words):
            some.come(word)
            told = list_of(list_text(some))
            self.check_goes_on(told, list_of_words(words[:at + 1]), words[at + 1:] + ("ee",))

    def test_lists_by_chance_that_is_the_same_each_time(self):
        chance = random.Random(16)
        for turn in range(40):
            look = chance.choice(ALL_LOOKS)
            some = Words(look)
            for step in range(8):
                try:
                    some.come("".join(chance.choice("abcde") for place in range(chance.randint(1, 6))))
                except (Known, Full, Never):
                    pass
            told = list_of(list_text(some))
            self.assertEqual(all_told(told), all_told(some))
            self.assertEqual(list_text(some), f"{look[0]} {look[1]}:" + "".join(" " + word for word in some.words()))

    def test_a_refused_word_is_not_written(self):
        some = list_of_words(("ab", "cd"))
        for word in ("ba", "ab", "Ab"):
            with self.assertRaises((Never, Known, NoWord)):
                some.come(word)
        self.assertEqual(list_text(some), "0 1: ab cd")

    def test_by_itself(self):
        some = list_of_words(("ab",))
        text = list_text(some)
        one, two = list_of(text), list_of(text)
        one.come("cd")
        self.assertEqual((some.words(), one.words(), two.words()), (("ab",), ("ab", "cd"), ("ab",)))
        some.come("ef")
        two.come("aa")
        self.assertEqual((some.words(), one.words(), two.words()), (("ab", "ef"), ("ab", "cd"), ("ab", "aa")))
        self.assertEqual((text, list_text(some)), ("0 1: ab", "0 1: ab ef"))

    def test_writing_changes_nothing(self):
        some = list_of_words(("aa", "bb"))
        ahead = all_told(some)
        self.assertEqual(list_text(some), list_text(some))
        self.assertEqual(all_told(some), ahead)
        self.check_goes_on(some, list_of_words(("aa", "bb")))


class ListOfTest(WritingCase):
    def check(self, text):
        asked = list_plainly(text)
        if asked is None:
            self.check_no_text(list_of, text)
        else:
            self.assertEqual(list_of(text).words(), asked[1])
            self.assertEqual(list_text(list_of(text)), text)

    def test_texts_that_are_nearly_those_of_lists(self):
        for text in ("0 1:", "-3 -1:", "2 -2: a", "0 1: ab", "0 -1: cat dog", "-1 1: ab ba a", "0 1: ponies oxen"):
            for near in near_texts(text):
                with self.subTest(near):
                    self.check(near)

    def test_six_words_with_signs_changed(self):
        for near in near_texts("0 1: aa bb cc dd ee ff", "a f:-1"):
            with self.subTest(near):
                self.check(near)

    def test_places(self):
        places = [str(place) for place in range(-12, 13)] + ["-0", "00", "01", "-01", "+1", "+0", "", "-", "--1", "1.", "1.0",
                                                            "\u0661", "\u00b2", "\uff11", "\u22121", "a", "True", "9" * 5000]
        for one, two in product(places, repeat=2):
            for text in (f"{one} {two}:", f"{one} {two}: ab"):
                self.check(text)

    def test_written_out(self):
        for text in ("", " ", ":", " :", ": ab", "0:", "0: ab", "0 1", "0 1 ab", "01:", "0 1 :", "0 1 : ab", " 0 1:", "0  1:",
                     "0 1: ", "0 1:  ", "0 1:ab", "0 1:  ab", "0 1: ab ", "0 1: ab  cd", "0 1: ab cd ", "0 1:: ab",
                     "0 1: :", "0 1: ab:", "0 1: ab: cd", "0 1 2: ab", "0,1: ab", "0 1; ab", "0 1: ab,cd", "0 1: ab, cd",
                     "0 1: ab\n", "0 1:\n", "\n0 1:", "0\n1:", "0\t1:", "0 1:\tab", "0 1: ab\ncd", "0 1: ab\tcd",
                     "0 1:\xa0ab", "0\u20031:", "0 1\uff1a ab", "0 1: Ab", "0 1: a1", "0 1: 1", "0 1: \u00e4b",
                     "0 1: \u0430", "0 1: ab\x00", "0 3:", "3 0:", "-4 0:", "0 -4:", "0 10:", "-0 1:", "0 -0:", "0 01:",
                     "00 1:", "0 +1:", "(0, 1): ab", "0 1: \ud800", "\ud800 1:"):
            with self.subTest(text):
                self.check_no_text(list_of, text)

    def test_a_word_that_would_not_come(self):
        for text, refusal in (("0 1: ab ba", Never), ("0 1: ab cd abc", Never), ("0 1: aa aab", Never),
                              ("0 1: ab ab", Known), ("0 1: ab cd ab", Known), ("0 1: abcdefg", NoWord),
                              ("0 1: ab abcdefg", NoWord), ("0 1: ag bh ci dj ek fl xy", Full),
                              ("0 1: ag bh ci dj ek fl ag", Known), ("0 1: ag bh ci dj ek fl xy zz", Full)):
            words = text.split()[2:]
            with self.subTest(text), self.assertRaises(refusal):
                list_of_words(words)
            self.check_no_text(list_of, text)
        self.assertEqual(list_of("0 1: ag bh ci dj ek fl").room(), 6)

    def test_whether_words_clash_is_a_matter_of_the_look(self):
        self.assertEqual(list_of("0 1: cat cut").words(), ("cat", "cut"))
        self.check_no_text(list_of, "0 2: cat cut")

    def test_things_of_any_other_kind(self):
        for at, wrong in enumerate(NO_TEXTS):
            with self.subTest(at):
                self.check_no_text(list_of, wrong)

    def test_a_refusal_changes_nothing(self):
        some = list_of("0 1: ab")
        self.check_no_text(list_of, "0 1: ab ba")
        self.assertEqual(all_told(some), (("ab",), 1, [("ab", 0)]))
        self.assertEqual(list_of("0 1: ab").words(), ("ab",))


if __name__ == "__main__":
    unittest.main()
