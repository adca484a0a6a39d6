"""Wrong things, and slow and plain answers to hold the program's against."""

from itertools import combinations, product

from lookwords.errors import NoLook, NoNumbers, NoRoom, NoWords
from lookwords.lists import Words


ALL_LOOKS = list(product(range(-3, 3), repeat=2))


class Prickly:
    """Nothing can be done with it but asking for its class."""

    def refuse(self, *rest):
        raise AssertionError("a thing of a wrong kind was used")

    __eq__ = __ne__ = __lt__ = __le__ = __gt__ = __ge__ = refuse
    __len__ = __iter__ = __getitem__ = __contains__ = __bool__ = refuse
    __repr__ = __str__ = __add__ = __radd__ = __mod__ = __index__ = refuse
    __hash__ = None


ODD_THINGS = [
    None, True, False, Prickly(), object(), len, int, "", " ", "ab", "A", b"ab", b"", 0, 1, -1, 7, 10 ** 5000,
    -10 ** 5000, [], [[]], [0], ["ab"], [0, 0], (), ((),), (None,), (True, False), (Prickly(),), ([],), ({},),
    (Prickly(), Prickly()), {}, {"ab": 0}, {0: 1}, set(), {"ab"}, frozenset(), range(2), iter([]),
    ("a", Prickly()), (Prickly(), [0]), ((Prickly(), 0),), (("a", Prickly()),),
]

NO_WORDS = ODD_THINGS + [
    ["ab", "bc"], "abc", {"ab": 1}, {"ab", "bc"}, ("",), ("ab", ""), ("abcdefg",), ("ab", "abcdefg"),
    ("ab", "ab"), ("ab", "bc", "ab"), ("Ab",), ("aB",), ("a b",), ("ab ",), ("ab\n",), ("a-b",), ("a1",), ("1",),
    ("\u00e4b",), ("\u00df",), ("\u0430",), ("\uff41",), ("a`",), ("a{",), ("@",), (b"ab",), (1,), (True,), (None,),
    (("a", "b"),), (["a", "b"],), ("ab", 1), ("ab", ["bc"]), ("ab", {}),
    ("a", "b", "c", "d", "e", "f", "g"), ("ab", "ab", 1),
]

NO_WORD = [thing for thing in ODD_THINGS if not (isinstance(thing, str) and thing == "ab")] + [
    ["ab"], ("ab",), ("a", "b"), "abcdefg", "Ab", "aB", "AB", "a b", "ab ", " ab", "ab\n", "a-b", "a1", "1", "\u00e4b",
    "\u00df", "\u0430", "\uff41", "a`", "a{", "@", {"a": "b"},
]

NO_LOOKS = ODD_THINGS + [
    [0, 1], (0,), (0, 1, 2), (0, 3), (3, 0), (-4, 0), (0, -4), (0, 100), (True, 0), (0, True), (False, 1), (0, False),
    ("0", 1), (0, "1"), (0, None), ((0,), (1,)), ([0], 1), {0: 1}, {0, 1}, range(2), "01", (0, 10 ** 5000),
]

NO_ROOMS = [thing for thing in ODD_THINGS if not (isinstance(thing, int) and thing in (1, 7)) or thing is True] + [
    -99, 100, 101, "5", (5,), [5], b"\x05", {5: 5}, {5},
]


NO_TEXTS = [thing for thing in ODD_THINGS if not isinstance(thing, str)] + [
    ("a1",), ["a1"], b"a1", (("a", 1),), ("0 1:",), ["0 1:"], b"0 1:", {"a": 1}, Words((0, 1)),
]


def no_numbers(count, room):
    """Things that are no numbers for so many words within a room."""
    return ODD_THINGS + [
        [0] * count, (0,) * (count - 1), (0,) * (count + 1), (0,) * (count - 1) + (room,), (room,) + (0,) * (count - 1),
        (0,) * (count - 1) + (-1,), (-1,) + (0,) * (count - 1), (0,) * (count - 1) + (False,),
        (True,) + (0,) * (count - 1), (0,) * (count - 1) + ("0",), (0,) * (count - 1) + (None,),
        (0,) * (count - 1) + ((0,),), (0,) * (count - 1) + ([0],), (0,) * (count - 1) + (10 ** 5000,),
    ]


def near_worths(worths, room):
    """Things close to some worths of at least two letters that are no worths."""
    (letter, number), rest = worths[0], worths[1:]
    return [
        list(worths), dict(worths), tuple(reversed(worths)), worths + (worths[-1],), (worths[0],) + worths,
        rest + (worths[0],), ((letter, number), (letter, (number + 1) % room)) + rest,
        ([letter, number],) + rest, ((letter, number, 0),) + rest, ((letter,),) + rest, ((number, letter),) + rest,
        ((letter, room),) + rest, ((letter, -1),) + rest, ((letter, number - room),) + rest,
        ((letter, number + room),) + rest, ((letter, True),) + rest, ((letter, False),) + rest,
        ((letter, str(number)),) + rest, ((letter, None),) + rest, ((letter, (number,)),) + rest,
        ((letter.upper(), number),) + rest, ((letter * 2, number),) + rest, (("", number),) + rest,
        ((None, number),) + rest, ((0, number),) + rest, (letter + str(number),) + rest, (None,) + rest,
        worths + (("{", 0),), worths + (("\u00e4", 0),), (("A", 0),) + worths, (("`", 0),) + worths,
        worths + (("zz", 0),), worths + ((worths[-1][0] * 2, 0),), worths + (None,), worths + ((),), worths + (Prickly(),),
    ]


def letters_in(seen):
    return sorted({letter for pair in seen for letter in pair})


def numbers_by(seen, room, worths):
    worth = dict(worths)
    return tuple((worth[one] + worth[two]) % room for one, two in seen)


def all_worths(seen, room):
    """All worths of just the letters that are seen, rising."""
    letters = letters_in(seen)
    for values in product(range(room), repeat=len(letters)):
        yield tuple(zip(letters, values))


def numbers_that_can_be(seen, room):
    """All numbers that some worths give, by trying all worths."""
    return {numbers_by(seen, room, worths) for worths in all_worths(seen, room)}


def unlike(things):
    return len(set(things)) == len(things)


def first_one_to_one(seen, room):
    """The first worths of all by which no two words have one number, or None."""
    for worths in all_worths(seen, room):
        if unlike(numbers_by(seen, room, worths)):
            return worths
    return None


def first_by_steps(seen, room, worths=()):
    """The same for more letters: worths are not gone on with where two words have one number already."""
    known = dict(worths)
    if not unlike(numbers_by([pair for pair in seen if set(pair) <= set(known)], room, worths)):
        return None
    letters = letters_in(seen)[len(worths):]
    if not letters:
        return worths
    tried = (first_by_steps(seen, room, worths + ((letters[0], number),)) for number in range(room))
    return next((found for found in tried if found is not None), None)


def is_bar_plainly(seen, room, numbers, letter, walk):
    """Points 4 and 5 once more, for a text and a list of whole numbers."""
    if not 1 <= len(walk) <= 40:
        return False
    here = letter
    for at in walk:
        if not 0 <= at < len(seen) or here not in seen[at]:
            return False
        one, two = seen[at]
        here = two if here == one else one
    signed = sum(numbers[at] * (-1) ** back for back, at in enumerate(reversed(walk)))
    if here != letter:
        return False
    if len(walk) % 2 == 0:
        return signed % room != 0
    return room % 2 == 0 and signed % 2 == 1


def list_of_words(words, look=(0, 1)):
    some = Words(look)
    for word in words:
        some.come(word)
    return some


def all_told(some):
    """All that a list of words tells."""
    return (some.words(), some.room(), some.numbers())


class FourRefusals:
    """What all functions of words, a look, a room and numbers refuse; CALLS holds them, of these four alone."""

    # These numbers are barred, so that a refusal has to come ahead of what is said of that.
    GOOD = (("ab", "ba"), (0, 1), 9, (3, 4))
    ORDER = (NoWords, NoLook, NoRoom, NoNumbers)

    def check_refused(self, place, wrong_things):
        for call in self.CALLS:
            for at, wrong in enumerate(wrong_things):
                asked = self.GOOD[:place] + (wrong,) + self.GOOD[place + 1:]
                with self.subTest(at), self.assertRaises(self.ORDER[place]):
                    call(*asked)

    def test_no_words(self):
        self.check_refused(0, NO_WORDS)

    def test_no_look(self):
        self.check_refused(1, NO_LOOKS)

    def test_no_room(self):
        self.check_refused(2, NO_ROOMS)

    def test_no_numbers(self):
        self.check_refused(3, no_numbers(2, 9))

    def test_numbers_have_the_bounds_of_the_room(self):
        for room in (1, 2, 99):
            for wrong in ((room, room), (room, 0), (0, -1), (0,), (0, 0, 0)):
                for call in self.CALLS:
                    with self.subTest((room, wrong)), self.assertRaises(NoNumbers):
                        call(*self.GOOD[:2], room, wrong)

    def test_order(self):
        wrong = (["ab"], (0, 3), 0, (9, 9))
        for call in self.CALLS:
            for first, refusal in enumerate(self.ORDER):
                with self.subTest(refusal.__name__), self.assertRaises(refusal):
                    call(*self.GOOD[:first], *wrong[first:])

    def test_order_for_each_two(self):
        wrong = (("ab", "ab"), (True, 0), 100, (0, 9))
        for call in self.CALLS:
            for first, second in combinations(range(4), 2):
                asked = list(self.GOOD)
                asked[first], asked[second] = wrong[first], wrong[second]
                with self.assertRaises(self.ORDER[first]):
                    call(*asked)
