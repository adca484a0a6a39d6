"""Wrong things, and slow and plain answers to hold the program's against."""

from itertools import product


class Prickly:
    """Nothing can be done with it but asking for its class."""

    def refuse(self, *rest):
        raise AssertionError("a thing of a wrong kind was used")

    __eq__ = __ne__ = __lt__ = __le__ = __gt__ = __ge__ = refuse
    __len__ = __iter__ = __getitem__ = __contains__ = __bool__ = refuse
    __repr__ = __str__ = __add__ = __radd__ = __mod__ = __index__ = refuse
    __hash__ = None


ODD_THINGS = [
    None, True, False, Prickly(), object(), len, int, "", " ", "ab", "A", b"ab", b"", 0, 1, -1, 7, 10 ** 5000,
    -10 ** 5000, [], [[]], [0], ["ab"], [0, 0], (), ((),), (None,), (True, False), (Prickly(),), ([],), ({},),
    (Prickly(), Prickly()), {}, {"ab": 0}, {0: 1}, set(), {"ab"}, frozenset(), range(2), iter([]),
    ("a", Prickly()), (Prickly(), [0]), ((Prickly(), 0),), (("a", Prickly()),),
]

NO_WORDS = ODD_THINGS + [
    ["ab", "bc"], "abc", {"ab": 1}, {"ab", "bc"}, ("",), ("ab", ""), ("abcdefg",), ("ab", "abcdefg"),
    ("ab", "ab"), ("ab", "bc", "ab"), ("Ab",), ("aB",), ("a b",), ("ab ",), ("ab\n",), ("a-b",), ("a1",), ("1",),
    ("\u00e4b",), ("\u00df",), ("\u0430",), ("\uff41",), ("a`",), ("a{",), ("@",), (b"ab",), (1,), (True,), (None,),
    (("a", "b"),), (["a", "b"],), ("ab", 1), ("ab", ["bc"]), ("ab", {}),
    ("a", "b", "c", "d", "e", "f", "g"), ("ab", "ab", 1),
]

NO_LOOKS = ODD_THINGS + [
    [0, 1], (0,), (0, 1, 2), (0, 3), (3, 0), (-4, 0), (0, -4), (0, 100), (True, 0), (0, True), (False, 1), (0, False),
    ("0", 1), (0, "1"), (0, None), ((0,), (1,)), ([0], 1), {0: 1}, {0, 1}, range(2), "01", (0, 10 ** 5000),
]

NO_ROOMS = [thing for thing in ODD_THINGS if not (isinstance(thing, int) and thing in (1, 7)) or thing is True] + [
    -99, 100, 101, "5", (5,), [5], b"\x05", {5: 5}, {5},
]


def no_numbers(count, room):
    """Things that are no numbers for so many words within a room."""
    return ODD_THINGS + [
        [0] * count, (0,) * (count - 1), (0,) * (count + 1), (0,) * (count - 1) + (room,), (room,) + (0,) * (count - 1),
        (0,) * (count - 1) + (-1,), (-1,) + (0,) * (count - 1), (0,) * (count - 1) + (False,),
        (True,) + (0,) * (count - 1), (0,) * (count - 1) + ("0",), (0,) * (count - 1) + (None,),
        (0,) * (count - 1) + ((0,),), (0,) * (count - 1) + ([0],), (0,) * (count - 1) + (10 ** 5000,),
    ]


def near_worths(worths, room):
    """Things close to some worths of at least two letters that are no worths."""
    (letter, number), rest = worths[0], worths[1:]
    return [
        list(worths), dict(worths), tuple(reversed(worths)), worths + (worths[-1],), (worths[0],) + worths,
        rest + (worths[0],), ((letter, number), (letter, (number + 1) % room)) + rest,
        ([letter, number],) + rest, ((letter, number, 0),) + rest, ((letter,),) + rest, ((number, letter),) + rest,
        ((letter, room),) + rest, ((letter, -1),) + rest, ((letter, number - room),) + rest,
        ((letter, number + room),) + rest, ((letter, True),) + rest, ((letter, False),) + rest,
        ((letter, str(number)),) + rest, ((letter, None),) + rest, ((letter, (number,)),) + rest,
        ((letter.upper(), number),) + rest, ((letter * 2, number),) + rest, (("", number),) + rest,
        ((None, number),) + rest, ((0, number),) + rest, (letter + str(number),) + rest, (None,) + rest,
        worths + (("{", 0),), worths + (("\u00e4", 0),), (("A", 0),) + worths, (("`", 0),) + worths,
        worths + (("zz", 0),), worths + ((worths[-1][0] * 2, 0),), worths + (None,), worths + ((),), worths + (Prickly(),),
    ]


def letters_in(seen):
    return sorted({letter for pair in seen for letter in pair})


def numbers_that_can_be(seen, room):
    """All numbers that some worths give, by trying all worths."""
    letters = letters_in(seen)
    found = set()
    for values in product(range(room), repeat=len(letters)):
        worth = dict(zip(letters, values))
        found.add(tuple((worth[one] + worth[two]) % room for one, two in seen))
    return found


def is_bar_plainly(seen, room, numbers, letter, walk):
    """Points 4 and 5 once more, for a text and a list of whole numbers."""
    if not 1 <= len(walk) <= 40:
        return False
    here = letter
    for at in walk:
        if not 0 <= at < len(seen) or here not in seen[at]:
            return False
        one, two = seen[at]
        here = two if here == one else one
    signed = sum(numbers[at] * (-1) ** back for back, at in enumerate(reversed(walk)))
    if here != letter:
        return False
    if len(walk) % 2 == 0:
        return signed % room != 0
    return room % 2 == 0 and signed % 2 == 1
