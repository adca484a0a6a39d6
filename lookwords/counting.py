"""All worths that give told numbers, counted and numbered."""

from lookwords.checks import is_between
from lookwords.errors import NoPlace, NoWorths
from lookwords.telling import bar, is_telling, roots_of, worths_from
from lookwords.words import letters_of, pairs


def how_many(words, look, room, numbers):
    if bar(words, look, room, numbers) is not None:
        return 0
    count = 1
    for root, choices in roots_of(pairs(words, look), room, numbers):
        count = count * len(choices)
    return count


# A root is the first of the letters that hang together with it, and settles their worths.
# So worths rise as their roots' worths do, the first root's ahead: a place is a number
# with the roots' choices as its figures.
def starts_at(roots, at):
    starts = {}
    rest = at
    for root, choices in reversed(roots):
        starts[root] = choices[rest % len(choices)]
        rest = rest // len(choices)
    return starts


def worths_at(words, look, room, numbers, at):
    count = how_many(words, look, room, numbers)
    if not is_between(at, 0, count - 1):
        raise NoPlace("there are no worths of this number")
    seen = pairs(words, look)
    return worths_from(seen, room, numbers, starts_at(roots_of(seen, room, numbers), at))


def place_of(words, look, room, numbers, thing):
    is_one = is_telling(words, look, room, numbers, thing)
    seen = pairs(words, look)
    if not is_one or len(thing) != len(letters_of(seen)):
        raise NoWorths("these are no worths of just the letters that are seen, by which words have these numbers")
    worth_of = dict(thing)
    place = 0
    for root, choices in roots_of(seen, room, numbers):
        place = place * len(choices) + choices.index(worth_of[root])
    return place
