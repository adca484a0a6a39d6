"""Told numbers: worths that give them, or a walk that bars them."""

from lookwords.checks import check_numbers, check_room, is_letter, is_walk
from lookwords.errors import Never, NoWorths
from lookwords.words import letters_of, numbered, pairs


def told_pairs(words, look, room, numbers):
    seen = pairs(words, look)
    check_room(room)
    check_numbers(numbers, len(words), room)
    return seen


def other_letter(pair, letter):
    return pair[1] if letter == pair[0] else pair[0]


def end_of(seen, letter, walk):
    here = letter
    for at in walk:
        if here not in seen[at]:
            return None
        here = other_letter(seen[at], here)
    return here


def comes_to(walk, numbers, start):
    # From the worth of the letter where a walk begins this leads to the worth of
    # the one where it ends; from 0 it is the walk's sum.
    total = start
    for at in walk:
        total = numbers[at] - total
    return total


def is_odd(walk):
    return len(walk) % 2 == 1


def bars(walk, room, numbers):
    total = comes_to(walk, numbers, 0)
    if is_odd(walk):
        return room % 2 == 0 and total % 2 == 1
    return total % room != 0


def spread(seen, root, ways):
    ways[root] = (root, [])
    waiting = [root]
    while len(waiting) > 0:
        letter = waiting.pop(0)
        for at, pair in enumerate(seen):
            reached = other_letter(pair, letter)
            if letter in pair and reached not in ways:
                ways[reached] = (root, ways[letter][1] + [at])
                waiting.append(reached)


def ways_of(seen):
    # For each letter the first one of those it hangs together with, and a walk from there.
    ways = {}
    for letter in letters_of(seen):
        if letter not in ways:
            spread(seen, letter, ways)
    return ways


def circles_of(seen, ways):
    # One for each word: to its first letter, by the word, and back from its second one.
    found = []
    for at, pair in enumerate(seen):
        back = list(reversed(ways[pair[1]][1]))
        found.append((ways[pair[0]][0], ways[pair[0]][1] + [at] + back))
    return found


def first_odd(circles):
    first = {}
    for root, walk in circles:
        if is_odd(walk) and root not in first:
            first[root] = walk
    return first


def bar_of(seen, room, numbers):
    circles = circles_of(seen, ways_of(seen))
    first = first_odd(circles)
    # Each odd circle fixes twice its root's worth: two of them may not agree on it,
    # and then both together are an even circle that bars.
    joined = [(root, first[root] + walk) for root, walk in circles if is_odd(walk)]
    for root, walk in circles + joined:
        if bars(walk, room, numbers):
            return (root, walk)
    return None


def bar(words, look, room, numbers):
    return bar_of(told_pairs(words, look, room, numbers), room, numbers)


def half(total, room):
    # In an odd room each number is twice another one, by rests.
    rest = total % room
    return rest // 2 if rest % 2 == 0 else (rest + room) // 2


def root_worths(walk, room, numbers):
    # Without an odd circle, so with the empty walk, every worth of the root will do.
    if len(walk) == 0:
        return list(range(room))
    worth = half(comes_to(walk, numbers, 0), room)
    # In an even room half of it more comes to the same, taken twice.
    return [worth, worth + room // 2] if room % 2 == 0 else [worth]


def roots_of(seen, room, numbers):
    # Each root, rising, with all worths it can have, rising: they settle those of all other
    # letters. The numbers are ones that nothing bars.
    ways = ways_of(seen)
    first = first_odd(circles_of(seen, ways))
    roots = [letter for letter in sorted(ways) if ways[letter][0] == letter]
    return [(root, root_worths(first.get(root, []), room, numbers)) for root in roots]


def worths_from(seen, room, numbers, starts):
    ways = ways_of(seen)
    found = []
    for letter in sorted(ways):
        start = starts[ways[letter][0]]
        found.append((letter, comes_to(ways[letter][1], numbers, start) % room))
    return tuple(found)


def worths(words, look, room, numbers):
    if bar(words, look, room, numbers) is not None:
        raise Never("no worths give the words these numbers")
    seen = pairs(words, look)
    starts = dict([(root, choices[0]) for root, choices in roots_of(seen, room, numbers)])
    return worths_from(seen, room, numbers, starts)


def is_telling(words, look, room, numbers, thing):
    told_pairs(words, look, room, numbers)
    try:
        given = numbered(words, look, room, thing)
    except NoWorths:
        return False
    return given == numbers


def is_bar(words, look, room, numbers, thing):
    seen = told_pairs(words, look, room, numbers)
    if not isinstance(thing, tuple) or len(thing) != 2:
        return False
    letter = thing[0]
    walk = thing[1]
    if not is_letter(letter) or not is_walk(walk, len(seen)):
        return False
    return end_of(seen, letter, walk) == letter and bars(walk, room, numbers)
