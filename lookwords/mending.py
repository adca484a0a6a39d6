"""Told numbers that are barred: words to leave out, and the numbers nearest to them."""

from lookwords.telling import bar_of, told_pairs


def can_be_left_out(seen, room, numbers, gone):
    kept = [at for at in range(len(seen)) if at not in gone]
    return bar_of([seen[at] for at in kept], room, [numbers[at] for at in kept]) is None


def one_longer(choices, count):
    # Rising tuples that rise give rising ones again.
    found = []
    for choice in choices:
        start = choice[-1] + 1 if len(choice) > 0 else 0
        found.extend([choice + (at,) for at in range(start, count)])
    return found


def fewest(seen, room, numbers):
    choices = [()]
    found = []
    # Nothing bars no words at all, so this ends.
    while len(found) == 0:
        found = [gone for gone in choices if can_be_left_out(seen, room, numbers, gone)]
        choices = one_longer(choices, len(seen))
    return found


def left_out(words, look, room, numbers):
    seen = told_pairs(words, look, room, numbers)
    return fewest(seen, room, numbers)[0]


def least_without(seen, room, numbers, gone):
    # The worths that give the others their numbers give some number to each word that is gone.
    found = list(numbers)
    for place, at in enumerate(gone):
        found[at] = 0
        while not can_be_left_out(seen, room, found, gone[place + 1:]):
            found[at] = found[at] + 1
    return tuple(found)


def mended(words, look, room, numbers):
    seen = told_pairs(words, look, room, numbers)
    return min([least_without(seen, room, numbers, gone) for gone in fewest(seen, room, numbers)])
