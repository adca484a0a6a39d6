"""Rooms within which words have unlike numbers."""

from lookwords.checks import check_room, check_words
from lookwords.errors import Never
from lookwords.telling import bar
from lookwords.words import all_looks, letters_of, pairs


def are_alike(one, two):
    return one == two or one == (two[1], two[0])


def clash_of(seen):
    for later, pair in enumerate(seen):
        for ahead in range(later):
            if are_alike(seen[ahead], pair):
                return (ahead, later)
    return None


def clash(words, look):
    return clash_of(pairs(words, look))


def is_loose(pair, seen, fixed):
    # A letter without a worth that no other word has can give its word any number.
    for letter in pair:
        if letter not in fixed and sum([other.count(letter) for other in seen]) == 1:
            return True
    return False


def bound_pairs(seen, fixed):
    # A loose word finds a number behind all others, as the room has one for each word;
    # and without it other words may be loose.
    kept = seen
    rest = [pair for pair in kept if not is_loose(pair, kept, fixed)]
    while len(rest) < len(kept):
        kept = rest
        rest = [pair for pair in kept if not is_loose(pair, kept, fixed)]
    return kept


def unshared(one, two):
    # A letter that both words have counts alike in both numbers: the others tell them apart.
    first = list(one)
    second = []
    for letter in two:
        if letter in first:
            first.remove(letter)
        else:
            second.append(letter)
    return (first, second)


def contrasts_of(seen):
    found = []
    for later, pair in enumerate(seen):
        found.extend([unshared(ahead, pair) for ahead in seen[:later]])
    return found


def may_differ(contrast, room, fixed):
    first = contrast[0]
    second = contrast[1]
    if not all([letter in fixed for letter in first + second]):
        return True
    return (sum([fixed[letter] for letter in first]) - sum([fixed[letter] for letter in second])) % room != 0


def with_worth(fixed, letter, worth):
    more = dict(fixed)
    more[letter] = worth
    return more


def can_be_filled(contrasts, room, fixed, letters):
    if not all([may_differ(contrast, room, fixed) for contrast in contrasts]):
        return False
    if len(letters) == 0:
        return True
    # The same worth more at every letter keeps unlike numbers unlike: so the first can have 0.
    choices = [0] if len(fixed) == 0 else list(range(room))
    for worth in choices:
        if can_be_filled(contrasts, room, with_worth(fixed, letters[0], worth), letters[1:]):
            return True
    return False


def can_differ(seen, room, fixed):
    # Whether letters without a worth can have some by which all numbers are unlike.
    if room < len(seen):
        return False
    bound = bound_pairs(seen, fixed)
    letters = [letter for letter in letters_of(bound) if letter not in fixed]
    return can_be_filled(contrasts_of(bound), room, fixed, letters)


def least_worths(seen, room):
    fixed = {}
    for letter in letters_of(seen):
        worth = 0
        while worth < room and not can_differ(seen, room, with_worth(fixed, letter, worth)):
            worth = worth + 1
        if worth == room:
            return None
        fixed[letter] = worth
    return tuple(sorted(fixed.items()))


def room_from(seen, room):
    # Of words without a clash alone, else no room is found.
    found = room
    while not can_differ(seen, found, {}):
        found = found + 1
    return found


def one_to_one(words, look, room):
    seen = pairs(words, look)
    check_room(room)
    return least_worths(seen, room) if can_differ(seen, room, {}) else None


def least_room(words, look):
    seen = pairs(words, look)
    if clash_of(seen) is not None:
        raise Never("two words are seen as the same two letters")
    return room_from(seen, len(seen))


def looks(words):
    check_words(words)
    return [look for look in all_looks() if can_differ(pairs(words, look), len(words), {})]


def in_order(words, look):
    seen = pairs(words, look)
    return bar(words, look, len(seen), tuple(range(len(seen)))) is None
