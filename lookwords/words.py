"""Words as they are seen by a look, and their numbers by worths."""

from lookwords.checks import LEAST_PLACE, MOST_PLACE, check_look, check_room, check_words, check_worths
from lookwords.errors import NoWorths


def all_looks():
    places = list(range(LEAST_PLACE, MOST_PLACE + 1))
    found = []
    for first in places:
        found.extend([(first, second) for second in places])
    return found


def letter_at(word, place):
    at = place if place >= 0 else len(word) + place
    return word[max(0, min(at, len(word) - 1))]


def pairs(words, look):
    check_words(words)
    check_look(look)
    return [(letter_at(word, look[0]), letter_at(word, look[1])) for word in words]


def letters_of(seen):
    return sorted(set([pair[0] for pair in seen] + [pair[1] for pair in seen]))


def within(total, room):
    return total - room if total >= room else total


def numbered(words, look, room, worths):
    seen = pairs(words, look)
    check_room(room)
    check_worths(worths, room)
    worth_of = dict(worths)
    if not all([letter in worth_of for letter in letters_of(seen)]):
        raise NoWorths("a letter that is seen has no worth")
    return tuple([within(worth_of[pair[0]] + worth_of[pair[1]], room) for pair in seen])
