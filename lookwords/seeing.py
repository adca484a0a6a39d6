"""Words seen alike, read backward, and with other letters."""

from lookwords.checks import LETTERS, check_letters, check_look, check_words
from lookwords.rooms import are_alike
from lookwords.words import all_looks, pairs


def alike(words, look):
    seen = pairs(words, look)
    found = []
    for first, pair in enumerate(seen):
        group = [at for at, other in enumerate(seen) if are_alike(pair, other)]
        # Each word that is alike would tell the same list.
        if group[0] == first:
            found.append(group)
    return found


def best_looks(words):
    most = max([len(alike(words, look)) for look in all_looks()])
    return [look for look in all_looks() if len(alike(words, look)) == most]


def mirrored(words):
    check_words(words)
    return tuple([word[::-1] for word in words])


def turned(look):
    check_look(look)
    return (-1 - look[0], -1 - look[1])


def with_letters(word, letters):
    return "".join([letters[LETTERS.index(letter)] for letter in word])


def renamed(words, letters):
    check_words(words)
    check_letters(letters)
    return tuple([with_letters(word, letters) for word in words])
