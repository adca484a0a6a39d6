"""Worths and lists of words as texts, and back."""

from lookwords.checks import LEAST_PLACE, MOST_PLACE, check_room, check_text, check_worths, is_worths
from lookwords.errors import NoText, WordError
from lookwords.lists import Words


def number_in(text, least, most):
    # Held against how each number is written: so it can't be written in any other way.
    for number in range(least, most + 1):
        if str(number) == text:
            return number
    raise NoText("this writes no number within its bounds")


def worths_text(worths, room):
    check_room(room)
    check_worths(worths, room)
    return " ".join([f"{letter}{number}" for letter, number in worths])


def worth_in(text, room):
    return (text[:1], number_in(text[1:], 0, room - 1))


def read_worths(text, room):
    check_room(room)
    check_text(text)
    parts = text.split(" ") if text != "" else []
    worths = tuple([worth_in(part, room) for part in parts])
    if not is_worths(worths, room):
        raise NoText("this writes no worths")
    return worths


def list_text(some):
    first = some.look[0]
    second = some.look[1]
    return " ".join([f"{first} {second}:"] + list(some.words()))


def look_in(text):
    parts = text.split(" ")
    if len(parts) != 2:
        raise NoText("a look is written as two places, a blank between")
    return (number_in(parts[0], LEAST_PLACE, MOST_PLACE), number_in(parts[1], LEAST_PLACE, MOST_PLACE))


def words_in(text):
    parts = text.split(" ")
    if parts[0] != "":
        raise NoText("a blank is ahead of each word")
    return parts[1:]


def list_of(text):
    check_text(text)
    parts = text.partition(":")
    if parts[1] == "":
        raise NoText("`:` is behind the look")
    some = Words(look_in(parts[0]))
    for word in words_in(parts[2]):
        try:
            some.come(word)
        except WordError as refusal:
            raise NoText("a word would not come") from refusal
    return some
