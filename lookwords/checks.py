"""What counts as a word, a look, a room and the like, and the refusals of what does not."""

from lookwords.errors import NoLetters, NoLook, NoNumbers, NoRoom, NoText, NoWord, NoWords, NoWorths

LETTERS = "abcdefghijklmnopqrstuvwxyz"
MOST_WORDS = 6
MOST_LETTERS = 6
MOST_ROOM = 99
MOST_WALK = 40
LEAST_PLACE = -3
MOST_PLACE = 2


def is_between(thing, least, most):
    # Python counts True and False among the whole numbers; the document does not.
    if not isinstance(thing, int) or isinstance(thing, bool):
        return False
    return least <= thing <= most


def is_letter(thing):
    return isinstance(thing, str) and len(thing) == 1 and "a" <= thing <= "z"


def is_letters(thing):
    return isinstance(thing, str) and len(thing) == len(LETTERS) and sorted(thing) == list(LETTERS)


def is_word(thing):
    if not isinstance(thing, str) or not 1 <= len(thing) <= MOST_LETTERS:
        return False
    return all([is_letter(sign) for sign in thing])


def is_words(thing):
    if not isinstance(thing, tuple) or not 1 <= len(thing) <= MOST_WORDS:
        return False
    # What is no word may not fit into a set, so the words come first.
    return all([is_word(part) for part in thing]) and len(set(thing)) == len(thing)


def is_look(thing):
    if not isinstance(thing, tuple) or len(thing) != 2:
        return False
    return all([is_between(place, LEAST_PLACE, MOST_PLACE) for place in thing])


def is_worth(thing, room):
    if not isinstance(thing, tuple) or len(thing) != 2:
        return False
    return is_letter(thing[0]) and is_between(thing[1], 0, room - 1)


def is_worths(thing, room):
    if not isinstance(thing, tuple) or not all([is_worth(part, room) for part in thing]):
        return False
    letters = [part[0] for part in thing]
    return letters == sorted(set(letters))


def is_numbers(thing, count, room):
    if not isinstance(thing, tuple) or len(thing) != count:
        return False
    return all([is_between(number, 0, room - 1) for number in thing])


def is_walk(thing, count):
    if not isinstance(thing, list) or not 1 <= len(thing) <= MOST_WALK:
        return False
    return all([is_between(at, 0, count - 1) for at in thing])


# The errors don't show what was refused: it may be a thing that can't be written out.
def check_words(thing):
    if not is_words(thing):
        raise NoWords("words are a tuple of 1 to 6 unlike words of 1 to 6 letters from a to z")


def check_word(thing):
    if not is_word(thing):
        raise NoWord("a word has 1 to 6 letters from a to z")


def check_letters(thing):
    if not is_letters(thing):
        raise NoLetters("other letters are a text of all letters from a to z, each once")


def check_look(thing):
    if not is_look(thing):
        raise NoLook("a look is a tuple of two places from -3 to 2")


def check_room(thing):
    if not is_between(thing, 1, MOST_ROOM):
        raise NoRoom("a room is a whole number from 1 to 99")


def check_worths(thing, room):
    if not is_worths(thing, room):
        raise NoWorths("worths are a rising tuple of unlike letters, each with a number within the room")


def check_numbers(thing, count, room):
    if not is_numbers(thing, count, room):
        raise NoNumbers("numbers are a tuple of a number within the room for each word")


def check_text(thing):
    if not isinstance(thing, str):
        raise NoText("this is no text")
