"""Books, in which each word stands at its number."""

from lookwords.checks import check_word
from lookwords.errors import Never, NoWorths, Nothing
from lookwords.words import numbered


class Book:
    def __init__(self, words, look, room, worths):
        numbers = numbered(words, look, room, worths)
        if len(set(numbers)) < len(numbers):
            raise Never("two words have one number")
        self.look = look
        self.width = room
        self.worths = worths
        self.standing = [None] * room
        for word, number in zip(words, numbers):
            self.standing[number] = word
        self.asked = []

    def places(self):
        return list(self.standing)

    def found_for(self, word):
        try:
            number = numbered((word,), self.look, self.width, self.worths)[0]
        except NoWorths:
            return None
        return self.standing[number]

    def ask(self, word):
        check_word(word)
        found = self.found_for(word)
        self.asked.append((word, found))
        return self.standing.index(word) if found == word else None

    def counts(self):
        there = len([word for word, found in self.asked if found == word])
        free = len([word for word, found in self.asked if found is None])
        return (there, len(self.asked) - there - free, free)

    def undo(self):
        if len(self.asked) == 0:
            raise Nothing("no word was asked that is not taken back")
        return self.asked.pop()[0]
