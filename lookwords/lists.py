"""Lists of words, whose numbers stay unlike while words come."""

from lookwords.checks import MOST_WORDS, check_look, check_word, is_word
from lookwords.errors import Full, Known, Never, NoWord
from lookwords.rooms import clash_of, least_worths, room_from
from lookwords.words import numbered, pairs


class Words:
    def __init__(self, look):
        check_look(look)
        self.look = look
        self.came = ()
        self.width = 0
        self.held = ()

    def words(self):
        return self.came

    def room(self):
        return self.width

    def check_new(self, word):
        check_word(word)
        if word in self.came:
            raise Known("the word is there")
        if len(self.came) == MOST_WORDS:
            raise Full("there are 6 words")

    def come(self, word):
        self.check_new(word)
        words = self.came + (word,)
        seen = pairs(words, self.look)
        if clash_of(seen) is not None:
            raise Never("the word is seen as the same two letters as one that is there")
        width = room_from(seen, self.width)
        self.held = numbered(words, self.look, width, least_worths(seen, width))
        self.came = words
        self.width = width
        return width

    def number(self, word):
        # What is no word need not bear being compared.
        if not is_word(word) or word not in self.came:
            raise NoWord("the word is not there")
        return self.held[self.came.index(word)]

    def numbers(self):
        return list(zip(self.came, self.held))
