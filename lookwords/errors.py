"""The refusals, one class each."""


class WordError(ValueError):
    pass


class NoWords(WordError):
    pass


class NoLook(WordError):
    pass


class NoNumbers(WordError):
    pass


class NoRoom(WordError):
    pass


class NoWord(WordError):
    pass


class NoWorths(WordError):
    pass


class Never(WordError):
    pass


class Full(WordError):
    pass


class Known(WordError):
    pass


class NoPlace(WordError):
    pass


class NoLetters(WordError):
    pass


class NoText(WordError):
    pass


class Nothing(WordError):
    pass
