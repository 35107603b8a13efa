"""The words of a text: the words, names, numbers and signs that a program is made of."""

from fadinginks.errors import InvalidText
from fadinginks.values import is_letter

LONGEST_NUMBER = 3
LONGEST_NAME = 8


def is_figure(sign):
    """Tell whether the sign is a figure."""
    return "0" <= sign <= "9"


def is_capital(sign):
    """Tell whether the sign is a capital letter."""
    return "A" <= sign <= "Z"


def runs_on(sign):
    """Tell whether the sign runs together with such signs beside it."""
    return is_letter(sign) or is_capital(sign) or is_figure(sign)


def word_at(text, place):
    """Return the word that begins at the place, where no blank and no line end stands."""
    end = place
    while end < len(text) and runs_on(text[end]):
        end += 1
    if end > place:
        return text[place:end]
    if text[place:place + 2] == "..":
        return ".."
    return text[place]


def cut(text):
    """Return the pairs (word, place) of all words of the text, whether they can stand in a program or not."""
    found = []
    place = 0
    while place < len(text):
        if text[place] in (" ", "\n"):
            place += 1
        else:
            word = word_at(text, place)
            found.append((word, place))
            place += len(word)
    return found


def is_number(word):
    """Tell whether the word is a number without needless zeros."""
    if not 1 <= len(word) <= LONGEST_NUMBER or not all([is_figure(sign) for sign in word]):
        return False
    return word == "0" or word[0] != "0"


def is_name(word):
    """Tell whether the word is a name."""
    return 1 <= len(word) <= LONGEST_NAME and all([is_capital(sign) for sign in word])


class Words:
    """The words of a text, taken one behind another."""

    def __init__(self, text):
        # The end counts as a word that can stand nowhere, at the place that is told for a text that ends too early.
        self._rows = cut(text) + [("", len(text))]
        self._at = 0

    def ahead(self):
        """Return the next word, an empty text at the end."""
        return self._rows[self._at][0]

    def is_over(self):
        """Tell whether all words are taken."""
        return self._at == len(self._rows) - 1

    def take_if(self, fit):
        """Take the next word and return it; raise InvalidText unless it is fit."""
        word, place = self._rows[self._at]
        if not fit:
            raise InvalidText(place)
        self._at += 1
        return word

    def take(self, *choices):
        """Take one of these words."""
        return self.take_if(self.ahead() in choices)

    def take_number(self):
        """Take a number and return it as an integer."""
        return int(self.take_if(is_number(self.ahead())))

    def take_name(self):
        """Take a name."""
        return self.take_if(is_name(self.ahead()))

    def take_sign(self):
        """Take a small letter."""
        return self.take_if(is_letter(self.ahead()))
