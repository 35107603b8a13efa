"""The grammar of programs: a text's statements, whatever their numbers and names mean.

A statement is ("cells", number), ("ink", name, stay), ("write", cell, sign,
name, low, high), ("reader", name, start, looks) or ("ask", name, question).
A question is ("reads",), ("sure", claim) or ("slack", most, claim); start,
looks and claims are as those of readers.
"""

from fadinginks.errors import InvalidText, NotText
from fadinginks.plans import BARE
from fadinginks.words import Words

MOST_SIGNS = 2000
MOST_BRACKETS = 30


def statements_of(text):
    """Return the list of the text's statements; raise NotText or InvalidText if there are none."""
    if not isinstance(text, str):
        raise NotText("not a text")
    if len(text) > MOST_SIGNS:
        raise InvalidText(MOST_SIGNS)
    words = Words(text)
    found = [(words.take("cells"), words.take_number())]
    words.take(";")
    while not words.is_over():
        found.append(taken_statement(words))
        words.take(";")
    return found


def taken_statement(words):
    """Take a statement, but the cells', up to its last sign, and return it."""
    word = words.take("ink", "write", "reader", "ask")
    if word == "ink":
        return (word, words.take_name(), words.take_number())
    if word == "write":
        cell, sign, name = words.take_number(), words.take_sign(), words.take_name()
        low, high = taken_bounds(words)
        return (word, cell, sign, name, low, high)
    if word == "reader":
        name = words.take_name()
        start = taken_start(words)
        return (word, name, start, taken_looks(words))
    return taken_ask(words)


def taken_bounds(words):
    """Take the bounds of a rest and return them."""
    low = words.take_number()
    words.take("..")
    return (low, words.take_number())


def taken_start(words):
    """Take the start of a reader and return it."""
    if words.take("begin", "write") == "begin":
        return None
    return words.take_number()


def taken_looks(words):
    """Take the looks of a reader, each with the sign ahead of it, and return them."""
    words.take(":")
    looks = [taken_look(words)]
    while words.ahead() == ",":
        words.take(",")
        looks.append(taken_look(words))
    return tuple(looks)


def taken_look(words):
    """Take a look of a reader and return it."""
    cell = words.take_number()
    words.take("at")
    low, high = taken_bounds(words)
    return (cell, low, high)


def taken_ask(words):
    """Take what stands behind the word for an ask and return the statement."""
    word = words.take("reads", "sure", "slack")
    name = words.take_name()
    if word == "reads":
        return ("ask", name, (word,))
    if word == "sure":
        return ("ask", name, (word, taken_claim(words, 0)))
    most = words.take_number()
    return ("ask", name, (word, most, taken_claim(words, 0)))


def taken_claim(words, depth):
    """Take a claim that stands in so many brackets and return it."""
    claim = taken_all(words, depth)
    while words.ahead() == "or":
        words.take("or")
        claim = ("or", claim, taken_all(words, depth))
    return claim


def taken_all(words, depth):
    """Take a part of a claim between its or's and return it."""
    claim = taken_thing(words, depth)
    while words.ahead() == "and":
        words.take("and")
        claim = ("and", claim, taken_thing(words, depth))
    return claim


def taken_thing(words, depth):
    """Take a part of a claim between its and's and return it."""
    nots = 0
    # Counted, as there is room in a text for more of them than calls should go deep.
    while words.ahead() == "not":
        words.take("not")
        nots += 1
    claim = taken_base(words, depth)
    for _ in range(nots):
        claim = ("not", claim)
    return claim


def taken_base(words, depth):
    """Take a claim in brackets or what is told of a look, and return it."""
    if depth < MOST_BRACKETS and words.ahead() == "(":
        words.take("(")
        claim = taken_claim(words, depth + 1)
        words.take(")")
        return claim
    look = words.take_number()
    word = words.take("sees", "bare", "like")
    if word == "sees":
        return (word, look, words.take_sign())
    if word == "bare":
        return ("sees", look, BARE)
    return ("alike", look, words.take_number())
