"""The running and the printing of programs."""

from fadinginks.claims import breaking_text, most_slack
from fadinginks.grammar import statements_of
from fadinginks.plans import BARE
from fadinginks.reading import asks_of, check
from fadinginks.readers import all_texts

# How tightly a claim keeps together what it is made of.
OR = 0
AND = 1
THING = 2


def told_claim(claim, tightness):
    """Return the text of the claim, in brackets if it does not keep together so tightly."""
    word = claim[0]
    if word == "sees":
        _, look, sign = claim
        return f"{look} bare" if sign == BARE else f"{look} sees {sign}"
    if word == "alike":
        return f"{claim[1]} like {claim[2]}"
    if word == "not":
        return f"not {told_claim(claim[1], THING)}"
    own = AND if word == "and" else OR
    # Read from the left: only what stands behind the word must keep together more tightly than the whole.
    told = f"{told_claim(claim[1], own)} {word} {told_claim(claim[2], own + 1)}"
    return f"({told})" if own < tightness else told


def told_reader(name, start, looks):
    """Return the text of a reader."""
    begin = "begin" if start is None else f"write {start}"
    rows = ", ".join([f"{cell} at {low}..{high}" for cell, low, high in looks])
    return f"reader {name} {begin}: {rows};"


def told_ask(name, question):
    """Return the text of an ask."""
    word = question[0]
    if word == "reads":
        return f"ask reads {name};"
    claim = told_claim(question[-1], OR)
    if word == "sure":
        return f"ask sure {name} {claim};"
    return f"ask slack {name} {question[1]} {claim};"


def told_statement(statement):
    """Return the text of a statement."""
    kind = statement[0]
    if kind == "cells":
        return f"cells {statement[1]};"
    if kind == "ink":
        _, name, stay = statement
        return f"ink {name} {stay};"
    if kind == "write":
        _, cell, sign, name, low, high = statement
        return f"write {cell} {sign} {name} {low}..{high};"
    if kind == "reader":
        _, name, start, looks = statement
        return told_reader(name, start, looks)
    _, name, question = statement
    return told_ask(name, question)


def answer(plan, reader, question):
    """Return the answer to an ask."""
    word = question[0]
    if word == "reads":
        return all_texts(plan, reader)
    if word == "sure":
        return breaking_text(plan, reader, question[1]) is None
    return most_slack(plan, reader, question[2], question[1])


def printed(text):
    """Return the program with one statement a line and no needless brackets."""
    check(text)
    return "\n".join([told_statement(statement) for statement in statements_of(text)])


def run(text):
    """Return the tuple of the answers to the program's asks."""
    asks = asks_of(statements_of(text))
    return tuple([answer(plan, reader, question) for plan, reader, question in asks])
