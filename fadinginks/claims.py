"""Claims on what a reader reads, papers that show whether they hold, and how much slack they leave."""

from fadinginks.errors import BadClaim, BadNumber, BadReading
from fadinginks.papers import are_rings, breaking_rings
from fadinginks.plans import BARE, is_sign
from fadinginks.readers import all_texts, check_reader, is_reading, is_timetable, text_at, timetable_for
from fadinginks.values import is_row, is_whole


def is_part(value, looks):
    """Tell whether value is a part of a claim on so many looks, whatever the parts within it are."""
    if not is_row(value, 2, 3):
        return False
    word, many = value[0], len(value)
    if word == "not":
        return many == 2
    if many == 2:
        return False
    if word == "sees":
        return is_whole(value[1], 0, looks - 1) and is_sign(value[2])
    if word == "alike":
        return is_whole(value[1], 0, looks - 1) and is_whole(value[2], 0, looks - 1)
    return word in ("and", "or")


def is_claim(value, looks):
    """Tell whether value is a claim on so many looks, of at most 20 parts."""
    waiting = [value]
    parts = 0
    while waiting:
        part = waiting.pop()
        parts += 1
        # Counted as they come: a value can hold the same tuple again and again, more often than can be gone through.
        if parts > 20 or not is_part(part, looks):
            return False
        if part[0] in ("not", "and", "or"):
            waiting.extend(part[1:])
    return True


def check_claim(plan, reader, claim):
    """Raise BadPlan, BadReader or BadClaim for any values but a plan, a reader and a claim on its looks."""
    check_reader(plan, reader)
    if not is_claim(claim, len(reader[1])):
        raise BadClaim("not a claim on the reader's looks")


def told_so(text, claim):
    """Tell whether the claim is so at the reading."""
    word = claim[0]
    if word == "sees":
        return text[claim[1]] == claim[2]
    if word == "alike":
        return text[claim[1]] == text[claim[2]]
    if word == "not":
        return not told_so(text, claim[1])
    if word == "and":
        return told_so(text, claim[1]) and told_so(text, claim[2])
    return told_so(text, claim[1]) or told_so(text, claim[2])


def breaking_text(plan, reader, claim):
    """Return a reading that comes and breaks the claim, None if there is none, none of the values being checked."""
    for text in all_texts(plan, reader):
        if not told_so(text, claim):
            return text
    return None


def broken_texts(plan, reader, claim):
    """Return a dict of the texts of signs at the looks' cells that break the claim, and of all their beginnings."""
    texts = [""]
    for cell, _, _ in reader[1]:
        signs = sorted(set([BARE] + [write[1] for write in plan[2] if write[0] == cell]))
        texts = [text + sign for text in texts for sign in signs]
    found = {}
    for text in texts:
        if not told_so(text, claim):
            for many in range(len(text) + 1):
                found[text[:many]] = True
    return found


def widened(plan, more):
    """Return the plan with all highs of its writes more by so many; it may be none by the bounds of a plan."""
    cells, stays, writes = plan
    return (cells, stays, tuple([(cell, sign, ink, low, high + more) for cell, sign, ink, low, high in writes]))


def most_slack(plan, reader, claim, most):
    """Return what slack returns, none of the values being checked."""
    if breaking_text(plan, reader, claim) is not None:
        return None
    held, beyond = 0, most + 1
    # Higher highs only add timetables, so what holds with some holds with fewer.
    while beyond - held > 1:
        more = (held + beyond) // 2
        if breaking_text(widened(plan, more), reader, claim) is None:
            held = more
        else:
            beyond = more
    return held


def is_so(reading, claim):
    """Tell whether the claim is so at the reading."""
    if not is_reading(reading, 1, 3):
        raise BadReading("not a text of 1 to 3 signs")
    if not is_claim(claim, len(reading)):
        raise BadClaim("not a claim on the reading's looks")
    return told_so(reading, claim)


def holds(plan, reader, claim):
    """Tell whether the claim is so at every timetable."""
    check_claim(plan, reader, claim)
    return breaking_text(plan, reader, claim) is None


def breaks(plan, reader, claim):
    """Return a timetable at which the claim is not so, None if there is none."""
    check_claim(plan, reader, claim)
    text = breaking_text(plan, reader, claim)
    return None if text is None else timetable_for(plan, reader, text)


def paper(plan, reader, claim):
    """Return the paper ("breaks", timetable) or ("holds", rings) that shows whether the claim holds."""
    timetable = breaks(plan, reader, claim)
    if timetable is not None:
        return ("breaks", timetable)
    return ("holds", breaking_rings(plan, reader, broken_texts(plan, reader, claim)))


def judged(plan, reader, claim, paper):
    """Tell whether the paper, any value, shows what it tells of the claim."""
    check_claim(plan, reader, claim)
    if not is_row(paper, 2, 2):
        return False
    word, shown = paper
    if word == "breaks":
        return is_timetable(plan, reader, shown) and not told_so(text_at(plan, reader, shown), claim)
    return word == "holds" and are_rings(plan, reader, broken_texts(plan, reader, claim), shown)


def slack(plan, reader, claim, most):
    """Return by how much, up to most, all highs of the writes can be more with the claim still holding."""
    check_claim(plan, reader, claim)
    if not is_whole(most, 0, 50):
        raise BadNumber("not a number from 0 to 50")
    return most_slack(plan, reader, claim, most)
