"""Readers: what they can read, and the differences that a choice of cases asks for.

The events are 0 (the tick 0), then the writes, then the looks: the write
number is the event number + 1.
"""

from fadinginks.errors import BadChoice, BadNumber, BadReader, BadReading, BadTimetable
from fadinginks.plans import BARE, check_plan, is_pace, is_sign, rest_bounds, sign_at, summed
from fadinginks.rings import negative_ring
from fadinginks.spans import chain_spans, fits, joined, latest
from fadinginks.values import are_rests, is_row, is_span, is_whole


def is_reader(plan, value):
    """Tell whether value is a reader (start, looks) of the plan."""
    if not is_row(value, 2, 2):
        return False
    start, looks = value
    if start is not None and not is_whole(start, 0, len(plan[2]) - 1):
        return False
    return is_row(looks, 1, 3) and all([is_look(plan, look) for look in looks])


def is_look(plan, value):
    """Tell whether value is a look (cell, low, high) at the plan's board."""
    if not is_row(value, 3, 3):
        return False
    cell, low, high = value
    return is_whole(cell, 0, plan[0] - 1) and is_span(low, high, 200)


def is_timetable(plan, reader, value):
    """Tell whether value is a timetable (pace, rests) of the plan and the reader."""
    if not is_row(value, 2, 2):
        return False
    pace, rests = value
    return is_pace(plan, pace) and are_rests(rests, [(look[1], look[2]) for look in reader[1]])


def is_reading(value, least, most):
    """Tell whether value is a text of least to most signs, small letters or the sign for bare."""
    if not isinstance(value, str) or not least <= len(value) <= most:
        return False
    return all([is_sign(sign) for sign in value])


def is_choice(plan, reader, value):
    """Tell whether value is a tuple of a case for each look."""
    looks = reader[1]
    if not is_row(value, len(looks), len(looks)):
        return False
    return all([is_case(plan, look, case) for look, case in zip(looks, value)])


def is_case(plan, look, value):
    """Tell whether value is a case (done, shown) of the look."""
    writes = plan[2]
    if not is_row(value, 2, 2) or not is_whole(value[0], 0, len(writes)):
        return False
    done, shown = value
    if shown is None:
        return True
    return is_whole(shown, 0, done - 1) and writes[shown][0] == look[0]


def check_reader(plan, reader):
    """Raise BadPlan or BadReader for any values but a plan and a reader of it."""
    check_plan(plan)
    if not is_reader(plan, reader):
        raise BadReader("not a reader (start, looks) of the plan")


def check_choice(plan, reader, choice):
    """Raise BadPlan, BadReader or BadChoice for any values but a plan, a reader and a choice."""
    check_reader(plan, reader)
    if not is_choice(plan, reader, choice):
        raise BadChoice("not a case for each look")


def start_event(reader):
    """Return the event that the first look stands behind."""
    return 0 if reader[0] is None else reader[0] + 1


def look_cases(plan, look):
    """Return all cases of the look, ascending, None ahead of numbers."""
    writes = plan[2]
    found = []
    for done in range(len(writes) + 1):
        found.append((done, None))
        found.extend([(done, shown) for shown in range(done) if writes[shown][0] == look[0]])
    return found


def case_sign(plan, case):
    """Return the sign that a look with the case sees."""
    shown = case[1]
    return BARE if shown is None else plan[2][shown][1]


def case_differences(plan, event, cell, case):
    """Return the differences that tell the case of the look at the cell that is the event."""
    _, stays, writes = plan
    done, shown = case
    told = []
    if done > 0:
        told.append((done, event, 0))
    if done < len(writes):
        told.append((event, done + 1, -1))
    later = 0
    if shown is not None:
        told.append((event, shown + 1, stays[writes[shown][2]] - 1))
        later = shown + 1
    for number in range(later, done):
        if writes[number][0] == cell:
            told.append((number + 1, event, -stays[writes[number][2]]))
    return told


def look_differences(plan, reader, at, case):
    """Return the differences that tell the bounds and the case of the look with the number at."""
    cell, low, high = reader[1][at]
    event = len(plan[2]) + 1 + at
    ahead = start_event(reader) if at == 0 else event - 1
    return [(ahead, event, -low), (event, ahead, high)] + case_differences(plan, event, cell, case)


def write_differences(plan):
    """Return the differences that tell the bounds of the writes' rests."""
    told = []
    for number, (low, high) in enumerate(rest_bounds(plan)):
        told.append((number, number + 1, -low))
        told.append((number + 1, number, high))
    return told


def least_told(told):
    """Return a dict that tells for each pair (x, y) of the differences the least c."""
    leasts = {}
    for x, y, c in told:
        leasts[x, y] = min(c, leasts.get((x, y), c))
    return leasts


def look_options(plan, reader, at):
    """Return for each case of the look with the number at its sign, floors and roofs (see spans)."""
    event = len(plan[2]) + 1 + at
    found = []
    for case in look_cases(plan, reader[1][at]):
        told = look_differences(plan, reader, at, case)
        floors = [(x, c) for x, y, c in told if y == event]
        roofs = [(y, c) for x, y, c in told if x == event]
        found.append((case_sign(plan, case), floors, roofs))
    return found


def found_texts(spans, options):
    """Return a dict with all texts that the looks of these options can read as its keys."""
    texts = {}
    for sign, floors, roofs in options[0]:
        # The last look needs no spans of its own, and each of its signs only one case.
        if len(options) == 1:
            if sign not in texts and fits(spans, floors, roofs):
                texts[sign] = True
        elif fits(spans, floors, roofs):
            for rest in found_texts(joined(spans, floors, roofs), options[1:]):
                texts[sign + rest] = True
    return texts


def found_spans(spans, options, reading):
    """Return spans at which the looks of these options read the reading, None if there are none."""
    if not options:
        return spans
    for sign, floors, roofs in options[0]:
        if sign == reading[0] and fits(spans, floors, roofs):
            found = found_spans(joined(spans, floors, roofs), options[1:], reading[1:])
            if found is not None:
                return found
    return None


def timetable_of(plan, reader, times):
    """Return the timetable at which the events have these ticks."""
    first = len(plan[2]) + 1
    pace = [times[event] - times[event - 1] for event in range(1, first)]
    rests = []
    ahead = start_event(reader)
    for event in range(first, len(times)):
        rests.append(times[event] - times[ahead])
        ahead = event
    return (tuple(pace), tuple(rests))


def all_options(plan, reader):
    """Return the options of each look, in their order."""
    return [look_options(plan, reader, at) for at in range(len(reader[1]))]


def text_at(plan, reader, timetable):
    """Return the reading that comes at the timetable, none of the values being checked."""
    pace, rests = timetable
    times = summed(0, pace)
    start = 0 if reader[0] is None else times[reader[0]]
    moments = summed(start, rests)
    return "".join([sign_at(plan, times, look[0], tick) for look, tick in zip(reader[1], moments)])


def all_texts(plan, reader):
    """Return all readings, ascending, none of the values being checked.

    So there may be more writes, higher highs and later looks than a plan and a reader can have.
    """
    return tuple(sorted(found_texts(chain_spans(rest_bounds(plan)), all_options(plan, reader))))


def timetable_for(plan, reader, reading):
    """Return a timetable at which the reading comes, None if there is none, none of the values being checked."""
    spans = found_spans(chain_spans(rest_bounds(plan)), all_options(plan, reader), reading)
    return None if spans is None else timetable_of(plan, reader, latest(spans))


def read(plan, reader, timetable):
    """Return the reading that comes at the timetable."""
    check_reader(plan, reader)
    if not is_timetable(plan, reader, timetable):
        raise BadTimetable("not a timetable (pace, rests) of the plan and the reader")
    return text_at(plan, reader, timetable)


def readings(plan, reader):
    """Return the ascending tuple of all readings that come at some timetable."""
    check_reader(plan, reader)
    return all_texts(plan, reader)


def can_read(plan, reader, reading):
    """Return a timetable at which the reading comes, None if there is none."""
    check_reader(plan, reader)
    looks = len(reader[1])
    if not is_reading(reading, looks, looks):
        raise BadReading("not a small letter or the sign for bare for each look")
    return timetable_for(plan, reader, reading)


def cases(plan, reader, at):
    """Return the ascending tuple of all cases that the look with the number at can have."""
    check_reader(plan, reader)
    if not is_whole(at, 0, len(reader[1]) - 1):
        raise BadNumber("not a look's number")
    return tuple(look_cases(plan, reader[1][at]))


def differences(plan, reader, choice):
    """Return the ascending tuple of the differences that the choice of cases asks for."""
    check_choice(plan, reader, choice)
    told = write_differences(plan)
    for at, case in enumerate(choice):
        told.extend(look_differences(plan, reader, at, case))
    return tuple(sorted([(x, y, c) for (x, y), c in least_told(told).items()]))


def ring(plan, reader, choice):
    """Return a ring of the choice's differences that adds up to less than 0, None if there is none."""
    told = differences(plan, reader, choice)
    return negative_ring(1 + len(plan[2]) + len(reader[1]), told)
