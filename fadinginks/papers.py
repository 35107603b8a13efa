"""Papers: rings that show that no timetable breaks a claim.

Here a claim is told by the readings that break it: a dict with these texts
and all their beginnings as its keys.
"""

from fadinginks.plans import rest_bounds
from fadinginks.readers import case_sign, least_told, look_cases, look_differences, look_options, write_differences
from fadinginks.spans import chain_spans
from fadinginks.values import is_row, is_whole
from fadinginks.ways import chain_ways, grown


def breaking_choices(plan, reader, broken):
    """Return all choices of cases whose readings are among the broken texts."""
    found = [((), "")]
    for look in reader[1]:
        row = [(case, case_sign(plan, case)) for case in look_cases(plan, look)]
        found = [
            (choice + (case,), text + sign) for choice, text in found for case, sign in row if text + sign in broken
        ]
    return [choice for choice, _ in found]


def breaking_rings(plan, reader, broken):
    """Return a dict that tells for each choice that breaks the claim a ring; there must be one for each."""
    bounds = rest_bounds(plan)
    found = [((), "", (None, chain_spans(bounds), chain_ways(len(bounds))))]
    for at, look in enumerate(reader[1]):
        row = list(zip(look_cases(plan, look), look_options(plan, reader, at)))
        # A ring of the looks so far is one of all choices that begin so: later looks tell nothing on these events.
        found = [
            (choice + (case,), text + sign, grown(known, floors, roofs))
            for choice, text, known in found for case, (sign, floors, roofs) in row if text + sign in broken
        ]
    return {choice: known[0] for choice, _, known in found}


def case_tables(plan, reader, at):
    """Return for each case of the look with the number at a dict with the c of each pair of events it tells."""
    return {
        case: least_told(look_differences(plan, reader, at, case)) for case in look_cases(plan, reader[1][at])
    }


def is_ring(tables, value):
    """Tell whether value is a ring below 0; tables has for each event the dict of the pairs that it is the last of."""
    if not is_row(value, 2, len(tables)):
        return False
    if not all([is_whole(event, 0, len(tables) - 1) for event in value]) or len(set(value)) < len(value):
        return False
    total = 0
    for x, y in zip(value, value[1:] + value[:1]):
        c = tables[max(x, y)].get((x, y))
        if c is None:
            return False
        total += c
    return total < 0


def has_bool(choice):
    """Tell whether True or False stands for a number in the choice."""
    return any([isinstance(number, bool) for case in choice for number in case])


def are_rings(plan, reader, broken, value):
    """Tell whether value is a dict that tells for just the choices that break the claim a ring."""
    if not isinstance(value, dict):
        return False
    choices = breaking_choices(plan, reader, broken)
    if len(value) != len(choices):
        return False
    writes = [least_told(write_differences(plan))] * (1 + len(plan[2]))
    tables = [case_tables(plan, reader, at) for at in range(len(reader[1]))]
    for choice in choices:
        looks = [table[case] for table, case in zip(tables, choice)]
        if not is_ring(writes + looks, value.get(choice)):
            return False
    # As keys True and False equal 1 and 0, so the keys are the choices but for that.
    return not any([has_bool(key) for key in value])
