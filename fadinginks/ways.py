"""Ways: by which events a table of spans (see spans) tells what it tells.

A table of ways has at [x][y] a tuple of unlike events from x to y. The
differences from each of them to the one behind it are told, and their c's
add up to the span at [x][y].
"""

from fadinginks.spans import clash, joined


def chain_ways(many):
    """Return the ways among the event 0 and so many events that stand behind one another."""
    events = range(many + 1)
    return [[tuple(range(x, y + 1)) if x <= y else tuple(range(x, y - 1, -1)) for y in events] for x in events]


def joined_ways(spans, ways, floors, roofs):
    """Return the ways with one more event, the last; the event must fit."""
    event = len(spans)
    events = range(event)
    above = [min([(spans[roof][x] + more, roof) for roof, more in roofs]) for x in events]
    below = [min([(spans[x][floor] + less, floor) for floor, less in floors]) for x in events]
    ups = [ways[x][best[1]] + (event,) for x, best in enumerate(below)]
    downs = [(event,) + ways[best[1]][x] for x, best in enumerate(above)]
    wider = []
    for start, up in enumerate(ups):
        row = []
        for end, down in enumerate(downs):
            # Only where it tells less: an event that came twice would make a shorter way without the new event.
            shorter = below[start][0] + above[end][0] < spans[start][end]
            row.append(up + down[1:] if shorter else ways[start][end])
        wider.append(row + [up])
    wider.append(downs + [(event,)])
    return wider


def grown(known, floors, roofs):
    """Return the triple (ring, spans, ways) that is known with one more event.

    The ring is one that adds up to less than 0, or None. Once there is a ring it stays, and the rest means nothing.
    """
    ring, spans, ways = known
    if ring is not None:
        return known
    met = clash(spans, floors, roofs)
    if met is None:
        return (None, joined(spans, floors, roofs), joined_ways(spans, ways, floors, roofs))
    roof, floor = met
    return ((len(spans),) + ways[roof][floor], spans, ways)
