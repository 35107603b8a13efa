"""Rings among differences (x, y, c): the tick of x is at most the tick of y and c."""


def negative_ring(events, told):
    """Return a ring among the differences whose c's add up to less than 0, None if there is none.

    The differences are between the events 0, 1, .. below the number events.
    """
    bests = [0] * events
    follows = [None] * events
    moved = None
    for _ in range(events):
        moved = None
        for x, y, c in told:
            if bests[y] + c < bests[x]:
                bests[x] = bests[y] + c
                follows[x] = y
                moved = x
        if moved is None:
            return None
    # What moves in the last round was moved by what moved in the round ahead
    # or later, and so on: so many steps back, one event has come twice.
    for _ in range(events):
        moved = follows[moved]
    return ring_from(follows, moved)


def ring_from(follows, first):
    """Return the events from first on, each one's follower behind it, up to first again."""
    found = [first]
    event = follows[first]
    while event != first:
        found.append(event)
        event = follows[event]
    return tuple(found)
