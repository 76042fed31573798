"""Rows of names, or of addresses, that lead to others: followed, made flat, looked through for rings."""

from pagenames.errors import Ring

FIRST = 0
GOAL = 1


def stop_of(goals, name):
    # The way stops at a name without a row, or, in a ring, at the first name that it comes to again.
    passed = {}
    while name in goals and name not in passed:
        passed[name] = True
        name = goals[name]
    return name


def leads_round(rows, name):
    goals = dict(rows)
    return stop_of(goals, name) in goals


def end_of(rows, name):
    goals = dict(rows)
    stop = stop_of(goals, name)
    if stop in goals:
        raise Ring(f"this leads into a ring: {name!r}")
    return stop


def ring_from(goals, name):
    ring = [name]
    following = goals[name]
    while following != name:
        ring.append(following)
        following = goals[following]
    return ring


def from_least(ring):
    place = ring.index(min(ring))
    return tuple(ring[place:] + ring[:place])


def rings(rows):
    goals = dict(rows)
    # A ring is come to from each name in it and from others: as a key it is there once.
    known = {}
    for row in rows:
        stop = stop_of(goals, row[FIRST])
        if stop in goals:
            known[from_least(ring_from(goals, stop))] = True
    return tuple(sorted(known))


def flat(rows):
    goals = dict(rows)
    ends = [(row[FIRST], stop_of(goals, row[FIRST])) for row in rows]
    return tuple(sorted([row for row in ends if row[GOAL] not in goals]))


def is_flat(rows):
    goals = dict(rows)
    return not any([row[GOAL] in goals for row in rows])


def led_to(rows, name):
    return tuple([row[FIRST] for row in flat(rows) if row[GOAL] == name])


def turned(rows):
    leading = {}
    for row in sorted(rows):
        leading[row[GOAL]] = leading.get(row[GOAL], ()) + (row[FIRST],)
    return tuple([(goal, leading[goal]) for goal in sorted(leading)])


def with_row(rows, one, other):
    end = end_of(rows, other)
    if end == one:
        raise Ring(f"by this it would lead to itself: {one!r}")
    others = tuple([row for row in rows if row[FIRST] != one])
    # Made flat, those that led to the one lead on to its end.
    return flat(others + ((one, end),))
