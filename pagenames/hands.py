"""Rows of several hands, each telling whose an address is, put together."""

ADDRESS = 0
CLOCK = 1
NUMBER = 3


def together(one, other):
    latest = {}
    for row in one + other:
        address = row[ADDRESS]
        # Two rows of one address are compared by what stands behind it: clock, hand and number.
        if address not in latest or latest[address] < row:
            latest[address] = row
    return tuple([latest[address] for address in sorted(latest)])


def put(rows, row):
    return together(rows, (row,))


def since(rows, clock):
    return tuple([row for row in rows if row[CLOCK] > clock])


def pages_of(rows, number):
    return tuple(sorted([row[ADDRESS] for row in rows if row[NUMBER] == number]))
