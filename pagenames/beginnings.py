"""Beginnings of addresses that lead on, the longest one first."""

from pagenames.errors import TooMany

BEGINNING = 0
GOAL = 1
MOST_TIMES = 8


def begins_with(address, beginning):
    return address[:len(beginning)] == beginning


def length_of_beginning(rule):
    return len(rule[BEGINNING])


def longest_rule(rules, address):
    fitting = [rule for rule in rules if begins_with(address, rule[BEGINNING])]
    return max(fitting, key=length_of_beginning, default=None)


def once(rules, address):
    rule = longest_rule(rules, address)
    if rule is None:
        return None
    return rule[GOAL] + address[len(rule[BEGINNING]):]


def led(rules, address):
    times = 0
    further = once(rules, address)
    while further is not None:
        times = times + 1
        if times > MOST_TIMES:
            raise TooMany(f"more than {MOST_TIMES} times it would be led on")
        address = further
        further = once(rules, address)
    return address


def is_needless(rules, rule):
    # What holds of the beginning as an address holds of all for which it is the longest: what is left of them
    # stands behind, with this rule and without it.
    others = [each for each in rules if each[BEGINNING] != rule[BEGINNING]]
    return once(others, rule[BEGINNING]) == rule[GOAL]


def needless(rules):
    return tuple(sorted([rule[BEGINNING] for rule in rules if is_needless(rules, rule)]))
