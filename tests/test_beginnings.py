import itertools
import random
import unittest

from pagenames.beginnings import led, needless, once
from pagenames.errors import PageError, TooMany

SHORT = tuple(names for length in range(3) for names in itertools.product("ab", repeat=length))
ADDRESSES = tuple(names for length in range(6) for names in itertools.product("ab", repeat=length))


def once_by_model(rules, address):
    """Beginnings tried from the whole address down to the empty one."""
    goals = dict(rules)
    for length in range(len(address), -1, -1):
        if address[:length] in goals:
            return goals[address[:length]] + address[length:]
    return None


def some_rules(seed):
    draw = random.Random(seed)
    beginnings = draw.sample(SHORT, draw.randrange(0, 6))
    return tuple((beginning, draw.choice(SHORT)) for beginning in beginnings)


def chain(length):
    """Rules by which ("n0",) is led on so many times."""
    return tuple(((f"n{place}",), (f"n{place + 1}",)) for place in range(length))


class Once(unittest.TestCase):
    def test_no_rules_and_none_that_fits(self):
        self.assertIsNone(once((), ()))
        self.assertIsNone(once((), ("a", "b")))
        self.assertIsNone(once(((("b",), ("c",)),), ("a", "b")))
        self.assertIsNone(once(((("a", "b"), ("c",)),), ("a",)))
        self.assertIsNone(once(((("a",), ("c",)),), ()))

    def test_whole_names_are_compared(self):
        self.assertIsNone(once(((("a",), ("c",)),), ("ab",)))

    def test_goal_and_what_is_left(self):
        rules = ((("a",), ("x",)),)
        self.assertEqual(once(rules, ("a",)), ("x",))
        self.assertEqual(once(rules, ("a", "b", "c")), ("x", "b", "c"))
        self.assertEqual(once(rules, ("a", "a")), ("x", "a"))

    def test_a_beginning_further_on_leads_nowhere(self):
        self.assertIsNone(once(((("a",), ("x",)),), ("b", "a")))

    def test_the_longest_leads_on_in_any_order(self):
        rules = (((), ("o",)), (("a",), ("x",)), (("a", "b"), ("y",)), (("a", "b", "c"), ("z",)))
        for order in itertools.permutations(rules):
            self.assertEqual(once(order, ("a", "b", "c", "d")), ("z", "d"))
            self.assertEqual(once(order, ("a", "b", "d")), ("y", "d"))
            self.assertEqual(once(order, ("a", "c")), ("x", "c"))
            self.assertEqual(once(order, ("c",)), ("o", "c"))
            self.assertEqual(once(order, ()), ("o",))

    def test_the_empty_beginning(self):
        self.assertEqual(once((((), ("o", "p")),), ()), ("o", "p"))
        self.assertEqual(once((((), ("o", "p")),), ("a",)), ("o", "p", "a"))
        self.assertEqual(once((((), ()),), ()), ())
        self.assertEqual(once((((), ()),), ("a",)), ("a",))

    def test_goals_longer_and_shorter_than_the_beginning(self):
        self.assertEqual(once(((("a",), ("w", "x", "y", "z")),), ("a", "b")), ("w", "x", "y", "z", "b"))
        self.assertEqual(once(((("a", "b", "c", "d"), ("x",)),), ("a", "b", "c", "d", "e")), ("x", "e"))
        self.assertEqual(once(((("a", "b"), ()),), ("a", "b")), ())
        self.assertEqual(once(((("a", "b"), ()),), ("a", "b", "c")), ("c",))

    def test_addresses_of_more_than_four_names(self):
        self.assertEqual(once(((("a", "b"), ("x",)),), ("a", "b") + ("c",) * 20), ("x",) + ("c",) * 20)

    def test_a_rule_that_leads_to_itself(self):
        self.assertEqual(once(((("a",), ("a",)),), ("a", "b")), ("a", "b"))

    def test_tuples_are_told(self):
        self.assertIs(type(once(((("a",), ("b",)),), ("a", "c"))), tuple)

    def test_many_rules(self):
        for seed in range(400):
            rules = some_rules(seed)
            for address in ADDRESSES:
                self.assertEqual(once(rules, address), once_by_model(rules, address), (rules, address))


class Led(unittest.TestCase):
    def assert_too_many(self, rules, address):
        with self.assertRaises(PageError, msg=(rules, address)) as caught:
            led(rules, address)
        self.assertIs(type(caught.exception), TooMany)

    def test_where_nothing_leads_on(self):
        self.assertEqual(led((), ()), ())
        self.assertEqual(led((), ("a", "b", "c", "d", "e")), ("a", "b", "c", "d", "e"))
        self.assertEqual(led(((("b",), ("c",)),), ("a",)), ("a",))

    def test_once_and_twice(self):
        rules = ((("a",), ("b", "c")), (("b", "c", "d"), ("e",)))
        self.assertEqual(led(rules, ("b", "c", "d")), ("e",))
        self.assertEqual(led(rules, ("a", "d", "f")), ("e", "f"))
        self.assertEqual(led(rules, ("a", "f")), ("b", "c", "f"))

    def test_to_an_address_of_no_names(self):
        self.assertEqual(led(((("a",), ()),), ("a",) * 5), ())

    def test_up_to_eight_times(self):
        for times in range(0, 9):
            self.assertEqual(led(chain(times), ("n0", "rest")), (f"n{times}", "rest"), times)
            self.assertEqual(led(((("a",), ()),), ("a",) * times), (), times)

    def test_more_than_eight_times(self):
        for times in range(9, 13):
            self.assert_too_many(chain(times), ("n0",))
            self.assert_too_many(((("a",), ()),), ("a",) * times)

    def test_from_within_a_long_chain(self):
        self.assertEqual(led(chain(12), ("n4",)), ("n12",))
        self.assert_too_many(chain(12), ("n3",))

    def test_round_without_end(self):
        self.assert_too_many(((("a",), ("a",)),), ("a", "b"))
        self.assert_too_many(((("a",), ("b",)), (("b",), ("a",))), ("b",))
        self.assert_too_many(((("a",), ("a", "a")),), ("a",))
        self.assert_too_many((((), ()),), ())
        self.assert_too_many((((), ("a",)),), ("b",))

    def test_the_empty_beginning_leads_on_whatever_comes(self):
        self.assert_too_many((((), ()), (("a",), ("b",))), ("a",))

    def test_many_rules(self):
        for seed in range(400):
            rules = some_rules(seed)
            for address in ADDRESSES:
                way = [address]
                while way[-1] is not None and len(way) <= 9:
                    way.append(once_by_model(rules, way[-1]))
                if way[-1] is None:
                    self.assertEqual(led(rules, address), way[-2], (rules, address))
                else:
                    self.assert_too_many(rules, address)


class Needless(unittest.TestCase):
    def test_no_rules(self):
        self.assertEqual(needless(()), ())

    def test_a_rule_with_no_shorter_one(self):
        self.assertEqual(needless(((("a",), ("b",)),)), ())
        self.assertEqual(needless(((("a",), ("b",)), (("c", "d"), ("b", "d")))), ())

    def test_the_empty_beginning_never_is(self):
        self.assertEqual(needless((((), ()),)), ())
        self.assertEqual(needless((((), ("a",)),)), ())
        self.assertEqual(needless((((), ("x",)), (("a",), ("y",)))), ())

    def test_a_rule_that_leads_as_a_shorter_one_would(self):
        self.assertEqual(needless(((("a",), ("x",)), (("a", "b"), ("x", "b")))), (("a", "b"),))
        self.assertEqual(needless((((), ("x",)), (("a",), ("x", "a")))), (("a",),))
        self.assertEqual(needless(((("a",), ()), (("a", "b", "c"), ("b", "c")))), (("a", "b", "c"),))

    def test_a_rule_that_leads_otherwise(self):
        self.assertEqual(needless(((("a",), ("x",)), (("a", "b"), ("x",)))), ())
        self.assertEqual(needless(((("a",), ("x",)), (("a", "b"), ("x", "c")))), ())
        self.assertEqual(needless(((("a",), ("x",)), (("a", "b"), ("x", "b", "b")))), ())

    def test_the_next_shorter_one_counts_not_one_shorter_still(self):
        rules = (((), ("x",)), (("a",), ("y",)), (("a", "b"), ("x", "a", "b")))
        self.assertEqual(needless(rules), ())
        rules = (((), ("x",)), (("a",), ("y",)), (("a", "b"), ("y", "b")))
        self.assertEqual(needless(rules), (("a", "b"),))

    def test_two_each_of_which_is_needless_by_itself(self):
        rules = ((("a", "b"), ("x", "b")), (("a", "b", "c"), ("x", "b", "c")), (("a",), ("x",)))
        self.assertEqual(needless(rules), (("a", "b"), ("a", "b", "c")))

    def test_a_longer_one_does_not_make_a_shorter_one_needless(self):
        self.assertEqual(needless(((("a", "b"), ("x", "b")), (("a", "b", "c"), ("x", "b", "c")))), (("a", "b", "c"),))

    def test_a_rule_that_leads_to_itself(self):
        # Without it nothing would be told of it, which is not the same.
        self.assertEqual(needless(((("a",), ("a",)),)), ())
        self.assertEqual(needless((((), ()), (("a",), ("a",)))), (("a",),))
        self.assertEqual(needless(((("a",), ("a",)), (("a", "b"), ("a", "b")))), (("a", "b"),))

    def test_rising_in_any_order_of_the_rules(self):
        rules = (((), ()), (("b",), ("b",)), (("a", "z"), ("a", "z")), (("a",), ("a",)))
        for order in itertools.permutations(rules):
            self.assertEqual(needless(order), (("a",), ("a", "z"), ("b",)))

    def test_many_rules(self):
        for seed in range(400):
            rules = some_rules(seed)
            told = []
            for rule in sorted(rules):
                others = tuple(each for each in rules if each != rule)
                if all(once_by_model(others, address) == once_by_model(rules, address) for address in ADDRESSES):
                    told.append(rule[0])
            self.assertEqual(needless(rules), tuple(told), rules)


if __name__ == "__main__":
    unittest.main()
