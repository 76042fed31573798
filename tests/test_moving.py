import itertools
import random
import unittest

from pagenames.errors import PageError, Ring
from pagenames.moving import end_of, flat, is_flat, led_to, leads_round, rings, turned, with_row

NAMES = ("a", "b", "c", "d")
GOALS = NAMES + ("e",)


def every_rows():
    """All rows whose first ones are among four names and whose goals are among five."""
    for goals in itertools.product((None,) + GOALS, repeat=len(NAMES)):
        yield tuple((name, goal) for name, goal in zip(NAMES, goals) if goal is not None)


def steps(rows, name):
    """The names that one comes to, more steps than there are rows, if it goes on so long."""
    goals = dict(rows)
    passed = [name]
    while passed[-1] in goals and len(passed) <= len(rows) + 1:
        passed.append(goals[passed[-1]])
    return passed


def goes_round(rows, name):
    return len(steps(rows, name)) > len(rows) + 1


def as_addresses(rows):
    """The same rows of addresses; their order as tuples is that of the names."""
    return tuple((("top", one), ("top", other)) for one, other in rows)


def shuffled(rows, seed):
    mixed = list(rows)
    random.Random(seed).shuffle(mixed)
    return tuple(mixed)


class Case(unittest.TestCase):
    def assert_ring(self, deed, *arguments):
        with self.assertRaises(PageError, msg=arguments) as caught:
            deed(*arguments)
        self.assertIs(type(caught.exception), Ring, arguments)


class EndOf(Case):
    def test_a_name_without_a_row_is_its_own_end(self):
        self.assertEqual(end_of((), "a"), "a")
        self.assertEqual(end_of((("b", "c"),), "a"), "a")
        self.assertEqual(end_of((("b", "a"),), "a"), "a")
        self.assertEqual(end_of(((("b",), ("c",)),), ("a",)), ("a",))

    def test_one_row_and_more(self):
        rows = (("c", "d"), ("a", "b"), ("b", "c"), ("x", "c"))
        for name in ("a", "b", "c", "d", "x"):
            self.assertEqual(end_of(rows, name), "d")

    def test_addresses(self):
        rows = ((("a", "b"), ("c",)), (("c",), ("d", "e", "f", "g")), (("a",), ("a", "b")))
        for name in (("a",), ("a", "b"), ("c",), ("d", "e", "f", "g")):
            self.assertEqual(end_of(rows, name), ("d", "e", "f", "g"))
        self.assertEqual(end_of(rows, ("a", "b", "c")), ("a", "b", "c"))

    def test_an_address_is_not_led_by_its_beginning(self):
        self.assertEqual(end_of(((("a",), ("b",)),), ("a", "c")), ("a", "c"))

    def test_a_ring_of_one_name(self):
        self.assert_ring(end_of, (("a", "a"),), "a")
        self.assert_ring(end_of, ((("a",), ("a",)),), ("a",))
        self.assertEqual(end_of((("a", "a"), ("b", "c")), "b"), "c")

    def test_a_ring_of_more_and_what_leads_into_it(self):
        rows = (("a", "b"), ("b", "c"), ("c", "b"), ("d", "e"), ("z", "a"))
        for name in ("a", "b", "c", "z"):
            self.assert_ring(end_of, rows, name)
        self.assertEqual(end_of(rows, "d"), "e")
        self.assertEqual(end_of(rows, "y"), "y")

    def test_a_long_way(self):
        rows = tuple((f"n{place}", f"n{place + 1}") for place in range(3000))
        self.assertEqual(end_of(rows, "n0"), "n3000")
        self.assert_ring(end_of, rows + (("n3000", "n2999"),), "n0")


class LeadsRound(Case):
    def test_just_truths_are_told(self):
        rows = (("a", "b"), ("b", "b"), ("c", "d"))
        told = [leads_round(rows, name) for name in ("a", "b", "c", "d", "e")]
        self.assertEqual(told, [True, True, False, False, False])
        self.assertEqual({type(truth) for truth in told}, {bool})

    def test_no_rows(self):
        self.assertIs(leads_round((), "a"), False)

    def test_the_end_is_refused_just_where_it_leads_round(self):
        for rows in every_rows():
            for name in GOALS + ("f",):
                round_there = goes_round(rows, name)
                self.assertIs(leads_round(rows, name), round_there, (rows, name))
                if round_there:
                    self.assert_ring(end_of, rows, name)
                else:
                    self.assertEqual(end_of(rows, name), steps(rows, name)[-1], (rows, name))


class Rings(Case):
    def test_none(self):
        self.assertEqual(rings(()), ())
        self.assertEqual(rings((("a", "b"), ("b", "c"))), ())

    def test_rings_of_one_name(self):
        self.assertEqual(rings((("a", "a"),)), (("a",),))
        self.assertEqual(rings((("b", "b"), ("a", "a"), ("c", "a"))), (("a",), ("b",)))

    def test_from_the_least_on_one_leading_to_the_next(self):
        self.assertEqual(rings((("c", "b"), ("b", "a"), ("a", "c"))), (("a", "c", "b"),))
        self.assertEqual(rings((("b", "c"), ("c", "a"), ("a", "b"))), (("a", "b", "c"),))

    def test_several_rising(self):
        rows = (("z", "y"), ("y", "z"), ("m", "m"), ("c", "b"), ("b", "c"), ("a", "z"), ("d", "e"))
        self.assertEqual(rings(rows), (("b", "c"), ("m",), ("y", "z")))

    def test_names_that_lead_into_one_are_not_in_it(self):
        self.assertEqual(rings((("a", "b"), ("b", "c"), ("c", "d"), ("d", "c"))), (("c", "d"),))

    def test_addresses(self):
        rows = ((("b",), ("a", "c")), (("a", "c"), ("b",)), (("a",), ("a",)), (("c",), ("b",)))
        self.assertEqual(rings(rows), ((("a",),), (("a", "c"), ("b",))))

    def test_all_small_rows(self):
        for rows in every_rows():
            goals = dict(rows)
            told = rings(rows)
            self.assertEqual(list(told), sorted(told), rows)
            inside = [name for ring in told for name in ring]
            # A name is in a ring if the way comes back to it.
            self.assertEqual(sorted(inside), [name for name in NAMES if name in steps(rows, name)[1:]], rows)
            for ring in told:
                self.assertIs(type(ring), tuple)
                self.assertEqual(ring[0], min(ring), rows)
                for place, name in enumerate(ring):
                    self.assertEqual(goals[name], ring[(place + 1) % len(ring)], rows)


class Flat(Case):
    def test_none(self):
        self.assertEqual(flat(()), ())
        self.assertEqual(flat((("a", "a"), ("b", "a"), ("c", "d"), ("d", "c"))), ())

    def test_each_with_its_end_rising(self):
        self.assertEqual(flat((("c", "d"), ("b", "c"), ("a", "x"))), (("a", "x"), ("b", "d"), ("c", "d")))

    def test_no_row_into_a_ring(self):
        self.assertEqual(flat((("d", "e"), ("a", "b"), ("b", "c"), ("c", "b"), ("f", "f"))), (("d", "e"),))

    def test_addresses(self):
        rows = ((("b",), ("a",)), (("a", "b"), ("b",)), (("c",), ("c",)))
        self.assertEqual(flat(rows), ((("a", "b"), ("a",)), (("b",), ("a",))))

    def test_all_small_rows(self):
        for rows in every_rows():
            told = flat(rows)
            ends = [(name, steps(rows, name)[-1]) for name, goal in rows if not goes_round(rows, name)]
            self.assertEqual(told, tuple(sorted(ends)), rows)
            self.assertIs(is_flat(told), True, rows)
            self.assertEqual(flat(told), told, rows)
            self.assertEqual(rings(told), (), rows)
            for name in GOALS:
                if not leads_round(rows, name):
                    self.assertEqual(end_of(told, name), end_of(rows, name), (rows, name))
                    # By one step: where the flat rows lead at once is the end.
                    self.assertEqual(dict(told).get(name, name), end_of(rows, name), (rows, name))
                else:
                    self.assertNotIn(name, dict(told), rows)


class IsFlat(Case):
    def test_flat_ones(self):
        for rows in ((), (("a", "b"),), (("b", "x"), ("a", "x")), ((("a",), ("b",)), (("a", "b"), ("b",)))):
            self.assertIs(is_flat(rows), True, rows)

    def test_others(self):
        for rows in ((("a", "a"),), (("a", "b"), ("b", "c")), (("b", "c"), ("a", "b")), (("a", "b"), ("b", "a")),
                     (("x", "y"), ("a", "a")), ((("a",), ("b",)), (("b",), ("c",)))):
            self.assertIs(is_flat(rows), False, rows)

    def test_the_order_does_not_matter(self):
        self.assertIs(is_flat((("b", "z"), ("a", "z"))), True)

    def test_all_small_rows(self):
        for rows in every_rows():
            ways = [len(steps(rows, name)) for name, goal in rows]
            self.assertIs(is_flat(rows), all(way == 2 for way in ways), rows)


class LedTo(Case):
    def test_all_whose_end_it_is_rising(self):
        rows = (("c", "d"), ("b", "c"), ("a", "d"), ("x", "y"))
        self.assertEqual(led_to(rows, "d"), ("a", "b", "c"))
        self.assertEqual(led_to(rows, "y"), ("x",))

    def test_none(self):
        self.assertEqual(led_to((), "a"), ())
        self.assertEqual(led_to((("a", "b"),), "a"), ())
        self.assertEqual(led_to((("a", "b"),), "c"), ())

    def test_one_on_the_way_is_no_end(self):
        self.assertEqual(led_to((("a", "b"), ("b", "c")), "b"), ())

    def test_nothing_ends_in_a_ring(self):
        rows = (("a", "b"), ("b", "b"), ("c", "a"))
        for name in ("a", "b", "c"):
            self.assertEqual(led_to(rows, name), ())

    def test_addresses(self):
        rows = ((("b",), ("x", "y")), (("a", "z"), ("b",)), (("a",), ("x",)))
        self.assertEqual(led_to(rows, ("x", "y")), (("a", "z"), ("b",)))

    def test_all_small_rows(self):
        for rows in every_rows():
            for name in GOALS:
                led = [one for one, goal in rows if not goes_round(rows, one) and steps(rows, one)[-1] == name]
                self.assertEqual(led_to(rows, name), tuple(sorted(led)), (rows, name))


class Turned(Case):
    def test_none(self):
        self.assertEqual(turned(()), ())

    def test_at_once_alone_rising(self):
        rows = (("z", "m"), ("b", "m"), ("m", "a"), ("c", "z"))
        self.assertEqual(turned(rows), (("a", ("m",)), ("m", ("b", "z")), ("z", ("c",))))

    def test_rings_too(self):
        self.assertEqual(turned((("b", "a"), ("a", "a"))), (("a", ("a", "b")),))
        self.assertEqual(turned((("b", "a"), ("a", "b"))), (("a", ("b",)), ("b", ("a",))))

    def test_addresses(self):
        rows = ((("b",), ("a",)), (("a", "x"), ("a",)), (("c",), ("a", "x")))
        self.assertEqual(turned(rows), ((("a",), (("a", "x"), ("b",))), (("a", "x"), (("c",),))))

    def test_all_small_rows(self):
        for rows in every_rows():
            told = turned(shuffled(rows, len(rows)))
            self.assertEqual([pair[0] for pair in told], sorted({goal for name, goal in rows}), rows)
            for goal, names in told:
                self.assertEqual(names, tuple(sorted(name for name, other in rows if other == goal)), rows)


class AnyOrderAndKind(Case):
    def test_the_order_of_the_rows_does_not_matter(self):
        for seed, rows in enumerate(every_rows()):
            mixed = shuffled(rows, seed)
            for ask in (rings, flat, is_flat, turned):
                self.assertEqual(ask(mixed), ask(rows), mixed)
            for name in GOALS:
                self.assertEqual(led_to(mixed, name), led_to(rows, name), mixed)
                self.assertEqual(leads_round(mixed, name), leads_round(rows, name), mixed)

    def test_addresses_are_led_as_names_are(self):
        for rows in every_rows():
            other = as_addresses(rows)
            self.assertEqual(flat(other), as_addresses(flat(rows)))
            self.assertEqual(rings(other), tuple(tuple(("top", name) for name in ring) for ring in rings(rows)))
            self.assertEqual(is_flat(other), is_flat(rows))
            for name in GOALS:
                self.assertEqual(leads_round(other, ("top", name)), leads_round(rows, name))
                self.assertEqual(led_to(other, ("top", name)), tuple(("top", one) for one in led_to(rows, name)))


class WithRow(Case):
    def test_to_no_rows(self):
        self.assertEqual(with_row((), "a", "b"), (("a", "b"),))

    def test_those_that_led_to_the_one_lead_on(self):
        rows = (("b", "m"), ("c", "x"), ("z", "m"))
        self.assertEqual(with_row(rows, "m", "n"), (("b", "n"), ("c", "x"), ("m", "n"), ("z", "n")))

    def test_it_leads_to_the_end_of_the_other(self):
        self.assertEqual(with_row((("b", "c"),), "a", "b"), (("a", "c"), ("b", "c")))
        self.assertEqual(with_row((("b", "c"), ("z", "a")), "a", "b"), (("a", "c"), ("b", "c"), ("z", "c")))

    def test_the_one_had_a_row_already(self):
        self.assertEqual(with_row((("a", "b"),), "a", "c"), (("a", "c"),))
        self.assertEqual(with_row((("a", "b"), ("d", "b")), "a", "c"), (("a", "c"), ("d", "b")))
        self.assertEqual(with_row((("a", "b"), ("d", "e")), "a", "d"), (("a", "e"), ("d", "e")))

    def test_the_same_row_again(self):
        self.assertEqual(with_row((("a", "b"),), "a", "b"), (("a", "b"),))

    def test_the_other_is_the_one_and_has_an_end(self):
        self.assertEqual(with_row((("a", "b"),), "a", "a"), (("a", "b"),))

    def test_rings_are_refused(self):
        self.assert_ring(with_row, (), "a", "a")
        self.assert_ring(with_row, (("b", "c"),), "a", "a")
        self.assert_ring(with_row, (("b", "a"),), "a", "b")
        self.assert_ring(with_row, (("b", "a"), ("c", "a")), "a", "c")
        self.assert_ring(with_row, ((("b",), ("a", "x")),), ("a", "x"), ("b",))

    def test_rows_in_any_order_are_told_rising(self):
        self.assertEqual(with_row((("z", "y"), ("b", "c")), "m", "n"), (("b", "c"), ("m", "n"), ("z", "y")))

    def test_addresses(self):
        rows = ((("b",), ("a",)), (("a", "x"), ("c",)))
        self.assertEqual(with_row(rows, ("a",), ("a", "x")), ((("a",), ("c",)), (("a", "x"), ("c",)), (("b",), ("c",))))

    def test_one_behind_the_other(self):
        rows = ()
        for one, other in (("a", "b"), ("b", "c"), ("c", "d"), ("x", "a")):
            rows = with_row(rows, one, other)
        self.assertEqual(rows, (("a", "d"), ("b", "d"), ("c", "d"), ("x", "d")))
        self.assert_ring(with_row, rows, "d", "x")

    def test_all_small_rows(self):
        names = GOALS + ("f",)
        for rows in every_rows():
            if not is_flat(rows):
                continue
            for one, other in itertools.product(names, repeat=2):
                end = dict(rows).get(other, other)
                if end == one:
                    self.assert_ring(with_row, rows, one, other)
                    continue
                told = with_row(rows, one, other)
                goals = {name: end if goal == one else goal for name, goal in rows}
                goals[one] = end
                self.assertEqual(told, tuple(sorted(goals.items())), (rows, one, other))
                self.assertIs(is_flat(told), True, (rows, one, other))

    def test_walks_of_rows_more(self):
        draw = random.Random(42)
        for walk in range(60):
            rows = ()
            for step in range(30):
                one, other = draw.choice("abcdefgh"), draw.choice("abcdefgh")
                before = rows
                try:
                    rows = with_row(rows, one, other)
                except Ring:
                    self.assertEqual(end_of(before, other), one)
                    continue
                self.assertNotEqual(end_of(before, other), one)
                self.assertEqual(list(rows), sorted(rows))
                self.assertTrue(is_flat(rows))
                for name in "abcdefgh":
                    led_on = name == one or end_of(before, name) == one
                    self.assertEqual(end_of(rows, name), end_of(before, other if led_on else name))


if __name__ == "__main__":
    unittest.main()
