import itertools
import random
import unittest

from pagenames.hands import pages_of, put, since, together

A, B, C = ("a",), ("a", "b"), ("b",)
# Few clocks, hands and numbers, so that many are equal.
ALL_ROWS = tuple(itertools.product((A, B, C), (0, 1, 2), ("", "ann", "bob"), (0, 1, 2)))


def put_by_model(rows):
    """Of each address the greatest row by clock, hand and number."""
    told = []
    for address in sorted({row[0] for row in rows}):
        told.append(max((row for row in rows if row[0] == address), key=lambda row: (row[1], row[2], row[3])))
    return tuple(told)


def some_rows(seed):
    draw = random.Random(seed)
    return put_by_model(draw.sample(ALL_ROWS, draw.randrange(0, 6)))


class Put(unittest.TestCase):
    def test_to_no_rows(self):
        self.assertEqual(put((), (A, 0, "ann", 0)), ((A, 0, "ann", 0),))

    def test_rising_by_address(self):
        rows = ((A, 5, "ann", 1), (C, 1, "ann", 2))
        self.assertEqual(put(rows, (B, 0, "ann", 3)), (rows[0], (B, 0, "ann", 3), rows[1]))
        self.assertEqual(put(rows[1:], rows[0]), rows)
        self.assertEqual(put(rows[:1], rows[1]), rows)

    def test_a_greater_clock(self):
        self.assertEqual(put(((A, 9, "zoe", 9),), (A, 10, "ann", 0)), ((A, 10, "ann", 0),))

    def test_a_lesser_clock(self):
        self.assertEqual(put(((A, 10, "ann", 0),), (A, 9, "zoe", 9)), ((A, 10, "ann", 0),))

    def test_equal_clocks(self):
        self.assertEqual(put(((A, 1, "ann", 9),), (A, 1, "bob", 0)), ((A, 1, "bob", 0),))
        self.assertEqual(put(((A, 1, "bob", 0),), (A, 1, "ann", 9)), ((A, 1, "bob", 0),))
        self.assertEqual(put(((A, 1, "", 9),), (A, 1, "Ann", 0)), ((A, 1, "Ann", 0),))

    def test_equal_clocks_and_hands(self):
        self.assertEqual(put(((A, 1, "ann", 2),), (A, 1, "ann", 10)), ((A, 1, "ann", 10),))
        self.assertEqual(put(((A, 1, "ann", 10),), (A, 1, "ann", 2)), ((A, 1, "ann", 10),))
        self.assertEqual(put(((A, 1, "ann", 1),), (A, 1, "ann", 0)), ((A, 1, "ann", 1),))

    def test_the_same_row_again(self):
        rows = ((A, 1, "ann", 2), (B, 0, "bob", 0))
        for row in rows:
            self.assertEqual(put(rows, row), rows)

    def test_other_addresses_stay(self):
        rows = ((A, 1, "ann", 2), (B, 7, "bob", 4), (C, 7, "bob", 4))
        self.assertEqual(put(rows, (B, 8, "bob", 5)), (rows[0], (B, 8, "bob", 5), rows[2]))

    def test_one_with_number_0_is_a_row_like_others(self):
        self.assertEqual(put(((A, 1, "ann", 2),), (A, 2, "ann", 0)), ((A, 2, "ann", 0),))
        self.assertEqual(put(((A, 2, "ann", 0),), (A, 1, "ann", 2)), ((A, 2, "ann", 0),))

    def test_all_pairs_of_rows(self):
        for one, other in itertools.product(ALL_ROWS, repeat=2):
            self.assertEqual(put((one,), other), put_by_model((one, other)), (one, other))


class Together(unittest.TestCase):
    def test_nothing(self):
        rows = ((A, 1, "ann", 2), (C, 1, "ann", 2))
        self.assertEqual(together((), ()), ())
        self.assertEqual(together(rows, ()), rows)
        self.assertEqual(together((), rows), rows)

    def test_the_greater_of_each_address(self):
        one = ((A, 1, "ann", 1), (B, 4, "ann", 1))
        other = ((A, 2, "bob", 2), (B, 3, "bob", 2), (C, 0, "bob", 2))
        self.assertEqual(together(one, other), ((A, 2, "bob", 2), (B, 4, "ann", 1), (C, 0, "bob", 2)))

    def test_in_any_order_and_grouping_over_and_over(self):
        for seed in range(0, 900, 3):
            one, other, third = some_rows(seed), some_rows(seed + 1), some_rows(seed + 2)
            told = together(one, other)
            self.assertEqual(told, put_by_model(one + other), (one, other))
            self.assertEqual(together(other, one), told)
            self.assertEqual(together(told, one), told)
            self.assertEqual(together(other, told), told)
            self.assertEqual(together(told, told), told)
            self.assertEqual(together(one, one), one)
            self.assertEqual(together(told, third), together(one, together(other, third)))

    def test_rows_put_one_by_one_in_any_order(self):
        for seed in range(60):
            rows = random.Random(seed).sample(ALL_ROWS, 5)
            for order in itertools.permutations(rows):
                told = ()
                for row in order + order[:2]:
                    told = put(told, row)
                self.assertEqual(told, put_by_model(rows), order)

    def test_put_is_together_with_one_row(self):
        for seed in range(300):
            rows, row = some_rows(seed), ALL_ROWS[seed % len(ALL_ROWS)]
            self.assertEqual(put(rows, row), together(rows, (row,)))


class Since(unittest.TestCase):
    ROWS = ((A, 0, "ann", 1), (B, 3, "bob", 0), (C, 2, "ann", 1))

    def test_those_with_a_greater_clock(self):
        self.assertEqual(since(self.ROWS, 0), self.ROWS[1:])
        self.assertEqual(since(self.ROWS, 1), self.ROWS[1:])
        self.assertEqual(since(self.ROWS, 2), self.ROWS[1:2])
        self.assertEqual(since(self.ROWS, 3), ())
        self.assertEqual(since(self.ROWS, 400), ())

    def test_all_since_minus_one(self):
        self.assertEqual(since(self.ROWS, -1), self.ROWS)

    def test_no_rows(self):
        for clock in (-1, 0, 5):
            self.assertEqual(since((), clock), ())

    def test_what_came_since_put_to_what_was_there_is_all(self):
        for seed in range(300):
            before, rows = some_rows(seed), some_rows(seed + 1)
            for clock in range(-1, 4):
                new = since(rows, clock)
                self.assertEqual(new, tuple(row for row in rows if row[1] >= clock + 1))
                older = tuple(row for row in rows if row not in new)
                self.assertEqual(together(together(before, older), new), together(before, rows))


class PagesOf(unittest.TestCase):
    ROWS = ((A, 0, "ann", 1), (B, 3, "bob", 0), (C, 2, "ann", 1))

    def test_addresses_with_this_number(self):
        self.assertEqual(pages_of(self.ROWS, 1), (A, C))
        self.assertEqual(pages_of(self.ROWS, 2), ())

    def test_number_0(self):
        self.assertEqual(pages_of(self.ROWS, 0), (B,))

    def test_no_rows(self):
        self.assertEqual(pages_of((), 0), ())
        self.assertEqual(pages_of((), 1), ())

    def test_a_number_that_was_put_away_is_not_told(self):
        rows = put(self.ROWS, (A, 1, "ann", 0))
        self.assertEqual(pages_of(rows, 1), (C,))
        self.assertEqual(pages_of(rows, 0), (A, B))

    def test_each_address_is_of_one_number(self):
        for seed in range(300):
            rows = some_rows(seed)
            told = [pages_of(rows, number) for number in (0, 1, 2)]
            for addresses in told:
                self.assertEqual(list(addresses), sorted(addresses))
            self.assertEqual(sorted(told[0] + told[1] + told[2]), [row[0] for row in rows])
            for number in (0, 1, 2):
                self.assertEqual(told[number], tuple(row[0] for row in rows if row[3] == number))


if __name__ == "__main__":
    unittest.main()
