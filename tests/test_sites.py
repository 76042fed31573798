import unittest

from pagenames.addresses import is_address
from pagenames.errors import BadName, Inside, NoPage, NothingBack, Taken, TooDeep
from pagenames.sites import Site

NO_TITLES = ("", " ", " a", "a ", "a" * 31)
NO_NAMES = ("", "-", "A", "a b", "a-", "-a", "a--b", "a" * 13, "a/b", "a'")


def all_told(site):
    numbers = site.pages()
    old = [address for address, goal in site.rows()] + list(site.gone())
    return (
        numbers,
        tuple((site.page(number), site.inner(number), site.address(number), site.old_of(number)) for number in numbers),
        site.inner(None),
        site.rows(),
        site.gone(),
        tuple(site.found(address) for address in old),
    )


def chain(length):
    # Pages 1 to length, each right in the one before it, named a, b, c and so on.
    site = Site()
    for number in range(1, length + 1):
        site.add("abcdefgh"[number - 1], number - 1 if number > 1 else None)
    return site


def grove():
    # 1 a            5 e
    #   2 b            6 b
    #     3 c            7 c
    #   4 d          8 f
    site = Site()
    for title, parent in (("a", None), ("b", 1), ("c", 2), ("d", 1), ("e", None), ("b", 5), ("c", 6), ("f", None)):
        site.add(title, parent)
    return site


class SiteCase(unittest.TestCase):
    def refused(self, error, site, deed, *handed):
        before = all_told(site)
        with self.assertRaises(error, msg=(deed, handed)) as caught:
            getattr(site, deed)(*handed)
        self.assertIs(type(caught.exception), error, (deed, handed))
        self.assertEqual(all_told(site), before)

    def no_page(self, site, address):
        with self.assertRaises(NoPage, msg=address):
            site.found(address)


class Adding(SiteCase):
    def test_a_new_site_has_no_pages(self):
        site = Site()
        self.assertEqual((site.pages(), site.inner(None), site.rows(), site.gone()), ((), (), (), ()))

    def test_numbers_rise_from_one(self):
        site = Site()
        self.assertEqual([site.add("a", None), site.add("b", 1), site.add("c", None)], [1, 2, 3])
        self.assertEqual(site.pages(), (1, 2, 3))

    def test_a_number_is_not_given_twice(self):
        site = chain(2)
        site.drop(2)
        self.assertEqual(site.add("c", None), 3)
        site.put_into(3, 1)
        self.assertEqual(site.add("d", 1), 4)
        self.assertEqual(site.pages(), (1, 4))

    def test_page_tells_title_name_and_parent(self):
        site = Site()
        site.add("What's New & Old", None)
        site.add("?", 1)
        self.assertEqual(site.page(1), ("What's New & Old", "whats-new", None))
        self.assertEqual(site.page(2), ("?", "page", 1))

    def test_names_are_unlike_those_right_beside(self):
        site = Site()
        for title, parent in (("News", None), ("news", None), ("NEWS!", None), ("News", 1), ("News", 2), ("news", 1)):
            site.add(title, parent)
        self.assertEqual([site.page(number)[1] for number in site.pages()], ["news", "news-2", "news-3", "news", "news", "news-2"])

    def test_more_than_ten_of_one_title(self):
        site = Site()
        for count in range(12):
            site.add("A long long name", None)
        self.assertEqual(site.page(1)[1], "a-long-long")
        self.assertEqual(site.page(9)[1], "a-long-lon-9")
        self.assertEqual(site.page(10)[1], "a-long-lo-10")
        self.assertEqual(site.page(12)[1], "a-long-lo-12")

    def test_a_name_of_its_own_may_stand_where_a_number_would(self):
        site = Site()
        for title in ("a 2", "a", "a", "a"):
            site.add(title, None)
        self.assertEqual([site.page(number)[1] for number in site.pages()], ["a-2", "a", "a-3", "a-4"])

    def test_a_name_that_got_free_is_given_again(self):
        site = Site()
        for count in range(3):
            site.add("a", None)
        site.drop(2)
        self.assertEqual(site.page(site.add("a", None))[1], "a-2")

    def test_four_pages_within_one_another_and_five(self):
        site = chain(4)
        self.assertEqual(site.address(4), ("a", "b", "c", "d"))
        self.refused(TooDeep, site, "add", "e", 4)
        self.assertEqual(site.add("e", 3), 5)

    def test_titles_of_one_and_of_thirty_signs(self):
        site = Site()
        site.add("x", None)
        site.add("x" * 30, None)
        self.assertEqual(site.page(2), ("x" * 30, "x" * 12, None))

    def test_refusals(self):
        site = chain(4)
        for parent in (0, -1, 5, 99):
            self.refused(NoPage, site, "add", "x", parent)
            self.refused(NoPage, site, "add", "", parent)
        for title in NO_TITLES:
            self.refused(BadName, site, "add", title, None)
            self.refused(BadName, site, "add", title, 1)
            self.refused(BadName, site, "add", title, 4)

    def test_a_refused_page_takes_no_number(self):
        site = Site()
        self.refused(BadName, site, "add", "", None)
        self.refused(NoPage, site, "add", "a", 1)
        self.assertEqual(site.add("a", None), 1)


class Telling(SiteCase):
    def test_inner_tells_those_right_in_it(self):
        site = grove()
        self.assertEqual([site.inner(number) for number in (None, 1, 2, 3, 5, 6)], [(1, 5, 8), (2, 4), (3,), (), (6,), (7,)])

    def test_inner_is_rising_however_they_came(self):
        site = grove()
        site.move(3, 8)
        site.move(2, 8)
        self.assertEqual((site.inner(8), site.inner(1)), ((2, 3), (4,)))

    def test_address_is_from_the_outermost_on(self):
        site = grove()
        self.assertEqual([site.address(number) for number in (1, 2, 3, 7)], [("a",), ("a", "b"), ("a", "b", "c"), ("e", "b", "c")])

    def test_no_page(self):
        site = grove()
        site.drop(2)
        for deed in ("page", "inner", "address", "old_of"):
            for number in (0, -1, 2, 3, 9, 100):
                self.refused(NoPage, site, deed, number)

    def test_a_truth_is_no_number_of_a_page(self):
        for deed in ("page", "inner", "address", "old_of", "drop"):
            self.refused(NoPage, chain(2), deed, True)

    def test_kinds_of_what_is_told(self):
        site = grove()
        site.move(2, None)
        site.drop(8)
        for told in (site.pages(), site.page(1), site.inner(1), site.inner(None), site.address(3), site.found(("a",)),
                     site.old_of(2), site.rows(), site.gone(), site.rows()[0], site.rows()[0][0], site.gone()[0]):
            self.assertIs(type(told), tuple)

    def test_deeds_tell_nothing_but_add(self):
        site = grove()
        told = [site.retitle(8, "g"), site.rename(8, "h"), site.move(8, 1), site.put_into(8, 5), site.drop(4),
                site.forget(("f",)), site.back(), site.again()]
        self.assertEqual(told, [None] * 8)


class Retitle(SiteCase):
    def test_title_and_name(self):
        site = grove()
        site.retitle(2, "What's Next")
        self.assertEqual(site.page(2), ("What's Next", "whats-next", 1))
        self.assertEqual(site.address(3), ("a", "whats-next", "c"))

    def test_the_name_is_unlike_the_others_beside_it(self):
        site = grove()
        site.retitle(2, "D")
        self.assertEqual(site.page(2), ("D", "d-2", 1))
        site.retitle(2, "A")
        self.assertEqual(site.page(2), ("A", "a", 1))

    def test_its_own_name_is_none_of_the_others(self):
        site = grove()
        site.retitle(1, "A!")
        self.assertEqual(site.page(1), ("A!", "a", None))
        site.retitle(1, "A!")
        self.assertEqual(site.page(1), ("A!", "a", None))

    def test_the_name_is_made_anew_from_the_same_title(self):
        site = grove()
        site.rename(1, "other")
        site.retitle(1, "a")
        self.assertEqual(site.page(1), ("a", "a", None))

    def test_refusals(self):
        site = grove()
        for number in (0, 9, -1):
            self.refused(NoPage, site, "retitle", number, "x")
            self.refused(NoPage, site, "retitle", number, "")
        for title in NO_TITLES:
            self.refused(BadName, site, "retitle", 1, title)


class Rename(SiteCase):
    def test_the_title_stays(self):
        site = grove()
        site.rename(2, "z-9")
        self.assertEqual(site.page(2), ("b", "z-9", 1))
        self.assertEqual(site.address(3), ("a", "z-9", "c"))

    def test_the_name_of_one_elsewhere_is_free(self):
        site = grove()
        site.rename(2, "c")
        site.rename(4, "e")
        self.assertEqual((site.address(2), site.address(4)), (("a", "c"), ("a", "e")))

    def test_its_own_name(self):
        site = grove()
        site.rename(2, "b")
        self.assertEqual(site.page(2), ("b", "b", 1))

    def test_refusals(self):
        site = grove()
        for number in (0, 9, -1):
            for name in ("x", "", "a"):
                self.refused(NoPage, site, "rename", number, name)
        for name in NO_NAMES:
            self.refused(BadName, site, "rename", 2, name)
        self.refused(Taken, site, "rename", 2, "d")
        self.refused(Taken, site, "rename", 1, "e")
        self.refused(Taken, site, "rename", 8, "a")


class Move(SiteCase):
    def test_with_all_in_it(self):
        site = grove()
        site.move(2, 8)
        self.assertEqual((site.page(2), site.page(3)), (("b", "b", 8), ("c", "c", 2)))
        self.assertEqual((site.address(2), site.address(3)), (("f", "b"), ("f", "b", "c")))
        self.assertEqual((site.inner(1), site.inner(8)), ((4,), (2,)))

    def test_into_none(self):
        site = grove()
        site.move(3, None)
        self.assertEqual((site.address(3), site.inner(None)), (("c",), (1, 3, 5, 8)))

    def test_the_name_is_made_unlike_those_there(self):
        site = grove()
        site.move(2, 5)
        self.assertEqual(site.page(2), ("b", "b-2", 5))
        self.assertEqual(site.address(3), ("e", "b-2", "c"))

    def test_it_is_the_name_that_is_made_unlike_not_the_title(self):
        site = grove()
        site.rename(4, "b-2")
        site.rename(2, "x")
        site.move(4, 5)
        self.assertEqual(site.page(4), ("d", "b-2", 5))
        site.move(2, 5)
        self.assertEqual(site.page(2), ("b", "x", 5))
        site.rename(8, "b-2")
        site.move(8, 5)
        self.assertEqual(site.page(8), ("f", "b-2-2", 5))

    def test_where_it_is(self):
        site = grove()
        site.move(2, 1)
        site.move(1, None)
        self.assertEqual((site.page(2), site.page(1)), (("b", "b", 1), ("a", "a", None)))

    def test_a_name_does_not_turn_back(self):
        site = grove()
        site.move(2, 5)
        site.move(2, 1)
        self.assertEqual(site.address(2), ("a", "b-2"))

    def test_four_pages_within_one_another_and_five(self):
        site = grove()
        site.move(1, 8)
        self.assertEqual(site.address(3), ("f", "a", "b", "c"))
        for number, parent in ((5, 1), (5, 4), (6, 4), (6, 2), (7, 3)):
            self.refused(TooDeep, site, "move", number, parent)
        site.move(6, 1)
        self.assertEqual(site.address(7), ("f", "a", "b-2", "c"))
        site.move(7, 4)
        self.assertEqual(site.address(7), ("f", "a", "d", "c"))
        self.refused(TooDeep, site, "move", 5, 3)
        site.move(5, 2)
        self.assertEqual(site.address(5), ("f", "a", "b", "e"))

    def test_a_page_with_pages_of_several_depths(self):
        site = grove()
        site.add("g", 3)
        self.refused(TooDeep, site, "move", 1, 8)
        site.move(4, 3)
        self.assertEqual(site.address(4), ("a", "b", "c", "d"))

    def test_inside(self):
        site = grove()
        for number, parent in ((1, 1), (1, 2), (1, 3), (1, 4), (2, 3), (3, 3), (5, 7)):
            self.refused(Inside, site, "move", number, parent)

    def test_of_several_refusals_the_first(self):
        site = chain(4)
        self.refused(Inside, site, "move", 1, 4)
        self.refused(Inside, site, "move", 4, 4)
        for number, parent in ((5, 6), (5, 1), (1, 5), (5, 5), (0, None), (0, 4)):
            self.refused(NoPage, site, "move", number, parent)


class Drop(SiteCase):
    def test_with_all_in_it(self):
        site = grove()
        site.drop(1)
        self.assertEqual((site.pages(), site.inner(None)), ((5, 6, 7, 8), (5, 8)))

    def test_only_it_and_those_in_it(self):
        site = grove()
        site.drop(2)
        self.assertEqual((site.pages(), site.inner(1)), ((1, 4, 5, 6, 7, 8), (4,)))
        site.drop(7)
        self.assertEqual(site.pages(), (1, 4, 5, 6, 8))

    def test_refusals(self):
        site = grove()
        site.drop(2)
        for number in (2, 3, 0, 9, -1):
            self.refused(NoPage, site, "drop", number)


class PutInto(SiteCase):
    def test_it_goes_and_those_right_in_it_are_in_the_goal(self):
        site = grove()
        site.put_into(1, 8)
        self.assertEqual(site.pages(), (2, 3, 4, 5, 6, 7, 8))
        self.assertEqual((site.inner(8), site.inner(2), site.inner(None)), ((2, 4), (3,), (5, 8)))
        self.assertEqual((site.address(3), site.address(4)), (("f", "b", "c"), ("f", "d")))
        self.refused(NoPage, site, "page", 1)

    def test_each_is_made_unlike_those_that_are_there(self):
        site = grove()
        site.put_into(1, 5)
        self.assertEqual([site.page(number) for number in (2, 4, 6)], [("b", "b-2", 5), ("d", "d", 5), ("b", "b", 5)])
        self.assertEqual(site.address(3), ("e", "b-2", "c"))

    def test_lesser_numbers_first(self):
        site = Site()
        for title, parent in (("goal", None), ("from", None), ("x", 1), ("x", None), ("y", None)):
            site.add(title, parent)
        site.rename(5, "x-2")
        site.move(5, 2)
        site.move(4, 2)
        site.put_into(2, 1)
        # Page 4 comes ahead of page 5 and takes the name that page 5 has had.
        self.assertEqual([site.page(number)[1] for number in (3, 4, 5)], ["x", "x-2", "x-2-2"])

    def test_into_the_one_that_it_is_in(self):
        site = grove()
        site.put_into(2, 1)
        self.assertEqual((site.inner(1), site.address(3)), ((3, 4), ("a", "c")))

    def test_its_own_name_is_free(self):
        site = grove()
        site.rename(3, "b")
        site.put_into(2, 1)
        self.assertEqual(site.address(3), ("a", "b"))

    def test_into_one_beside_it(self):
        site = grove()
        site.put_into(2, 4)
        self.assertEqual(site.address(3), ("a", "d", "c"))

    def test_four_pages_within_one_another_and_five(self):
        site = chain(4)
        site.add("x", None)
        site.add("y", 5)
        site.add("z", 6)
        self.refused(TooDeep, site, "put_into", 5, 4)
        self.refused(TooDeep, site, "put_into", 5, 3)
        self.refused(TooDeep, site, "put_into", 6, 4)
        site.put_into(5, 2)
        self.assertEqual(site.address(7), ("a", "b", "y", "z"))
        site.put_into(7, 4)
        self.assertEqual(site.pages(), (1, 2, 3, 4, 6))

    def test_inside(self):
        site = grove()
        for number, goal in ((1, 1), (1, 2), (1, 3), (2, 3), (3, 3), (8, 8)):
            self.refused(Inside, site, "put_into", number, goal)

    def test_of_several_refusals_the_first(self):
        site = chain(4)
        self.refused(Inside, site, "put_into", 1, 4)
        for number, goal in ((5, 6), (5, 1), (1, 5), (5, 5), (0, 0), (1, 0)):
            self.refused(NoPage, site, "put_into", number, goal)


class Found(SiteCase):
    def test_here(self):
        site = grove()
        for number in site.pages():
            self.assertEqual(site.found(site.address(number)), ("here", number))
        self.assertEqual((site.rows(), site.gone()), ((), ()))

    def test_none_ever_had_it(self):
        site = grove()
        for address in (("x",), ("b",), ("a", "c"), ("a", "b", "c", "d"), ("a", "b", "c", "d", "e"), ()):
            self.no_page(site, address)
        self.no_page(Site(), ("a",))

    def test_moved_by_each_deed(self):
        for deed, handed in (("retitle", (1, "x")), ("rename", (1, "x")), ("move", (1, 8))):
            site = grove()
            getattr(site, deed)(*handed)
            for old, number in ((("a",), 1), (("a", "b"), 2), (("a", "b", "c"), 3), (("a", "d"), 4)):
                self.assertEqual(site.found(old), ("moved", number), deed)
                self.assertEqual(site.old_of(number), (old,), deed)
                self.assertEqual(site.found(site.address(number)), ("here", number), deed)

    def test_gone(self):
        site = grove()
        site.rename(2, "x")
        site.drop(1)
        gone = (("a",), ("a", "b"), ("a", "b", "c"), ("a", "d"), ("a", "x"), ("a", "x", "c"))
        self.assertEqual(site.gone(), gone)
        for address in gone:
            self.assertEqual(site.found(address), ("gone", None))
        self.assertEqual(site.rows(), ())

    def test_put_into(self):
        site = grove()
        site.rename(1, "x")
        site.put_into(1, 8)
        for address in (("a",), ("x",)):
            self.assertEqual(site.found(address), ("moved", 8))
        self.assertEqual(site.found(("a", "b")), ("moved", 2))
        self.assertEqual(site.old_of(8), (("a",), ("x",)))
        self.assertEqual(site.gone(), ())

    def test_put_into_one_behind_the_other(self):
        site = Site()
        for title in "abcde":
            site.add(title, None)
        site.put_into(1, 2)
        site.put_into(2, 3)
        site.put_into(4, 3)
        site.put_into(3, 5)
        self.assertEqual(site.old_of(5), (("a",), ("b",), ("c",), ("d",)))
        self.assertEqual(site.rows(), tuple(((name,), ("e",)) for name in "abcd"))
        site.drop(5)
        self.assertEqual(site.gone(), (("a",), ("b",), ("c",), ("d",), ("e",)))
        self.assertEqual(site.found(("a",)), ("gone", None))

    def test_the_page_that_it_was_put_into_moves(self):
        site = grove()
        site.put_into(5, 8)
        site.rename(8, "g")
        self.assertEqual(site.found(("e",)), ("moved", 8))
        self.assertIn((("e",), ("g",)), site.rows())

    def test_what_another_page_has_by_being_put_is_here(self):
        site = grove()
        site.rename(3, "b")
        site.put_into(2, 1)
        self.assertEqual(site.found(("a", "b")), ("here", 3))
        self.assertEqual(site.old_of(1), ())
        self.assertEqual(site.old_of(3), (("a", "b", "b"), ("a", "b", "c")))

    def test_an_address_that_another_page_had_since(self):
        site = Site()
        site.add("a", None)
        site.rename(1, "b")
        site.add("a", None)
        self.assertEqual(site.found(("a",)), ("here", 2))
        self.assertEqual(site.old_of(1), ())
        site.rename(2, "c")
        self.assertEqual(site.found(("a",)), ("moved", 2))
        self.assertEqual((site.old_of(1), site.old_of(2)), ((), (("a",),)))
        site.drop(2)
        self.assertEqual(site.found(("a",)), ("gone", None))
        self.assertEqual(site.old_of(1), ())
        site.rename(1, "a")
        self.assertEqual(site.found(("a",)), ("here", 1))
        site.rename(1, "d")
        self.assertEqual(site.found(("a",)), ("moved", 1))

    def test_another_page_had_it_ahead_of_being_put(self):
        site = Site()
        site.add("a", None)
        site.rename(1, "b")
        site.add("a", None)
        site.rename(2, "c")
        site.add("goal", None)
        site.put_into(1, 3)
        self.assertEqual(site.found(("a",)), ("moved", 2))
        self.assertEqual(site.found(("b",)), ("moved", 3))

    def test_a_page_gets_its_old_address_again(self):
        site = chain(2)
        site.rename(1, "x")
        site.rename(1, "a")
        self.assertEqual(site.found(("a", "b")), ("here", 2))
        self.assertEqual((site.old_of(1), site.old_of(2)), ((("x",),), (("x", "b"),)))

    def test_two_pages_change_places(self):
        site = Site()
        site.add("a", None)
        site.add("b", None)
        site.rename(1, "c")
        site.rename(2, "a")
        site.rename(1, "b")
        self.assertEqual([site.found((name,)) for name in "abc"], [("here", 2), ("here", 1), ("moved", 1)])

    def test_old_of_rising(self):
        site = chain(1)
        site.add("z", None)
        for name in ("m", "c", "a-b", "x1", "x-1", "b"):
            site.rename(1, name)
        site.move(1, 2)
        site.rename(1, "q")
        self.assertEqual(site.old_of(1), (("a",), ("a-b",), ("b",), ("c",), ("m",), ("x-1",), ("x1",), ("z", "b")))

    def test_rows_rising_as_tuples(self):
        site = chain(3)
        site.rename(1, "x")
        site.add("a b", None)
        site.rename(4, "y")
        site.rename(3, "z")
        self.assertEqual(site.rows(), (
            (("a",), ("x",)),
            (("a", "b"), ("x", "b")),
            (("a", "b", "c"), ("x", "b", "z")),
            (("a-b",), ("y",)),
            (("x", "b", "c"), ("x", "b", "z")),
        ))

    def test_gone_rising(self):
        site = Site()
        for title in ("m", "c", "z", "a"):
            site.drop(site.add(title, None))
        self.assertEqual(site.gone(), (("a",), ("c",), ("m",), ("z",)))

    def test_rows_tell_addresses_not_those_that_are_here_or_gone(self):
        site = grove()
        site.drop(5)
        site.rename(8, "e")
        self.assertEqual(site.found(("e",)), ("here", 8))
        self.assertEqual(site.rows(), ((("f",), ("e",)),))
        self.assertEqual(site.gone(), (("e", "b"), ("e", "b", "c")))

    def test_asked_again_the_same_is_told(self):
        site = grove()
        site.put_into(1, 8)
        site.drop(5)
        self.assertEqual(all_told(site), all_told(site))


class Forget(SiteCase):
    def test_none_had_it(self):
        site = grove()
        site.rename(1, "x")
        site.forget(("a", "b"))
        self.no_page(site, ("a", "b"))
        self.assertEqual(site.old_of(2), ())
        self.assertEqual(site.found(("a",)), ("moved", 1))
        self.assertNotIn(("a", "b"), [address for address, goal in site.rows()])
        self.refused(NoPage, site, "forget", ("a", "b"))

    def test_one_that_is_gone(self):
        site = grove()
        site.drop(8)
        site.forget(("f",))
        self.no_page(site, ("f",))
        self.assertEqual(site.gone(), ())

    def test_those_that_had_it_earlier_are_forgotten_too(self):
        site = Site()
        site.add("a", None)
        site.rename(1, "b")
        site.add("a", None)
        site.drop(2)
        site.forget(("a",))
        self.no_page(site, ("a",))
        self.assertEqual((site.old_of(1), site.gone()), ((), ()))

    def test_a_page_may_have_it_again(self):
        site = chain(1)
        site.rename(1, "b")
        site.forget(("a",))
        site.rename(1, "a")
        self.assertEqual(site.found(("a",)), ("here", 1))
        site.rename(1, "c")
        self.assertEqual(site.old_of(1), (("a",), ("b",)))

    def test_refusals(self):
        site = grove()
        site.rename(1, "x")
        for address in (("y",), ("b",), ("a", "x"), ("a", "b", "c", "d", "e"), ()):
            self.refused(NoPage, site, "forget", address)
        for number in site.pages():
            self.refused(Taken, site, "forget", site.address(number))


class BackAndAgain(SiteCase):
    DEEDS = (
        ("add", ("a", None)), ("add", ("b", 1)), ("add", ("c", 2)), ("add", ("b", None)), ("add", ("d", 4)),
        ("retitle", (1, "New & old")), ("rename", (2, "x")), ("move", (2, 4)), ("move", (2, None)), ("rename", (2, "x")),
        ("put_into", (4, 1)), ("forget", (("b",),)), ("drop", (2,)), ("add", ("b", None)), ("forget", (("x",),)),
    )

    def test_nothing_to_take_back(self):
        site = Site()
        self.refused(NothingBack, site, "back")
        self.refused(NothingBack, site, "again")
        site.add("a", None)
        self.refused(NothingBack, site, "again")
        site.back()
        self.refused(NothingBack, site, "back")
        site.again()
        self.refused(NothingBack, site, "again")

    def test_each_kind_of_deed_goes_back_and_forth(self):
        site = Site()
        seen = [all_told(site)]
        for deed, handed in self.DEEDS:
            getattr(site, deed)(*handed)
            seen.append(all_told(site))
        for told in reversed(seen[:-1]):
            site.back()
            self.assertEqual(all_told(site), told)
        self.refused(NothingBack, site, "back")
        for told in seen[1:]:
            site.again()
            self.assertEqual(all_told(site), told)
        self.refused(NothingBack, site, "again")

    def test_each_kind_of_deed_by_itself(self):
        site = Site()
        for deed, handed in self.DEEDS:
            before = all_told(site)
            getattr(site, deed)(*handed)
            after = all_told(site)
            site.back()
            self.assertEqual(all_told(site), before, (deed, handed))
            site.again()
            self.assertEqual(all_told(site), after, (deed, handed))

    def test_addresses_of_a_deed_taken_back_were_never_had(self):
        site = chain(2)
        site.rename(1, "x")
        site.back()
        self.no_page(site, ("x",))
        self.no_page(site, ("x", "b"))
        site.again()
        self.assertEqual(site.found(("x", "b")), ("here", 2))
        self.assertEqual(site.found(("a", "b")), ("moved", 2))

    def test_old_addresses_of_a_page_whose_putting_is_taken_back(self):
        site = grove()
        site.rename(8, "g")
        site.put_into(8, 1)
        self.assertEqual(site.found(("f",)), ("moved", 1))
        site.back()
        self.assertEqual((site.found(("f",)), site.found(("g",))), (("moved", 8), ("here", 8)))
        site.rename(8, "h")
        self.assertEqual((site.old_of(8), site.old_of(1)), ((("f",), ("g",)), ()))

    def test_the_next_number_goes_back_too(self):
        site = chain(2)
        site.back()
        self.assertEqual(site.add("z", None), 2)
        site.back()
        site.back()
        self.assertEqual(site.add("y", None), 1)
        self.assertEqual(site.page(1), ("y", "y", None))

    def test_the_next_number_goes_forth_too(self):
        site = chain(3)
        site.back()
        site.back()
        site.again()
        self.assertEqual(site.add("z", None), 3)

    def test_a_dropped_page_keeps_its_number_when_it_comes_back(self):
        site = chain(2)
        site.drop(2)
        site.back()
        self.assertEqual(site.page(2), ("b", "b", 1))
        self.assertEqual(site.add("z", None), 3)

    def test_refused_deeds_are_none(self):
        site = chain(2)
        site.rename(1, "x")
        for deed, handed, error in (
            ("add", ("", None), BadName), ("add", ("a", 9), NoPage), ("retitle", (9, "a"), NoPage), ("retitle", (1, ""), BadName),
            ("rename", (1, "-"), BadName), ("move", (1, 2), Inside), ("move", (9, 2), NoPage), ("drop", (9,), NoPage),
            ("put_into", (1, 2), Inside), ("forget", (("q",),), NoPage), ("forget", (("x",),), Taken), ("again", (), NothingBack),
        ):
            self.refused(error, site, deed, *handed)
        site.back()
        self.assertEqual(site.address(1), ("a",))

    def test_a_refused_deed_does_not_hinder_again(self):
        site = chain(2)
        site.back()
        self.refused(BadName, site, "add", "", None)
        self.refused(NoPage, site, "drop", 9)
        self.refused(NoPage, site, "forget", ("q",))
        site.again()
        self.assertEqual(site.pages(), (1, 2))

    def test_again_behind_another_deed(self):
        for deed, handed in (("add", ("z", None)), ("retitle", (1, "z")), ("rename", (1, "z")), ("rename", (1, "k")),
                             ("move", (1, None)), ("drop", (1,)), ("put_into", (2, 1)), ("forget", (("a",),))):
            site = chain(2)
            site.rename(1, "k")
            site.rename(2, "l")
            site.rename(2, "m")
            site.back()
            site.back()
            getattr(site, deed)(*handed)
            self.refused(NothingBack, site, "again")
            site.back()
            self.assertEqual((site.address(2), site.found(("a",))), (("k", "b"), ("moved", 1)), deed)
            site.again()
            self.refused(NothingBack, site, "again")

    def test_a_deed_that_changes_nothing_is_one(self):
        for deed, handed in (("rename", (1, "a")), ("retitle", (1, "a")), ("move", (1, None))):
            site = chain(1)
            site.rename(1, "b")
            site.rename(1, "a")
            getattr(site, deed)(*handed)
            site.back()
            self.assertEqual(site.address(1), ("a",), deed)
            site.back()
            self.assertEqual(site.address(1), ("b",), deed)

    def test_to_and_fro(self):
        site = chain(4)
        for deed in ("back", "back", "again", "back", "back", "again", "again", "again"):
            getattr(site, deed)()
        self.assertEqual(site.pages(), (1, 2, 3, 4))
        self.refused(NothingBack, site, "again")
        for step in range(4):
            site.back()
        self.refused(NothingBack, site, "back")
        self.assertEqual(site.pages(), ())

    def test_a_deed_behind_back_goes_back_by_itself(self):
        site = chain(3)
        site.back()
        site.back()
        site.add("x", 1)
        site.add("y", 2)
        self.assertEqual(site.address(3), ("a", "x", "y"))
        site.back()
        site.back()
        self.assertEqual(site.pages(), (1,))
        site.again()
        site.again()
        self.assertEqual(site.address(3), ("a", "x", "y"))

    def test_asking_is_no_deed(self):
        site = chain(2)
        site.back()
        all_told(site)
        site.again()
        all_told(site)
        site.back()
        self.assertEqual(site.pages(), (1,))


class Apart(SiteCase):
    def test_two_sites(self):
        one = Site()
        other = Site()
        self.assertEqual((one.add("a", None), one.add("b", 1), other.add("c", None)), (1, 2, 1))
        other.rename(1, "d")
        self.assertEqual((one.pages(), other.pages()), ((1, 2), (1,)))
        self.no_page(one, ("c",))
        self.no_page(other, ("a",))
        one.back()
        self.assertEqual((one.pages(), other.address(1), other.old_of(1)), ((1,), ("d",), (("c",),)))
        self.refused(NothingBack, other, "again")
        other.back()
        other.back()
        self.refused(NothingBack, other, "back")
        one.again()
        self.assertEqual(one.pages(), (1, 2))

    def test_all_addresses_told_are_addresses(self):
        site = grove()
        site.put_into(1, 8)
        site.drop(5)
        for address in [site.address(number) for number in site.pages()] + list(site.gone()) + [row[0] for row in site.rows()]:
            self.assertTrue(is_address(address), address)


if __name__ == "__main__":
    unittest.main()
