import itertools
import random
import re
import unittest

from pagenames.errors import NoText, PageError
from pagenames.moving import is_flat
from pagenames.sites import Site
from pagenames.texts import all_addresses, are_rows, map_text, read_rows, rows_text

A, B, AB, DEEP = ("a",), ("b",), ("a", "b"), ("a-b", "c", "1", "x" * 12)
ROWS = (
    ((), ""),
    (((A, B),), "a b\n"),
    (((A, A),), "a a\n"),
    (((B, AB), (A, DEEP)), f"b a/b\na a-b/c/1/{'x' * 12}\n"),
    (((DEEP, A), (A, DEEP), (AB, A)), f"a-b/c/1/{'x' * 12} a\na a-b/c/1/{'x' * 12}\na/b a\n"),
)
ADDRESS = "[a-z0-9-]+(?:/[a-z0-9-]+){0,3}"


def is_rows_text(text):
    """Whether it is rows' by the look of its lines."""
    if not re.fullmatch(f"({ADDRESS} {ADDRESS}\n)*", text):
        return False
    names = re.findall("[^/ \n]+", text)
    if any(len(name) > 12 or not re.fullmatch("[a-z0-9]+(-[a-z0-9]+)*", name) for name in names):
        return False
    firsts = [line.split()[0] for line in text.splitlines()]
    return len(set(firsts)) == len(firsts)


class RowsText(unittest.TestCase):
    def test_a_line_for_each_in_their_order(self):
        for rows, text in ROWS:
            self.assertEqual(rows_text(rows), text)

    def test_any_order_stays(self):
        for order in itertools.permutations(((A, B), (B, AB), (AB, A), (DEEP, DEEP))):
            lines = [f"{'/'.join(one)} {'/'.join(other)}\n" for one, other in order]
            self.assertEqual(rows_text(order), "".join(lines))


class ReadRows(unittest.TestCase):
    def assert_no_text(self, text):
        with self.assertRaises(PageError, msg=repr(text)) as caught:
            read_rows(text)
        self.assertIs(type(caught.exception), NoText, repr(text))

    def test_text_and_rows_tell_one_another(self):
        for rows, text in ROWS:
            self.assertEqual(read_rows(text), rows)
            self.assertEqual(rows_text(read_rows(text)), text)
            self.assertEqual(read_rows(rows_text(rows)), rows)

    def test_rows_in_any_order(self):
        for order in itertools.permutations(((A, B), (B, AB), (AB, A), (DEEP, DEEP))):
            self.assertEqual(read_rows(rows_text(order)), order)

    def test_what_is_read_is_tuples(self):
        self.assertIs(type(read_rows("")), tuple)
        rows = read_rows("a a/b\n")
        self.assertIs(are_rows(rows), True)

    def test_line_feeds(self):
        for text in ("\n", "\n\n", "a b", "a b\nb a", "a b\n\n", "\na b\n", "a b\n\nb a\n", "a\nb\n", "a\n b\n",
                     "a \nb\n", "a b\nb a\n\n"):
            self.assert_no_text(text)

    def test_blanks(self):
        for text in (" ", " \n", "  \n", "a  b\n", " a b\n", "a b \n", "a b\n ", "a b\n \n", "a b\n b a\n", "a /b c\n", "a b/ c\n"):
            self.assert_no_text(text)

    def test_one_word_and_three(self):
        for text in ("a\n", "a", "a \n", " a\n", "a b c\n", "a b c d\n", "a b\nb\n", "a b\nb c d\n"):
            self.assert_no_text(text)

    def test_words_that_are_no_addresses(self):
        for word in ("A", "aB", "a/B", "a/b/c/d/e", "x" * 13, "a/" + "x" * 13, "/", "a/", "/a", "a//b", "-", "a-", "-a",
                     "a--b", "a/-b", "a_b", "a.b", "a'", "a&b", "a,", "~", "(a)"):
            self.assert_no_text(f"{word} a\n")
            self.assert_no_text(f"a {word}\n")
            self.assert_no_text(f"a b\nb {word}\n")
            self.assert_no_text(f"{word} b\nb a\n")

    def test_a_first_one_twice(self):
        for text in ("a b\na c\n", "a b\na b\n", "a a\na a\n", "a b\nb c\na d\n", "a/b c\nc a\na/b d\n"):
            self.assert_no_text(text)

    def test_a_second_one_twice(self):
        self.assertEqual(read_rows("a c\nb c\n"), ((A, ("c",)), (B, ("c",))))

    def test_every_short_text_is_read_back_or_refused(self):
        texts = ["".join(signs) for length in range(0, 7) for signs in itertools.product("a/-B \n", repeat=length)]
        texts += ["".join(signs) for length in (7, 8, 9, 10) for signs in itertools.product("ab \n", repeat=length)
                  if signs[-1] == "\n" and signs[1] == " "][::7]
        for text in texts:
            if is_rows_text(text):
                rows = read_rows(text)
                self.assertTrue(are_rows(rows), repr(text))
                self.assertEqual(rows_text(rows), text)
            else:
                self.assert_no_text(text)
        self.assertGreater(len([text for text in texts if is_rows_text(text)]), 50)

    def test_rows_texts_with_one_sign_other(self):
        draw = random.Random(7)
        text = "a/b-c b\nb a/b/c/d\nabcdefghijkl a\n"
        for place in range(len(text) + 1):
            for sign in "aA-/ \n0~":
                for other in (text[:place] + sign + text[place:], text[:place] + sign + text[place + 1:],
                              text[:place] + text[place + draw.randrange(1, 4):]):
                    if is_rows_text(other):
                        self.assertEqual(rows_text(read_rows(other)), other)
                    else:
                        self.assert_no_text(other)


class AreRows(unittest.TestCase):
    def test_rows(self):
        for rows, text in ROWS:
            self.assertIs(are_rows(rows), True, rows)

    def test_in_any_order_also_those_with_rings(self):
        for rows in (((A, B), (B, A)), ((B, A), (A, B)), ((A, A), (B, A)), ((A, B), (AB, B))):
            self.assertIs(are_rows(rows), True, rows)

    def test_a_first_one_twice(self):
        for rows in (((A, B), (A, AB)), ((A, B), (A, B)), ((A, A), (A, A)), ((A, B), (B, A), (A, DEEP))):
            self.assertIs(are_rows(rows), False, rows)

    def test_plain_things(self):
        for thing in (0, 1, -1, True, False, None, "", "a", "a b\n", "ab", [], [[]]):
            self.assertIs(are_rows(thing), False, thing)

    def test_lists_anywhere(self):
        for thing in ([(A, B)], ([A, B],), ((["a"], B),), ((A, ["b"]),), (([], A),), ((A, []),), ([],), [[["a"], ["b"]]],
                      ((A, B), [B, A]), ((A, B), (B, ["a"])), ((A, B), (["b"], A))):
            self.assertIs(are_rows(thing), False, thing)

    def test_things_that_are_no_pairs(self):
        for thing in ((A,), (A, B), ((),), ((A,),), ((A, B, A),), ("ab",), ("a",), (("a", "b"),), (0,), (True,), (None,),
                      ((A, B), ()), ((A, B), A), ((A, B), "ab"), ((A, B), None), ((A, B), (A, B, A))):
            self.assertIs(are_rows(thing), False, thing)

    def test_pairs_that_are_not_of_addresses(self):
        for part in ((), "a", "", 0, 1, True, None, ("A",), ("",), ("a", "b", "c", "d", "e"), ("x" * 13,), ("a", 1), (("a",),),
                     ("a", None), ("a", ("b",)), ("a", ["b"]), (["a"],), ("a-",), ((((("a",),),),),), [[[["a"]]]]):
            for thing in (((part, A),), ((A, part),), ((A, B), (part, A)), ((part, A), (A, B)), ((A, B), (B, part))):
                self.assertIs(are_rows(thing), False, thing)

    def test_what_is_asked_of_is_not_changed(self):
        thing = [((["a"], "b"), [1, [2, [None]]])]
        self.assertIs(are_rows(thing), False)
        self.assertEqual(thing, [((["a"], "b"), [1, [2, [None]]])])

    def test_some_things_five_deep(self):
        draw = random.Random(11)

        def some_thing(depth):
            if depth == 0 or draw.random() < 0.2:
                return draw.choice((0, 1, -3, True, False, None, "", "a", "b", "a-b", "A", "a b", "x" * 13))
            parts = [some_thing(depth - 1) for part in range(draw.randrange(0, 4))]
            return tuple(parts) if draw.random() < 0.7 else parts

        def some_address():
            return tuple(draw.choice(("a", "b", "a-b")) for name in range(draw.randrange(1, 5)))

        truths = {True: 0, False: 0}
        for turn in range(4000):
            thing = some_thing(draw.randrange(0, 6))
            if turn % 2:
                rows = [[some_address(), some_address()] for row in range(draw.randrange(0, 4))]
                if turn % 4 == 1 and rows:
                    rows[draw.randrange(len(rows))][draw.randrange(2)] = thing
                thing = tuple(tuple(row) for row in rows)
            told = are_rows(thing)
            self.assertIs(type(told), bool)
            # The text of a thing that is rows tells it; what no text tells is none.
            text = self.text_by_force(thing)
            self.assertIs(told, text is not None and is_rows_text(text) and read_rows(text) == thing, thing)
            truths[told] += 1
        self.assertGreater(min(truths.values()), 300)

    def text_by_force(self, thing):
        try:
            return "".join([f"{'/'.join(one)} {'/'.join(other)}\n" for one, other in thing])
        except (TypeError, ValueError):
            return None


class OfSites(unittest.TestCase):
    def site(self):
        site = Site()
        for title, parent in (("About us", None), ("News", None), ("Team", 1), ("Old", 2), ("We & you", 3), ("Top", 5), ("x", 2)):
            site.add(title, parent)
        return site

    def test_no_pages(self):
        self.assertEqual(map_text(Site()), "")
        self.assertEqual(all_addresses(Site()), ())

    def test_one_page(self):
        site = Site()
        site.add("What's new?", None)
        self.assertEqual(map_text(site), "whats-new 1 What's new?\n")
        self.assertEqual(all_addresses(site), (("whats-new",),))

    def test_pages_four_deep(self):
        self.assertEqual(map_text(self.site()), "\n".join((
            "about-us 1 About us",
            "  team 3 Team",
            "    we-and-you 5 We & you",
            "      top 6 Top",
            "news 2 News",
            "  old 4 Old",
            "  x 7 x",
            "",
        )))

    def test_pages_moved(self):
        site = self.site()
        site.drop(5)
        site.move(1, 7)
        site.rename(7, "a-x")
        self.assertEqual(map_text(site), "news 2 News\n  old 4 Old\n  a-x 7 x\n    about-us 1 About us\n      team 3 Team\n")
        site.move(4, 1)
        self.assertEqual(map_text(site), "\n".join((
            "news 2 News",
            "  a-x 7 x",
            "    about-us 1 About us",
            "      team 3 Team",
            "      old 4 Old",
            "",
        )))
        site.put_into(1, 2)
        site.retitle(2, "Z")
        self.assertEqual(map_text(site), "z 2 Z\n  team 3 Team\n  old 4 Old\n  a-x 7 x\n")

    def test_numbers_are_compared_as_numbers(self):
        site = Site()
        for count in range(11):
            site.add("a", None)
        told = [line.split()[1] for line in map_text(site).splitlines()]
        self.assertEqual(told, [str(number) for number in range(1, 12)])

    def test_titles_of_more_words_and_signs(self):
        site = Site()
        site.add("a  b / \"c\" \\ {d} #", None)
        self.assertEqual(map_text(site), "a-b-c-d 1 a  b / \"c\" \\ {d} #\n")

    def test_all_addresses_rising(self):
        site = self.site()
        self.assertEqual(all_addresses(site), (
            ("about-us",),
            ("about-us", "team"),
            ("about-us", "team", "we-and-you"),
            ("about-us", "team", "we-and-you", "top"),
            ("news",),
            ("news", "old"),
            ("news", "x"),
        ))
        site.rename(1, "z")
        site.drop(3)
        self.assertEqual(all_addresses(site), (("news",), ("news", "old"), ("news", "x"), ("z",)))

    def test_addresses_are_compared_as_tuples(self):
        # As texts "a-b" would stand ahead of "a/b".
        site = Site()
        for title, parent in (("a-b", None), ("a", None), ("b", 2)):
            site.add(title, parent)
        self.assertEqual(all_addresses(site), (("a",), ("a", "b"), ("a-b",)))

    def test_the_site_is_not_changed(self):
        site = self.site()
        site.move(4, 1)
        site.back()
        before = (site.pages(), [site.page(number) for number in site.pages()], site.rows(), site.gone())
        self.assertEqual((map_text(site), all_addresses(site)), (map_text(site), all_addresses(site)))
        self.assertEqual((site.pages(), [site.page(number) for number in site.pages()], site.rows(), site.gone()), before)
        site.again()
        self.assertEqual(site.address(4), ("about-us", "old"))

    def test_rows_of_a_site_are_written_and_read(self):
        site = self.site()
        site.drop(6)
        site.move(1, 2)
        site.rename(2, "neu")
        rows = site.rows()
        self.assertTrue(are_rows(rows) and is_flat(rows))
        # Three addresses of page 1 and those in it, the same in page 2, and three of page 2 and those in it.
        self.assertEqual(len(rows), 9)
        self.assertEqual(read_rows(rows_text(rows)), rows)
        self.assertIn("about-us/team neu/about-us/team\n", rows_text(rows))


if __name__ == "__main__":
    unittest.main()
