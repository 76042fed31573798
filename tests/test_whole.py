"""What is promised over the whole program: its interface, its refusals, and that asking changes nothing."""

import copy
import importlib
import inspect
import unittest

from pagenames import errors
from pagenames.addresses import address_text, is_address, read_address
from pagenames.beginnings import led, needless, once
from pagenames.hands import pages_of, put, since, together
from pagenames.moving import end_of, flat, is_flat, led_to, leads_round, rings, turned, with_row
from pagenames.names import is_name, is_title, made, unlike
from pagenames.sites import Site
from pagenames.texts import all_addresses, are_rows, map_text, read_rows, rows_text

REFUSALS = ("NoPage", "BadName", "Taken", "Inside", "TooDeep", "NothingBack", "Ring", "TooMany", "NoText")

FUNCTIONS = {
    "names": {"is_name": 1, "is_title": 1, "made": 1, "unlike": 2},
    "addresses": {"is_address": 1, "address_text": 1, "read_address": 1},
    "moving": {"end_of": 2, "rings": 1, "flat": 1, "led_to": 2, "with_row": 3, "turned": 1, "leads_round": 2, "is_flat": 1},
    "beginnings": {"once": 2, "led": 2, "needless": 1},
    "hands": {"put": 2, "together": 2, "since": 2, "pages_of": 2},
    "texts": {"rows_text": 1, "read_rows": 1, "map_text": 1, "all_addresses": 1, "are_rows": 1},
}
METHODS = {
    "add": 2, "retitle": 2, "rename": 2, "move": 2, "drop": 1, "put_into": 2, "forget": 1, "back": 0, "again": 0,
    "pages": 0, "page": 1, "inner": 1, "address": 1, "found": 1, "old_of": 1, "rows": 0, "gone": 0,
}

A, B, C, AB = ("a",), ("b",), ("c",), ("a", "b")
ROWS = ((B, A), (A, C), (AB, AB))
FLAT = ((A, C), (B, C))
RULES = ((A, B), (AB, B + B), (C, C))
HANDED = ((A, 1, "ann", 1), (B, 0, "bob", 0))


def some_site():
    # 1 a, in it 2 b, in it 3 c, in it 4 d; 5 a-2, which was e; f was there and is gone.
    site = Site()
    for title, parent in (("a", None), ("b", 1), ("c", 2), ("d", 3), ("e", None), ("f", None)):
        site.add(title, parent)
    site.drop(6)
    site.retitle(5, "A")
    site.retitle(5, "a?")
    site.back()
    return site


def all_of(site):
    told = [site.pages(), site.rows(), site.gone(), site.inner(None), map_text(site), all_addresses(site)]
    for number in site.pages():
        told.append((site.page(number), site.inner(number), site.address(number), site.old_of(number)))
    for address in site.gone() + all_addresses(site) + tuple(row[0] for row in site.rows()):
        told.append(site.found(address))
    return told


ASKED = (
    (is_name, "a-b"), (is_title, "a b"), (made, "A & b"), (unlike, "a", ("a", "a-2")), (is_address, AB), (address_text, AB),
    (read_address, "a/b"), (end_of, ROWS, B), (rings, ROWS), (leads_round, ROWS, AB), (flat, ROWS), (is_flat, ROWS),
    (led_to, ROWS, C), (turned, ROWS), (with_row, FLAT, C, AB), (once, RULES, AB + C), (led, RULES, AB + C),
    (needless, RULES), (put, HANDED, (A, 2, "ann", 0)), (together, HANDED, ((A, 1, "bob", 3),)), (since, HANDED, 0),
    (pages_of, HANDED, 0), (rows_text, ROWS), (are_rows, ROWS), (read_rows, "a b\nb a\n"),
)
REFUSED = (
    (errors.NoText, read_address, "A"), (errors.NoText, read_rows, "a"), (errors.Ring, end_of, ROWS, AB),
    (errors.Ring, with_row, FLAT, C, B), (errors.TooMany, led, RULES, C),
)
# Where two are due the one told first stands here; page 9 was never there, page 6 is gone.
REFUSED_OF_SITES = (
    (errors.NoPage, "add", "a", 9), (errors.NoPage, "add", " ", 9), (errors.NoPage, "add", "a", True),
    (errors.BadName, "add", " ", 4), (errors.BadName, "add", "", None), (errors.TooDeep, "add", "a", 4),
    (errors.NoPage, "page", 6), (errors.NoPage, "inner", 9), (errors.NoPage, "address", 0), (errors.NoPage, "page", True),
    (errors.NoPage, "retitle", 6, " "), (errors.BadName, "retitle", 1, " "),
    (errors.NoPage, "rename", 6, "A"), (errors.NoPage, "rename", 6, "a"), (errors.BadName, "rename", 5, "A"),
    (errors.Taken, "rename", 5, "a"),
    (errors.NoPage, "move", 6, 6), (errors.NoPage, "move", 1, 9), (errors.NoPage, "move", 9, None),
    (errors.Inside, "move", 1, 1), (errors.Inside, "move", 1, 4), (errors.TooDeep, "move", 1, 5),
    (errors.NoPage, "drop", 6), (errors.NoPage, "drop", None),
    (errors.NoPage, "put_into", 6, 6), (errors.NoPage, "put_into", 1, 6), (errors.NoPage, "put_into", 1, None),
    (errors.Inside, "put_into", 1, 1), (errors.Inside, "put_into", 2, 4),
    (errors.NoPage, "found", ("x",)), (errors.NoPage, "old_of", 6), (errors.NoPage, "forget", ("x",)),
    (errors.Taken, "forget", ("a",)),
)


def kinds_in(told):
    """The kinds of what is told and of all within it."""
    inner = [kind for part in told for kind in kinds_in(part)] if isinstance(told, (tuple, list)) else []
    return [type(told)] + inner


class Interface(unittest.TestCase):
    def test_functions_and_their_arguments(self):
        for file, functions in FUNCTIONS.items():
            module = importlib.import_module(f"pagenames.{file}")
            for name, count in functions.items():
                self.assertEqual(len(inspect.signature(getattr(module, name)).parameters), count, name)

    def test_methods_and_their_arguments(self):
        self.assertEqual(len(inspect.signature(Site).parameters), 0)
        for name, count in METHODS.items():
            self.assertEqual(len(inspect.signature(getattr(Site(), name)).parameters), count, name)


class Asking(unittest.TestCase):
    def test_the_same_again_is_told_the_same_and_nothing_handed_in_is_changed(self):
        for ask, *handed in ASKED:
            before = copy.deepcopy(handed)
            told = ask(*handed)
            self.assertEqual(handed, before, ask)
            self.assertEqual(ask(*handed), told, ask)
            self.assertEqual(ask(*before), told, ask)

    def test_things_of_any_kind_are_not_changed(self):
        for thing in ([], ["a"], [["a", ("b",)], [[[None]]]], (["a"], [True]), ((["a"], ("b",)),), [[[[[1]]]]], (((((0,),),),),)):
            before = copy.deepcopy(thing)
            for ask in (is_name, is_title, is_address, are_rows):
                self.assertIs(ask(thing), False, (ask, thing))
                self.assertEqual(thing, before, ask)

    def test_only_tuples_texts_numbers_truths_and_none_are_told(self):
        for ask, *handed in ASKED:
            self.assertLessEqual(set(kinds_in(ask(*handed))), {tuple, str, int, bool, type(None)}, ask)
        for told in all_of(some_site()):
            self.assertLessEqual(set(kinds_in(told)), {tuple, str, int, type(None)})

    def test_truths_are_truths(self):
        for ask, *handed in ASKED:
            if ask in (is_name, is_title, is_address, leads_round, is_flat, are_rows):
                self.assertIs(type(ask(*handed)), bool, ask)

    def test_a_site_asked_again_tells_the_same(self):
        site = some_site()
        told = all_of(site)
        self.assertEqual(all_of(site), told)
        # Asking is no deed: what was taken back can be done again, and all of it taken back.
        site.again()
        for deed in range(9):
            site.back()
        self.assertEqual(all_of(site), all_of(Site()))
        with self.assertRaises(errors.NothingBack):
            site.back()

    def test_deeds_tell_none(self):
        site = some_site()
        site.add("g", None)
        for deed, *handed in (("retitle", 1, "z"), ("rename", 1, "y"), ("move", 5, 1), ("put_into", 5, 2), ("drop", 4),
                              ("forget", ("z",)), ("back",), ("again",)):
            self.assertIsNone(getattr(site, deed)(*handed), deed)

    def test_two_sites_know_nothing_of_one_another(self):
        one, other = some_site(), some_site()
        told = all_of(other)
        one.drop(1)
        one.add("z", None)
        self.assertEqual(all_of(other), told)
        self.assertEqual(Site().pages(), ())


class Refusals(unittest.TestCase):
    def assert_refused(self, error, ask, *handed):
        with self.assertRaises(ValueError, msg=(ask, handed)) as caught:
            ask(*handed)
        self.assertIs(type(caught.exception), error, (ask, handed))
        self.assertIsInstance(caught.exception, errors.PageError)
        others = [name for name in REFUSALS if isinstance(caught.exception, getattr(errors, name))]
        self.assertEqual(others, [error.__name__])

    def test_of_functions(self):
        for error, ask, *handed in REFUSED:
            before = copy.deepcopy(handed)
            self.assert_refused(error, ask, *handed)
            self.assert_refused(error, ask, *handed)
            self.assertEqual(handed, before)

    def test_of_sites_and_nothing_is_changed_by_them(self):
        site = some_site()
        told = all_of(site)
        for error, deed, *handed in REFUSED_OF_SITES:
            self.assert_refused(error, getattr(site, deed), *handed)
            self.assertEqual(all_of(site), told, (deed, handed))
        site.again()
        self.assert_refused(errors.NothingBack, site.again)
        site.back()
        self.assertEqual(all_of(site), told)
        self.assertEqual(site.add("g", None), 7)

    def test_too_deep_by_being_put_into(self):
        site = some_site()
        site.move(5, 3)
        told = all_of(site)
        self.assert_refused(errors.Inside, site.put_into, 1, 5)
        site.add("h", None)
        site.add("i", 7)
        before = all_of(site)
        self.assert_refused(errors.TooDeep, site.put_into, 7, 4)
        self.assertEqual(all_of(site), before)
        site.back()
        site.back()
        self.assertEqual(all_of(site), told)

    def test_every_refusal_is_asked_for_here(self):
        told = {row[0].__name__ for row in REFUSED + REFUSED_OF_SITES} | {"NothingBack"}
        self.assertEqual(told, set(REFUSALS))


if __name__ == "__main__":
    unittest.main()
