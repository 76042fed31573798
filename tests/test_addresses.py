import itertools
import unittest

from pagenames.addresses import address_text, is_address, read_address
from pagenames.errors import NoText, PageError


class IsAddress(unittest.TestCase):
    def test_bounds_of_length(self):
        for length in range(0, 8):
            self.assertIs(is_address(("a",) * length), 1 <= length <= 4, length)

    def test_addresses(self):
        for thing in (("a",), ("a", "b"), ("a", "a"), ("a-b", "1", "2-3"), ("a" * 12,) * 4):
            self.assertIs(is_address(thing), True, thing)

    def test_tuples_in_which_something_is_no_name(self):
        for part in ("", "-", "A", "a b", "a/b", "a--b", "a" * 13, None, 1, True, ("a",), ["a"], ()):
            for thing in ((part,), (part, "a"), ("a", part), ("a", "b", "c", part), ("a", part, "c", "d")):
                self.assertIs(is_address(thing), False, thing)

    def test_other_things(self):
        for thing in (0, 1, True, False, None, "", "a", "a/b", "abcd", [], ["a"], ["a", "b"], [("a",)], (("a",),),
                      ((((("a",),),),),), [[[[["a"]]]]]):
            self.assertIs(is_address(thing), False, thing)


class Texts(unittest.TestCase):
    ROWS = ((("a",), "a"), (("a", "b"), "a/b"), (("a-b", "c", "1", "2-3"), "a-b/c/1/2-3"), (("a" * 12,) * 2, "a" * 12 + "/" + "a" * 12))

    def test_text_and_address_tell_one_another(self):
        for address, text in self.ROWS:
            self.assertEqual(address_text(address), text)
            self.assertEqual(read_address(text), address)

    def test_what_is_read_is_a_tuple(self):
        self.assertIsInstance(read_address("a/b"), tuple)

    def test_texts_that_are_no_addresses(self):
        for text in ("", "/", "//", "/a", "a/", "a//b", "a/b/c/d/e", "a/b/c/d/", "/a/b", "a b", " a", "a ", "a /b", "A",
                     "a/B", "-", "a/-b", "a-/b", "a--b", "a" * 13, "a/" + "b" * 13, "a\n", "\na", "a\nb", "a/\nb", "\n",
                     "a\\b", "a.b", "a_b", "a'", "a&b", "a,b"):
            with self.assertRaises(NoText, msg=repr(text)):
                read_address(text)

    def test_every_short_text_is_read_back_or_refused(self):
        for length in range(0, 7):
            for signs in itertools.product("a-/B", repeat=length):
                text = "".join(signs)
                try:
                    address = read_address(text)
                except PageError as error:
                    self.assertIsInstance(error, NoText)
                    self.assertFalse(is_address(tuple(text.split("/"))), text)
                else:
                    self.assertTrue(is_address(address), text)
                    self.assertEqual(address_text(address), text)


if __name__ == "__main__":
    unittest.main()
