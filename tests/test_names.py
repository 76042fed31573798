import itertools
import unittest

from pagenames.names import is_name, is_title, made, unlike

NO_TEXTS = (
    0, 1, -1, 12, True, False, None, [], (), ["a"], ("a",), [["a"]], (("a", None), [1, [True]]),
    [[[[["a"]]]]], ((((("a",),),),),), ["a", "b"], ("a", "-"),
)


class IsName(unittest.TestCase):
    def test_names(self):
        for name in ("a", "z", "0", "9", "a-b", "1-2-3", "page", "a" * 12, "a-b-c-d-e-f1", "abcdefghijkl", "mnopqrstuvwx",
                     "yz0123456789"):
            self.assertIs(is_name(name), True, name)

    def test_bounds_of_length(self):
        for length in range(0, 20):
            self.assertIs(is_name("a" * length), 1 <= length <= 12, length)

    def test_dashes(self):
        for text in ("-", "--", "-a", "a-", "a--b", "-a-", "a---b", "a-b-", "-a-b", "a-b--c"):
            self.assertIs(is_name(text), False, text)
        self.assertIs(is_name("abcdefghijk-"), False)
        self.assertIs(is_name("a-bcdefghijk"), True)
        self.assertIs(is_name("a-bcdefghijkl"), False)

    def test_each_sign(self):
        for code in range(ord(" "), ord("~") + 1):
            sign = chr(code)
            good = "a" <= sign <= "z" or "0" <= sign <= "9"
            self.assertIs(is_name(sign), good, sign)
            self.assertIs(is_name("a" + sign + "b"), good or sign == "-", sign)
            self.assertIs(is_name("ab" + sign), good, sign)
            self.assertIs(is_name(sign + "ab"), good, sign)

    def test_other_things(self):
        for thing in NO_TEXTS:
            self.assertIs(is_name(thing), False, thing)


class IsTitle(unittest.TestCase):
    def test_titles(self):
        for title in ("a", "-", "&", "A b", "What's new?", "a  b", "/", "'", "~", "1", "About us & them"):
            self.assertIs(is_title(title), True, title)

    def test_bounds_of_length(self):
        for length in range(0, 40):
            self.assertIs(is_title("a" * length), 1 <= length <= 30, length)
        self.assertIs(is_title("a" + " " * 28 + "b"), True)
        self.assertIs(is_title("a" + " " * 29 + "b"), False)

    def test_blanks_at_the_ends(self):
        for text in ("", " ", "  ", " a", "a ", " a ", "  a", "a  ", " " * 30, "a" * 29 + " ", " " + "a" * 29):
            self.assertIs(is_title(text), False, text)

    def test_other_things(self):
        for thing in NO_TEXTS:
            self.assertIs(is_title(thing), False, thing)


class Made(unittest.TestCase):
    def check(self, rows):
        for title, name in rows:
            self.assertEqual(made(title), name, title)

    def test_letters_and_figures(self):
        self.check((("a", "a"), ("News", "news"), ("NEWS", "news"), ("AbC xYz", "abc-xyz"), ("2026", "2026"),
                    ("Top 10", "top-10"), ("0", "0"), ("Az09", "az09"), ("aZ", "az")))

    def test_the_mark_that_is_left_out(self):
        self.check((("What's new", "whats-new"), ("'a'", "a"), ("a''b", "ab"), ("a ' b", "a-b"), ("a '", "a"),
                    ("' a", "a"), ("O'N'E", "one"), ("a'-'b", "a-b")))

    def test_and(self):
        self.check((("R&D", "r-and-d"), ("&", "and"), ("a & b", "a-and-b"), ("a& b", "a-and-b"), ("&a", "and-a"),
                    ("a&", "a-and"), ("&&", "and-and"), ("&'&", "and-and"), ("'&'", "and"), ("a'&'b", "a-and-b"),
                    ("&&&&", "and-and-and"), ("1&2", "1-and-2")))

    def test_all_other_signs_part_words(self):
        for code in range(ord(" "), ord("~") + 1):
            sign = chr(code)
            if not sign.isalnum() and sign not in "'&":
                self.assertEqual(made("ab" + sign + "cd"), "ab-cd", sign)
                self.assertEqual(made(sign + "ab" + sign + sign), "ab", sign)
        self.check((("a - b", "a-b"), ("a, b; c", "a-b-c"), ("-a-", "a"), ("a  b", "a-b"), ("a_b/c", "a-b-c")))

    def test_as_many_words_as_come_to_twelve_signs(self):
        self.check((("aaaa bbbb cc", "aaaa-bbbb-cc"), ("aaaa bbbb ccc", "aaaa-bbbb"), ("aaaaaa bbbbb", "aaaaaa-bbbbb"),
                    ("aaaaaa bbbbbb", "aaaaaa"), ("aaaaaaaaaa b", "aaaaaaaaaa-b"), ("aaaaaaaaaaa b", "aaaaaaaaaaa"),
                    ("a b c d e f g h", "a-b-c-d-e-f"), ("Rock & roll", "rock-and"), ("Rock & rol", "rock-and-rol")))

    def test_no_shorter_word_slips_in_behind_one_that_is_too_long(self):
        self.check((("aaaa bbbbbbbbbb c", "aaaa"), ("a bbbbbbbbbbb c d", "a"), ("aaa bbb ccccccc d", "aaa-bbb")))

    def test_first_words_of_twelve_signs_and_more(self):
        self.check((("abcdefghijkl", "abcdefghijkl"), ("abcdefghijkl m", "abcdefghijkl"), ("abcdefghijklm", "abcdefghijkl"),
                    ("abcdefghijklm n", "abcdefghijkl"), ("abcdefghijk", "abcdefghijk"), ("A" * 30, "a" * 12),
                    ("abcdef'ghijklm", "abcdefghijkl"), ("- abcdefghijklmn", "abcdefghijkl")))

    def test_titles_without_words(self):
        for title in ("'", "-", "?!", "''''", "- -", "...", "/", "~", "'-'"):
            self.assertEqual(made(title), "page", title)

    def test_every_name_made_is_a_name(self):
        for length in (1, 2, 3, 4):
            for signs in itertools.product("aZ7 -'&?", repeat=length):
                self.assertTrue(is_name(made("".join(signs))), signs)
        for signs in itertools.product(("abcde", "fghijklmnopqr", " ", "-", "'", "&"), repeat=4):
            self.assertTrue(is_name(made("".join(signs))), signs)


class Unlike(unittest.TestCase):
    def test_a_name_that_is_not_taken_stays(self):
        self.assertEqual(unlike("a", ()), "a")
        self.assertEqual(unlike("a", ("b", "a-2")), "a")
        self.assertEqual(unlike("a" * 12, ("a" * 11,)), "a" * 12)
        self.assertEqual(unlike("new", ("news", "ne")), "new")

    def test_the_first_that_is_free(self):
        self.assertEqual(unlike("a", ("a",)), "a-2")
        self.assertEqual(unlike("a", ("a", "a-2")), "a-3")
        self.assertEqual(unlike("a", ("a", "a-3")), "a-2")
        self.assertEqual(unlike("a", ("a-3", "a", "a-2", "a-5")), "a-4")
        self.assertEqual(unlike("a-2", ("a-2",)), "a-2-2")

    def test_ten_and_more_in_a_row(self):
        taken = ()
        told = []
        for count in range(120):
            told.append(unlike("news", taken))
            taken = taken + (told[-1],)
        self.assertEqual(told, ["news"] + [f"news-{count}" for count in range(2, 121)])

    def test_cut_as_far_as_it_must_be(self):
        self.assertEqual(unlike("abcdefghij", ("abcdefghij",)), "abcdefghij-2")
        self.assertEqual(unlike("abcdefghijk", ("abcdefghijk",)), "abcdefghij-2")
        self.assertEqual(unlike("abcdefghijkl", ("abcdefghijkl",)), "abcdefghij-2")
        taken = ("abcdefghijkl",) + tuple(f"abcdefghij-{count}" for count in range(2, 10))
        self.assertEqual(unlike("abcdefghijkl", taken), "abcdefghi-10")
        self.assertEqual(unlike("abcdefghijkl", taken + ("abcdefghi-10",)), "abcdefghi-11")
        taken = taken + tuple(f"abcdefghi-{count}" for count in range(10, 100))
        self.assertEqual(unlike("abcdefghijkl", taken), "abcdefgh-100")

    def test_a_cut_that_leaves_a_dash_at_the_end(self):
        self.assertEqual(unlike("abcdefghi-jk", ("abcdefghi-jk",)), "abcdefghi-2")
        self.assertEqual(unlike("abcdefgh-ijk", ("abcdefgh-ijk",)), "abcdefgh-i-2")
        taken = ("abcdefgh-ijk",) + tuple(f"abcdefgh-i-{count}" for count in range(2, 10))
        self.assertEqual(unlike("abcdefgh-ijk", taken), "abcdefgh-10")

    def test_what_is_made_unlike_is_a_name_and_not_taken(self):
        for name in ("a", "a-b", "abcdefghijkl", "abcdefghi-jk", "abcdefgh-ij", "a-b-c-d-e-f1", "1", "a-2", "abcdefghij-2"):
            taken = ("other", "page")
            for count in range(110):
                told = unlike(name, taken)
                self.assertTrue(is_name(told), told)
                self.assertNotIn(told, taken)
                taken = taken + (told,)

    def test_taken_is_not_changed_and_the_same_is_told_again(self):
        taken = ("a", "a-2")
        self.assertEqual((unlike("a", taken), unlike("a", taken)), ("a-3", "a-3"))
        self.assertEqual(taken, ("a", "a-2"))


if __name__ == "__main__":
    unittest.main()
