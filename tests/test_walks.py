"""Long walks of deeds, against a model that keeps every moment and does all deeds anew when one is taken back."""

import itertools
import random
import re
import unittest

from pagenames.errors import PageError
from pagenames.moving import flat, is_flat
from pagenames.names import is_name
from pagenames.sites import Site
from pagenames.texts import all_addresses, are_rows, map_text, read_rows, rows_text

TITLES = ("a", "A!", "b", "a b", "B&b", "it's", "?", "abcdefghijklmno", "abcdefghi jk", "abcdefghij kl")
NO_TITLES = (" a", "", "x" * 31)
NAMES = ("a", "b", "a-2", "page", "b-and-b", "abcdefghijkl")
NO_NAMES = ("a-", "", "A")


def model_name(title):
    words = re.findall("[a-z0-9]+", title.lower().replace("'", "").replace("&", " and "))
    fitting = [text for text in itertools.accumulate(words, "{}-{}".format) if len(text) <= 12]
    return fitting[-1] if fitting else words[0][:12] if words else "page"


def model_unlike(name, taken):
    for count in itertools.count(1):
        ending = "" if count == 1 else f"-{count}"
        told = (name if count == 1 else re.sub("-$", "", name[:12 - len(ending)])) + ending
        if told not in taken:
            return told


class Refused(Exception):
    pass


class Model:
    def __init__(self):
        self.pages = {}
        self.count = 0
        self.moments = []
        self.put = {}

    def need(self, word, truth):
        if not truth:
            raise Refused(word)

    def names_in(self, parent, but):
        return [page[1] for number, page in self.pages.items() if page[2] == parent and number != but]

    def around(self, number):
        return [] if number is None else self.around(self.pages[number][2]) + [number]

    def address(self, number):
        return tuple(self.pages[each][1] for each in self.around(number))

    def tall(self, number):
        return 1 + max([self.tall(each) for each in self.pages if self.pages[each][2] == number], default=0)

    def seen(self):
        self.moments.append({self.address(number): number for number in self.pages})

    def add(self, title, parent):
        self.need("NoPage", parent is None or parent in self.pages)
        self.need("BadName", re.fullmatch("[^ ]|[^ ].{0,28}[^ ]", title))
        self.need("TooDeep", len(self.around(parent)) < 4)
        self.count += 1
        self.pages[self.count] = (title, model_unlike(model_name(title), self.names_in(parent, None)), parent)
        return self.count

    def retitle(self, number, title):
        self.need("NoPage", number in self.pages)
        self.need("BadName", re.fullmatch("[^ ]|[^ ].{0,28}[^ ]", title))
        parent = self.pages[number][2]
        self.pages[number] = (title, model_unlike(model_name(title), self.names_in(parent, number)), parent)

    def rename(self, number, name):
        self.need("NoPage", number in self.pages)
        self.need("BadName", len(name) <= 12 and re.fullmatch("[a-z0-9]+(-[a-z0-9]+)*", name))
        title, _, parent = self.pages[number]
        self.need("Taken", name not in self.names_in(parent, number))
        self.pages[number] = (title, name, parent)

    def move(self, number, parent):
        self.need("NoPage", number in self.pages and (parent is None or parent in self.pages))
        self.need("Inside", number not in self.around(parent))
        self.need("TooDeep", len(self.around(parent)) + self.tall(number) <= 4)
        title, name, _ = self.pages[number]
        self.pages[number] = (title, model_unlike(name, self.names_in(parent, number)), parent)

    def drop(self, number):
        self.need("NoPage", number in self.pages)
        self.pages = {each: page for each, page in self.pages.items() if number not in self.around(each)}

    def put_into(self, number, goal):
        self.need("NoPage", number in self.pages and goal in self.pages)
        self.need("Inside", number not in self.around(goal))
        self.need("TooDeep", len(self.around(goal)) + self.tall(number) - 1 <= 4)
        del self.pages[number]
        self.put[number] = goal
        for each in sorted(each for each in self.pages if self.pages[each][2] == number):
            title, name, _ = self.pages[each]
            self.pages[each] = (title, model_unlike(name, self.names_in(goal, None)), goal)

    def forget(self, address):
        self.need("NoPage", any(address in moment for moment in self.moments))
        self.need("Taken", address not in self.moments[-1])
        for moment in self.moments:
            moment.pop(address, None)

    def found(self, address):
        if self.moments and address in self.moments[-1]:
            return ("here", self.moments[-1][address])
        for moment in reversed(self.moments):
            if address in moment:
                number = moment[address]
                while number in self.put:
                    number = self.put[number]
                return ("moved", number) if number in self.pages else ("gone", None)
        return "NoPage"


def model_of(deeds):
    model = Model()
    for deed, handed in deeds:
        getattr(model, deed)(*handed)
        model.seen()
    return model


def asked(thing, deed, handed):
    try:
        return getattr(thing, deed)(*handed)
    except PageError as error:
        return type(error).__name__
    except Refused as error:
        return error.args[0]


def some_number(luck, model):
    # Mostly a page that is there, sometimes one that is gone or never was.
    if model.pages and luck.random() < 0.95:
        return luck.choice(sorted(model.pages))
    return luck.randint(0, model.count + 1)


def some_deed(luck, model, addresses):
    number = some_number(luck, model)
    place = luck.choice((None, some_number(luck, model), some_number(luck, model)))
    title = luck.choice(TITLES if luck.random() < 0.9 else NO_TITLES)
    name = luck.choice(NAMES if luck.random() < 0.9 else NO_NAMES)
    kinds = ("add", "add", "add", "retitle", "rename", "move", "move", "put_into", "drop", "forget", "back", "again")
    deed = luck.choice(kinds if len(model.pages) > 5 else kinds[:7] + kinds[-3:])
    return deed, {
        "add": (title, place), "retitle": (number, title), "rename": (number, name), "move": (number, place),
        "put_into": (number, some_number(luck, model)), "drop": (number,), "forget": (luck.choice(addresses),),
    }.get(deed, ())


class Walks(unittest.TestCase):
    def compare(self, site, model, addresses):
        numbers = sorted(model.pages)
        found = {address: model.found(address) for address in addresses}
        self.assertEqual(site.pages(), tuple(numbers))
        self.assertEqual([site.page(number) for number in numbers], [model.pages[number] for number in numbers])
        for number in [None] + numbers:
            self.assertEqual(site.inner(number), tuple(each for each in numbers if model.pages[each][2] == number))
        for number in numbers:
            self.assertEqual(site.address(number), model.address(number))
            self.assertEqual(site.old_of(number), tuple(sorted(each for each in found if found[each] == ("moved", number))))
        for address in addresses:
            self.assertEqual(asked(site, "found", (address,)), found[address], address)
        moved = sorted(each for each in found if found[each][0] == "moved")
        self.assertEqual(site.rows(), tuple((each, model.address(found[each][1])) for each in moved))
        self.assertEqual(site.gone(), tuple(sorted(each for each in found if found[each] == ("gone", None))))
        # Pages ahead of those in them, lesser numbers first: that is the order of the numbers around them.
        lines = ["  " * (len(path) - 1) + f"{model.pages[path[-1]][1]} {path[-1]} {model.pages[path[-1]][0]}\n"
                 for path in sorted(model.around(number) for number in numbers)]
        self.assertEqual(map_text(site), "".join(lines))
        self.assertEqual(all_addresses(site), tuple(sorted(model.address(number) for number in numbers)))

    def invariants(self, site):
        addresses = [site.address(number) for number in site.pages()]
        self.assertEqual(len(set(addresses)), len(addresses))
        self.assertTrue(all(is_name(name) for address in addresses for name in address))
        self.assertTrue(all(len(address) <= 4 for address in addresses))
        rows = site.rows()
        self.assertTrue(are_rows(rows) and is_flat(rows))
        self.assertEqual(flat(rows), rows)
        self.assertEqual(read_rows(rows_text(rows)), rows)

    def walk(self, seed, steps):
        luck = random.Random(seed)
        site = Site()
        done = []
        undone = []
        addresses = {("a",): True}
        model = model_of(done)
        for step in range(steps):
            deed, handed = some_deed(luck, model, list(addresses))
            if deed in ("back", "again"):
                source = done if deed == "back" else undone
                told = None if source else "NothingBack"
                if source:
                    (undone if deed == "back" else done).append(source.pop())
            else:
                told = asked(model, deed, handed)
                if told is None or isinstance(told, int):
                    done.append((deed, handed))
                    undone = []
            self.assertEqual(asked(site, deed, handed), told, (seed, step, deed, handed))
            model = model_of(done)
            addresses.update({address: True for moment in model.moments for address in moment})
            self.compare(site, model, list(addresses))
            self.invariants(site)

    def test_many_walks(self):
        for seed in range(40):
            self.walk(seed, 80)


if __name__ == "__main__":
    unittest.main()
