"""What a site holds at one moment: its pages, and which page had which address last."""

from pagenames.names import unlike

TITLE = 0
NAME = 1
PARENT = 2


class Tree:
    # entries: by a page's number the triple of its title, name and parent.
    # owners: by each address that was had and is not forgotten the number of the page that had it last.
    # goals: by the number of a page that was put into another one the number of that one.
    # last: the number that was given last, kept apart because its page may be gone.

    def __init__(self, entries, owners, goals, last):
        self.entries = entries
        self.owners = owners
        self.goals = goals
        self.last = last

    def twin(self):
        return Tree(dict(self.entries), dict(self.owners), dict(self.goals), self.last)

    def has_page(self, number):
        # True and 1 are one key of a dict, but a truth is no page's number.
        return isinstance(number, int) and not isinstance(number, bool) and number in self.entries

    def right_in(self, parent):
        return [each for each in sorted(self.entries) if self.entries[each][PARENT] == parent]

    def names_beside(self, number, parent):
        return tuple([self.entries[each][NAME] for each in self.right_in(parent) if each != number])

    def path(self, number):
        numbers = []
        while number is not None:
            numbers.insert(0, number)
            number = self.entries[number][PARENT]
        return numbers

    def depth(self, number):
        return len(self.path(number))

    def address_of(self, number):
        return tuple([self.entries[each][NAME] for each in self.path(number)])

    def with_inner(self, number):
        return [each for each in sorted(self.entries) if number in self.path(each)]

    def depth_below(self, number):
        return max([self.depth(each) for each in self.with_inner(number)]) - self.depth(number)

    def settle(self, number, title, name, parent):
        beside = self.names_beside(number, parent)
        self.entries[number] = (title, unlike(name, beside), parent)

    def settle_again(self, number, parent):
        entry = self.entries[number]
        self.settle(number, entry[TITLE], entry[NAME], parent)

    def remember_addresses(self):
        for number in sorted(self.entries):
            self.owners[self.address_of(number)] = number

    def lead(self, address):
        number = self.owners[address]
        if number in self.entries and self.address_of(number) == address:
            return ("here", number)
        while number in self.goals:
            number = self.goals[number]
        if number in self.entries:
            return ("moved", number)
        return ("gone", None)

    def addresses_led(self, way):
        return [address for address in sorted(self.owners) if self.lead(address)[0] == way]
