"""Sites: pages in pages, the deeds that change them, and where all their addresses lead."""

from pagenames.addresses import MOST_NAMES
from pagenames.errors import BadName, Inside, NoPage, NothingBack, Taken, TooDeep
from pagenames.names import is_name, is_title, made
from pagenames.trees import NAME, PARENT, TITLE, Tree


def need_page(tree, number):
    if not tree.has_page(number):
        raise NoPage(f"no page has the number {number!r}")


def need_place(tree, parent):
    if parent is not None:
        need_page(tree, parent)


def need_title(title):
    if not is_title(title):
        raise BadName(f"this is no title: {title!r}")


def need_outside(tree, number, place):
    if number in tree.path(place):
        raise Inside(f"the page {place} is the page {number}, or in it")


def need_depth(tree, place, more):
    if tree.depth(place) + more > MOST_NAMES:
        raise TooDeep(f"more than {MOST_NAMES} pages would be within one another")


def need_known(tree, address):
    if address not in tree.owners:
        raise NoPage(f"no page had the address {address!r}")


class Site:
    # No tree is changed once it is kept: each deed changes a twin, so that a refused one leaves nothing behind
    # and those before and behind it can be taken up again as they were.

    def __init__(self):
        self.now = Tree({}, {}, {}, 0)
        self.before = []
        self.undone = []

    def keep(self, tree):
        tree.remember_addresses()
        self.before.append(self.now)
        self.now = tree
        self.undone = []

    def add(self, title, parent):
        need_place(self.now, parent)
        need_title(title)
        need_depth(self.now, parent, 1)
        tree = self.now.twin()
        tree.last = tree.last + 1
        tree.settle(tree.last, title, made(title), parent)
        self.keep(tree)
        return tree.last

    def retitle(self, number, title):
        need_page(self.now, number)
        need_title(title)
        tree = self.now.twin()
        tree.settle(number, title, made(title), tree.entries[number][PARENT])
        self.keep(tree)

    def rename(self, number, name):
        need_page(self.now, number)
        if not is_name(name):
            raise BadName(f"this is no name: {name!r}")
        tree = self.now.twin()
        entry = tree.entries[number]
        if name in tree.names_beside(number, entry[PARENT]):
            raise Taken(f"a page beside it has the name {name!r}")
        tree.settle(number, entry[TITLE], name, entry[PARENT])
        self.keep(tree)

    def move(self, number, parent):
        need_page(self.now, number)
        need_place(self.now, parent)
        need_outside(self.now, number, parent)
        need_depth(self.now, parent, 1 + self.now.depth_below(number))
        tree = self.now.twin()
        tree.settle_again(number, parent)
        self.keep(tree)

    def drop(self, number):
        need_page(self.now, number)
        tree = self.now.twin()
        going = tree.with_inner(number)
        for each in going:
            tree.entries.pop(each)
        self.keep(tree)

    def put_into(self, number, goal):
        need_page(self.now, number)
        need_page(self.now, goal)
        need_outside(self.now, number, goal)
        need_depth(self.now, goal, self.now.depth_below(number))
        tree = self.now.twin()
        # The page goes first: if it is right in the goal its name is free for one of those in it.
        tree.entries.pop(number)
        tree.goals[number] = goal
        moving = tree.right_in(number)
        for each in moving:
            tree.settle_again(each, goal)
        self.keep(tree)

    def forget(self, address):
        need_known(self.now, address)
        if self.now.lead(address)[0] == "here":
            raise Taken(f"a page has the address {address!r}")
        tree = self.now.twin()
        tree.owners.pop(address)
        self.keep(tree)

    def back(self):
        if not self.before:
            raise NothingBack("no deed is left to be taken back")
        self.undone.append(self.now)
        self.now = self.before.pop()

    def again(self):
        if not self.undone:
            raise NothingBack("no deed is left to be done again")
        self.before.append(self.now)
        self.now = self.undone.pop()

    def pages(self):
        return tuple(sorted(self.now.entries))

    def page(self, number):
        need_page(self.now, number)
        entry = self.now.entries[number]
        return (entry[TITLE], entry[NAME], entry[PARENT])

    def inner(self, parent):
        need_place(self.now, parent)
        return tuple(self.now.right_in(parent))

    def address(self, number):
        need_page(self.now, number)
        return self.now.address_of(number)

    def found(self, address):
        need_known(self.now, address)
        return self.now.lead(address)

    def old_of(self, number):
        need_page(self.now, number)
        moved = self.now.addresses_led("moved")
        return tuple([address for address in moved if self.now.lead(address)[1] == number])

    def rows(self):
        tree = self.now
        return tuple([(address, tree.address_of(tree.lead(address)[1])) for address in tree.addresses_led("moved")])

    def gone(self):
        return tuple(self.now.addresses_led("gone"))
