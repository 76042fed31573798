"""Rows of addresses and the pages of a site, written as texts, and such rows read."""

from pagenames.addresses import address_text, is_address, read_address
from pagenames.errors import NoText

INDENT = "  "


def row_line(row):
    return address_text(row[0]) + " " + address_text(row[1]) + "\n"


def rows_text(rows):
    return "".join([row_line(row) for row in rows])


def is_row(thing):
    return isinstance(thing, tuple) and len(thing) == 2 and is_address(thing[0]) and is_address(thing[1])


def are_rows(thing):
    if not isinstance(thing, tuple) or not all([is_row(row) for row in thing]):
        return False
    return len(set([row[0] for row in thing])) == len(thing)


def read_row(line):
    parts = line.split(" ")
    if len(parts) != 2:
        raise NoText(f"this line is not of two addresses: {line!r}")
    return (read_address(parts[0]), read_address(parts[1]))


def read_rows(text):
    lines = text.split("\n")
    # Behind the last line feed nothing is left, and in an empty text there is nothing at all.
    if lines[-1] != "":
        raise NoText("the last line has no line feed")
    rows = tuple([read_row(line) for line in lines[:-1]])
    if not are_rows(rows):
        raise NoText("an address is the first one of two lines")
    return rows


def page_lines(site, parent, indent):
    lines = []
    for number in site.inner(parent):
        page = site.page(number)
        title = page[0]
        name = page[1]
        lines.append(f"{indent}{name} {number} {title}\n")
        lines.extend(page_lines(site, number, indent + INDENT))
    return lines


def map_text(site):
    return "".join(page_lines(site, None, ""))


def all_addresses(site):
    return tuple(sorted([site.address(number) for number in site.pages()]))
