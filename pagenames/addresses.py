"""Addresses of pages: tuples of names, and their texts."""

from pagenames.errors import NoText
from pagenames.names import is_name

MOST_NAMES = 4


def is_address(thing):
    if not isinstance(thing, tuple) or not 1 <= len(thing) <= MOST_NAMES:
        return False
    return all([is_name(part) for part in thing])


def address_text(address):
    return "/".join(address)


def read_address(text):
    address = tuple(text.split("/"))
    if not is_address(address):
        raise NoText(f"this is no address's text: {text!r}")
    return address
