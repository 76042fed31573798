"""Names of pages: what is one, how a title makes one, how two are kept unlike."""

WORD_SIGNS = "abcdefghijklmnopqrstuvwxyz0123456789"
LONGEST_NAME = 12
LONGEST_TITLE = 30
NAME_WITHOUT_WORDS = "page"


def is_word(text):
    return text != "" and all([sign in WORD_SIGNS for sign in text])


def is_name(thing):
    if not isinstance(thing, str) or len(thing) > LONGEST_NAME:
        return False
    # A "-" at an end, or a second one beside it, leaves an empty part here, which is no word.
    return all([is_word(part) for part in thing.split("-")])


def is_title(thing):
    if not isinstance(thing, str) or not 1 <= len(thing) <= LONGEST_TITLE:
        return False
    return thing[0] != " " and thing[-1] != " "


def sign_in_words(sign):
    small = sign.lower()
    if small in WORD_SIGNS:
        return small
    if sign == "'":
        return ""
    if sign == "&":
        return " and "
    return " "


def words_of(title):
    return "".join([sign_in_words(sign) for sign in title]).split()


def made(title):
    words = words_of(title)
    if not words:
        return NAME_WITHOUT_WORDS
    name = words[0][:LONGEST_NAME]
    for word in words[1:]:
        longer = f"{name}-{word}"
        if len(longer) > LONGEST_NAME:
            # A shorter word behind this one must not slip in, the words stand from the first on.
            break
        name = longer
    return name


def numbered(name, count):
    ending = f"-{count}"
    stem = name[:LONGEST_NAME - len(ending)]
    if stem.endswith("-"):
        stem = stem[:-1]
    return stem + ending


def unlike(name, taken):
    other = name
    count = 1
    while other in taken:
        count = count + 1
        other = numbered(name, count)
    return other
