"""Texts and data: reading, and the written form (part 1 of the document)."""

from aliasfold.errors import InvalidWord, TooDeep, UnexpectedClose, UnexpectedEnd

DIGITS = "0123456789"
SYMBOL_SIGNS = "abcdefghijklmnopqrstuvwxyzABCDEFGHIJKLMNOPQRSTUVWXYZ0123456789-+*<=?!."
WORD_ENDS = " \n();"
MOST_DIGITS = 40
DEEPEST_LIST = 60


def is_made_as_number(word):
    """Tell whether a string is made as a number, allowed or not."""
    digits = word[1:] if word[:1] in ("-", "+") else word
    return digits != "" and all(sign in DIGITS for sign in digits)


def is_symbol(text):
    """Tell whether a string is a symbol."""
    if text == "" or is_made_as_number(text):
        return False
    return all(sign in SYMBOL_SIGNS for sign in text)


def is_integer(word):
    """Tell whether a word is an integer in the one way in which it may be written."""
    if not is_made_as_number(word) or word[0] == "+":
        return False
    digits = word.removeprefix("-")
    if len(digits) > MOST_DIGITS:
        return False
    return word == "0" or digits[0] != "0"


def read_word(word, at):
    """Return the datum of a word that begins at an index of the text."""
    if is_integer(word):
        return int(word)
    if is_symbol(word):
        return word
    raise InvalidWord(at)


def word_end(text, at):
    """Return the index behind the word that begins at an index."""
    end = at
    while end < len(text) and text[end] not in WORD_ENDS:
        end += 1
    return end


def remark_end(text, at):
    """Return the index behind the remark that begins at an index."""
    end = text.find("\n", at)
    return len(text) if end == -1 else end


def begin_list(rows, deepest):
    """Begin a list within the innermost of the lists that have no end yet."""
    if len(rows) > deepest:
        raise TooDeep(f"a list within {deepest} lists")
    inner = []
    rows[-1].append(inner)
    rows.append(inner)


def end_list(rows, at):
    """End the innermost list, by the `)` at an index."""
    if len(rows) == 1:
        raise UnexpectedClose(at)
    rows.pop()


def read_data(text, deepest):
    """Return the list of the data of a text whose lists may be nested so deep."""
    data = []
    # The lists that have no end yet, the innermost last; the data of the text are the first.
    rows = [data]
    at = 0
    while at < len(text):
        sign = text[at]
        end = at + 1
        if sign == ";":
            end = remark_end(text, at)
        elif sign == "(":
            begin_list(rows, deepest)
        elif sign == ")":
            end_list(rows, at)
        elif sign not in " \n":
            end = word_end(text, at)
            rows[-1].append(read_word(text[at:end], at))
        at = end
    if len(rows) > 1:
        raise UnexpectedEnd(len(text))
    return data


def parse_all(text):
    """Return the list of the data of a text."""
    return read_data(text, DEEPEST_LIST)


def format_datum(datum):
    """Return the written form of a datum."""
    words = []
    # What is still to be written, the next one last: a list of any depth needs no recursion.
    rest = [datum]
    while rest:
        part = rest.pop()
        if isinstance(part, list):
            words.append("(")
            rest.append(")")
            rest.extend(part[::-1])
        else:
            words.append(str(part))
    # No word has a space or a parenthesis in it, so these spaces are all between words.
    return " ".join(words).replace("( ", "(").replace(" )", ")")
