"""Points 1.1 to 1.6: texts and data."""

import copy
import string
import unittest

from aliasfold import reader
from aliasfold.errors import FoldError, InvalidWord, TooDeep, UnexpectedClose, UnexpectedEnd
from aliasfold.reader import format_datum, is_symbol, parse_all

LETTERS = string.ascii_letters
DIGITS = "0123456789"
SIGNS = "-+*<=?!."
TEXT_SIGNS = [chr(code) for code in range(32, 127)] + ["\t", "\n"]
OTHER_SIGNS = [sign for sign in TEXT_SIGNS if sign not in LETTERS + DIGITS + SIGNS]
PARTING = " \n();"


def nested(depth):
    """A datum of a number of lists, one in the other."""
    datum = []
    for _ in range(depth - 1):
        datum = [datum]
    return datum


class ReaderCase(unittest.TestCase):
    def assert_error(self, cls, text, **fields):
        """The text raises an error of this very class, with these fields."""
        with self.assertRaises(FoldError) as caught:
            parse_all(text)
        self.assertIs(type(caught.exception), cls, text)
        for name, value in fields.items():
            self.assertEqual(getattr(caught.exception, name), value, text)


class InterfaceTest(unittest.TestCase):
    def test_functions_are_defined_in_the_file(self):
        for name in ["parse_all", "format_datum", "is_symbol"]:
            self.assertEqual(getattr(reader, name).__module__, "aliasfold.reader")

    def test_arguments_have_the_names_of_the_interface(self):
        self.assertEqual(parse_all(text="a"), ["a"])
        self.assertEqual(format_datum(datum="a"), "a")
        self.assertIs(is_symbol(text="a"), True)


class SymbolTest(unittest.TestCase):
    def test_each_sign_that_a_symbol_may_have(self):
        for sign in LETTERS + SIGNS:
            self.assertIs(is_symbol(sign), True, sign)
        for sign in LETTERS + DIGITS + SIGNS:
            self.assertIs(is_symbol("x" + sign), True, sign)
            self.assertIs(is_symbol(sign + "x"), True, sign)

    def test_each_sign_that_a_symbol_may_not_have(self):
        for sign in OTHER_SIGNS:
            self.assertIs(is_symbol(sign), False, repr(sign))
            self.assertIs(is_symbol("x" + sign), False, repr(sign))
            self.assertIs(is_symbol(sign + "x"), False, repr(sign))
            self.assertIs(is_symbol("x" + sign + "x"), False, repr(sign))

    def test_the_empty_text_is_no_symbol(self):
        self.assertIs(is_symbol(""), False)

    def test_what_is_made_as_a_number_is_no_symbol(self):
        for word in ["0", "7", "07", "00", "-0", "-07", "-7", "+7", "+0", "+07", "1" * 40, "1" * 41, "-" + "1" * 41]:
            self.assertIs(is_symbol(word), False, word)
        for digit in DIGITS:
            self.assertIs(is_symbol(digit), False, digit)

    def test_what_is_nearly_made_as_a_number_is_a_symbol(self):
        for word in ["-", "+", "--", "-+", "--1", "+-1", "-+1", "1-", "1+", "1-2", "1.5", "-1.", "1a", "-a1", "*1", "..."]:
            self.assertIs(is_symbol(word), True, word)
            self.assertEqual(parse_all(word), [word])

    def test_a_long_symbol(self):
        self.assertIs(is_symbol("a" * 5000), True)


class NumberTest(ReaderCase):
    def test_integers(self):
        for word, number in [("0", 0), ("7", 7), ("-7", -7), ("10", 10), ("-10", -10), ("1234567890", 1234567890)]:
            self.assertEqual(parse_all(word), [number])
            self.assertIs(type(parse_all(word)[0]), int)

    def test_each_digit_may_be_ahead_but_0(self):
        for digit in "123456789":
            self.assertEqual(parse_all(digit + "0 -" + digit + "0"), [int(digit) * 10, int(digit) * -10])

    def test_40_digits(self):
        for digits in ["9" * 40, "1" + "0" * 39]:
            self.assertEqual(parse_all(digits), [int(digits)])
            self.assertEqual(parse_all("-" + digits), [-int(digits)])

    def test_more_than_40_digits(self):
        for digits in ["1" + "0" * 40, "9" * 41, "9" * 100, "0" * 41, "9" * 5000]:
            self.assert_error(InvalidWord, digits, at=0)
            self.assert_error(InvalidWord, "-" + digits, at=0)
            self.assert_error(InvalidWord, "+" + digits, at=0)

    def test_needless_signs(self):
        for word in ["+7", "+0", "07", "00", "-07", "-00", "-0", "+07", "0000"]:
            self.assert_error(InvalidWord, word, at=0)
            self.assert_error(InvalidWord, f"(a {word})", at=3)

    def test_signs_alone_are_symbols(self):
        self.assertEqual(parse_all("- + (- 1) -1"), ["-", "+", ["-", 1], -1])


class WordTest(ReaderCase):
    def test_each_sign_of_a_symbol(self):
        for sign in LETTERS + DIGITS + SIGNS:
            self.assertEqual(parse_all("x" + sign), ["x" + sign])

    def test_each_other_sign_makes_the_word_invalid_from_its_beginning(self):
        for sign in OTHER_SIGNS:
            if sign not in PARTING:
                self.assert_error(InvalidWord, sign, at=0)
                self.assert_error(InvalidWord, "a bc" + sign + "d", at=2)
                self.assert_error(InvalidWord, "7" + sign, at=0)

    def test_a_tab_does_not_part_words(self):
        self.assert_error(InvalidWord, "\t", at=0)
        self.assert_error(InvalidWord, "a\tb", at=0)
        self.assert_error(InvalidWord, "a \tb", at=2)
        self.assert_error(InvalidWord, "(a b\t)", at=3)

    def test_the_index_of_the_word(self):
        self.assert_error(InvalidWord, "(x 07)", at=3)
        self.assert_error(InvalidWord, "\n\n 'a", at=3)
        self.assert_error(InvalidWord, "; a remark\n#", at=11)

    def test_case_is_kept(self):
        self.assertEqual(parse_all("aB Ab"), ["aB", "Ab"])


class TextTest(ReaderCase):
    def test_the_example_of_the_interface(self):
        self.assertEqual(parse_all("(a -7) ; that is all"), [["a", -7]])

    def test_nothing(self):
        for text in ["", " ", "\n", " \n \n", ";", "; a", ";\n", "; a\n ; b"]:
            self.assertEqual(parse_all(text), [])

    def test_spaces_and_line_feeds_part_words(self):
        self.assertEqual(parse_all("a b\nc  \n\n d"), ["a", "b", "c", "d"])
        self.assertEqual(parse_all(" a "), ["a"])
        self.assertEqual(parse_all("1 2\n-3"), [1, 2, -3])

    def test_parentheses_part_words(self):
        self.assertEqual(parse_all("a(b)c"), ["a", ["b"], "c"])
        self.assertEqual(parse_all("(1)2(3)(4)"), [[1], 2, [3], [4]])

    def test_lists(self):
        self.assertEqual(parse_all("()"), [[]])
        self.assertEqual(parse_all("( )"), [[]])
        self.assertEqual(parse_all("(a (b (c) -1) d)\n(())"), [["a", ["b", ["c"], -1], "d"], [[]]])

    def test_remarks(self):
        self.assertEqual(parse_all("a ; b c\nd"), ["a", "d"])
        self.assertEqual(parse_all("(a ; b)\n c)"), [["a", "c"]])
        self.assertEqual(parse_all("a ; b"), ["a"])
        self.assertEqual(parse_all("a ; b ; c\nd"), ["a", "d"])
        self.assertEqual(parse_all("a\n;\nb"), ["a", "b"])

    def test_a_remark_directly_behind_a_word(self):
        self.assertEqual(parse_all("a;b\nc"), ["a", "c"])
        self.assertEqual(parse_all("-7;b"), [-7])
        self.assertEqual(parse_all("(a);b\n"), [["a"]])
        self.assertEqual(parse_all("(;b\na)"), [["a"]])

    def test_any_characters_within_a_remark(self):
        signs = "".join(sign for sign in TEXT_SIGNS if sign != "\n")
        self.assertEqual(parse_all(f"a ;{signs}\nb"), ["a", "b"])
        for sign in signs:
            self.assertEqual(parse_all(f";{sign}07{sign}\nb"), ["b"], sign)
            self.assertEqual(parse_all(f";{sign}"), [], sign)

    def test_a_word_ends_a_text(self):
        self.assertEqual(parse_all("abc"), ["abc"])
        self.assertEqual(parse_all("() -12"), [[], -12])

    def test_what_is_returned_is_new(self):
        first = parse_all("(a (b)) (c)")
        first[0][1].append("x")
        first[1].append("x")
        first.append("x")
        self.assertEqual(parse_all("(a (b)) (c)"), [["a", ["b"]], ["c"]])
        one, other = parse_all("() ()")
        self.assertIsNot(one, other)


class NestingTest(ReaderCase):
    def test_60_deep(self):
        self.assertEqual(parse_all("(" * 60 + ")" * 60), [nested(60)])
        self.assertEqual(parse_all("(" * 59 + "() () a" + ")" * 59 + "()")[1:], [[]])

    def test_61_deep(self):
        self.assert_error(TooDeep, "(" * 61 + ")" * 61)
        self.assert_error(TooDeep, "(" * 61)
        self.assert_error(TooDeep, "(a " * 60 + "()" + ")" * 60)
        self.assert_error(TooDeep, "(" * 59 + "() (())" + ")" * 59)

    def test_far_too_deep(self):
        self.assert_error(TooDeep, "(" * 5000 + ")" * 5000)

    def test_lists_behind_one_another_are_not_deeper(self):
        self.assertEqual(parse_all("()" * 100), [[]] * 100)
        self.assertEqual(parse_all("(" + "()" * 100 + ")"), [[[]] * 100])

    def test_an_unmatched_close(self):
        self.assert_error(UnexpectedClose, ")", at=0)
        self.assert_error(UnexpectedClose, "a )", at=2)
        self.assert_error(UnexpectedClose, "(a) b)", at=5)
        self.assert_error(UnexpectedClose, "()\n; )\n))", at=7)

    def test_a_text_that_ends_within_a_list(self):
        self.assert_error(UnexpectedEnd, "(", at=1)
        self.assert_error(UnexpectedEnd, "(a (b)", at=6)
        self.assert_error(UnexpectedEnd, "() (a", at=5)
        self.assert_error(UnexpectedEnd, "(a \n ", at=5)
        self.assert_error(UnexpectedEnd, "(a ; b)", at=7)
        self.assert_error(UnexpectedEnd, "(" * 60, at=60)


class FirstErrorTest(ReaderCase):
    def test_an_invalid_word_ahead(self):
        self.assert_error(InvalidWord, "07 )", at=0)
        self.assert_error(InvalidWord, "(07", at=1)
        self.assert_error(InvalidWord, "07 +7", at=0)
        self.assert_error(InvalidWord, "07" + "(" * 61, at=0)
        self.assert_error(InvalidWord, "(" * 60 + "07(", at=60)

    def test_a_close_ahead(self):
        self.assert_error(UnexpectedClose, ") 07", at=0)
        self.assert_error(UnexpectedClose, ")(", at=0)
        self.assert_error(UnexpectedClose, "))", at=0)
        self.assert_error(UnexpectedClose, ")" + "(" * 61, at=0)

    def test_a_deep_list_ahead(self):
        self.assert_error(TooDeep, "(" * 61 + "07")
        self.assert_error(TooDeep, "(" * 61 + ")" * 62)

    def test_the_end_comes_last(self):
        self.assert_error(InvalidWord, "(a (b '", at=6)
        self.assert_error(UnexpectedClose, "()) (", at=2)


class WrittenFormTest(unittest.TestCase):
    def test_written_forms(self):
        for datum, text in [
            (0, "0"), (-7, "-7"), (10 ** 40 - 1, "9" * 40), (1 - 10 ** 40, "-" + "9" * 40),
            ("a", "a"), ("...", "..."), ("-", "-"), ([], "()"), ([[]], "(())"), ([[], []], "(() ())"),
            (["a", -7], "(a -7)"), (["a", ["b", [], ["c"]], 1], "(a (b () (c)) 1)"),
            ([["a"], "b"], "((a) b)"), (["a", ["b"]], "(a (b))"), ([1, 2, 3], "(1 2 3)"),
        ]:
            self.assertEqual(format_datum(datum), text)
            self.assertEqual(parse_all(text), [datum])

    def test_reading_gives_the_datum_again(self):
        for text in ["(define f (fn (x) (+ x -12)))", "(() ((a) ...) () 0 (* <= ?!))", "(" * 60 + ")" * 60]:
            [datum] = parse_all(text)
            self.assertEqual(format_datum(datum), text)

    def test_spaces_and_remarks_are_not_written(self):
        [datum] = parse_all("( a\n(b;c\n )  -7 ) ; d")
        self.assertEqual(format_datum(datum), "(a (b) -7)")

    def test_deeper_data_can_be_written(self):
        self.assertEqual(format_datum(nested(2000)), "(" * 2000 + ")" * 2000)

    def test_the_argument_stays(self):
        datum = ["a", ["b", [], -7], []]
        before = copy.deepcopy(datum)
        format_datum(datum)
        self.assertEqual(datum, before)


if __name__ == "__main__":
    unittest.main()
