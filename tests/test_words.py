import unittest

from beltshift.words import is_name, is_whole, number_of, text_of

TAKEN = ["in", "out", "was", "if", "then", "else", "most", "least"]


class Names(unittest.TestCase):
    def test_names(self):
        for text in ["a", "z", "m", "ab", "zz", "abcdef", "zzzzzz", "x" * 6, "name", "sum", "gap", "pick"]:
            self.assertIs(is_name(text), True, text)

    def test_no_names_by_length(self):
        for text in ["", "abcdefg", "a" * 7, "a" * 4000]:
            self.assertIs(is_name(text), False, text)

    def test_no_names_by_signs(self):
        for text in ["A", "aB", "Abc", "a1", "1", "0", "a b", " a", "a ", " ", "a\n", "\na", "\n", "a_b", "-a"]:
            self.assertIs(is_name(text), False, text)
        for text in ["a-b", "`", "{", "@", "[", "ab{", "`ab", "\u00e9", "\u0430", "a,", "(", ":"]:
            self.assertIs(is_name(text), False, text)

    def test_taken_words(self):
        for text in TAKEN:
            self.assertIs(is_name(text), False, text)

    def test_taken_words_with_a_letter_more_or_fewer(self):
        for text in TAKEN:
            for other in [text + "a", "a" + text, text[:-1], text[1:]]:
                self.assertIs(is_name(other), True, other)


class Numbers(unittest.TestCase):
    def read(self, text, number):
        told = number_of(text)
        self.assertEqual(told, number, text)
        self.assertIs(type(told), int, text)

    def test_numbers(self):
        for text, number in [("0", 0), ("1", 1), ("9", 9), ("-1", -1), ("10", 10), ("-10", -10), ("100", 100)]:
            self.read(text, number)

    def test_nine_figures_either_way(self):
        for text in ["999999999", "100000000", "123456789"]:
            self.read(text, int(text))
            self.read("-" + text, -int(text))

    def test_ten_figures_either_way(self):
        for text in ["1000000000", "9999999999", "1234567890", "1" * 4000]:
            self.assertIsNone(number_of(text), text)
            self.assertIsNone(number_of("-" + text), text)

    def test_noughts_ahead(self):
        for text in ["-0", "00", "01", "-01", "000", "-00", "0123", "000000001", "-000000001"]:
            self.assertIsNone(number_of(text), text)

    def test_ill_written(self):
        texts = ["", "-", "--", "--1", "+1", "+", "1-", "1-1", "-1-", "1_0", "1.0", "1e3", "0x1", "a", "1a", "a1", "/", ":"]
        for text in texts + ["\u0661", "\u00b2", "1/", "1:", "True", "None"]:
            self.assertIsNone(number_of(text), text)

    def test_blanks_and_line_feeds(self):
        for space in [" ", "\n", "\t", "  "]:
            for text in [space, space + "1", "1" + space, "-" + space + "1", "1" + space + "1"]:
                self.assertIsNone(number_of(text), text)

    def test_texts_of_numbers_read_back(self):
        numbers = list(range(-1200, 1200)) + [10 ** k + d for k in range(9) for d in (-1, 0, 1)] + [999999999]
        for number in numbers:
            if abs(number) < 10 ** 9:
                self.read(str(number), number)
                self.read(text_of(number), number)


class Helpers(unittest.TestCase):
    def test_whole_numbers(self):
        for thing in [0, 1, -1, 10 ** 30]:
            self.assertIs(is_whole(thing), True)
        for thing in [True, False, None, "1", "", (), (1,), [], [1]]:
            self.assertIs(is_whole(thing), False)

    def test_texts_of_numbers(self):
        for power in [0, 1, 8, 9, 10, 17, 18, 19, 35, 36, 37, 54, 600, 4000]:
            for number in [10 ** power - 1, 10 ** power, 10 ** power + 1, 7 * 10 ** power]:
                self.assertEqual(text_of(number), str(number))
                self.assertEqual(text_of(-number), str(-number))

    def test_texts_of_numbers_that_str_refuses(self):
        self.assertEqual(text_of(10 ** 9000 + 5), "1" + "0" * 8999 + "5")
        self.assertEqual(text_of(-7 * 10 ** 5000), "-7" + "0" * 5000)
