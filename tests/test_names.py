import unittest

from mannerports.names import are_unlike_ports, is_port
from mannerports.plain import is_rising, is_whole


class WholeTest(unittest.TestCase):
    def test_whole_numbers(self):
        for thing in (0, 1, -1, 10 ** 40 - 1):
            self.assertIs(is_whole(thing), True)

    def test_truths_and_others_are_none(self):
        for thing in (True, False, None, "1", [1], (1,), {1: 1}):
            self.assertIs(is_whole(thing), False)

    def test_rising(self):
        for numbers in ((), (2,), (0, 1), (0, 1, 2), (-5, 7)):
            self.assertIs(is_rising(numbers), True)
        for numbers in ((0, 0), (1, 0), (0, 2, 1), (0, 1, 1)):
            self.assertIs(is_rising(numbers), False)


class PortTest(unittest.TestCase):
    def test_one_to_eight_small_letters(self):
        for thing in ("a", "z", "m", "ab", "abcdefgh", "zzzzzzzz", "net", "end"):
            self.assertIs(is_port(thing), True, thing)
        for letter in "abcdefghijklmnopqrstuvwxyz":
            self.assertIs(is_port(letter), True)

    def test_other_lengths(self):
        for thing in ("", "abcdefghi", "a" * 100):
            self.assertIs(is_port(thing), False, thing)

    def test_no_other_sign(self):
        for code in list(range(32, 127)) + [10]:
            sign = chr(code)
            if not "a" <= sign <= "z":
                for thing in (sign, "a" + sign, sign + "a", "a" + sign + "a"):
                    self.assertIs(is_port(thing), False, repr(thing))

    def test_letters_of_other_alphabets(self):
        for thing in ("\u00e4", "a\u00df", "\u03b1"):
            self.assertIs(is_port(thing), False)

    def test_no_texts(self):
        for thing in (None, True, False, 0, 1, [], (), {}, ["a"], ("a",), {"a": "a"}, [["a"]]):
            self.assertIs(is_port(thing), False, repr(thing))

    def test_unlike_ports(self):
        for thing in ((), ("a",), ("b", "a"), ("a", "aa", "aaa")):
            self.assertIs(are_unlike_ports(thing), True)
        for thing in (["a"], ("a", "a"), ("a", "B"), ("a", None), ("a", ["b"]), ("a", {}), "ab", None, {"a": 1}):
            self.assertIs(are_unlike_ports(thing), False)


if __name__ == "__main__":
    unittest.main()
