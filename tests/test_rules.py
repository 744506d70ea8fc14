"""[2], [21], [56]: rules for colours."""

import unittest

from growwebs.errors import BadRule
from growwebs.rules import Rule
from tests.values import Spy, any_values


class RuleTest(unittest.TestCase):

    def check_wrong(self, value, *arguments):
        with self.assertRaises(BadRule) as caught:
            Rule(*arguments)
        self.assertIs(caught.exception.value, value)

    def test_attributes_are_ascending_and_each_once(self):
        rule = Rule("cab", ["ba", "ab", "cc", "bc", "cb", "cc"], {"x": "ccab", "a": "", ".": "ba"})
        self.assertEqual(rule.colours, "abc")
        self.assertEqual(rule.beside, ("ab", "bc", "cc"))
        self.assertEqual(rule.letters, {"x": "abc", "a": "", ".": "ab"})
        self.assertEqual(vars(Rule("z", ())), {"colours": "z", "beside": (), "letters": {}})
        self.assertEqual(Rule("dcba", ["dd"], letters={}).letters, {})

    def test_equality_by_value(self):
        rule = Rule("ab", ["ab"], {"x": "ab", "y": "a"})
        self.assertEqual(rule, Rule("ba", ("ba", "ab"), {"y": "aa", "x": "ba"}))
        self.assertEqual(Rule("ab", []), Rule("ab", (), {}))
        for other in (Rule("abc", ["ab"], {"x": "ab", "y": "a"}), Rule("ab", ["ab", "aa"], {"x": "ab", "y": "a"}),
                      Rule("ab", ["ab"], {"x": "ab"}), Rule("ab", ["ab"]), Rule("ab", [], {"x": "ab", "y": "a"})):
            self.assertNotEqual(rule, other)
        for value in any_values():
            self.assertFalse(rule == value)
            self.assertTrue(rule != value)

    def test_wrong_colours(self):
        for value in any_values() + ["aa", "abca", "abcde", "aB", "a.", "a b", ["a", "b"]]:
            if isinstance(value, str) and value in ("a", "b", "ab", "none", "rung"):
                continue
            self.check_wrong(value, value, Spy(), Spy())
        for right in ("a", "zy", "bca", "wxyz"):
            Rule(right, [])

    def test_what_may_be_beside_each_other(self):
        for value in any_values():
            if not isinstance(value, (list, tuple)):
                self.check_wrong(value, "ab", value, Spy())
            if not isinstance(value, str) or len(value) != 2 or value.strip("ab"):
                self.check_wrong(value, "ab", ["ab", value, None], 7)
                self.check_wrong(value, "ab", (value, "ab", "ba"))
        for value in ("", "a", "aba", "ac", "AB", "a ", ["a", "b"]):
            self.check_wrong(value, "ab", ["aa", value, "ca"], 7)
        self.check_wrong("cd", "ab", ["ab", "cd", "dc"])
        Rule("ab", [])

    def test_letters_as_a_whole(self):
        for value in any_values():
            if value is not None and value != {}:
                self.check_wrong(value, "ab", ["ab"], value)
            if not isinstance(value, str) or value.strip("ab"):
                letters = {"x": "a", "y": value}
                self.check_wrong(letters, "ab", ["ab"], letters)
            if not isinstance(value, (list, dict)) and not (isinstance(value, str) and len(value) == 1):
                try:
                    letters = {value: "a"}
                except TypeError:
                    continue
                self.check_wrong(letters, "ab", ["ab"], letters)
        for letters in ({"xy": "a"}, {"": "a"}, {"A": "a"}, {"x": "c"}, {"x": ["a"]}, {"0": ""}):
            self.check_wrong(letters, "ab", ["ab"], letters)
        self.assertEqual(Rule("ab", ["ab"], {"z": "", ".": "bbbbbbbbbb"}).letters, {"z": "", ".": "b"})

    def test_two_wrong_arguments_at_once(self):
        self.check_wrong("", "", None, None)
        self.check_wrong(None, "a", None, 5)
        self.check_wrong("b", "a", ["b"], 5)
        with self.assertRaises(BadRule) as caught:
            Rule(letters=5, beside=6, colours=7)
        self.assertEqual(caught.exception.value, 7)

    def test_lists_and_dicts_that_are_changed_afterwards(self):
        beside, letters = ["ab"], {"x": "a"}
        rule = Rule("ab", beside, letters)
        beside.append("aa")
        letters["y"] = "b"
        letters["x"] = ""
        self.assertEqual(rule, Rule("ab", ["ab"], {"x": "a"}))
        self.assertEqual((beside, letters), (["ab", "aa"], {"x": "", "y": "b"}))

    def test_by_name(self):
        self.assertEqual(Rule(beside=["ab"], colours="ab"), Rule("ab", ["ab"], letters=None))


if __name__ == "__main__":
    unittest.main()
