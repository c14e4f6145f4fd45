"""Point 4: what a name is."""

import unittest

from wiretongue.words import is_name

KEPT = (
    "clock in out wire box cross use num not and or xor sum same below pick join cut bit one"
).split(" ")
LETTERS = "abcdefghijklmnopqrstuvwxyz"


class IsName(unittest.TestCase):
    def right(self, thing):
        self.assertIs(is_name(thing), True, thing)

    def wrong(self, thing):
        self.assertIs(is_name(thing), False, thing)

    def test_kept_words_are_none(self):
        for word in KEPT:
            self.wrong(word)

    def test_the_word_name_is_one(self):
        self.right("name")

    def test_words_of_the_language_that_are_not_kept(self):
        for word in ("top", "gate", "is", "none", "read", "width", "alike", "drop", "two"):
            self.right(word)

    def test_each_letter_alone(self):
        for letter in LETTERS:
            self.right(letter)

    def test_lengths(self):
        self.wrong("")
        for many in range(1, 7):
            self.right("z" * many)
        for many in (7, 8, 12, 8000):
            self.wrong("z" * many)

    def test_kept_words_with_a_letter_more(self):
        for word in KEPT:
            for near in ("q" + word, word + "q"):
                self.assertIs(is_name(near), True, near)

    def test_kept_words_with_a_letter_fewer(self):
        for word in KEPT:
            for near in (word[1:], word[:-1]):
                self.assertIs(is_name(near), near not in KEPT and near != "", near)

    def test_kept_words_with_a_letter_exchanged(self):
        for word in KEPT:
            for k in range(len(word)):
                for letter in "aqz":
                    near = word[:k] + letter + word[k + 1:]
                    self.assertIs(is_name(near), near not in KEPT, near)

    def test_kept_words_in_great_letters(self):
        for word in KEPT:
            self.wrong(word.upper())
            self.wrong(word.title())

    def test_other_signs_at_each_spot(self):
        for sign in "A Z0159.\n\t_-'(`{~!@[" + "\r\x0b\x0c":
            for name in (sign, sign + "abc", "ab" + sign + "c", "abc" + sign, sign + sign):
                self.wrong(name)

    def test_letters_of_other_alphabets(self):
        for sign in ("\xe4", "\xe9", "\u0430", "\u0131", "\uff41", "\xaa"):
            self.wrong(sign)
            self.wrong("a" + sign)

    def test_things_that_are_no_texts(self):
        for thing in (None, True, False, 0, 1, -3, 10 ** 39, (), ("a",), [], ["a"], {}, {"a": 1},
                      (("a",),), [["a"]], b"a", b""):
            self.wrong(thing)

    def test_a_deep_thing(self):
        thing = "a"
        for _ in range(30):
            thing = [thing]
        self.wrong(thing)

    def test_what_is_handed_in_stays(self):
        thing = ["a", {"b": ["c"]}]
        is_name(thing)
        self.assertEqual(thing, ["a", {"b": ["c"]}])


if __name__ == "__main__":
    unittest.main()
