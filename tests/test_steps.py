"""step and steps: where moves can be made, and what they give."""

import unittest

from tests.calls import ask, ask_loaded, bytes_of, counted, step, steps

FULL = "a" * 12


def placed(move, letters="abc"):
    return f"letters {letters}; move {move};"


class Step(unittest.TestCase):
    def places(self, move, word):
        """What the move gives of the word, by the place, as step tells it for places within and beyond."""
        found = {}
        for place in range(-3, 16):
            answer = ask_loaded(placed(move), step(0, place, word))[0]
            if answer[0] == 0:
                found[place] = bytes(answer[1:]).decode()
            else:
                self.assertEqual(answer, [1])
        return found

    def test_anywhere(self):
        self.assertEqual(self.places("ab -> c", "abab"), {0: "cab", 2: "abc"})
        self.assertEqual(self.places("aa -> b", "aaa"), {0: "ba", 1: "ab"})
        self.assertEqual(self.places("ab -> c", "ba"), {})
        self.assertEqual(self.places("ab -> c", "a"), {})
        self.assertEqual(self.places("ab -> c", ""), {})
        self.assertEqual(self.places("ab -> ab", "ab"), {0: "ab"})

    def test_beginning(self):
        self.assertEqual(self.places("^a -> bb", "aba"), {0: "bbba"})
        self.assertEqual(self.places("^a -> b", "ba"), {})
        self.assertEqual(self.places("^. -> c", "ab"), {0: "cab"})
        self.assertEqual(self.places("^aab -> c", "aa"), {})

    def test_end(self):
        self.assertEqual(self.places("a$ -> bb", "aba"), {2: "abbb"})
        self.assertEqual(self.places("a$ -> b", "ab"), {})
        self.assertEqual(self.places(".$ -> c", "ab"), {2: "abc"})
        self.assertEqual(self.places("baa$ -> c", "aa"), {})

    def test_beginning_and_end(self):
        self.assertEqual(self.places("^ab$ -> c", "ab"), {0: "c"})
        self.assertEqual(self.places("^a$ -> c", "aa"), {})
        self.assertEqual(self.places("^aa$ -> c", "a"), {})
        self.assertEqual(self.places("^.$ -> ab", ""), {0: "ab"})
        self.assertEqual(self.places("^.$ -> ab", "a"), {})

    def test_empty_left_word(self):
        self.assertEqual(self.places(". -> c", "ab"), {0: "cab", 1: "acb", 2: "abc"})
        self.assertEqual(self.places(". -> c", ""), {0: "c"})
        self.assertEqual(self.places(". -> .", "a"), {0: "a", 1: "a"})

    def test_empty_right_word(self):
        self.assertEqual(self.places("a -> .", "aba"), {0: "ba", 2: "ab"})
        self.assertEqual(self.places("ab -> .", "ab"), {0: ""})

    def test_at_most_twelve_letters(self):
        self.assertEqual(self.places("b -> cc", FULL[1:] + "b"), {})
        self.assertEqual(self.places("b -> cc", FULL[2:] + "b"), {10: FULL[2:] + "cc"})
        self.assertEqual(self.places("b -> c", FULL[1:] + "b"), {11: FULL[1:] + "c"})
        self.assertEqual(self.places(". -> b", FULL), {})
        self.assertEqual(self.places(".$ -> b", FULL[1:]), {11: FULL[1:] + "b"})
        self.assertEqual(self.places(f"^aa$ -> {FULL}", "aa"), {0: FULL})
        self.assertEqual(self.places(f"a -> {FULL}", "aa"), {})

    def test_second_move(self):
        self.assertEqual(ask_loaded("letters ab; move a -> b; move b -> a;", step(1, 1, "ab")), [[0] + bytes_of("aa")])

    def test_refusals(self):
        given = ask_loaded(placed("a -> b"), step(0, 0, "d"), step(0, 0, "aad"), step(0, 0, FULL + "a"),
                           step(1, 0, "a"), step(-1, 0, "a"))
        self.assertEqual(given, [[-12], [-12], [-12], [-3], [-3]])

    def test_word_is_refused_before_the_move(self):
        given = ask_loaded(placed("a -> b"), step(1, 0, "d"), step(-1, -1, FULL + "a"), step(9, 99, [-1]))
        self.assertEqual(given, [[-12], [-12], [-12]])

    def test_signs_are_no_letters(self):
        given = ask_loaded(placed("a -> b"), step(0, 0, "."), step(0, 0, "a "), step(0, 0, "A"), step(0, 0, [0]))
        self.assertEqual(given, [[-12]] * 4)

    def test_no_moves(self):
        self.assertEqual(ask_loaded("letters ab;", step(0, 0, "a")), [[-3]])


class Steps(unittest.TestCase):
    def told(self, text, word):
        answer = ask_loaded(text, steps(word))[0]
        self.assertEqual(answer[0], 0)
        return answer[1:]

    def test_order(self):
        text = "letters ab; move b -> .; move . -> a; move ab -> bba;"
        self.assertEqual(
            self.told(text, "ab"),
            [5] + [0, 1] + counted("a") + [1, 0] + counted("aab") + [1, 1] + counted("aab") + [1, 2] + counted("aba")
            + [2, 0] + counted("bba"),
        )

    def test_where_moves_stand(self):
        text = "letters ab; move ^a -> b; move a$ -> b; move ^a$ -> b; move a -> b;"
        self.assertEqual(
            self.told(text, "aa"),
            [4] + [0, 0] + counted("ba") + [1, 1] + counted("ab") + [3, 0] + counted("ba") + [3, 1] + counted("ab"),
        )
        self.assertEqual(
            self.told(text, "a"),
            [4] + [0, 0] + counted("b") + [1, 0] + counted("b") + [2, 0] + counted("b") + [3, 0] + counted("b"),
        )

    def test_empty_words(self):
        text = "letters a; move . -> .; move ^. -> a; move .$ -> .; move ^.$ -> aa; move a -> .;"
        self.assertEqual(
            self.told(text, ""),
            [4] + [0, 0, 0] + [1, 0] + counted("a") + [2, 0, 0] + [3, 0] + counted("aa"),
        )
        self.assertEqual(
            self.told(text, "a"),
            [5] + [0, 0] + counted("a") + [0, 1] + counted("a") + [1, 0] + counted("aa") + [2, 1] + counted("a")
            + [4, 0, 0],
        )

    def test_words_that_would_be_too_long(self):
        text = "letters ab; move a -> aa; move a -> b; move ^aa -> b;"
        told = self.told(text, FULL)
        self.assertEqual(told[0], 13)
        self.assertEqual(told[1:4], [1, 0, 12])
        self.assertEqual(told[-14:], [2, 0] + counted("b" + "a" * 10)[:12])

    def test_none(self):
        self.assertEqual(self.told("letters ab; move ab -> ba;", "ba"), [0])
        self.assertEqual(self.told("letters ab;", "ba"), [0])

    def test_refusals(self):
        given = ask_loaded(placed("a -> b"), steps("d"), steps(FULL + "a"), steps(FULL[1:] + "d"), steps([256]))
        self.assertEqual(given, [[-12]] * 4)
        self.assertEqual(ask(steps("a"), steps("")), [[-12], [0, 0]])

    def test_twelve_letters_are_taken(self):
        self.assertEqual(self.told("letters ab; move b -> a;", FULL), [0])


if __name__ == "__main__":
    unittest.main()
