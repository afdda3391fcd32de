"""unique, normal and same."""

import itertools
import unittest

from tests.calls import ask, ask_loaded, down, normal, same, told, unique

HUGE = 10 ** 18
PAIRS = "letters ab; move aa -> .; move bb -> .;"
# The turns of three points, by two swaps.
SIX = "letters ab; move aa -> .; move bb -> .; move aba -> bab;"
NOT_UNIQUE = "letters ab; move aa -> b;"
NONE_GO_DOWN = "letters ab; move ab -> ba;"
BOUND = ("letters ab; move ^aa -> .;", "letters ab; move aa$ -> .;", "letters ab; move ^aa$ -> .;",
         "letters ab; move bb -> .; move aa$ -> .;", "letters ab; move ab -> ba; move ^a -> .;")


def ends(text):
    return ask_loaded(text, unique())[0]


def normal_of(text, word):
    return ask_loaded(text, normal(word))[0]


def same_of(text, word, other):
    return ask_loaded(text, same(word, other))[0]


class Unique(unittest.TestCase):
    def test_ends_that_are_unique(self):
        self.assertEqual(ends(PAIRS), [0])
        self.assertEqual(ends(SIX), [0])
        self.assertEqual(ends("letters ab; move ab -> .; move ba -> .;"), [0])
        self.assertEqual(ends("letters a; move aa -> a; move aaa -> a;"), [0])

    def test_no_moves(self):
        self.assertEqual(ends("letters abcd;"), [0])
        self.assertEqual(ask(unique()), [[0]])

    def test_moves_that_do_not_meet(self):
        self.assertEqual(ends("letters abc; move ab -> c;"), [0])
        self.assertEqual(ends("letters abcd; move ab -> .; move cd -> a;"), [0])

    def test_move_meets_itself(self):
        self.assertEqual(ends(NOT_UNIQUE), [1, 0, 0] + told("aaa", "ba", "ab"))
        self.assertEqual(ends("letters abc; move aba -> c;"), [1, 0, 0] + told("ababa", "cba", "abc"))

    def test_move_does_not_meet_itself_at_the_beginning(self):
        self.assertEqual(ends("letters ab; move a -> b;"), [0])

    def test_overlap(self):
        self.assertEqual(ends("letters abc; move ab -> c; move bc -> a;"), [1, 0, 1] + told("abc", "cc", "aa"))
        self.assertEqual(ends("letters abc; move bc -> a; move ab -> c;"), [1, 1, 0] + told("abc", "cc", "aa"))

    def test_within(self):
        self.assertEqual(ends("letters abc; move abc -> a; move b -> .;"), [1, 0, 1] + told("abc", "a", "ac"))
        self.assertEqual(ends("letters abc; move b -> .; move abc -> a;"), [1, 1, 0] + told("abc", "a", "ac"))

    def test_within_at_the_beginning_and_the_end(self):
        self.assertEqual(ends("letters abc; move abc -> .; move ab -> .;"), [1, 0, 1] + told("abc", "", "c"))
        self.assertEqual(ends("letters abc; move abc -> .; move bc -> .;"), [1, 0, 1] + told("abc", "", "a"))

    def test_same_left_word(self):
        self.assertEqual(ends("letters abc; move a -> b; move a -> c;"), [1, 0, 1] + told("a", "b", "c"))
        self.assertEqual(ends("letters abc; move a -> b; move a -> b;"), [0])

    def test_empty_right_words(self):
        self.assertEqual(ends("letters ab; move ab -> .; move b -> .;"), [1, 0, 1] + told("ab", "", "a"))
        self.assertEqual(ends("letters ab; move ab -> .; move b -> .; move a -> .;"), [0])

    def test_normal_words_come_of_all_first_steps(self):
        text = "letters abcd; move ab -> c; move b -> d; move c -> d; move ad -> dd;"
        self.assertEqual(ends(text), [1, 0, 1] + told("ab", "d", "dd"))
        self.assertEqual(ends(text.replace("dd;", "d;")), [0])

    def test_within_comes_before_overlap(self):
        self.assertEqual(ends("letters abc; move abcb -> .; move bc -> .;"), [1, 0, 1] + told("abcb", "", "ab"))

    def test_places_rise(self):
        self.assertEqual(ends("letters abcd; move cababa -> .; move aba -> d;"),
                         [1, 0, 1] + told("cababa", "", "cdba"))

    def test_overlaps_rise(self):
        self.assertEqual(ends("letters ab; move aaa -> b;"), [1, 0, 0] + told("aaaaa", "baa", "aab"))

    def test_overlaps_are_shorter_than_both_left_words(self):
        self.assertEqual(ends("letters abc; move ab -> a; move b -> .;"), [0])
        self.assertEqual(ends("letters ab; move a -> b; move aa -> bb;"), [0])

    def test_order_of_moves(self):
        text = "letters abcd; move d -> .; move ab -> c; move bc -> a; move aa -> .;"
        self.assertEqual(ends(text), [1, 1, 2] + told("abc", "cc", ""))
        moved = "letters abcd; move d -> .; move bc -> a; move aa -> .; move ab -> c;"
        self.assertEqual(ends(moved), [1, 2, 3] + told("aab", "b", "ac"))

    def test_longest_words(self):
        a = "a" * 12
        self.assertEqual(ends(f"letters ab; move {a} -> {'a' * 11};"), [0])
        self.assertEqual(ends(f"letters ab; move {a} -> {'b' * 12};"),
                         [1, 0, 0] + told("a" * 23, "b" * 12 + "a" * 11, "a" * 11 + "b" * 12))

    def test_normal_words_that_are_longer_than_twelve(self):
        text = f"letters ab; move aa -> .; move a -> {'b' * 12};"
        self.assertEqual(ends(text), [1, 0, 1] + told("aa", "", "b" * 24))

    def test_none_go_down(self):
        self.assertEqual(ends(NONE_GO_DOWN), [2])
        self.assertEqual(ends("letters a; move . -> .;"), [2])
        self.assertEqual(ends("letters ab; move a -> bbb; move b -> .;"), [2])

    def test_move_that_does_not_stand_anywhere(self):
        for text in BOUND:
            self.assertEqual(ends(text), [-9], text)


class Normal(unittest.TestCase):
    def test_example(self):
        self.assertEqual(normal_of(PAIRS, "abba"), [0, 2, 0])

    def test_word_that_is_normal(self):
        self.assertEqual(normal_of(PAIRS, "abab"), [0, 0] + told("abab"))
        self.assertEqual(normal_of(PAIRS, ""), [0, 0, 0])
        self.assertEqual(normal_of("letters ab;", "ab" * 6), [0, 0] + told("ab" * 6))

    def test_each_length(self):
        for length in range(13):
            self.assertEqual(normal_of(PAIRS, "a" * length), [0, length // 2] + told("a" * (length % 2)))

    def test_first_move_comes_before_first_place(self):
        self.assertEqual(normal_of("letters abc; move bc -> a; move ab -> c;", "abc"), [0, 1] + told("aa"))
        self.assertEqual(normal_of("letters abc; move ab -> c; move bc -> a;", "abc"), [0, 1] + told("cc"))

    def test_first_place(self):
        self.assertEqual(normal_of("letters ab; move aba -> b;", "ababa"), [0, 1] + told("bba"))
        self.assertEqual(normal_of("letters ab; move aa -> b;", "baaa"), [0, 1] + told("bba"))

    def test_first_move_is_tried_first_at_each_step(self):
        self.assertEqual(normal_of("letters abc; move cc -> .; move a -> c; move b -> a;", "bcb"), [0, 5] + told("c"))

    def test_how_many_first_steps(self):
        chain = "letters abcd; move a -> b; move b -> c; move c -> d;"
        self.assertEqual(normal_of(chain, "a"), [0, 3] + told("d"))
        self.assertEqual(normal_of(chain, "abcd"), [0, 6] + told("dddd"))
        self.assertEqual(normal_of(chain, "a" * 12), [0, 36] + told("d" * 12))

    def test_words_that_become_longer_than_twelve(self):
        text = f"letters ab; move a -> {'b' * 12};"
        self.assertEqual(normal_of(text, "a" * 12), [0, 12] + told("b" * 144))
        self.assertEqual(normal_of(text, "ab"), [0, 1] + told("b" * 13))

    def test_longer_than_twelve_on_the_way_alone(self):
        text = f"letters ab; move aaaa -> {'b' * 11}; move b -> .;"
        self.assertEqual(normal_of(text, "a" * 12), [0, 36, 0])
        self.assertEqual(normal_of(text, "aaaaab"), [0, 13] + told("a"))

    def test_ends_need_not_be_unique(self):
        self.assertEqual(normal_of(NOT_UNIQUE, "aaa"), [0, 1] + told("ba"))

    def test_no_letters(self):
        self.assertEqual(ask(normal(""), normal("a")), [[0, 0, 0], [-12]])

    def test_none_go_down(self):
        self.assertEqual(normal_of(NONE_GO_DOWN, "b"), [2])
        self.assertEqual(normal_of("letters a; move . -> a;", ""), [2])

    def test_move_that_does_not_stand_anywhere(self):
        for text in BOUND:
            self.assertEqual(normal_of(text, "b"), [-9], text)

    def test_no_word(self):
        for word in ("c", "abc", "a" * 13, "A", [-1], [0], [97, HUGE], [-HUGE], [97] * 5000):
            self.assertEqual(normal_of(PAIRS, word), [-12], word[:13])
            self.assertEqual(normal_of(NONE_GO_DOWN, word), [-12], word[:13])
            for text in BOUND:
                self.assertEqual(normal_of(text, word), [-12], word[:13])


class Same(unittest.TestCase):
    def test_same(self):
        self.assertEqual(same_of(PAIRS, "ab", "ab"), [1])
        self.assertEqual(same_of(PAIRS, "abba", ""), [1])
        self.assertEqual(same_of(SIX, "aba", "bab"), [1])
        self.assertEqual(same_of(SIX, "ab" * 6, ""), [1])
        self.assertEqual(same_of("letters ab;", "", ""), [1])

    def test_not_same(self):
        self.assertEqual(same_of(PAIRS, "ab", "ba"), [0])
        self.assertEqual(same_of(SIX, "ab", "ba"), [0])
        self.assertEqual(same_of("letters ab;", "a", ""), [0])

    def test_longer_than_twelve_on_the_way(self):
        text = f"letters ab; move a -> {'b' * 12};"
        self.assertEqual(same_of(text, "aabb", "bbaa"), [1])
        self.assertEqual(same_of(text, "a" * 12, "a" * 11 + "b"), [0])

    def test_ends_that_are_not_unique(self):
        self.assertEqual(same_of(NOT_UNIQUE, "ab", "ba"), [3])
        self.assertEqual(same_of(NOT_UNIQUE, "b", "b"), [3])
        self.assertEqual(same_of(NOT_UNIQUE, "aa", "b"), [3])

    def test_none_go_down(self):
        self.assertEqual(same_of(NONE_GO_DOWN, "a", "a"), [2])

    def test_move_that_does_not_stand_anywhere(self):
        for text in BOUND:
            self.assertEqual(same_of(text, "a", "a"), [-9], text)

    def test_no_word(self):
        for text in (PAIRS, NOT_UNIQUE, NONE_GO_DOWN) + BOUND:
            for word in ("c", "a" * 13, [-1], [HUGE], [97] * 5000):
                self.assertEqual(same_of(text, word, "a"), [-12], text)
                self.assertEqual(same_of(text, "a", word), [-12], text)
                self.assertEqual(same_of(text, word, word), [-12], text)

    def test_no_letters(self):
        self.assertEqual(ask(same("", ""), same("a", ""), same("", "a")), [[1], [-12], [-12]])


class ByTheirWords(unittest.TestCase):
    """All three calls against meetings and first steps, gone through as the words say."""

    words = ("a", "b", "aa", "ab", "ba", "bb", "aba", "bab", "aab", "bba")
    rights = ("", "a", "b", "ba")

    def systems(self):
        for lefts in itertools.product(self.words, repeat=2):
            for rights in itertools.product(self.rights, repeat=2):
                yield list(zip(lefts, rights))

    def steps(self, moves, word):
        count = 0
        while True:
            standing = [(left, right) for left, right in moves if left in word]
            if not standing:
                return count, word
            word = word.replace(*standing[0], 1)
            count += 1

    def meetings(self, moves):
        for (i, (left, right)), (j, (other, instead)) in itertools.product(enumerate(moves), repeat=2):
            for place in range(len(left)):
                if left.startswith(other, place) and (i != j or place != 0):
                    yield i, j, left, right, left[:place] + instead + left[place + len(other):]
            for shared in range(1, min(len(left), len(other))):
                if left[-shared:] == other[:shared]:
                    rest = other[shared:]
                    yield i, j, left + rest, right + rest, left[:-shared] + instead

    def expected(self, moves):
        for i, j, word, first, second in self.meetings(moves):
            ends_of_both = [self.steps(moves, first)[1], self.steps(moves, second)[1]]
            if ends_of_both[0] != ends_of_both[1]:
                return [1, i, j] + told(word, *ends_of_both)
        return [0]

    def test_all(self):
        outcomes = []
        for moves in self.systems():
            text = "letters ab; " + "".join(f"move {left} -> {right or '.'}; " for left, right in moves)
            given = ask_loaded(text, down(), unique(), normal("abbabaaab"), same("abab", "baab"))
            if given[0] == [1]:
                self.assertEqual(given[1:], [[2], [2], [2]], text)
                continue
            self.assertEqual(given[1], self.expected(moves), text)
            count, word = self.steps(moves, "abbabaaab")
            self.assertEqual(given[2], [0, count] + told(word), text)
            alike = self.steps(moves, "abab")[1] == self.steps(moves, "baab")[1]
            self.assertEqual(given[3], [3] if given[1] != [0] else [int(alike)], text)
            outcomes.append(given[3][0])
        self.assertEqual(sorted(set(outcomes)), [0, 1, 3])


if __name__ == "__main__":
    unittest.main()
