"""search, way and reach."""

import unittest

from tests.calls import ask, ask_loaded, reach, search, step, way

GROWING = "letters a; move a -> aa; start a;"
THREE_HUNDRED = "letters abc; move ac -> ba; move bc -> ac; move a -> c; start cbaababc; goal cccccccc;"
ONE_MORE = "letters ab; move ba -> a; move a -> bb; move ab -> ba; start abababbb;"
ALL_WORDS = "letters ab; move . -> a; move . -> b; start .; goal bbbb;"


def all_from(start, moves):
    """All words that come from the start by moves that stand anywhere, however many."""
    found = {start}
    remaining = [start]
    while remaining:
        word = remaining.pop()
        for left, right in moves:
            given = {word[:at] + right + word[at + len(left):] for at in range(len(word)) if word.startswith(left, at)}
            remaining.extend(given - found)
            found |= given
    return found


class Outcomes(unittest.TestCase):
    def test_closed(self):
        self.assertEqual(ask_loaded("letters ab; move ab -> ba; start aabb;", search(4)), [[0, 6, 1, 1, 2, 1, 1]])
        self.assertEqual(ask_loaded("letters ab; start ab;", search(2), search(12)), [[0, 1, 1]] * 2)
        self.assertEqual(ask_loaded("letters ab; move a -> a; move . -> .; start a;", search(1)), [[0, 1, 1]])

    def test_open_by_a_word_longer_than_the_length(self):
        self.assertEqual(ask_loaded(GROWING, search(1), search(3)), [[1, 1, 1], [1, 3, 1, 1, 1]])

    def test_open_by_a_word_of_more_than_twelve_letters(self):
        self.assertEqual(ask_loaded(GROWING, search(11), search(12)), [[1, 11] + [1] * 11, [1, 12] + [1] * 12])
        self.assertEqual(ask_loaded("letters ab; move ^a$ -> bbbbbbbbbbbb; move b$ -> aa; start a;", search(12)),
                         [[1, 2, 1, 1]])
        self.assertEqual(ask_loaded("letters a; move ^a -> aaaaaaaaaaaa; start aa;", search(2), search(12)),
                         [[1, 1, 1]] * 2)

    def test_move_that_stands_nowhere_leaves_the_search_closed(self):
        text = "letters ab; move b -> aaaaaaaaaaaa; move ^aa$ -> aaaaaaaaaaaa; move b$ -> bb; start aaa;"
        self.assertEqual(ask_loaded(text, search(3), search(12)), [[0, 1, 1]] * 2)

    def test_shorter_words_are_found_within_the_length(self):
        self.assertEqual(ask_loaded("letters ab; move ab -> .; start aabb;", search(4)), [[0, 3, 1, 1, 1]])

    def test_length_zero(self):
        self.assertEqual(ask_loaded("letters a; start .;", search(0)), [[0, 1, 1]])
        self.assertEqual(ask_loaded("letters a; move . -> a; start .;", search(0)), [[1, 1, 1]])
        self.assertEqual(ask_loaded("letters a; start a;", search(0)), [[1, 0]])

    def test_start_longer_than_the_length(self):
        text = "letters ab; move ab -> .; start abab; goal .;"
        self.assertEqual(ask_loaded(text, search(3), way(3), reach(3, "abab"), reach(3, "")), [[1, 0], [2], [2], [2]])
        self.assertEqual(ask_loaded(text, search(4), way(4)), [[0, 3, 1, 1, 1], [0, 2, 0, 0, 0, 0]])

    def test_broken_off(self):
        self.assertEqual(ask_loaded(ALL_WORDS, search(12)), [[2, 300, 1, 2, 4, 8, 16, 32, 64, 128, 45]])
        self.assertEqual(ask_loaded(ALL_WORDS, search(7)), [[1, 255, 1, 2, 4, 8, 16, 32, 64, 128]])
        self.assertEqual(ask_loaded(ALL_WORDS, search(8)), [[2, 300, 1, 2, 4, 8, 16, 32, 64, 128, 45]])

    def test_three_hundred_words_are_not_too_many(self):
        words = all_from("cbaababc", (("ac", "ba"), ("bc", "ac"), ("a", "c")))
        self.assertEqual((len(words), max(len(word) for word in words)), (300, 8))
        answer = ask_loaded(THREE_HUNDRED, search(12))[0]
        self.assertEqual(answer[:2], [0, 300])
        self.assertEqual(sum(answer[2:]), 300)

    def test_one_more_is(self):
        words = all_from("abababbb", (("ba", "a"), ("a", "bb"), ("ab", "ba")))
        self.assertLessEqual(max(len(word) for word in words), 12)
        self.assertEqual(len(words), 301)
        answer = ask_loaded(ONE_MORE, search(12))[0]
        self.assertEqual(answer[:2], [2, 300])
        self.assertEqual(sum(answer[2:]), 300)

    def test_levels_are_the_fewest_moves(self):
        text = "letters abc; move a -> b; move b -> c; move aa -> cc; start aa;"
        self.assertEqual(ask_loaded(text, search(2)), [[0, 9, 1, 3, 3, 2]])


class Ways(unittest.TestCase):
    def test_start_itself(self):
        self.assertEqual(ask_loaded("letters ab; move a -> a; start ab; goal ab;", way(2), reach(2, "ab"), way(12)),
                         [[0, 0]] * 3)
        self.assertEqual(ask_loaded("letters ab; start .; goal .;", way(0), reach(0, "")), [[0, 0]] * 2)

    def test_first_move_and_first_place(self):
        text = "letters ab; move aaa -> a; move aa -> a; move ^aa -> a; start aaaa; goal aaa;"
        self.assertEqual(ask_loaded(text, way(4), reach(4, "aa"), reach(4, "a")),
                         [[0, 1, 1, 0], [0, 1, 0, 0], [0, 2, 0, 0, 1, 0]])

    def test_shortest_way_though_told_later(self):
        text = "letters ab; move a -> b; move aa -> bb; start aa; goal bb;"
        self.assertEqual(ask_loaded(text, way(2)), [[0, 1, 1, 0]])

    def test_way_from_the_first_word_found(self):
        text = "letters abc; move ^a -> b; move b$ -> c; move a$ -> c; start aa; goal bc;"
        self.assertEqual(ask_loaded(text, way(2)), [[0, 2, 0, 0, 2, 1]])

    def test_ways_lead_there(self):
        text = "letters abc; move ab -> cb; move c -> ba; move bb -> .; start aabc; goal .;"
        word = "aabc"
        for target in ("acbc", "aabba", "aaa", "ababc", "cbabc"):
            answer = ask_loaded(text, reach(6, target))[0]
            self.assertEqual(answer[0], 0, target)
            self.assertEqual(len(answer), 2 + 2 * answer[1])
            reached = list(word.encode())
            for at in range(2, len(answer), 2):
                given = ask_loaded(text, step(answer[at], answer[at + 1], reached))[0]
                self.assertEqual(given[0], 0)
                reached = given[1:]
            self.assertEqual(bytes(reached).decode(), target)

    def test_not_found_and_closed(self):
        text = "letters ab; move ab -> ba; start ab; goal bb;"
        self.assertEqual(ask_loaded(text, way(2), reach(2, "aa"), reach(2, "abab")), [[1], [1], [1]])

    def test_not_found_and_not_closed(self):
        self.assertEqual(ask_loaded(GROWING + "goal .;", way(3), reach(3, "aaaa"), reach(12, "")), [[2], [2], [2]])

    def test_found_in_an_open_search(self):
        self.assertEqual(ask_loaded(GROWING + "goal aaa;", way(3), way(2)), [[0, 2, 0, 0, 0, 0], [2]])

    def test_broken_off(self):
        given = ask_loaded(ALL_WORDS, way(12), reach(12, "bbbbbbbbb"), reach(8, "bbbbbbbb"), reach(8, "aaaaaaaa"))
        self.assertEqual(given[0], [0, 4] + [1, 0] * 4)
        self.assertEqual(given[1:3], [[2], [2]])
        self.assertEqual(given[3], [0, 8] + [0, 0] * 8)

    def test_last_of_three_hundred(self):
        self.assertEqual(ask_loaded(THREE_HUNDRED, way(12))[0][0], 0)
        self.assertEqual(ask_loaded(THREE_HUNDRED, reach(12, "a")), [[1]])
        self.assertEqual(ask_loaded(ONE_MORE, reach(12, "")), [[2]])


class Refusals(unittest.TestCase):
    def test_length(self):
        for length in (-1, 13, 10 ** 18, -10 ** 18):
            given = ask_loaded(GROWING + "goal a;", search(length), way(length), reach(length, "a"))
            self.assertEqual(given, [[-7]] * 3)

    def test_farthest_lengths(self):
        for length in (0, 12):
            given = ask_loaded("letters a; start .; goal .;", search(length), way(length), reach(length, ""))
            self.assertEqual(given, [[0, 1, 1], [0, 0], [0, 0]])

    def test_no_start(self):
        self.assertEqual(ask_loaded("letters a; goal a;", search(1), way(1), reach(1, "a")), [[-6]] * 3)

    def test_no_goal(self):
        self.assertEqual(ask_loaded("letters a; start a;", way(1), search(1), reach(1, "a")),
                         [[-8], [0, 1, 1], [0, 0]])

    def test_no_word(self):
        self.assertEqual(ask_loaded("letters a; start a;", reach(1, "b"), reach(12, "a" * 13), reach(1, [-1])),
                         [[-12]] * 3)

    def test_length_before_start(self):
        self.assertEqual(ask_loaded("letters a; goal a;", search(13), way(-1), reach(13, "a")), [[-7]] * 3)

    def test_goal_before_length_and_start(self):
        self.assertEqual(ask_loaded("letters a;", way(13), way(1)), [[-8]] * 2)
        self.assertEqual(ask_loaded("letters a; start a;", way(13)), [[-8]])

    def test_word_before_length_and_start(self):
        self.assertEqual(ask_loaded("letters a; start a;", reach(13, "b")), [[-12]])
        self.assertEqual(ask_loaded("letters a;", reach(13, "b"), reach(1, "b")), [[-12]] * 2)
        self.assertEqual(ask(reach(13, "a"), reach(13, ""), reach(12, "")), [[-12], [-7], [-6]])


if __name__ == "__main__":
    unittest.main()
