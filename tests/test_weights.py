"""weights, parted and down."""

import itertools
import math
import unittest

from tests.calls import ask, ask_loaded, down, parted, weights


def basis_of(text):
    answer = ask_loaded(text, weights())[0]
    if answer[0] != 0:
        raise AssertionError(answer)
    rows = answer[2:]
    if answer[1] == 0:
        return rows
    width = len(rows) // answer[1]
    return [rows[at:at + width] for at in range(0, len(rows), width)]


def parted_by(text):
    return ask_loaded(text, parted())[0]


def going_down(text):
    return ask_loaded(text, down())[0]


class Basis(unittest.TestCase):
    def test_no_letters(self):
        self.assertEqual(ask(weights()), [[0, 0]])

    def test_no_moves(self):
        self.assertEqual(ask_loaded("letters ba;", weights()), [[0, 2, 1, 0, 0, 1]])
        self.assertEqual(basis_of("letters abcd;"), [[1, 0, 0, 0], [0, 1, 0, 0], [0, 0, 1, 0], [0, 0, 0, 1]])

    def test_moves_that_keep_all_letters(self):
        self.assertEqual(basis_of("letters ab; move ab -> ba; move . -> .;"), [[1, 0], [0, 1]])

    def test_no_free_letter(self):
        self.assertEqual(ask_loaded("letters ab; move a -> .; move ab -> .;", weights()), [[0, 0]])
        self.assertEqual(basis_of("letters a; move a -> aa;"), [])

    def test_letters_of_one_weight(self):
        self.assertEqual(basis_of("letters ab; move a -> b;"), [[1, 1]])
        self.assertEqual(basis_of("letters abcd; move a -> b; move c -> d;"), [[1, 1, 0, 0], [0, 0, 1, 1]])

    def test_weights_below_zero(self):
        self.assertEqual(basis_of("letters ab; move ab -> .;"), [[-1, 1]])
        self.assertEqual(basis_of("letters abc; move aab -> c;"), [[-1, 2, 0], [1, 0, 2]])

    def test_no_number_divides_all(self):
        self.assertEqual(basis_of("letters ab; move aaaa -> bb;"), [[1, 2]])
        self.assertEqual(basis_of("letters ab; move aaaaaa -> bbbb;"), [[2, 3]])
        self.assertEqual(basis_of("letters abc; move aa -> b; move bbb -> cc;"), [[1, 2, 3]])

    def test_free_letter_ahead_of_one_that_is_not(self):
        self.assertEqual(basis_of("letters abc; move b -> .;"), [[1, 0, 0], [0, 0, 1]])
        self.assertEqual(basis_of("letters abc; move ab -> .; move c -> .;"), [[-1, 1, 0]])

    def test_order_of_letters(self):
        self.assertEqual(basis_of("letters ba; move aa -> b;"), [[2, 1]])
        self.assertEqual(basis_of("letters ab; move aa -> b;"), [[1, 2]])

    def test_wherever_moves_stand(self):
        self.assertEqual(basis_of("letters abc; move ^a -> b; move ^b$ -> c;"), [[1, 1, 1]])
        self.assertEqual(basis_of("letters ab; move a$ -> .;"), [[0, 1]])

    def test_moves_that_tell_the_same(self):
        text = "letters ab; move aa -> b; move aaaa -> bb; move b -> aa; move aab -> bb; move ab -> ba;"
        self.assertEqual(basis_of(text), [[1, 2]])

    def test_far_apart_numbers(self):
        text = "letters abcd; move aaaaaaaaaaaa -> bbbbbbbbbbb; move bbbbbbbbbbbb -> ccccccccccc;" \
               "move cccccccccccc -> ddddddddddd;"
        self.assertEqual(basis_of(text), [[11 ** 3, 11 ** 2 * 12, 11 * 12 ** 2, 12 ** 3]])

    def test_refuses_nothing(self):
        self.assertEqual(ask_loaded("letters a;", weights()), [[0, 1, 1]])


class BasisByItsWords(unittest.TestCase):
    """The basis against what the words ask, for all systems of three letters and two moves out of some."""

    moves = ("a -> .", "ab -> c", "aa -> b", "bc -> a", "ac -> ca", "b -> cc", "abc -> .", "bb -> aa", "c -> .")

    def differences(self, chosen):
        pairs = [move.split(" -> ") for move in chosen]
        return [[pair[0].count(letter) - pair[1].count(letter) for letter in "abc"] for pair in pairs]

    def test_all(self):
        for chosen in itertools.product(self.moves, repeat=2):
            rows = self.differences(chosen)
            text = "letters abc; " + "".join(f"move {move}; " for move in chosen)
            self.check(basis_of(text), rows, text)

    def check(self, basis, rows, text):
        staying = [candidate for candidate in itertools.product(range(-4, 5), repeat=3) if stays(candidate, rows)]
        last_places = {max(place for place in range(3) if candidate[place] != 0) for candidate in staying
                       if any(candidate)}
        free = sorted(last_places)
        self.assertEqual(len(basis), len(free), text)
        for place, found in zip(free, basis):
            self.assertTrue(stays(found, rows), text)
            self.assertGreater(found[place], 0, text)
            self.assertTrue(all(found[other] == 0 for other in free if other != place), text)
            self.assertEqual(math.gcd(*found), 1, text)


def stays(candidate, rows):
    return all(sum(weight * amount for weight, amount in zip(candidate, row)) == 0 for row in rows)


class Parted(unittest.TestCase):
    def test_by_the_basis(self):
        self.assertEqual(parted_by("letters ab; start a; goal b;"), [0, 0, 1, 0])
        self.assertEqual(parted_by("letters ab; move aa -> b; start ab; goal ba;"), [1])
        self.assertEqual(parted_by("letters ab; move aa -> b; start ab; goal bb;"), [0, 0, 1, 2])

    def test_first_of_the_basis_that_differs(self):
        self.assertEqual(parted_by("letters abc; start ab; goal ac;"), [0, 0, 0, 1, 0])
        self.assertEqual(parted_by("letters abc; start ab; goal abc;"), [0, 0, 0, 0, 1])

    def test_by_weights_below_zero(self):
        self.assertEqual(parted_by("letters ab; move ab -> .; start a; goal .;"), [0, 0, -1, 1])
        self.assertEqual(parted_by("letters ab; move ab -> .; start ab; goal .;"), [1])

    def test_basis_comes_before_rests(self):
        self.assertEqual(parted_by("letters ab; move aa -> .; start ab; goal .;"), [0, 0, 0, 1])

    def test_by_each_rest(self):
        for divisor in (2, 3, 4, 5, 7, 8, 9, 11):
            prime = {4: 2, 8: 2, 9: 3}.get(divisor, divisor)
            start = "a" * (divisor // prime)
            text = f"letters a; move {'a' * divisor} -> .; start {start}; goal .;"
            self.assertEqual(parted_by(text), [0, divisor, 1], text)

    def test_least_divisor(self):
        self.assertEqual(parted_by("letters a; move aaaaaa -> .; start a; goal .;"), [0, 2, 1])
        self.assertEqual(parted_by("letters a; move aaaaaa -> .; start aa; goal .;"), [0, 3, 1])
        self.assertEqual(parted_by("letters a; move aaaaaa -> .; start aaa; goal .;"), [0, 2, 1])
        self.assertEqual(parted_by("letters a; move aaaaaaaaaa -> .; start aa; goal .;"), [0, 5, 1])
        self.assertEqual(parted_by("letters a; move aaaaaaaaaaaa -> .; start aaaa; goal .;"), [0, 3, 1])
        self.assertEqual(parted_by("letters a; move aaaaaaaaaaaa -> .; start aaaaaa; goal .;"), [0, 4, 1])

    def test_first_weights(self):
        pairs = "letters ab; move aa -> .; move bb -> .; "
        self.assertEqual(parted_by(pairs + "start ab; goal .;"), [0, 2, 0, 1])
        self.assertEqual(parted_by(pairs + "start abb; goal .;"), [0, 2, 1, 0])
        self.assertEqual(parted_by("letters ab; move ab -> .; move aaa -> .; start a; goal .;"), [0, 3, 1, 2])
        self.assertEqual(parted_by("letters abc; move aaa -> .; move b -> aa; move c -> b; start c; goal .;"),
                         [0, 3, 1, 2, 2])

    def test_four_letters(self):
        text = "letters abcd; move aaaaaaaaaaa -> .; move b -> aa; move c -> bb; move d -> cc; start d; goal .;"
        self.assertEqual(parted_by(text), [0, 11, 1, 2, 4, 8])

    def test_goal_that_weighs_more(self):
        self.assertEqual(parted_by("letters a; move . -> aaa; start .; goal aa;"), [0, 3, 1])

    def test_not_at_all(self):
        self.assertEqual(parted_by("letters ab; start ab; goal ba;"), [1])
        self.assertEqual(parted_by("letters ab; move ab -> ba; start .; goal .;"), [1])
        self.assertEqual(parted_by("letters ab; move a -> .; move b -> .; start ab; goal .;"), [1])
        self.assertEqual(parted_by("letters ab; move aa -> .; move bb -> .; start abab; goal baba;"), [1])

    def test_divisors_end_at_twelve(self):
        self.assertEqual(parted_by("letters ab; move aaaaaaaaaaaa -> b; move ab -> .; start a; goal .;"), [1])

    def test_wherever_moves_stand(self):
        self.assertEqual(parted_by("letters a; move ^aa$ -> .; start a; goal .;"), [0, 2, 1])

    def test_refusals(self):
        self.assertEqual(parted_by("letters a; goal a;"), [-6])
        self.assertEqual(parted_by("letters a; start a;"), [-8])
        self.assertEqual(parted_by("letters a;"), [-6])
        self.assertEqual(ask(parted()), [[-6]])


class PartedByItsWords(unittest.TestCase):
    """parted against all divisors and weights, gone through as the words say."""

    systems = ("aaaa -> .; move bb -> a", "aaab -> .; move bbb -> .", "ab -> .; move bbbbbb -> .",
               "aaaaaaaaaaaa -> .; move bbbbbbbbbbbb -> .", "aaaaaaaaaa -> bb; move bbbbbb -> .",
               "aaaaaa -> bbbb; move aa -> .", "aabb -> .; move aaaaaa -> bb", "aaaaaaaaa -> .; move bbb -> aaa")

    def expected(self, rows, difference):
        for divisor in range(2, 13):
            for candidate in itertools.product(range(divisor), repeat=2):
                rests = [sum(w * n for w, n in zip(candidate, row)) % divisor for row in rows + [difference]]
                if rests[-1] != 0 and not any(rests[:-1]):
                    return [0, divisor, *candidate]
        return [1]

    def test_all(self):
        for moves in self.systems:
            pairs = [move.split(" -> ") for move in moves.split("; move ")]
            rows = [[pair[0].count(letter) - pair[1].count(letter) for letter in "ab"] for pair in pairs]
            for amounts in itertools.product(range(7), repeat=2):
                start = "a" * amounts[0] + "b" * amounts[1] or "."
                text = f"letters ab; move {moves}; start {start}; goal .;"
                self.assertEqual(parted_by(text), self.expected(rows, list(amounts)), text)


class Down(unittest.TestCase):
    def test_first_weights(self):
        self.assertEqual(going_down("letters ab; move aa -> .; move bb -> .;"), [0, 1, 1])
        self.assertEqual(going_down("letters ab; move a -> b;"), [0, 1, 0])
        self.assertEqual(going_down("letters ab; move b -> a;"), [0, 0, 1])
        self.assertEqual(going_down("letters ba; move b -> a;"), [0, 1, 0])
        self.assertEqual(going_down("letters abc; move abc -> .;"), [0, 0, 0, 1])
        self.assertEqual(going_down("letters abc; move abc -> c;"), [0, 0, 1, 0])

    def test_all_moves_count(self):
        self.assertEqual(going_down("letters ab; move a -> b; move b -> .;"), [0, 2, 1])
        self.assertEqual(going_down("letters abcd; move a -> b; move b -> c; move c -> d;"), [0, 3, 2, 1, 0])

    def test_weights_up_to_three(self):
        self.assertEqual(going_down("letters ab; move a -> bb; move b -> .;"), [0, 3, 1])
        self.assertEqual(going_down("letters ab; move a -> bbb; move b -> .;"), [1])
        self.assertEqual(going_down("letters ab; move aaaa -> bbbbbbbbbbb; move b -> .;"), [0, 3, 1])
        self.assertEqual(going_down("letters abcd; move a -> b; move b -> c; move c -> d; move d -> .;"), [1])

    def test_same_weight_is_not_less(self):
        self.assertEqual(going_down("letters ab; move ab -> ba;"), [1])
        self.assertEqual(going_down("letters ab; move ab -> ba; move aa -> .;"), [1])
        self.assertEqual(going_down("letters ab; move a -> b; move b -> a;"), [1])

    def test_empty_left_word(self):
        self.assertEqual(going_down("letters a; move . -> .;"), [1])
        self.assertEqual(going_down("letters a; move . -> a;"), [1])

    def test_no_moves(self):
        self.assertEqual(going_down("letters a;"), [0, 0])
        self.assertEqual(going_down("letters abcd; start a; goal b;"), [0, 0, 0, 0, 0])
        self.assertEqual(ask(down()), [[0]])

    def test_wherever_moves_stand(self):
        for move in ("^a -> .", "a$ -> .", "^a$ -> ."):
            self.assertEqual(going_down(f"letters ab; move {move};"), [0, 1, 0], move)


class DownByItsWords(unittest.TestCase):
    """down against all weights, gone through as the words say."""

    moves = ("ab -> c", "aa -> b", "bc -> a", "c -> ab", "b -> cc", "abc -> a", "bb -> aa", "c -> .", "ca -> bb")

    def test_all(self):
        for chosen in itertools.product(self.moves, repeat=2):
            pairs = [move.replace(".", "").split(" -> ") for move in chosen]
            expected = [1]
            for candidate in itertools.product(range(4), repeat=3):
                weighed = [[sum(candidate["abc".index(letter)] for letter in word) for word in pair] for pair in pairs]
                if all(left > right for left, right in weighed):
                    expected = [0, *candidate]
                    break
            text = "letters abc; " + "".join(f"move {move}; " for move in chosen)
            self.assertEqual(going_down(text), expected, text)


if __name__ == "__main__":
    unittest.main()
