"""machine and seek."""

import itertools
import unittest

from tests.calls import ask, ask_loaded, machine, seek

HUGE = 10 ** 18
ENDS = "start .; goal aa;"
# The words without two letters a side by side.
NO_AA = [1, 0, 2, 0, 2, 2, 1, 1, 0]


def judged(text, states, numbers):
    return ask_loaded(text, machine(states, numbers))[0]


def sought(text):
    return ask_loaded(text, seek())[0]


class Answers(unittest.TestCase):
    text = "letters ab; move a -> aa; start ab; goal ba;"

    def test_proof(self):
        self.assertEqual(judged(self.text, 2, [0, 1, 0, 0, 0, 1]), [0])

    def test_start_is_not_among_its_words(self):
        self.assertEqual(judged(self.text, 2, [0, 1, 0, 0, 1, 0]), [1])
        self.assertEqual(judged(self.text, 1, [0, 0, 0]), [1])

    def test_move_that_leads_out(self):
        self.assertEqual(judged(self.text, 2, [1, 0, 0, 1, 0, 1]), [2, 0])

    def test_goal_is_among_its_words(self):
        self.assertEqual(judged(self.text, 1, [0, 0, 1]), [3])
        self.assertEqual(judged(self.text, 2, [0, 1, 0, 0, 1, 1]), [3])

    def test_first_move_that_leads_out(self):
        moves = ["move b -> b; ", "move bb -> .; ", "move a -> .; ", "move . -> a; "]
        odd = [1, 0, 0, 1, 0, 1]
        for order in itertools.permutations(moves):
            first = min(order.index(moves[2]), order.index(moves[3]))
            text = "letters ab; " + "".join(order) + "start ab; goal b;"
            self.assertEqual(judged(text, 2, odd), [2, first], text)

    def test_start_comes_before_moves_and_goal(self):
        odd = [1, 0, 0, 1, 0, 1]
        self.assertEqual(judged("letters ab; move a -> .; start b; goal .;", 2, odd), [1])
        self.assertEqual(judged("letters ab; start b; goal a;", 2, odd), [1])

    def test_moves_come_before_goal(self):
        odd = [1, 0, 0, 1, 0, 1]
        self.assertEqual(judged("letters ab; move aa -> .; move a -> .; start a; goal ab;", 2, odd), [2, 1])

    def test_no_moves(self):
        self.assertEqual(judged("letters a; start .; goal a;", 2, [1, 0, 1, 0]), [0])
        self.assertEqual(judged("letters a; start .; goal aa;", 2, [1, 0, 1, 0]), [3])

    def test_four_states(self):
        text = "letters a; move aaaa -> .; start a; goal aa;"
        self.assertEqual(judged(text, 4, [1, 2, 3, 0, 0, 1, 0, 0]), [0])
        self.assertEqual(judged(text, 4, [1, 2, 3, 0, 0, 1, 1, 0]), [3])
        self.assertEqual(judged(text, 4, [1, 2, 3, 3, 0, 1, 0, 0]), [0])
        self.assertEqual(judged(text, 4, [1, 2, 3, 3, 0, 1, 0, 1]), [2, 0])

    def test_four_letters(self):
        text = "letters abcd; move ab -> cd; move dc -> .; start a; goal c;"
        self.assertEqual(judged(text, 2, [0, 1, 0, 1, 1, 1, 1, 1, 1, 0]), [3])
        self.assertEqual(judged(text, 2, [0, 0, 1, 1, 1, 1, 1, 1, 1, 0]), [2, 0])
        self.assertEqual(judged(text, 2, [0, 1, 1, 0, 1, 1, 1, 1, 1, 0]), [0])


class WhereMovesStand(unittest.TestCase):
    def check(self, move, answer):
        self.assertEqual(judged(f"letters ab; move {move}; {ENDS}", 3, NO_AA), answer, move)

    def test_letters_before_count(self):
        self.check("bb -> ab", [2, 0])
        self.check("^bb -> ab", [0])
        self.check("bb$ -> ab", [2, 0])
        self.check("^bb$ -> ab", [0])

    def test_letters_behind_count(self):
        self.check("bb -> ba", [2, 0])
        self.check("^bb -> ba", [2, 0])
        self.check("bb$ -> ba", [0])
        self.check("^bb$ -> ba", [0])

    def test_letters_before_and_behind_count(self):
        self.check("b -> a", [2, 0])
        self.check("^b -> a", [2, 0])
        self.check("b$ -> a", [2, 0])
        self.check("^b$ -> a", [0])

    def test_empty_left_word(self):
        self.check(". -> b", [0])
        self.check(". -> a", [2, 0])
        self.check("^. -> a", [2, 0])
        self.check(".$ -> a", [2, 0])
        self.check("^.$ -> a", [0])
        self.check("^.$ -> aa", [2, 0])

    def test_empty_right_word(self):
        self.check("a -> .", [0])
        self.check("b -> .", [2, 0])
        self.check("^b -> .", [0])
        self.check("b$ -> .", [0])

    def test_left_word_that_none_of_its_words_has(self):
        self.check("aa -> aaa", [0])
        self.check("baab -> aa", [0])

    def test_several_letters_behind(self):
        cycle = [1, 2, 3, 0, 0, 1, 1, 1]
        self.assertEqual(judged("letters a; move ^a -> aa; start a; goal .;", 4, cycle), [2, 0])
        self.assertEqual(judged("letters a; move a$ -> aa; start a; goal .;", 4, cycle), [2, 0])
        self.assertEqual(judged("letters a; move ^a$ -> aa; start a; goal .;", 4, cycle), [0])

    def test_words_longer_than_twelve(self):
        text = "letters a; move ^aaaaaaaaaaaa$ -> aaaaaaaaaaaa; move aaaaaaaaaaaa -> aaaaaaaaaaa; start a; goal .;"
        self.assertEqual(judged(text, 4, [1, 2, 3, 0, 0, 1, 1, 1]), [2, 1])
        tail = "letters a; move ^aaaaaaaaaaaa -> .; start aaa; goal .;"
        self.assertEqual(judged(tail, 4, [1, 2, 3, 3, 0, 0, 0, 1]), [2, 0])

    def test_states_that_no_word_comes_to(self):
        self.assertEqual(judged("letters a; move a -> .; start .; goal a;", 2, [0, 0, 1, 0]), [3])
        self.assertEqual(judged("letters a; move a -> .; start .; goal a;", 2, [1, 0, 1, 0]), [2, 0])
        self.assertEqual(judged("letters a; move aa -> .; start a; goal .;", 4, [1, 0, 3, 0, 0, 1, 1, 0]), [0])


class MachineRefusals(unittest.TestCase):
    text = "letters ab; start a; goal b;"

    def test_no_start_then_no_goal(self):
        for states, numbers in ((2, [0, 1, 0, 0, 0, 1]), (5, []), (2, [7])):
            self.assertEqual(judged("letters ab; goal a;", states, numbers), [-6])
            self.assertEqual(judged("letters ab; start a;", states, numbers), [-8])
            self.assertEqual(judged("letters ab;", states, numbers), [-6])
            self.assertEqual(ask(machine(states, numbers)), [[-6]])

    def test_states_out_of_range(self):
        for states in (0, 5, -1, HUGE, -HUGE):
            self.assertEqual(judged(self.text, states, [0, 0, 1]), [-7], states)
            self.assertEqual(judged(self.text, states, []), [-7], states)
        five = [0, 1] * 5 + [0, 1, 0, 1, 0]
        self.assertEqual(judged(self.text, 5, five), [-7])

    def test_length(self):
        for numbers in ([], [0], [0, 1, 0, 0], [0, 1, 0, 0, 0], [0, 1, 0, 0, 0, 1, 0], [0] * 5000):
            self.assertEqual(judged(self.text, 2, numbers), [-11], numbers[:8])
        self.assertEqual(judged(self.text, 1, [0, 1]), [-11])
        self.assertEqual(judged(self.text, 4, [0] * 11), [-11])
        self.assertEqual(judged(self.text, 4, [0] * 12), [1])
        self.assertEqual(judged(self.text, 4, [0] * 13), [-11])

    def test_next_state(self):
        for place in range(4):
            for number in (-1, 2, HUGE, -HUGE):
                numbers = [0, 1, 0, 0, 0, 1]
                numbers[place] = number
                self.assertEqual(judged(self.text, 2, numbers), [-11], numbers)
        self.assertEqual(judged(self.text, 3, [0, 1, 2, 2, 3, 0, 1, 1, 1]), [-11])
        self.assertEqual(judged(self.text, 1, [0, 1, 1]), [-11])

    def test_number_for_a_state(self):
        for place in (4, 5):
            for number in (-1, 2, HUGE, -HUGE):
                numbers = [0, 1, 0, 0, 0, 1]
                numbers[place] = number
                self.assertEqual(judged(self.text, 2, numbers), [-11], numbers)
        self.assertEqual(judged(self.text, 4, [0, 1] * 4 + [0, 1, 1, 3]), [-11])


class ClosedByItsWords(unittest.TestCase):
    """All machines of two states on two letters, against all words that are long enough to tell."""

    moves = (("a", "b"), ("b", ""), ("", "a"), ("ab", "ba"), ("aa", "b"), ("ba", "ab"), ("b", "bab"))
    words = ["".join(letters) for length in range(7) for letters in itertools.product("ab", repeat=length)]

    def among(self, numbers, word):
        state = 0
        for letter in word:
            state = numbers[2 * state + "ab".index(letter)]
        return numbers[4 + state] == 1

    def leads_out(self, numbers, left, right, beginning, end):
        for word in self.words:
            if not self.among(numbers, word):
                continue
            for place in range(len(word) - len(left) + 1):
                if beginning and place > 0 or end and place + len(left) < len(word):
                    continue
                given = word[:place] + right + word[place + len(left):]
                if word[place:place + len(left)] == left and not self.among(numbers, given):
                    return True
        return False

    def test_all(self):
        machines = [[*states, *goods] for states in itertools.product(range(2), repeat=4)
                    for goods in itertools.product(range(2), repeat=2)]
        for left, right in self.moves:
            for beginning, end in itertools.product(("", "^"), ("", "$")):
                text = f"letters ab; move {beginning}{left or '.'}{end} -> {right or '.'}; start .; goal b;"
                given = ask_loaded(text, *[machine(2, numbers) for numbers in machines[:32]])
                given += ask_loaded(text, *[machine(2, numbers) for numbers in machines[32:]])
                for numbers, answer in zip(machines, given):
                    expected = [1]
                    if self.among(numbers, ""):
                        expected = [3] if self.among(numbers, "b") else [0]
                        if self.leads_out(numbers, left, right, beginning, end):
                            expected = [2, 0]
                    self.assertEqual(answer, expected, (text, numbers))


class Seek(unittest.TestCase):
    def test_two_states(self):
        self.assertEqual(sought("letters ab; move a -> aa; start ab; goal ba;"), [0, 2, 0, 1, 0, 0, 0, 1])
        self.assertEqual(sought("letters a; start .; goal a;"), [0, 2, 1, 0, 1, 0])
        self.assertEqual(sought("letters a; start a; goal .;"), [0, 2, 1, 0, 0, 1])

    def test_three_states(self):
        self.assertEqual(sought("letters a; move aaa -> .; start a; goal .;"), [0, 3, 1, 2, 0, 0, 1, 0])
        self.assertEqual(sought("letters ab; move aaa -> .; move b -> .; start a; goal .;"),
                         [0, 3, 1, 0, 2, 1, 0, 2, 0, 1, 0])

    def test_three_letters_have_two_states_at_most(self):
        text = "letters abc; move aaa -> .; move b -> .; move c -> .; start a; goal .;"
        self.assertEqual(sought(text), [1])
        self.assertEqual(sought(text.replace("aaa", "aa")), [0, 2, 1, 0, 0, 0, 1, 1, 0, 1])

    def test_four_letters(self):
        text = "letters abcd; move aa -> .; move b -> .; move c -> .; move d -> .; start a; goal .;"
        self.assertEqual(sought(text), [0, 2, 1, 0, 0, 0, 0, 1, 1, 1, 0, 1])

    def test_none(self):
        self.assertEqual(sought("letters a; move a -> .; start a; goal .;"), [1])
        self.assertEqual(sought("letters ab; move ab -> ba; start aab; goal aba;"), [1])
        self.assertEqual(sought("letters a; start a; goal a;"), [1])
        self.assertEqual(sought("letters a; move aaaaa -> .; start aaaaaa; goal .;"), [1])

    def test_three_states_at_most(self):
        text = "letters a; move aaaa -> .; start aaaaaa; goal .;"
        self.assertEqual(judged(text, 4, [1, 2, 3, 0, 0, 0, 1, 0]), [0])
        self.assertEqual(sought(text), [1])

    def test_words_that_no_move_changes(self):
        self.assertEqual(sought("letters a; move aaaaa -> .; start a; goal .;"), [0, 3, 1, 2, 2, 0, 1, 0])

    def test_ways_that_go_one_way(self):
        self.assertEqual(sought("letters a; move a -> .; start .; goal a;"), [0, 2, 1, 1, 1, 0])
        self.assertEqual(sought("letters a; move a -> aa; start a; goal .;"), [0, 2, 1, 1, 0, 1])

    def test_moves_that_do_not_stand_anywhere(self):
        moves = "letters ab; move ^b -> .; "
        self.assertEqual(sought(moves + "start ba; goal b;")[0], 0)
        self.assertEqual(sought(moves + "start ba; goal a;"), [1])
        self.assertEqual(sought("letters ab; move b -> .; start ab; goal a;"), [1])
        self.assertEqual(sought("letters ab; move ^b -> .; start ab; goal a;")[0], 0)
        self.assertEqual(sought("letters ab; move b$ -> .; start ba; goal a;")[0], 0)

    def test_refusals(self):
        self.assertEqual(sought("letters a; goal a;"), [-6])
        self.assertEqual(sought("letters a; start a;"), [-8])
        self.assertEqual(sought("letters a;"), [-6])
        self.assertEqual(ask(seek()), [[-6]])


class SeekByItsWords(unittest.TestCase):
    """seek against machine, asked of all machines in the order in which they are sought."""

    systems = ("letters ab; move a -> aa; start ab; goal ba;", "letters ab; move ab -> ba; start ba; goal ab;",
               "letters a; move aa -> aaaa; start a; goal aa;", "letters a; move aaa -> a; start aaa; goal .;",
               "letters a; move ^aa -> .; start aaa; goal aa;", "letters a; move a$ -> aaa; start a; goal aa;",
               "letters abc; move ab -> c; start ab; goal ba;", "letters ab; move ^b$ -> a; start b; goal ba;",
               "letters a; move aaaa -> a; start a; goal aa;", "letters a; move aaaaa -> aa; start a; goal aa;")

    def first_proof(self, text, width):
        for states in (1, 2, 3):
            rows = [[*following, *goods] for following in itertools.product(range(states), repeat=states * width)
                    for goods in itertools.product((0, 1), repeat=states)]
            for begin in range(0, len(rows), 39):
                part = rows[begin:begin + 39]
                given = ask_loaded(text, *[machine(states, numbers) for numbers in part])
                if [0] in given:
                    return [0, states] + part[given.index([0])]
            if states == 2 and width > 2:
                break
        return [1]

    def test_all(self):
        for text in self.systems:
            width = len(text.split(";")[0].split()[1])
            self.assertEqual(sought(text), self.first_proof(text, width), text)


if __name__ == "__main__":
    unittest.main()
