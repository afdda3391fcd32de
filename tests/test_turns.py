"""turns, turned and keeps."""

import itertools
import unittest

from tests.calls import ask, ask_loaded, keeps, turned, turns

HUGE = 10 ** 18
PAIRS = "letters ab; move aa -> .; move bb -> .; "


def counts(text, points):
    return ask_loaded(text, turns(points))[0]


def turned_by(text):
    return ask_loaded(text, turned())[0]


def kept(text, points, numbers):
    return ask_loaded(text, keeps(points, numbers))[0]


class Counts(unittest.TestCase):
    def test_one_point(self):
        self.assertEqual(counts("letters ab; move a -> b; move a -> .;", 1), [0, 1, 1])
        self.assertEqual(counts("letters abcd;", 1), [0, 1, 1])

    def test_two_points(self):
        self.assertEqual(counts("letters a; move a -> .;", 2), [0, 2, 1])
        self.assertEqual(counts("letters a; move aa -> .;", 2), [0, 2, 2])
        self.assertEqual(counts("letters a; move aaa -> .;", 2), [0, 2, 1])
        self.assertEqual(counts("letters ab; move a -> b;", 2), [0, 4, 2])
        self.assertEqual(counts("letters abc; move ab -> c;", 2), [0, 8, 4])

    def test_three_points(self):
        self.assertEqual(counts("letters a; move a -> .;", 3), [0, 6, 1])
        self.assertEqual(counts("letters a; move aa -> .;", 3), [0, 6, 4])
        self.assertEqual(counts("letters a; move aaa -> .;", 3), [0, 6, 3])
        self.assertEqual(counts("letters a; move aaaaaa -> .;", 3), [0, 6, 6])
        self.assertEqual(counts("letters ab; move ab -> ba;", 3), [0, 36, 18])
        self.assertEqual(counts(PAIRS, 3), [0, 36, 16])

    def test_all_moves_count(self):
        self.assertEqual(counts("letters a; move aa -> .; move aaa -> .;", 3), [0, 6, 1])
        self.assertEqual(counts("letters ab; move ab -> ba; move a -> b;", 3), [0, 36, 6])

    def test_no_moves(self):
        self.assertEqual(counts("letters a;", 3), [0, 6, 6])
        self.assertEqual(counts("letters abc;", 2), [0, 8, 8])
        self.assertEqual(counts("letters abcd;", 2), [0, 16, 16])
        self.assertEqual(counts("letters abcd;", 3), [0, 1296, 1296])

    def test_no_letters(self):
        self.assertEqual(ask(turns(1), turns(2), turns(3)), [[0, 1, 1], [0, 1, 1], [0, 1, 1]])

    def test_wherever_moves_stand(self):
        for move in ("^aa -> .", "aa$ -> .", "^aa$ -> ."):
            self.assertEqual(counts(f"letters a; move {move};", 3), [0, 6, 4], move)

    def test_refusals(self):
        for points in (0, 4, 5, -1, HUGE, -HUGE):
            self.assertEqual(counts("letters ab; move a -> b;", points), [-7], points)
            self.assertEqual(ask(turns(points)), [[-7]], points)


class Turned(unittest.TestCase):
    def test_first_with_two_points(self):
        self.assertEqual(turned_by("letters ab; start a; goal b;"), [0, 2, 0, 1, 1, 0])
        self.assertEqual(turned_by("letters ab; start abb; goal .;"), [0, 2, 1, 0, 0, 1])
        self.assertEqual(turned_by("letters ba; start a; goal .;"), [0, 2, 0, 1, 1, 0])
        self.assertEqual(turned_by("letters a; start .; goal a;"), [0, 2, 1, 0])

    def test_first_that_stay(self):
        self.assertEqual(turned_by("letters ab; move b -> .; start ab; goal .;"), [0, 2, 1, 0, 0, 1])
        self.assertEqual(turned_by("letters ab; move a -> b; start ab; goal b;"), [0, 2, 1, 0, 1, 0])

    def test_only_with_three_points(self):
        self.assertEqual(turned_by("letters a; move aaa -> .; start a; goal .;"), [0, 3, 1, 2, 0])
        self.assertEqual(turned_by("letters a; move aaa -> .; start a; goal aa;"), [0, 3, 1, 2, 0])
        self.assertEqual(turned_by(PAIRS + "start abab; goal baba;"), [0, 3, 0, 2, 1, 1, 0, 2])
        self.assertEqual(turned_by("letters ab; start ab; goal ba;"), [0, 3, 0, 2, 1, 1, 0, 2])

    def test_two_points_come_first(self):
        self.assertEqual(turned_by("letters a; move aaaaaa -> .; start a; goal .;"), [0, 2, 1, 0])
        self.assertEqual(turned_by("letters a; move aaaaaa -> .; start aa; goal .;"), [0, 3, 1, 2, 0])

    def test_four_letters(self):
        text = "letters abcd; move aaa -> .; move b -> a; move c -> b; move d -> cc; start d; goal .;"
        self.assertEqual(turned_by(text), [0, 3, 1, 2, 0, 1, 2, 0, 1, 2, 0, 2, 0, 1])

    def test_not_at_all(self):
        self.assertEqual(turned_by("letters a; move a -> .; start a; goal .;"), [1])
        self.assertEqual(turned_by("letters ab; move ab -> ba; start ab; goal ba;"), [1])
        self.assertEqual(turned_by("letters ab; start ab; goal ab;"), [1])
        self.assertEqual(turned_by("letters a; start .; goal aaaaaa;"), [1])
        self.assertEqual(turned_by("letters a; move aaaaa -> .; start a; goal .;"), [1])

    def test_refusals(self):
        self.assertEqual(turned_by("letters a; goal a;"), [-6])
        self.assertEqual(turned_by("letters a; start a;"), [-8])
        self.assertEqual(turned_by("letters a;"), [-6])
        self.assertEqual(ask(turned()), [[-6]])


class Keeps(unittest.TestCase):
    def test_one_point(self):
        self.assertEqual(kept("letters ab; move a -> b; start a; goal .;", 1, [0, 0]), [0, 0])

    def test_two_points(self):
        text = "letters ab; move aa -> .; start a; goal b;"
        self.assertEqual(kept(text, 2, [1, 0, 0, 1]), [0, 1])
        self.assertEqual(kept(text, 2, [1, 0, 1, 0]), [0, 0])

    def test_three_points(self):
        text = "letters a; move aaa -> .; start a; goal .;"
        self.assertEqual(kept(text, 3, [1, 2, 0]), [0, 1])
        self.assertEqual(kept(text, 3, [0, 1, 2]), [0, 0])
        self.assertEqual(kept(text, 3, [0, 2, 1]), [1, 0])

    def test_four_points(self):
        moves = "letters a; move aaaa -> .; "
        self.assertEqual(kept(moves + "start a; goal aaa;", 4, [1, 2, 3, 0]), [0, 1])
        self.assertEqual(kept(moves + "start a; goal aaaaa;", 4, [1, 2, 3, 0]), [0, 0])
        self.assertEqual(kept(moves + "start a; goal aaa;", 4, [1, 2, 0, 3]), [1, 0])

    def test_apart_at_later_points_alone(self):
        self.assertEqual(kept("letters a; start a; goal .;", 4, [0, 1, 3, 2]), [0, 1])
        self.assertEqual(kept("letters a; move a -> .;", 4, [0, 1, 3, 2]), [1, 0])

    def test_letters_act_from_the_left(self):
        text = "letters abc; move ab -> c;"
        self.assertEqual(kept(text, 3, [1, 0, 2, 0, 2, 1, 2, 0, 1]), [0, 0])
        self.assertEqual(kept(text, 3, [1, 0, 2, 0, 2, 1, 1, 2, 0]), [1, 0])

    def test_first_move_for_which_they_do_not_stay(self):
        text = "letters a; move aa -> .; move a -> .; move aaaa -> .; move aaa -> .; start a; goal .;"
        self.assertEqual(kept(text, 2, [1, 0]), [1, 1])
        self.assertEqual(kept(text, 3, [1, 2, 0]), [1, 0])
        eight = "letters a; " + "move aa -> .; " * 7 + "move a -> .;"
        self.assertEqual(kept(eight, 2, [1, 0]), [1, 7])

    def test_no_start_or_no_goal(self):
        for ends in ("", "start a;", "goal a;"):
            self.assertEqual(kept("letters a; move aa -> .; " + ends, 2, [1, 0]), [0, 0], ends)

    def test_wherever_moves_stand(self):
        self.assertEqual(kept("letters a; move ^a$ -> .;", 2, [1, 0]), [1, 0])

    def test_no_moves(self):
        self.assertEqual(kept("letters ab; start ab; goal ba;", 3, [0, 2, 1, 1, 0, 2]), [0, 1])

    def test_no_letters(self):
        self.assertEqual(ask(keeps(1, []), keeps(4, []), keeps(2, [0, 1])), [[0, 0], [0, 0], [-11]])

    def test_points_out_of_range(self):
        for points in (0, 5, -1, HUGE, -HUGE):
            self.assertEqual(kept("letters a;", points, [0]), [-7], points)
            self.assertEqual(kept("letters a;", points, []), [-7], points)
            self.assertEqual(kept("letters a;", points, [7] * 5000), [-7], points)
        self.assertEqual(ask(keeps(0, []), keeps(5, [])), [[-7], [-7]])

    def test_no_turn_for_each_letter(self):
        wrong = ([], [0, 1], [0, 1, 0], [0, 1, 0, 1, 0], [0, 1, 0, 1, 0, 1], [0, 0, 0, 1], [0, 1, 1, 1], [0, 1, 1, 2],
                 [-1, 0, 0, 1], [1, 0, 0, -1], [2, 1, 0, 1], [0, 1, 0, HUGE], [-HUGE, 1, 0, 1], [0, 1] * 2500)
        for numbers in wrong:
            self.assertEqual(kept("letters ab; move a -> b;", 2, numbers), [-11], numbers[:6])
        self.assertEqual(kept("letters a;", 1, [1]), [-11])
        self.assertEqual(kept("letters a;", 4, [1, 2, 3, 4]), [-11])
        self.assertEqual(kept("letters a;", 3, [0, 1, 1]), [-11])


class ByTheirWords(unittest.TestCase):
    """All three calls against turns gone through as the words say."""

    systems = ("letters ab; move aba -> bab; start ab; goal ba;", "letters ab; move abab -> .; start a; goal b;",
               "letters abc; move ab -> ca; move bc -> ab; start a; goal b;",
               "letters abc; move abc -> .; move aa -> bb; start ab; goal c;",
               "letters ab; move aab -> baa; move bbb -> .; start aab; goal ab;")

    def parse(self, text):
        parts = [part.split() for part in text.split(";")]
        moves = [(part[1], part[3].strip(".")) for part in parts if part and part[0] == "move"]
        words = {part[0]: part[1].strip(".") for part in parts if part and part[0] != "move"}
        return words["letters"], moves, (words["start"], words["goal"])

    def act(self, letters, chosen, word):
        points = list(range(len(chosen[0])))
        for letter in word:
            points = [chosen[letters.index(letter)][point] for point in points]
        return points

    def test_all(self):
        for text in self.systems:
            letters, moves, ends = self.parse(text)
            first = None
            for points in (2, 3):
                every = list(itertools.product(itertools.permutations(range(points)), repeat=len(letters)))
                staying = 0
                for chosen in every:
                    acts = [[self.act(letters, chosen, word) for word in pair] for pair in moves + [ends]]
                    failing = [number for number, act in enumerate(acts[:-1]) if act[0] != act[1]]
                    numbers = [number for turn in chosen for number in turn]
                    apart = acts[-1][0] != acts[-1][1]
                    staying += not failing
                    self.assertEqual(kept(text, points, numbers), [1, failing[0]] if failing else [0, int(apart)])
                    if apart and not failing and first is None:
                        first = [0, points] + numbers
                self.assertEqual(counts(text, points), [0, len(every), staying])
            self.assertEqual(turned_by(text), first or [1])


if __name__ == "__main__":
    unittest.main()
