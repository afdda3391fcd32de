"""Lists of calls and of answers, the example, and what holds for all calls together."""

import contextlib
import io
import unittest

from tests.calls import (ask, ask_loaded, bytes_of, down, keeps, load, machine, normal, parted, reach, same, search, seek,
                         step, steps, told, turned, turns, unique, way, weights, written)
from wordmoves.systems import answers

EXAMPLE = "letters ab; move ab -> ba; start aab; goal bab;"
PAIRS = "letters ab; move aa -> .; move bb -> .; start abab; goal baba;"
GROWING = "letters ab; move a -> aa; start ab; goal ba;"
HUGE = 10 ** 18


class Example(unittest.TestCase):
    def test_first_system(self):
        self.assertEqual(
            ask(load(EXAMPLE), search(12), way(12), reach(12, "baa"), weights(), parted(), turns(2), turns(3), turned(),
                down()),
            [[0], [0, 3, 1, 1, 1], [1], [0, 2, 0, 1, 0, 0], [0, 2, 1, 0, 0, 1], [0, 0, 1, 0], [0, 4, 4], [0, 36, 18],
             [0, 2, 0, 1, 1, 0], [1]],
        )

    def test_first_system_number_by_number(self):
        calls = load(EXAMPLE) + search(12) + way(12) + reach(12, "baa") + weights() + parted() + turns(3) + down()
        self.assertEqual(
            answers(calls),
            [1, 0, 5, 0, 3, 1, 1, 1, 1, 1, 6, 0, 2, 0, 1, 0, 0, 6, 0, 2, 1, 0, 0, 1, 4, 0, 0, 1, 0, 3, 0, 36, 18, 1, 1],
        )

    def test_second_system(self):
        self.assertEqual(
            ask_loaded(PAIRS, down(), unique(), normal("abba"), same("ab", "ba"), parted(), turned()),
            [[0, 1, 1], [0], [0, 2, 0], [0], [1], [0, 3, 0, 2, 1, 1, 0, 2]],
        )

    def test_third_system(self):
        self.assertEqual(ask_loaded(GROWING, seek()), [[0, 2, 0, 1, 0, 0, 0, 1]])

    def test_all_in_one_list(self):
        self.assertEqual(
            ask(load(EXAMPLE), turned(), load(PAIRS), turned(), load(GROWING), seek(), machine(2, [0, 1, 0, 0, 0, 1])),
            [[0], [0, 2, 0, 1, 1, 0], [0], [0, 3, 0, 2, 1, 1, 0, 2], [0], [0, 2, 0, 1, 0, 0, 0, 1], [0]],
        )


class NewObject(unittest.TestCase):
    def test_every_call_on_the_system_without_letters(self):
        self.assertEqual(
            ask(written(), step(0, 0, ""), steps(""), search(5), way(5), reach(5, ""), weights(), parted()),
            [[0], [-3], [0, 0], [-6], [-8], [-6], [0, 0], [-6]],
        )
        self.assertEqual(
            ask(turns(2), turned(), keeps(2, []), machine(1, [0]), seek(), down(), unique(), normal(""), same("", "")),
            [[0, 1, 1], [-6], [0, 0], [-6], [-6], [0], [0], [0, 0, 0], [1]],
        )

    def test_no_letter_is_known(self):
        self.assertEqual(ask(step(0, 0, "a"), steps("a"), reach(5, "a"), normal("a"), same("a", "")), [[-12]] * 5)


class SeveralCalls(unittest.TestCase):
    def test_forty_calls(self):
        calls = load(EXAMPLE) + search(12) * 39
        self.assertEqual(answers(calls), [1, 0] + [5, 0, 3, 1, 1, 1] * 39)

    def test_later_load_takes_the_place_of_the_first(self):
        self.assertEqual(
            ask(load(EXAMPLE), load("letters c;"), written(), search(1), steps("a"), steps("c")),
            [[0], [0], [0] + bytes_of("letters c;\n"), [-6], [-12], [0, 0]],
        )

    def test_only_load_changes_what_is_held(self):
        calls = [step(0, 1, "aab"), steps("aab"), search(12), way(12), reach(12, "baa"), weights(), parted(), turns(3),
                 turned(), keeps(2, [0, 1, 1, 0]), machine(2, [0, 1, 1, 0, 0, 1]), seek(), down(), unique(),
                 normal("ab"), same("ab", "ba")]
        for text in (EXAMPLE, PAIRS, GROWING):
            given = ask(load(text), written(), *calls, written(), *calls)
            self.assertEqual(given[1:18], given[18:])

    def test_all_kinds_of_calls(self):
        bound = "letters ba; move b$ -> a; move ^bb -> .; start bb; goal ab;"
        self.assertEqual(
            ask(normal("a"), load(PAIRS), normal("abb"), unique(), load(bound), written(), unique(), normal("ab"),
                same("b", "a"), down(), turns(2), turned(), keeps(2, [1, 0, 1, 0]), keeps(2, [1, 0, 0, 1]),
                machine(1, [0, 0, 1]), weights(), search(12), way(2), reach(2, "ba"), steps("bb"), step(0, 1, "ab")),
            [[-12], [0], [0, 1] + told("a"), [0], [0],
             [0] + bytes_of("letters ba;\nmove b$ -> a;\nmove ^bb -> .;\nstart bb;\ngoal ab;\n"), [-9], [-9], [-9],
             [0, 1, 0], [0, 4, 2], [1], [0, 0], [1, 0], [3], [0, 0], [0, 3, 1, 2], [1], [0, 1, 0, 1],
             [0, 2, 0, 1] + told("ba") + [1, 0] + told(""), [0] + bytes_of("aa")],
        )

    def test_refusals_leave_the_object_as_it_was(self):
        refused = [load([256]), load([32] * 4097), step(0, 0, "c"), step(1, 0, "ab"), steps("c"), search(13),
                   way(-1), reach(13, "a"), reach(1, "c"), turns(4), keeps(5, []), keeps(2, [0]), machine(0, []),
                   machine(1, [0]), normal("c"), same("c", "a"), same("a", "c")]
        given = ask(load(EXAMPLE), written(), *refused, written(), search(12), turned())
        self.assertEqual(given[2:19], [[-1], [-2], [-12], [-3], [-12], [-7], [-7], [-7], [-12], [-7], [-7], [-11], [-7],
                                       [-11], [-12], [-12], [-12]])
        self.assertEqual(given[19], given[1])
        self.assertEqual(given[20:], [[0, 3, 1, 1, 1], [0, 2, 0, 1, 1, 0]])

    def test_refusals_for_want_of_something_leave_the_object_as_it_was(self):
        text = "letters ab; move ^ab -> .; move b -> a;"
        refused = [parted(), turned(), machine(1, [0, 0, 1]), seek(), unique(), normal("a"), same("a", "b")]
        given = ask(load(text), written(), *refused, written(), steps("ab"))
        self.assertEqual(given[2:9], [[-6], [-6], [-6], [-6], [-9], [-9], [-9]])
        self.assertEqual(given[9], given[1])
        self.assertEqual(given[10], [0, 2, 0, 0] + told("") + [1, 1] + told("aa"))
        given = ask(load(text + "start a;"), written(), *refused, written())
        self.assertEqual(given[2:9], [[-8], [-8], [-8], [-8], [-9], [-9], [-9]])
        self.assertEqual(given[9], given[1])

    def test_fault_leaves_the_object_as_it_was(self):
        faulty = "letters cd; move c -> d; start c; start d;"
        given = ask(load(EXAMPLE), written(), load(faulty), written(), weights())
        self.assertEqual(given[2], [1, 6, faulty.rindex("start")])
        self.assertEqual(given[3], given[1])
        self.assertEqual(given[4], [0, 2, 1, 0, 0, 1])


class NothingKept(unittest.TestCase):
    def setUp(self):
        self.calls = (load(EXAMPLE) + steps("aab") + step(0, 1, "aab") + search(12) + way(3) + reach(3, "aba")
                      + weights() + parted() + turns(3) + turned() + keeps(3, [0, 2, 1, 0, 2, 1])
                      + machine(2, [1, 0, 0, 1, 1, 0]) + seek() + down() + load(PAIRS) + unique() + normal("abba")
                      + same("ab", "ba") + turned() + keeps(4, [1, 0, 3, 2, 0, 1, 2, 3]) + seek() + load("letters ?")
                      + written() + load([300] * 5000))

    def test_list_handed_in_is_afterwards_as_it_was(self):
        kept = list(self.calls)
        answers(self.calls)
        self.assertEqual(self.calls, kept)

    def test_same_list_twice(self):
        first = answers(self.calls)
        first_kept = list(first)
        second = answers(self.calls)
        self.assertEqual(first, second)
        self.assertIsNot(first, second)
        second.append(7)
        self.assertEqual(first, first_kept)
        self.assertEqual(answers(self.calls), first_kept)

    def test_nothing_is_held_from_one_list_to_the_next(self):
        answers(load(EXAMPLE))
        self.assertEqual(ask(written(), search(12)), [[0], [-6]])

    def test_whole_numbers_in_a_list(self):
        given = answers(self.calls)
        self.assertIs(type(given), list)
        self.assertEqual({type(number) for number in given}, {int})

    def test_nothing_is_printed(self):
        shown = io.StringIO()
        with contextlib.redirect_stdout(shown), contextlib.redirect_stderr(shown):
            answers(self.calls)
        self.assertEqual(shown.getvalue(), "")


class LargeArguments(unittest.TestCase):
    def test_farthest_numbers(self):
        for number in (HUGE, -HUGE):
            given = ask_loaded(EXAMPLE, load([number]), step(number, 0, "a"), step(0, number, "ab"), steps([number]),
                               search(number), way(number), reach(number, "a"), reach(1, [number]))
            self.assertEqual(given, [[-1], [-3], [1], [-12], [-7], [-7], [-7], [-12]])
            given = ask_loaded(EXAMPLE, turns(number), keeps(number, [0]), keeps(1, [0, number]), machine(number, [0]),
                               machine(1, [0, number, 1]), machine(1, [0, 0, number]), normal([number]),
                               same([number], "a"), same("a", [number]))
            self.assertEqual(given, [[-7], [-7], [-11], [-7], [-11], [-11], [-12], [-12], [-12]])

    def test_longest_lists(self):
        a = [97] * 5000
        self.assertEqual(ask_loaded(EXAMPLE, steps(a), step(0, 0, a), load([32] * 5000)), [[-12], [-12], [-2]])
        self.assertEqual(ask_loaded(EXAMPLE, reach(1, a), normal(a), same("a", a)), [[-12], [-12], [-12]])
        self.assertEqual(ask_loaded(EXAMPLE, same(a, a)), [[-12]])
        self.assertEqual(ask_loaded(EXAMPLE, keeps(4, [0] * 5000), machine(4, [0] * 5000)), [[-11], [-11]])


if __name__ == "__main__":
    unittest.main()
