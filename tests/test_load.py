"""load and written: texts, their first fault, the one form."""

import unittest

from tests.calls import ask, ask_loaded, bytes_of, form_of, load, search, steps, written

NO_TOKEN, WRONG_ROW, MISPLACED, ENDS_EARLY, NINTH_MOVE, SAID_TWICE, UNKNOWN_LETTER = range(1, 8)
EIGHT_MOVES = "letters ab; " + "move a -> b; " * 8


def answer_to(text):
    return ask(load(text))[0]


class Faults(unittest.TestCase):
    def check(self, kind, text, mark):
        """The fault stands where mark ends the text before it: at text's last mark."""
        self.assertEqual(answer_to(text), [1, kind, text.rindex(mark)], text)

    def check_end(self, text):
        self.assertEqual(answer_to(text), [1, ENDS_EARLY, len(text)], text)

    def test_byte_that_begins_no_token(self):
        self.check(NO_TOKEN, "!", "!")
        self.check(NO_TOKEN, "Letters ab;", "L")
        self.check(NO_TOKEN, " \n\t!", "!")
        self.check(NO_TOKEN, "letters !", "!")
        self.check(NO_TOKEN, "letters ab!;", "!")
        self.check(NO_TOKEN, "letters ab;,", ",")
        self.check(NO_TOKEN, "letters ab; move 1", "1")
        self.check(NO_TOKEN, "letters ab; move a\0b", "\0")
        self.check(NO_TOKEN, "letters ab; move a \xff", "\xff")
        self.check(NO_TOKEN, "letters ab; start A;", "A")
        self.check(NO_TOKEN, "letters ab; start {;", "{")
        self.check(NO_TOKEN, "letters ab; start `;", "`")
        self.check(NO_TOKEN, "letters ab;\x0b", "\x0b")

    def test_half_an_arrow(self):
        self.check(NO_TOKEN, "-", "-")
        self.check(NO_TOKEN, "letters ab; move a -", "-")
        self.check(NO_TOKEN, "letters ab; move a - > b;", "-")
        self.check(NO_TOKEN, "letters ab; move a -#\n> b;", "-")
        self.check(NO_TOKEN, "letters ab; move a > b;", ">")
        self.assertEqual(answer_to("letters ab; move a --> b;"), [1, NO_TOKEN, 19])
        self.check(NO_TOKEN, "letters ab; move a ->> b;", ">")

    def test_row_that_is_too_long(self):
        self.check(WRONG_ROW, "abcdefghijklm", "abc")
        self.check(WRONG_ROW, "lettersletters ab;", "lettersl")
        self.check(WRONG_ROW, "letters abcdefghijklm;", "abc")
        self.check(WRONG_ROW, "letters ab; start aaaaaaaaaaaaa;", "aaaaaaaaaaaaa")
        self.check(WRONG_ROW, "letters ab; move a -> bbbbbbbbbbbbb;", "bbbbbbbbbbbbb")
        self.check(WRONG_ROW, "letters ab; start " + "a" * 2000, "a" * 2000)

    def test_row_of_twelve(self):
        self.check(MISPLACED, "abcdefghijkl", "abc")
        self.assertEqual(answer_to("letters ab; start aaaaaaaaaaaa;"), [0])
        self.assertEqual(answer_to("letters ab; move bbbbbbbbbbbb -> aaaaaaaaaaaa;"), [0])

    def test_row_too_long_where_no_row_may_stand(self):
        self.check(WRONG_ROW, "letters ab abcdefghijklm", "abcd")
        self.check(WRONG_ROW, "letters ab; movemovemovem a -> b;", "movem" + "ovemovem")
        self.check(WRONG_ROW, "letters ab; start ccccccccccccc;", "ccccccccccccc")

    def test_row_not_as_told_behind_letters(self):
        self.check(WRONG_ROW, "letters abcde;", "abcde")
        self.check(WRONG_ROW, "letters aa;", "aa")
        self.check(WRONG_ROW, "letters abca;", "abca")
        self.check(WRONG_ROW, "letters letters;", "letters")
        self.check(WRONG_ROW, "letters abcde!", "abcde")
        self.check(WRONG_ROW, "letters aa", "aa")

    def test_one_to_four_letters(self):
        for row in ("a", "zy", "xbc", "dcba"):
            self.assertEqual(form_of(f"letters {row};"), f"letters {row};\n")

    def test_token_that_cannot_stand_there(self):
        self.check(MISPLACED, "letter ab;", "letter")
        self.check(MISPLACED, "start a;", "start")
        self.check(MISPLACED, ";", ";")
        self.check(MISPLACED, "letters ;", ";")
        self.check(MISPLACED, "letters .;", ".")
        self.check(MISPLACED, "letters ab cd;", "cd")
        self.check(MISPLACED, "letters ab.", ".")
        self.check(MISPLACED, "letters ab;;", ";")
        self.check(MISPLACED, "letters ab; letters cd;", "letters")
        self.check(MISPLACED, "letters ab; moves a -> b;", "moves")
        self.check(MISPLACED, "letters ab; a", "a")
        self.check(MISPLACED, "letters ab; .", ".")

    def test_token_that_cannot_stand_in_a_move(self):
        self.check(MISPLACED, "letters ab; move -> b;", "->")
        self.check(MISPLACED, "letters ab; move $ -> b;", "$")
        self.check(MISPLACED, "letters ab; move ;", ";")
        self.check(MISPLACED, "letters ab; move ^^", "^")
        self.check(MISPLACED, "letters ab; move ^ -> b;", "->")
        self.check(MISPLACED, "letters ab; move ^$ -> b;", "$")
        self.check(MISPLACED, "letters ab; move a ^", "^")
        self.check(MISPLACED, "letters ab; move a b", "b")
        self.check(MISPLACED, "letters ab; move a .", ".")
        self.check(MISPLACED, "letters ab; move a$$", "$")
        self.check(MISPLACED, "letters ab; move a;", ";")
        self.check(MISPLACED, "letters ab; move a$;", ";")
        self.check(MISPLACED, "letters ab; move a -> ;", ";")
        self.check(MISPLACED, "letters ab; move a -> ^b;", "^")
        self.check(MISPLACED, "letters ab; move a -> b$;", "$")
        self.check(MISPLACED, "letters ab; move a -> ->", "->")
        self.check(MISPLACED, "letters ab; move a -> b a", "a")
        self.check(MISPLACED, "letters ab; move . . -> b;", ". ->")

    def test_token_that_cannot_stand_behind_start_or_goal(self):
        for name in ("start", "goal"):
            self.check(MISPLACED, f"letters ab; {name} ;", ";")
            self.check(MISPLACED, f"letters ab; {name} ^", "^")
            self.check(MISPLACED, f"letters ab; {name} a$", "$")
            self.check(MISPLACED, f"letters ab; {name} a a", "a")
            self.check(MISPLACED, f"letters ab; {name} a.", ".")
            self.check(MISPLACED, f"letters ab; {name} a -> b;", "->")

    def test_text_that_ends_early(self):
        for text in ("", " ", "\n\n", "# letters ab;", "#", "letters", "letters ", "letters ab", "letters ab #;"):
            self.check_end(text)
        for behind in ("move", "move ^", "move a", "move a$", "move a ->", "move . -> b", "move . -> . #\n ",
                       "start", "start a", "goal", "goal .", "goal a#;"):
            self.check_end("letters ab; " + behind)

    def test_every_beginning_of_a_text(self):
        text = "letters ab;move ^a$->b;start .;"
        whole = (11, 23, 31)
        within_a_row = (1, 2, 3, 4, 5, 6, 12, 13, 14, 24, 25, 26, 27)
        within_the_arrow = 20
        for length in range(len(text) + 1):
            beginning = text[:length]
            if length in whole:
                expected = [0]
            elif length in within_a_row:
                first = max(beginning.rfind(sign) for sign in " ;") + 1
                expected = [1, MISPLACED, first]
            elif length == within_the_arrow:
                expected = [1, NO_TOKEN, 19]
            else:
                expected = [1, ENDS_EARLY, length]
            self.assertEqual(answer_to(beginning), expected, beginning)

    def test_ninth_move(self):
        self.assertEqual(answer_to(EIGHT_MOVES), [0])
        self.check(NINTH_MOVE, EIGHT_MOVES + "move a -> b;", "move")
        self.check(NINTH_MOVE, EIGHT_MOVES + "move", "move")
        self.check(NINTH_MOVE, EIGHT_MOVES + "start a; goal b; move !", "move")

    def test_second_start_or_goal(self):
        self.check(SAID_TWICE, "letters ab; start a; start b;", "start")
        self.check(SAID_TWICE, "letters ab; start a; start", "start")
        self.check(SAID_TWICE, "letters ab; goal .; move a -> b; goal .;", "goal")
        self.check(SAID_TWICE, "letters ab; start .; goal .; start !", "start")
        self.assertEqual(answer_to("letters ab; start .; goal .;"), [0])
        self.assertEqual(answer_to("letters ab; goal a; start a;"), [0])

    def test_word_with_a_letter_that_the_system_does_not_have(self):
        self.check(UNKNOWN_LETTER, "letters ab; start abc;", "abc")
        self.check(UNKNOWN_LETTER, "letters ab; goal c;", "c;")
        self.check(UNKNOWN_LETTER, "letters ab; move bac -> b;", "bac")
        self.check(UNKNOWN_LETTER, "letters ab; move ^bac$ -> b;", "bac")
        self.check(UNKNOWN_LETTER, "letters ab; move a -> start;", "start")
        self.check(UNKNOWN_LETTER, "letters ab; start c", "c")
        self.check(UNKNOWN_LETTER, "letters ab; start aaaaaaaaaaac;", "aaaaaaaaaaac")

    def test_of_two_faults_the_one_further_left(self):
        self.check(MISPLACED, "; !", ";")
        self.check(NO_TOKEN, "! ;", "!")
        self.check(WRONG_ROW, "letters aa !", "aa")
        self.check(MISPLACED, "letters ab; move -> !", "->")
        self.check(UNKNOWN_LETTER, "letters ab; start c!", "c")
        self.check(UNKNOWN_LETTER, "letters ab; start c aaaaaaaaaaaaa;", "c")
        self.check(UNKNOWN_LETTER, "letters ab; move c -> d;", "c")
        self.check(MISPLACED, "letters ab; start a b start c;", "b ")
        self.check(SAID_TWICE, "letters ab; start a; start c;", "start")
        self.check(NO_TOKEN, "letters ab; start a ! start a;", "!")
        self.check(NINTH_MOVE, EIGHT_MOVES + "move c -> !;", "move")

    def test_faults_behind_remarks(self):
        self.check(NO_TOKEN, "# ! ;\n!", "!")
        self.check(WRONG_ROW, "letters # aa\n abcde;", "abcde")
        self.check(MISPLACED, "letters ab; # ;;\n# start\n;", ";")
        self.check_end("letters ab; start a# ;")
        self.check_end("letters ab; start a # ;\n# ;")
        self.check(SAID_TWICE, "letters ab; # start a;\n start a; # start b;\n start # c\n", "start")
        self.check(UNKNOWN_LETTER, "letters ab; start # a\n c # a\n ;", "c")

    def test_remark_parts_a_row(self):
        self.check(MISPLACED, "let#\nters ab;", "let#")
        self.check(MISPLACED, "letters a#\nb;", "b")


class TextsRead(unittest.TestCase):
    def test_blanks_and_remarks_mean_nothing(self):
        plain = "letters ab; move ^a$ -> b; start ab; goal .;"
        for text in (
            "letters ab;move ^a$->b;start ab;goal .;",
            "letters\tab\r\n;\nmove\n^\na\n$\n->\nb\n;start\tab;goal\r.\n;\n",
            "#\nletters# x\nab#\n;move^a$->b;start ab;goal.;# the end",
            "## # letters\n  letters ab; # ; \r start ba;\nmove ^a$ -> b; start ab; goal .;#\n#",
        ):
            self.assertEqual(form_of(text), form_of(plain), text)

    def test_only_a_line_feed_ends_a_remark(self):
        self.assertEqual(form_of("letters ab; # \r start a;"), "letters ab;\n")

    def test_names_may_be_words(self):
        text = "letters move; move move -> move; start move; goal move;"
        self.assertEqual(form_of(text), "letters move;\nmove move -> move;\nstart move;\ngoal move;\n")
        self.assertEqual(form_of("letters goal; goal goal;"), "letters goal;\ngoal goal;\n")

    def test_bytes_in_a_remark_are_free(self):
        self.assertEqual(answer_to([35] + [n for n in range(256) if n != 10] + [10] + bytes_of("letters a;")), [0])


class Refusals(unittest.TestCase):
    def test_number_that_is_no_byte(self):
        for number in (-1, 256, 10 ** 18, -10 ** 18):
            self.assertEqual(answer_to([number]), [-1])
            self.assertEqual(answer_to(bytes_of("letters a;#") + [number]), [-1])
            self.assertEqual(answer_to([33, number]), [-1])

    def test_bytes_at_the_edges(self):
        self.assertEqual(answer_to([0]), [1, 1, 0])
        self.assertEqual(answer_to([255]), [1, 1, 0])

    def test_longest_text(self):
        text = "letters ab; start a;"
        self.assertEqual(answer_to(text.ljust(4096)), [0])
        self.assertEqual(answer_to(text.ljust(4097)), [-2])
        self.assertEqual(answer_to([33] * 4097), [-2])
        self.assertEqual(answer_to([32] * 5000), [-2])

    def test_no_byte_is_told_before_too_long(self):
        self.assertEqual(answer_to([32] * 4096 + [256]), [-1])
        self.assertEqual(answer_to([-1] + [32] * 4999), [-1])

    def test_last_places(self):
        self.assertEqual(answer_to([32] * 4096), [1, 4, 4096])
        self.assertEqual(answer_to("letters ab".ljust(4096)), [1, 4, 4096])
        self.assertEqual(answer_to("letters ab".ljust(4095) + "!"), [1, 1, 4095])
        self.assertEqual(answer_to("letters ab".ljust(4095) + ";"), [0])
        self.assertEqual(answer_to("#" + "a" * 4095), [1, 4, 4096])
        self.assertEqual(answer_to("a" * 4096), [1, 2, 0])


class Held(unittest.TestCase):
    def test_fault_keeps_the_system_that_was_held(self):
        form = bytes_of("letters ab;\nstart ab;\n")
        for faulty in ("", "!", "letters cd; move c -> d; start e;", "letters cd; start c; goal d; goal c;",
                       "letters cc;"):
            given = ask_loaded("letters ab; start ab;", load(faulty), written(), search(2), steps("c"))
            self.assertEqual(given[0][0], 1)
            self.assertEqual(given[1:], [[0] + form, [0, 1, 1], [-12]])

    def test_fault_at_first_keeps_the_system_without_letters(self):
        self.assertEqual(ask(load("letters ab; start a"), written(), search(1)), [[1, 4, 19], [0], [-6]])

    def test_nothing_of_the_earlier_system_stays(self):
        given = ask_loaded("letters ab; move a -> b; start a; goal b;", load("letters b;"), written())
        self.assertEqual(given, [[0], [0] + bytes_of("letters b;\n")])


class Written(unittest.TestCase):
    def test_empty_system(self):
        self.assertEqual(ask(written()), [[0]])

    def test_where_moves_stand(self):
        text = "letters ba; move ^a->b; move a$->b; move ^a$->b; move a->b; move ^.->.; move .$->a; move ^.$->.;"
        self.assertEqual(
            form_of(text),
            "letters ba;\nmove ^a -> b;\nmove a$ -> b;\nmove ^a$ -> b;\nmove a -> b;\n"
            "move ^. -> .;\nmove .$ -> a;\nmove ^.$ -> .;\n",
        )

    def test_start_and_goal_come_last(self):
        self.assertEqual(
            form_of("letters ab; goal b; move a -> b; start .; move b -> a;"),
            "letters ab;\nmove a -> b;\nmove b -> a;\nstart .;\ngoal b;\n",
        )
        self.assertEqual(form_of("letters ab; goal .;"), "letters ab;\ngoal .;\n")

    def test_form_is_read_as_itself(self):
        for text in (EIGHT_MOVES, "letters zxy; move ^zzzzzzzzzzzz$ -> .; move . -> yx; start xyz; goal .;"):
            form = form_of(text)
            self.assertEqual(form_of(form), form)

    def test_moves_stay_as_they_are(self):
        self.assertEqual(form_of("letters ab; move a -> a; move a -> a;"), "letters ab;\n" + "move a -> a;\n" * 2)


if __name__ == "__main__":
    unittest.main()
