"""House.read: texts of houses, and the first line that cannot stand in a text."""

import unittest

from examples import (HEARD_WORDS, JOINING_TEXT, OTHER_THINGS, PARTING_WORDS, ROW_WORDS, SAMPLE_KEYS, SAMPLE_ROWS,
                      SAMPLE_STANDS, SAMPLE_TEXT, TWO_STANDS, bent, first_wrong_line)
from holdhouse.errors import InvalidText, WrongLine
from holdhouse.houses import House

LINES = SAMPLE_TEXT.split("\n")

LARGEST_TEXT = "\n".join(["lines 3, keys a b c", *[f"stand {word} quiet" for word in "abcdef"],
                          *[f"key {key} if in {stand}: stand a" for key in "ab" for stand in "abcdef"],
                          *["call: a some, b some, deaf, swap"] * 4])


class ReadCase(unittest.TestCase):
    def wrong(self, index, text):
        with self.subTest(text=text):
            with self.assertRaises(WrongLine) as caught:
                House.read(text)
            self.assertEqual(vars(caught.exception), {"index": index})
            self.assertEqual(first_wrong_line(text), index)

    def right(self, text):
        house = House.read(text)
        self.assertIs(type(house), House)
        self.assertEqual(str(house), text)
        self.assertIsNone(first_wrong_line(text))
        return house


class Right(ReadCase):
    def test_the_sample(self):
        house = self.right(SAMPLE_TEXT)
        self.assertEqual((house.lines, house.stands, house.key_words, house.rows),
                         (1, SAMPLE_STANDS, SAMPLE_KEYS, SAMPLE_ROWS))
        self.assertEqual(house, House(1, SAMPLE_STANDS, SAMPLE_KEYS, SAMPLE_ROWS))

    def test_by_name_and_off_an_object(self):
        self.assertEqual(str(House.read(text=SAMPLE_TEXT)), SAMPLE_TEXT)
        self.assertEqual(str(House(2, TWO_STANDS).read(SAMPLE_TEXT)), SAMPLE_TEXT)

    def test_kinds_of_houses(self):
        self.assertEqual(self.right(JOINING_TEXT).lines, 2)
        largest = self.right(LARGEST_TEXT)
        self.assertEqual([largest.lines, len(largest.stands), len(largest.key_words), len(largest)], [3, 6, 3, 16])
        least = self.right("lines 1\nstand free quiet\nstand talk tone")
        self.assertEqual([least.lines, least.stands, least.key_words, least.rows], [1, TWO_STANDS, (), ()])

    def test_what_is_written_is_read_the_same(self):
        for lines in (1, 2, 3):
            for keys in ((), ("x",), ("x", "y"), ("z", "y", "x")):
                for many in range(2, 7):
                    stands = tuple((word, word * 8) for word in "fedcba")[:many]
                    for rows in ((), ("gone: deaf",), tuple(f"key {key}: hear" for key in keys)):
                        house = House(lines, stands, keys, rows)
                        again = self.right(str(house))
                        self.assertEqual(again, house)
                        self.assertEqual((again.lines, again.stands, again.key_words, again.rows),
                                         (lines, stands, keys, rows))

    def test_words_of_the_rows_as_names(self):
        for word in ROW_WORDS:
            house = self.right(f"lines 2, keys {word}\nstand {word} tone\nstand talk tone\n"
                               f"key {word} if in {word}: stand {word}")
            self.assertEqual((house.key_words, house.stands[0]), ((word,), (word, "tone")))


class FirstLine(ReadCase):
    def test_wrong_first_lines(self):
        for line in ("", " ", "lines", "lines ", "lines 0", "lines 4", "lines 10", "lines -1", "lines +1", "lines 01",
                     "lines 001", "lines 1 ", " lines 1", "lines  1", "lines1", "line 1", "Lines 1", "lines one",
                     "lines 1.", "lines 1,", "lines 1, ", "lines 1, keys", "lines 1, keys ", "lines 1 keys hold",
                     "lines 1,keys hold", "lines 1,  keys hold", "lines 1, keys  hold", "lines 1, keys hold ",
                     "lines 1, keys hold, take", "lines 1, keys hold  take", "lines 1, keys hold hold",
                     "lines 1, keys a b a", "lines 1, keys a b c d", "lines 1, keys Hold", "lines 1, keys 1",
                     "lines 1, keys abcdefghi", "lines 1, key hold", "lines 1, keys hold, keys take", "keys hold",
                     "keys hold, lines 1", "lines 01, keys hold", "lines 4, keys hold", "lines " + "1" * 40,
                     "lines \u0661", "lines \u00b9", "lines 1_0", "lines True", "stand free quiet", "gone: deaf"):
            self.wrong(0, line)
            self.wrong(0, line + "\nstand free quiet\nstand talk tone\ngone: deaf")
        for word in PARTING_WORDS:
            self.wrong(0, f"lines 1, keys {word}\nstand free quiet\nstand talk tone")
            self.wrong(0, f"lines 1, keys hold {word}\nstand free quiet\nstand talk tone")

    def test_the_empty_text_and_newlines_alone(self):
        for text in ("", "\n", "\n\n\n", "\n" + SAMPLE_TEXT):
            self.wrong(0, text)


class StandLines(ReadCase):
    def test_wrong_lines_of_stands(self):
        for line in ("", "stand", "stand ", "stand free", "stand free ", "stand free quiet ", " stand free quiet",
                     "stand  free quiet", "stand free  quiet", "stand free quiet tone", "stands free quiet",
                     "free quiet", "Stand free quiet", "stand Free quiet", "stand free Quiet", "stand free, quiet",
                     "stand free: quiet", "stand abcdefghi quiet", "stand free abcdefghi", "stand f1 quiet",
                     "gone: deaf", "lines 1", "stand: free quiet", "standfree quiet"):
            self.wrong(1, f"lines 1\n{line}\nstand talk tone\nstand held tone\ngone: deaf")
            self.wrong(2, f"lines 1\nstand talk tone\n{line}\nstand held tone\ngone: deaf")
        for line in ("", "stand", "stand free", "stand free quiet ", "stand f1 quiet", "lines 1"):
            self.wrong(3, f"lines 1\nstand talk tone\nstand held tone\n{line}")
            self.wrong(3, f"lines 1\nstand talk tone\nstand held tone\n{line}\ngone: deaf")

    def test_wrong_words(self):
        for word in PARTING_WORDS:
            self.wrong(1, f"lines 1\nstand {word} tone\nstand talk tone")
            self.wrong(2, f"lines 1\nstand talk tone\nstand x {word}")
            self.wrong(3, f"lines 1\nstand talk tone\nstand x tone\nstand y {word}")
        for word in HEARD_WORDS:
            self.wrong(1, f"lines 1\nstand x {word}\nstand talk tone")
            self.wrong(2, f"lines 1\nstand talk tone\nstand x {word}")
            self.wrong(3, f"lines 1\nstand talk tone\nstand x tone\nstand y {word}")
            self.right(f"lines 1\nstand {word} tone\nstand talk tone")

    def test_the_same_stand_twice(self):
        self.wrong(2, "lines 1\nstand free quiet\nstand free tone")
        self.wrong(3, "lines 1\nstand free quiet\nstand talk tone\nstand free quiet\ngone: deaf")
        self.wrong(4, "lines 1\nstand a x\nstand b x\nstand c x\nstand c x\nstand d x")

    def test_too_few(self):
        self.wrong(1, "lines 1")
        self.wrong(1, "lines 3, keys hold take")
        self.wrong(2, "lines 1\nstand free quiet")
        self.wrong(1, "lines 1\n")
        self.wrong(2, "lines 1\nstand free quiet\n")
        self.wrong(1, "lines 1\ngone: deaf")
        self.wrong(2, "lines 1\nstand free quiet\ngone: deaf")
        self.wrong(2, "lines 1\nstand free quiet\ngone: deaf\ngone: deaf\nx")

    def test_too_many(self):
        stands = [f"stand {word} x" for word in "abcdefgh"]
        self.right("\n".join(["lines 1", *stands[:6]]))
        self.wrong(7, "\n".join(["lines 1", *stands[:7]]))
        self.wrong(7, "\n".join(["lines 1", *stands]))
        self.wrong(7, "\n".join(["lines 1", *stands[:7], "gone: deaf"]))

    def test_behind_rows(self):
        self.wrong(4, "lines 1\nstand free quiet\nstand talk tone\ngone: deaf\nstand held tone")
        self.wrong(3, "lines 1\nstand free quiet\nstand talk tone\ngone: stand held\nstand held tone")


class RowLines(ReadCase):
    def test_wrong_rows(self):
        for row in ("", " ", "gone", "gone: ", "gone: stand held", "gone if in held: deaf", "key hold: deaf",
                    "call: hear", "lay: join", "late if busy: deaf", " gone: deaf", "gone: deaf ", "lines 1",
                    "gone if a and a and a and a and a: deaf", "gone: deaf, deaf, deaf, deaf, deaf"):
            head = "lines 1\nstand free quiet\nstand talk tone"
            self.wrong(3, f"{head}\n{row}")
            self.wrong(3, f"{head}\n{row}\ngone: deaf\nx")
            self.wrong(5, f"{head}\ngone: deaf\ncall: stand talk\n{row}\nlate: swap")

    def test_too_many(self):
        head = "lines 1\nstand free quiet\nstand talk tone"
        self.right(head + "\ngone: deaf" * 16)
        self.wrong(19, head + "\ngone: deaf" * 17)
        self.wrong(19, head + "\ngone: deaf" * 20)
        self.wrong(19, head + "\ngone: deaf" * 16 + "\n")
        self.wrong(19, head + "\ngone: deaf" * 16 + "\nx\ny")
        self.wrong(18, head + "\ngone: deaf" * 15 + "\nx" + "\ngone: deaf" * 5)
        self.wrong(23, LARGEST_TEXT + "\ngone: deaf")

    def test_an_empty_line_at_the_end(self):
        self.wrong(11, SAMPLE_TEXT + "\n")
        self.wrong(11, SAMPLE_TEXT + "\n\n")
        self.wrong(3, "lines 1\nstand free quiet\nstand talk tone\n")

    def test_other_ends_of_lines(self):
        self.wrong(0, SAMPLE_TEXT.replace("\n", "\r\n"))
        self.wrong(0, SAMPLE_TEXT.replace("\n", "\r"))
        self.wrong(10, SAMPLE_TEXT + "\r")
        self.wrong(10, SAMPLE_TEXT + "\x0c")
        self.wrong(10, SAMPLE_TEXT + "\u2028")


class BentTexts(ReadCase):
    def reads(self, text):
        expected = first_wrong_line(text)
        try:
            house = House.read(text)
        except WrongLine as error:
            self.assertEqual(error.index, expected, text)
            return
        self.assertIsNone(expected, text)
        self.assertEqual(str(house), text)

    def test_cut_off_behind_any_line(self):
        for many in range(1, len(LINES)):
            text = "\n".join(LINES[:many])
            self.reads(text)
            if many > 2:
                self.right(text)
            else:
                self.wrong(many, text)
            self.wrong(many, text + "\n")

    def test_lines_left_out(self):
        for at in range(len(LINES)):
            self.reads("\n".join(LINES[:at] + LINES[at + 1:]))
        self.wrong(0, "\n".join(LINES[1:]))
        self.wrong(4, "\n".join(LINES[:2] + LINES[3:]))
        self.wrong(5, "\n".join(LINES[:3] + LINES[4:]))

    def test_lines_doubled(self):
        for at in range(len(LINES)):
            text = "\n".join(LINES[:at] + [LINES[at]] + LINES[at:])
            self.reads(text)
            if at < 5:
                self.wrong(at + 1, text)
            else:
                self.right(text)

    def test_lines_exchanged(self):
        for at in range(len(LINES)):
            for other in range(at):
                lines = list(LINES)
                lines[at], lines[other] = LINES[other], LINES[at]
                self.reads("\n".join(lines))
        self.wrong(0, "\n".join([LINES[1], LINES[0], *LINES[2:]]))
        self.wrong(5, "\n".join([*LINES[:4], LINES[5], LINES[4], *LINES[6:]]))

    def test_empty_lines_put_in(self):
        for at in range(len(LINES) + 1):
            self.wrong(at, "\n".join(LINES[:at] + [""] + LINES[at:]))

    def test_each_sign_bent(self):
        for text in (SAMPLE_TEXT, JOINING_TEXT):
            for other in bent(text, " ,:\n10az"):
                self.reads(other)


class NoTexts(unittest.TestCase):
    def test_what_is_no_string(self):
        for thing in OTHER_THINGS + (0, 1, (), (SAMPLE_TEXT,), [SAMPLE_TEXT], SAMPLE_TEXT.encode(), tuple(LINES),
                                     House.read(SAMPLE_TEXT)):
            with self.subTest(thing=thing):
                for call in (lambda: House.read(thing), lambda: House.read(text=thing)):
                    with self.assertRaises(InvalidText) as caught:
                        call()
                    self.assertEqual(list(vars(caught.exception)), ["given"])
                    self.assertIs(caught.exception.given, thing)

    def test_what_is_given_stays_as_it_was(self):
        given = ["lines 1", ["stand"]]
        with self.assertRaises(InvalidText):
            House.read(given)
        self.assertEqual(given, ["lines 1", ["stand"]])


if __name__ == "__main__":
    unittest.main()
