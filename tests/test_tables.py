"""[50] and [51]: tables, answers, and the texts that an answer gives in a row."""

import unittest

from crumbjar.errors import BadTable
from crumbjar.tables import answer_of, check_table, is_answer, texts_given
from kinds import OTHERS, not_tuples

PAGE, PICTURE = ("https", "a.com", "/"), ("http", "t.net", "/i")
LINE = ("always", "n=1")
FULL = ((LINE, ("new", "")), PICTURE, (("frame", PAGE), ("picture", PICTURE), ("write", "n=2")))


class AnswersTest(unittest.TestCase):
    def check_answers(self, right, *values):
        for value in values:
            self.assertIs(is_answer(value), right, value)

    def test_right_ones(self):
        self.check_answers(True, ((), None, ()), FULL, ((LINE,) * 5, PAGE, (("frame", PAGE),) * 4), ((), PAGE, (("write", ""),)))
        self.assertIs(is_answer(value=FULL), True)

    def test_sizes(self):
        for many in range(8):
            self.check_answers(many <= 5, ((LINE,) * many, None, ()))
            for part in (("frame", PAGE), ("picture", PAGE), ("write", "x")):
                self.check_answers(many <= 4, ((), None, (part,) * many))
        for many in (0, 1, 399, 400, 401, 402):
            text = "x" * many
            self.check_answers(many <= 400, ((("always", text),), None, ()), ((("new", text),), None, ()), ((), None, (("write", text),)))

    def test_wrong_lines(self):
        for line in (("Always", "n"), ("never", "n"), ("", "n"), (None, "n"), (["new"], "n"), ("new", None), ("new", 5), ("new", b"n"),
                     ("new", ("n",)), ("new",), ("new", "n", "n"), ["new", "n"], (), "new", None, 5, {"new": "n"}):
            self.check_answers(False, ((line,), None, ()), ((LINE, line), None, ()))
        for lines in (None, [], [LINE], "", LINE, {}, 5):
            self.check_answers(False, (lines, None, ()))

    def test_wrong_goals(self):
        for goal in OTHERS:
            self.check_answers(goal is None or goal == ("http", "a.com", "/"), ((), goal, ()))
        self.check_answers(False, ((), ("https", "A.com", "/"), ()), ((), list(PAGE), ()), ((), "https://a.com/", ()), ((), (), ()))

    def test_wrong_parts(self):
        for part in (("frame", "n"), ("frame", None), ("picture", "n"), ("picture", ("https", "a.com")), ("write", PAGE), ("write", None),
                     ("write", 5), ("Frame", PAGE), ("link", PAGE), ("", "n"), (None, PAGE), (["frame"], PAGE), (("frame",), PAGE),
                     ("frame",), ("frame", PAGE, PAGE), ["frame", PAGE], (), "frame", None, 5):
            self.check_answers(False, ((), None, (part,)), ((), None, (("write", ""), part)))
        for parts in (None, [], [("write", "")], "", ("write", ""), {}, 5):
            self.check_answers(False, ((), None, parts))

    def test_other_kinds(self):
        self.check_answers(False, *OTHERS, list(FULL), FULL[:2], FULL + ((),))


class TablesTest(unittest.TestCase):
    def table(self, many):
        return tuple((("https", f"h{at}", "/"), ((), None, ())) for at in range(many))

    def check_bad(self, value, index):
        with self.assertRaises(BadTable) as caught:
            check_table(value)
        self.assertEqual(caught.exception.index, index)

    def test_sizes(self):
        for many in (0, 1, 29, 30):
            self.assertIsNone(check_table(self.table(many)))
        for many in (31, 32, 60):
            self.check_bad(self.table(many), 30)
        self.assertIsNone(check_table(value=((PAGE, FULL), (PICTURE, FULL))))

    def test_no_pairs(self):
        for value in (*OTHERS, (PAGE,), (PAGE, FULL, FULL), [PAGE, FULL], (PAGE, None), (None, FULL), (PAGE, FULL[:2]), (list(PAGE), FULL),
                      (("https", "A", "/"), FULL), (PAGE, list(FULL))):
            self.check_bad((value,), 0)
            self.check_bad((*self.table(3), value, None), 3)
            self.check_bad((*self.table(29), value, value), 29)

    def test_an_address_twice(self):
        self.check_bad(((PAGE, FULL), (PICTURE, FULL), (PAGE, ((), None, ()))), 2)
        self.check_bad(((PAGE, FULL), (PAGE, FULL), None), 1)
        self.check_bad((*self.table(30), self.table(1)[0]), 30)
        self.check_bad((*self.table(29), self.table(1)[0], None), 29)
        self.assertIsNone(check_table(((("http", "a.com", "/"), FULL), (("https", "a.com", "/"), FULL), (("https", "a.com", "/x"), FULL))))

    def test_no_tuples(self):
        for value in not_tuples():
            self.check_bad(value, None)
        self.check_bad([(PAGE, FULL)], None)

    def test_answers(self):
        table = ((PAGE, FULL), (PICTURE, ((LINE,), None, ())))
        self.assertEqual((answer_of(table, PAGE), answer_of(table, PICTURE)), (FULL, ((LINE,), None, ())))
        for address in (("http", "a.com", "/"), ("https", "a.com", "/x"), ("https", "www.a.com", "/")):
            self.assertEqual(answer_of(table, address), ((), None, ()))
        self.assertEqual(answer_of(address=PAGE, table=()), ((), None, ()))


class TextsTest(unittest.TestCase):
    def texts(self, lines, number=7, names=()):
        return texts_given((tuple(lines), None, ()), number, names)

    def test_order_and_numbers(self):
        lines = (("always", "b=*; Path=/*"), ("new", "*=a**b"), ("always", ""), ("always", "b=*; Path=/*"))
        self.assertEqual(self.texts(lines), ("b=7; Path=/7", "7=a77b", "", "b=7; Path=/7"))
        self.assertEqual(self.texts(lines, 120)[1], "120=a120120b")
        self.assertEqual(self.texts(()), ())
        self.assertEqual(texts_given(names=(), number=1, answer=FULL), ("n=1", ""))

    def test_new_ones(self):
        lines = (("new", "n=1"), ("new", " \tn =2; Secure"), ("new", "N=1"), ("new", "m=1"), ("always", "n=1"), ("new", "=v"), ("new", "v"), ("new", "n"))
        self.assertEqual(self.texts(lines, names=("n",)), ("N=1", "m=1", "n=1", "=v", "v", "n"))
        self.assertEqual(self.texts(lines, names=("",)), ("n=1", " \tn =2; Secure", "N=1", "m=1", "n=1"))
        self.assertEqual(self.texts(lines, names=("x", "n", "m", "", "N")), ("n=1",))
        # The name is the one that is read behind the number's coming in, also in a line that gives no crumb.
        self.assertEqual(self.texts((("new", "n*=1"), ("new", "n7=1"), ("new", "*")), names=("n7",)), ("7",))
        self.assertEqual(self.texts((("new", "n*=1"),), names=("n*",)), ("n7=1",))
        self.assertEqual(self.texts((("new", ""), ("new", ";n=1"), ("new", "a\nb=1")), names=("",)), ("a\nb=1",))
        self.assertEqual(self.texts((("new", "a\nb=1"),), names=("a\nb",)), ())


if __name__ == "__main__":
    unittest.main()
