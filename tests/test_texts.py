"""Stage 15 and [15.1]: texts."""

import unittest

from tests.force import drawn_questions, drawn_store, drawn_weights
from tests.samples import LONGEST, PLAN, STAR, THREE, TRI, Strict, all_kinds, kinds_but
from tests.test_weights import NO_WEIGHTS
from touchrows.base.figures import great_in
from touchrows.base.questions import Question
from touchrows.base.ratios import Ratio
from touchrows.data.stores import Store
from touchrows.errors import InvalidOperation, InvalidQuestion, InvalidStore, InvalidWeights, ParseError
from touchrows.plan.plans import Plan, flat_plan
from touchrows.text.texts import (
    read_change, read_question, read_store, read_weights, read_witness, write_change, write_question, write_store, write_weights,
    write_witness,
)
from touchrows.weigh.weights import covering, filling
from touchrows.weigh.worst import is_witness, witness

WIDE = Question({"empty": ("a",), "r": ("a", "b", "c", "d", "e", "f"), "s": ("a", "b")}, ("a",))
NUMBERS = (0, 1, -1, 9, -10, 10 ** 59, LONGEST, -LONGEST)
# Words that are near the text of an integer.
NO_FIGURES = ("", "+1", "-0", "00", "01", "-01", "- 1", "1.0", "1e3", "1_0", "0x1", "--1", "1-", "-", "x", "9" * 61, "-" + "9" * 61, "1" + "0" * 60, "1/2",
              "\u0661", "\u00b2", "True", "None")


def changed_letters(text):
    """Texts with one sign left out, twice, put in, or exchanged."""
    for at, sign in enumerate(text):
        yield text[:at] + text[at + 1:]
        yield text[:at] + sign + text[at:]
        for other in " \n,/-+0a:;A":
            yield text[:at] + other + text[at:]
            yield text[:at] + other + text[at + 1:]
        yield text[:at] + text[at + 1:at + 2] + sign + text[at + 2:]
    for other in (" ", "\n", ",", "0", "a", ", "):
        yield text + other


def changed_lines(text):
    """Texts with one line left out, twice, put in, or exchanged with the next one."""
    lines = text.split("\n")
    for at, line in enumerate(lines):
        for told in ([], [line, line], ["", line], ["empty", line], [line, "empty"], ["r", line], [" " + line], [line + " "], ["zz 1", line], ["r 1 x", line]):
            yield "\n".join([*lines[:at], *told, *lines[at + 1:]])
        yield "\n".join([*lines[:at], *lines[at + 1:at + 2], line, *lines[at + 2:]])


def is_figure(word):
    body = word.removeprefix("-")
    if not body or any(sign not in "0123456789" for sign in body) or len(body) > 60:
        return False
    return word == "0" or (body[0] != "0")


def store_by_force(question, lines, first=0):
    """The rows that the lines of a store tell of, or the index of the line at fault."""
    if lines == ["empty"]:
        return {}
    told = []
    for at, line in enumerate(lines):
        table, *words = line.split(" ")
        if table not in question.names or len(words) != len(question.tables[table]) or not all(map(is_figure, words)):
            return first + at
        pair = (table, tuple(map(int, words)))
        if told and told[-1] >= pair:
            return first + at
        told.append(pair)
    return {name: tuple(row for table, row in told if table == name) for name in question.names}


class Questions(Strict, unittest.TestCase):
    def test_both_ways(self):
        for draw, question in drawn_questions(80, "texts", most=6, columns=8, sizes=True):
            text = write_question(question)
            self.assertSame(text, "\n".join(question.lines))
            self.assertEqual(read_question(text), question)
            lines = text.split("\n")
            draw.shuffle(lines)
            self.assertEqual(read_question("\n".join(lines)), question)

    def test_near_texts(self):
        question = STAR.with_size("s", Ratio(3, 2))
        text = write_question(question)
        for told in [*changed_letters(text), *changed_lines(text), "", "\n", " "]:
            try:
                wanted = Question.from_lines(*told.split("\n"))
            except (ParseError, InvalidQuestion) as error:
                caught = self.assertFails(type(error), read_question, told)
                if isinstance(error, ParseError):
                    self.assertSame(caught.number, error.number)
            else:
                self.assertEqual(read_question(told), wanted)
        self.assertKeeps(ParseError, "number", 0, read_question, "")
        self.assertKeeps(ParseError, "number", 1, read_question, "table r a\n")
        self.assertFails(InvalidQuestion, read_question, "table r a\ngroup b")

    def test_other_values(self):
        for value in kinds_but(str):
            self.assertKeeps(ParseError, "number", None, read_question, value)
        for value in [*kinds_but(Question), "table r a"]:
            self.assertFails(InvalidQuestion, write_question, value)


class Stores(Strict, unittest.TestCase):
    def test_both_ways(self):
        for draw, question in drawn_questions(80, "stores", most=5, columns=8):
            store = drawn_store(draw, question, 6, 4)
            rows = {name: tuple({tuple(draw.choice(NUMBERS) for _ in row) for row in listed}) for name, listed in store.rows.items()}
            for told in (store, Store(question, rows), Store(question, {})):
                lines = [" ".join([table, *map(str, row)]) for table, row in told]
                self.assertSame(write_store(told), "\n".join(lines) if lines else "empty")
                self.assertEqual(read_store(question, write_store(told)), told)

    def test_near_texts(self):
        store = Store(TRI, {"r": ((-1, 0), (1, -10), (1, 2)), "t": ((0, 5), (10, 5))})
        text, seen = write_store(store), set()
        for told in [*changed_letters(text), *changed_lines(text), "", "\n", " ", "empty\n", "empty\nempty", "empty\nr 1 2", "r 1 2\nempty", "Empty"]:
            wanted = store_by_force(TRI, told.split("\n"))
            if isinstance(wanted, int):
                self.assertKeeps(ParseError, "number", wanted, read_store, TRI, told)
                seen.add(wanted)
            else:
                self.assertEqual(read_store(TRI, told), Store(TRI, wanted))
        self.assertEqual(seen, {0, 1, 2, 3, 4, 5})

    def test_first_line_at_fault(self):
        for number, text in ((0, "empty\nr 1 2"), (0, "empty\nempty"), (1, "r 1 2\nempty"), (1, "r 1 2\nr 1 2"), (1, "r 1 2\nr 1 1"), (1, "s 1 2\nr 1 3"),
                             (0, "r 1"), (0, "r 1 2 3"), (0, "q 1 2"), (0, "r"), (0, ""), (1, "r 1 2\n"), (0, "\nr 1 2"), (2, "r 1 2\ns 1 2\nr 1 3\nr x"),
                             (1, "r 1 2\nr 1 2 3\nempty"), (1, "r 9 9\nr 10 9x"), (0, " r 1 2"), (0, "r  1 2"), (0, "r 1 2 "), (0, "r 1\t2")):
            self.assertKeeps(ParseError, "number", number, read_store, TRI, text)
        self.assertEqual(read_store(TRI, "r 9 9\nr 10 9"), Store(TRI, {"r": ((9, 9), (10, 9))}))

    def test_figures(self):
        for word in NO_FIGURES:
            self.assertKeeps(ParseError, "number", 1, read_store, TRI, f"r 0 1\nr 1 {word}")
            self.assertKeeps(ParseError, "number", 0, read_store, TRI, f"r {word} 1")
        for number in NUMBERS:
            self.assertEqual(read_store(TRI, f"r {number} {number}"), Store(TRI, {"r": ((number, number),)}))

    def test_a_table_with_the_word_as_its_name(self):
        store = Store(WIDE, {"empty": ((5,), (6,)), "s": ((1, 2),)})
        self.assertSame(write_store(store), "empty 5\nempty 6\ns 1 2")
        self.assertEqual(read_store(WIDE, "empty 5\nempty 6\ns 1 2"), store)
        self.assertEqual(read_store(WIDE, "empty"), Store(WIDE, {}))
        self.assertKeeps(ParseError, "number", 0, read_store, WIDE, "empty\nempty 5")

    def test_too_many_rows(self):
        lines = [f"r 0 {number}" for number in range(2001)]
        self.assertFails(InvalidStore, read_store, TRI, "\n".join(lines))
        self.assertKeeps(ParseError, "number", 2001, read_store, TRI, "\n".join([*lines, "r 0 0"]))
        full = read_store(TRI, "\n".join([*lines[:2000], "s 1 1"]))
        self.assertSame([len(full), read_store(TRI, write_store(full)) == full], [2001, True])

    def test_other_values(self):
        for value in kinds_but(str):
            self.assertKeeps(ParseError, "number", None, read_store, TRI, value)
        for value in kinds_but(Question):
            for text in ("empty", None, "x"):
                self.assertFails(InvalidQuestion, read_store, value, text)
        for value in [*kinds_but(Store), THREE.rows]:
            self.assertFails(InvalidStore, write_store, value)


class Weights(Strict, unittest.TestCase):
    def test_both_ways(self):
        for draw, question in drawn_questions(60, "weights", sizes=True):
            plan = flat_plan(question)
            told = [drawn_weights(draw, (*question.names, "none")), (("r", (LONGEST, LONGEST - 1)),), (("a", (1, LONGEST)), ("b", (LONGEST, 1)))]
            told += [call(plan, plan.root, table) for call in (covering, filling) for table in question.names]
            for weights in told:
                words = [f"{name} {p}" + (f"/{q}" if q > 1 else "") for name, (p, q) in weights]
                self.assertSame(write_weights(weights), ", ".join(words) if words else "none")
                self.assertSame(read_weights(write_weights(weights)), weights)

    def test_near_texts(self):
        right = ["r 1/2, s 2", "none", "none 1/2"]
        for told in right:
            self.assertSame(write_weights(read_weights(told)), told)
        for text in [one for told in right for one in changed_letters(told)]:
            try:
                weights = read_weights(text)
            except ParseError as error:
                self.assertIsNone(error.number)
            else:
                self.assertSame(write_weights(weights), text)
        for text in ("", "r", "r 1/2,s 2", "r 1/2,  s 2", "r 1/2 , s 2", "s 2, r 1/2", "r 1/2, r 1", "r 1/2, r 1/2", "r 2/4", "r 2/1", "r 0", "r -1", "r 1/0", "R 1",
                     "r +1", "r 01", "none, r 1", "r 1, none", "None", " none", "none ", "r 1/2, ", ", r 1", "r 1/2\ns 2", "r 1 2", "abcdefghi 1", "1 1",
                     "r 1/-2", "r " + "9" * 61, "r 1/" + "9" * 61, "r 1/2;s 2", "none\n", "r 1.5"):
            self.assertKeeps(ParseError, "number", None, read_weights, text)

    def test_other_values(self):
        for value in all_kinds():
            self.assertKeeps(ParseError, "number", None, read_weights, value)
        for value in [*NO_WEIGHTS, *(one for one in all_kinds() if one != ())]:
            self.assertFails(InvalidWeights, write_weights, value)


class Changes(Strict, unittest.TestCase):
    NEAR = (("put", "r", ()), ("put", "r", (1,) * 7), ["put", "r", (1,)], ("put", "r", [1]), ("Put", "r", (1,)), ("set", "r", (1,)), ("put", "R", (1,)),
            ("put", "", (1,)), ("put", None, (1,)), (None, "r", (1,)), ([], "r", (1,)), ("put", "r", (True,)), ("put", "r", (LONGEST + 1,)), ("put", "r"),
            ("put", "r", (1,), 1), ("put", "r", ("1",)), ("put", "r", 1), "put r 1", (("put", "r", (1,)),), ("put", "abcdefghi", (1,)))

    def test_both_ways(self):
        for word in ("put", "take"):
            for table in ("r", "put", "abcdefgh"):
                for row in ((0,), (1, -2), NUMBERS[:6], NUMBERS[-6:]):
                    text = " ".join([word, table, *map(str, row)])
                    self.assertSame(write_change((word, table, row)), text)
                    self.assertSame(read_change(text), (word, table, row))

    def test_near_texts(self):
        for told in ("put r 1 -2", "take abc 10"):
            for text in changed_letters(told):
                try:
                    change = read_change(text)
                except ParseError as error:
                    self.assertIsNone(error.number)
                else:
                    self.assertSame(write_change(change), text)
        for text in ("", "put", "put r", "put r ", "put  r 1", " put r 1", "put r 1 ", "put r 1\n", "Put r 1", "foresee put r 1", "put R 1", "put 1 r", "put r 1 2 3 4 5 6 7",
                     "put abcdefghi 1", "r 1", "put r 1, 2", "put r (1, 2)", *(f"put r {word}" for word in NO_FIGURES)):
            self.assertKeeps(ParseError, "number", None, read_change, text)

    def test_other_values(self):
        for value in all_kinds():
            self.assertKeeps(ParseError, "number", None, read_change, value)
        for value in [*self.NEAR, *all_kinds()]:
            self.assertFails(InvalidOperation, write_change, value)


class Witnesses(Strict, unittest.TestCase):
    def test_both_ways(self):
        halves = (("a", (1, 2)), ("b", (1, 2)), ("c", (1, 2)))
        whole = flat_plan(TRI.with_table("u", ("d",)).with_groups(("a", "b", "c")))
        told = witness(whole, whole.root, "u", halves, 2)
        text = write_witness(told)
        self.assertSame(text.split("\n")[:3], ["4", "0", "r 0 0"])
        again = read_witness(whole.question, text)
        self.assertSame(again[::2], told[::2])
        self.assertEqual(again[1], told[1])
        self.assertIs(is_witness(whole, whole.root, "u", again), True)

    def test_whatever_stands_there(self):
        for number in (1, 5, LONGEST, LONGEST + 1, 10 ** 99, 10 ** 600 - 1, 7 ** 9000, 10 ** 4300, 10 ** 12000 + 1):
            for row in ((0,), (1, -2), NUMBERS[:6], NUMBERS[-6:]):
                for store in (THREE, Store(TRI, {}), Store(WIDE, {"empty": ((5,),), "r": (NUMBERS[-6:],)})):
                    text = write_witness((number, store, row))
                    first, second, *rest = text.split("\n")
                    self.assertEqual((second, "\n".join(rest)), (" ".join(map(str, row)), write_store(store)))
                    self.assertSame(great_in(first), number)
                    told = read_witness(store.question, text)
                    self.assertSame((told[0], told[2]), (number, row))
                    self.assertEqual(told[1], store)
        self.assertSame(write_witness((10 ** 5000, Store(TRI, {}), (1,))), "1" + "0" * 5000 + "\n1\nempty")

    def test_told_numbers_of_many_figures(self):
        question = Question({"r": ("a",), "s": ("b",)}, (), sizes={"r": Ratio(1, 59), "s": Ratio(1, 60)})
        plan = flat_plan(question)
        told = witness(plan, plan.root, "r", filling(plan, plan.root, "r"), 1000)
        self.assertSame(told[0], 1000 ** 3540)
        self.assertSame(read_witness(question, write_witness(told))[0], told[0])

    def test_near_texts(self):
        text = write_witness((12, Store(TRI, {"r": ((-1, 0), (1, 2)), "t": ((0, 5),)}), (3, -4)))
        seen = set()
        for told in [*changed_letters(text), *changed_lines(text), "", "5", "5\n1", "5\n1\n", "x", "5\nx", "5\n1\nx", "0\n1\nempty", "-1\n1\nempty", "5\n1\nempty\nempty",
                     "5\n1\nempty\nr 1 2", "5\n1\nr 1 2\nempty", "5\n1 2 3 4 5 6 7\nempty", "5\n\nempty", "\n1\nempty", "5\n1 \nempty", "05\n1\nempty", "5 \n1\nempty",
                     "+5\n1\nempty", "5\n1,2\nempty"]:
            lines = told.split("\n")
            if not lines[0].isdigit() or lines[0][0] == "0":
                wanted = 0
            elif len(lines) < 2 or not all(map(is_figure, lines[1].split(" "))) or len(lines[1].split(" ")) > 6:
                wanted = 1
            elif len(lines) < 3:
                wanted = 2
            else:
                wanted = store_by_force(TRI, lines[2:], 2)
            if isinstance(wanted, int):
                self.assertKeeps(ParseError, "number", wanted, read_witness, TRI, told)
                seen.add(wanted)
            else:
                number, store, row = read_witness(TRI, told)
                self.assertSame((number, row), (int(lines[0]), tuple(map(int, lines[1].split(" ")))))
                self.assertEqual(store, Store(TRI, wanted))
        self.assertEqual(seen, {0, 1, 2, 3, 4, 5})

    def test_figures(self):
        for word in NO_FIGURES:
            if word not in ("9" * 61, "1" + "0" * 60):
                self.assertKeeps(ParseError, "number", 0, read_witness, TRI, f"{word}\n1\nempty")
            self.assertKeeps(ParseError, "number", 1, read_witness, TRI, f"5\n1 {word}\nempty")
            self.assertKeeps(ParseError, "number", 3, read_witness, TRI, f"5\n1\nr 1 2\nr 2 {word}")
        self.assertKeeps(ParseError, "number", 0, read_witness, TRI, "0" * 5000 + "\n1\nempty")
        self.assertKeeps(ParseError, "number", 0, read_witness, TRI, "9" * 5000 + "x\n1\nempty")

    def test_too_many_rows(self):
        lines = [f"r 0 {number}" for number in range(2001)]
        self.assertFails(InvalidStore, read_witness, TRI, "\n".join(["5", "1", *lines]))
        self.assertKeeps(ParseError, "number", 2003, read_witness, TRI, "\n".join(["5", "1", *lines, "x"]))
        self.assertFails(InvalidQuestion, read_witness, None, "\n".join(["5", "1", *lines]))

    def test_other_values(self):
        for value in kinds_but(str):
            self.assertKeeps(ParseError, "number", None, read_witness, TRI, value)
        for value in kinds_but(Question):
            for text in ("5\n1\nempty", None, "x"):
                self.assertFails(InvalidQuestion, read_witness, value, text)
        for value in [
            *all_kinds(), (5, THREE), (5, THREE, (1,), 1), [5, THREE, (1,)], (0, THREE, (1,)), (-5, THREE, (1,)), (True, THREE, (1,)), ("5", THREE, (1,)),
            (None, THREE, (1,)), (5, THREE.rows, (1,)), (5, PLAN, (1,)), (5, None, (1,)), (5, THREE, ()), (5, THREE, (1,) * 7), (5, THREE, [1]), (5, THREE, (True,)),
            (5, THREE, (LONGEST + 1,)), (5, THREE, None), (5, THREE, 1), (THREE, 5, (1,)), (Ratio(5, 1), THREE, (1,)),
        ]:
            self.assertFails(InvalidOperation, write_witness, value)


class Examples(Strict, unittest.TestCase):
    def test_examples(self):
        told = [write_question(STAR), write_weights((("r", (1, 2)), ("s", (2, 1)))), read_weights("none"), read_change("put t 9 -5"), write_store(Store(TRI, {}))]
        self.assertSame(told, ["table r a b\ntable s a c\ntable u a\ngroup a", "r 1/2, s 2", (), ("put", "t", (9, -5)), "empty"])
        text = write_store(THREE)
        self.assertSame([text, read_store(TRI, text) == THREE], ["r 1 2\nr 1 3\ns 2 5\ns 3 5\nt 1 5", True])

    def test_plans_have_their_own_text(self):
        self.assertEqual(Plan.of_text(read_question(write_question(TRI)), PLAN.text), PLAN)
