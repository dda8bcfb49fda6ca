"""Stage 16 and [16.1]: the shell."""

import unittest

from tests.force import drawn_questions, drawn_row, places_of_plan
from tests.samples import LONGEST, PATH, STAR, TRI, Strict, all_kinds, kinds_but
from touchrows.base.questions import Question
from touchrows.base.ratios import Ratio
from touchrows.best.least import is_least_plan, least_degree, least_for
from touchrows.best.nested import crossing, is_constant, is_crossing
from touchrows.data.stores import Store
from touchrows.errors import (
    InvalidOperation, InvalidQuestion, InvalidRow, InvalidView, NothingToUndo, ParseError, Refused, RowAbsent, RowThere, TooMany, UnknownName,
)
from touchrows.keep.keepers import Keeper
from touchrows.plan.plans import Plan, flat_plan
from touchrows.text.shell import Shell
from touchrows.text.texts import read_weights, write_change, write_question, write_store
from touchrows.use.bench import Bench
from touchrows.weigh.rooms import degrees, plan_degree, plan_room
from touchrows.weigh.weights import degree, is_greatest_filling, is_least_covering

WORDS = {
    InvalidQuestion: "question", InvalidRow: "row", InvalidView: "view", InvalidOperation: "operation", UnknownName: "unknown", RowThere: "there",
    RowAbsent: "absent", NothingToUndo: "undo",
}
APART = Question({"r": ("a",), "s": ("b",), "t": ("c",)}, ("a", "b"))


def seen(shell):
    """All that can be seen of a shell."""
    bench, keeper = shell.bench(), shell.keeper()
    told = [bench.plan, bench.pledges, len(shell), keeper.plan, list(keeper.store), keeper.changes, keeper.total, keeper.result]
    for call in (bench.undo, bench.redo):
        twin = bench.twin()
        try:
            while True:
                getattr(twin, call.__name__)()
                told.append((call.__name__, twin.plan, twin.pledges))
        except NothingToUndo:
            pass
    return told


def ratio_text(pair):
    return str(Ratio(*pair))


def news_by_force(news):
    if not news:
        return "nothing"
    before, behind = (" ".join(map(ratio_text, told)) for told in news)
    return f"from {before} to {behind}"


def pledge_line(pledge):
    return " ".join([*pledge[:-1], ratio_text(pledge[-1])]) if len(pledge) > 1 else "constant"


def word_for(error):
    if isinstance(error, TooMany):
        return f"many {error.limit}"
    return f"refused {pledge_line(error.pledge)}" if isinstance(error, Refused) else WORDS[type(error)]


class Twin:
    """A bench and a keeper beside a shell, called directly."""

    def __init__(self, question):
        self.bench = Bench(flat_plan(question))
        self.keeper = Keeper(self.bench.plan, Store(question, {}))
        self.answered = 0

    def moved(self, call):
        bench = self.bench.twin()
        news = call(bench)
        self.keeper = Keeper(bench.plan, Store(bench.question, self.keeper.store.rows))
        self.bench = bench
        return news_by_force(news)


def drawn_command(draw, twin):
    """A drawn command: its line, and what it asks of a bench and a keeper."""
    plan, question = twin.bench.plan, twin.bench.question
    names = question.names
    view = tuple(draw.sample(names, draw.randint(1, len(names))))
    view = tuple(sorted(view)) if draw.random() < 0.9 else view
    table = draw.choice((*names, "zz")) if draw.random() < 0.2 else draw.choice(names)
    size = draw.choice((Ratio(1, 1), Ratio(1, 2), Ratio(3, 2), Ratio(0, 1), Ratio(10, 1), Ratio(-1, 2), Ratio(1, 60)))
    limit = draw.choice([(0, 1), (1, 2), (1, 1), (3, 2), (2, 1), plan_degree(plan).pair, plan_room(plan).pair])
    pledge = draw.choice([("degree", table, limit), ("all", limit), ("room", limit), ("constant",)])
    groups = tuple(sorted(column for column in question.columns if draw.random() < 0.5))
    groups = draw.choice((groups, groups, groups[::-1], (*groups, "zzz")))
    row = drawn_row(draw, question, table, 3) if table in question else (1,)
    row = row if draw.random() < 0.9 else (*row, 1)[:6]
    word = draw.choice(("put", "take"))
    line = write_change((word, table, row))
    return draw.choice([
        (f"draw {' '.join(view)}", lambda: twin.moved(lambda bench: bench.draw(view))),
        (f"erase {' '.join(view)}", lambda: twin.moved(lambda bench: bench.erase(view))),
        (f"resize {table} {size}", lambda: twin.moved(lambda bench: bench.resize(table, size))),
        (" ".join(["regroup", *groups]), lambda: twin.moved(lambda bench: bench.regroup(groups))),
        ("undo", lambda: twin.moved(lambda bench: bench.undo())),
        ("redo", lambda: twin.moved(lambda bench: bench.redo())),
        (f"demand {pledge_line(pledge)}", lambda: news_by_force(twin.bench.demand(pledge))),
        (f"waive {pledge_line(pledge)}", lambda: news_by_force(twin.bench.waive(pledge))),
        *[(line, lambda: " ".join(map(str, getattr(twin.keeper, word)(table, row))))] * 6,
        (f"foresee {line}", lambda: " ".join(map(str, twin.keeper.foreseen(table, row)))),
        ("degrees", lambda: ", ".join(f"{name} {told}" for name, told in degrees(plan).items())),
        ("all", lambda: str(plan_degree(plan))), ("room", lambda: str(plan_room(plan))), ("plan", lambda: plan.text),
        ("question", lambda: "; ".join(question.lines)), ("store", lambda: write_store(twin.keeper.store).replace("\n", "; ")),
        ("pledges", lambda: "; ".join(map(pledge_line, twin.bench.pledges)) or "nothing"),
        ("answer", lambda: "; ".join(" ".join(map(str, key)) + f": {count}" for key, count in twin.keeper.result.items()) or "nothing"),
        (f"degree {table} {' '.join(view)}", lambda: str(degree(plan, view, table))), ("constant", lambda: "yes" if is_constant(plan) else "no"),
        (f"best {table}", lambda: str(least_for(question, table))),
    ])


class Drawn(Strict, unittest.TestCase):
    def test_against_twins(self):
        answers = set()
        for draw, question in drawn_questions(80, "shell", sizes=True):
            text = write_question(question)
            shell, other, twin = Shell(text), Shell(text), Twin(question)
            for _ in range(40):
                line, call = drawn_command(draw, twin)
                before = seen(shell)
                try:
                    wanted, error = call(), None
                    twin.answered += 1
                except (*WORDS, TooMany, Refused) as caught:
                    wanted, error = word_for(caught), caught
                told = draw.choice((shell, shell.answer))(line)
                self.assertSame(told, wanted)
                self.assertSame(other(line), told)
                if error is not None:
                    self.assertEqual(seen(shell), before)
                self.assertEqual([shell.bench(), shell.keeper(), len(shell)], [twin.bench, twin.keeper, twin.answered])
                self.assertEqual(shell.keeper().plan, shell.bench().plan)
                answers.add((line.split(" ")[0], told.split(" ")[0] if error else "done"))
            self.assertEqual(seen(shell), seen(other))
        wanted = {(word, "done") for word in ("draw", "erase", "resize", "regroup", "undo", "redo", "demand", "waive", "put", "take", "foresee", "answer", "store")}
        wanted |= {("draw", "view"), ("draw", "operation"), ("erase", "operation"), ("resize", "unknown"), ("resize", "question"), ("regroup", "question"),
                   ("undo", "undo"), ("redo", "undo"), ("demand", "refused"), ("demand", "operation"), ("waive", "operation"), ("put", "there"), ("take", "absent"),
                   ("put", "row"), ("put", "unknown"), ("regroup", "refused"), ("degree", "view"), ("best", "unknown")}
        self.assertLessEqual(wanted, answers)

    def test_any_answers(self):
        for draw, question in drawn_questions(40, "any", sizes=True):
            shell = Shell(write_question(question))
            for view in draw.sample([("r", "s"), ("s", "t"), ("q", "u"), ("r", "t", "u")], 2):
                shell("draw " + " ".join(view))
            plan = shell.bench().plan
            for view, table in places_of_plan(plan):
                behind = " ".join([table, *view])
                self.assertIs(is_least_covering(plan, view, table, read_weights(shell(f"covering {behind}"))), True)
                self.assertIs(is_greatest_filling(plan, view, table, read_weights(shell(f"filling {behind}"))), True)
            told = shell("crossing")
            if crossing(question) is None:
                self.assertSame(told, "none")
            else:
                word, *behind = told.replace(",", " ,").split(" ")
                at = behind.index(",")
                value = (word, tuple(behind[:at]), tuple(behind[at + 1:])) if word == "columns" else (word, behind[0], behind[2])
                self.assertIs(is_crossing(question, value), True)
                self.assertEqual(len(told.split(", ")), 2)
            least, text = shell("least").split(" ", 1)
            self.assertEqual(least, str(least_degree(question)))
            self.assertIs(is_least_plan(question, Plan.of_text(question, text)), True)


class Keepers(Strict, unittest.TestCase):
    def setUp(self):
        self.shell = Shell(write_question(TRI))
        self.say("put r 1 2", "put s 2 5", "put t 1 5", "put t 9 9", "take t 9 9")
        self.rows = list(self.shell.keeper().store)

    def say(self, *lines):
        for line in lines:
            self.shell(line)

    def test_begun_anew(self):
        for line in ("draw r s", "erase r s", "resize r 1/2", "resize r 1/2", "regroup a", "regroup a", "undo", "redo", "undo"):
            self.say("put t 7 7", "take t 7 7")
            self.assertEqual(len(self.shell.keeper()) >= 2, True)
            self.shell(line)
            keeper = self.shell.keeper()
            self.assertSame([keeper.changes, keeper.total, list(keeper.store)], [(), 0, self.rows])
            self.assertEqual([keeper.plan, keeper.store.question], [self.shell.bench().plan, self.shell.bench().question])
            self.assertEqual(keeper, Keeper(keeper.plan, keeper.store))

    def test_begun_anew_behind_pledges_taken_back(self):
        self.say("demand all 1")
        self.assertSame(len(self.shell.keeper()), 5)
        self.say("undo")
        self.assertSame(len(self.shell.keeper()), 0)
        self.say("put t 7 7", "redo")
        self.assertSame([len(self.shell.keeper()), len(self.shell.keeper().store)], [0, 4])

    def test_not_begun_anew(self):
        for line in ("demand all 1", "waive all 1", "plan", "draw r r", "draw r s t", "erase r s", "redo", "demand constant", "resize q 1", "regroup z", "x", "answer",
                     "foresee put r 7 7"):
            self.shell(line)
            self.assertSame(len(self.shell.keeper()), 5)

    def test_foresee_tells_by_the_row_alone(self):
        self.say("draw r s")
        before = list(self.shell.keeper().store)
        for row in ("1 2", "7 2", "7 7"):
            keeper = self.shell.keeper()
            wanted = " ".join(map(str, keeper.foreseen("r", tuple(map(int, row.split(" "))))))
            self.assertSame([self.shell(f"foresee put r {row}"), self.shell(f"foresee take r {row}")], [wanted] * 2)
        self.assertSame([self.shell("foresee put q 1 2"), self.shell("foresee take r 1")], ["unknown", "row"])
        self.assertEqual(list(self.shell.keeper().store), before)

    def test_twins(self):
        bench, keeper, before = self.shell.bench(), self.shell.keeper(), seen(self.shell)
        bench.draw(("r", "s"))
        bench.demand(("all", (1, 1)))
        keeper.put("t", (7, 7))
        self.assertEqual(seen(self.shell), before)
        self.assertEqual([type(bench), type(keeper)], [Bench, Keeper])
        later = keeper.twin()
        self.say("draw r t", "put t 8 8")
        self.assertEqual([bench.plan.text, keeper], ["((r s) t)", later])


class Lines(Strict, unittest.TestCase):
    GOOD = ("draw r s", "erase r s", "resize r 1/2", "resize r 1", "regroup a b", "regroup", "demand degree t 1", "demand all 3/2", "demand room 9", "waive all 3/2",
            "waive room 9", "undo", "redo", "question", "plan", "pledges", "store", "put r 1 -2", "take r 1 -2", "foresee put r 1 2", "foresee take t 5 0", "answer",
            "degrees", "all", "room", "covering r r s t", "filling t r s t", "degree t t", "constant", "crossing", "least", "best r", "waive degree t 1")
    ODD = (
        "", " ", "fly", "Draw r s", "draw", "draw ", "draw r  s", "draw r, s", "draw R", "draw (r s)", "erase", "resize", "resize r", "resize r 2/4", "resize r 1/0",
        "resize r x", "resize r 1 2", "resize r s 1", "resize 1 r", "resize R 1", "resize r " + "9" * 61, "regroup 1", "regroup a,b", "regroup  a", "demand",
        "demand degree", "demand degree t", "demand degree t x", "demand degree t 1 1", "demand degree T 1", "demand all", "demand all r 1", "demand all 1 2",
        "demand all 2/2", "demand room", "demand room x", "demand constant 1", "demand constants", "demand answers", "demand answers table r a b", "waive", "waive all",
        "waive constant 1", "undo 1", "undo undo", "redo 2", "question x", "plan r", "pledges all", "store r", "put", "put r", "put r x", "put r 01", "put r +1",
        "put r 1 2 3 4 5 6 7", "put r -0", "put R 1 2", "take r", "take", "foresee", "foresee r 1 2", "foresee put", "foresee put r", "foresee foresee put r 1 2",
        "foresee set r 1 2", "put r " + "9" * 61 + " 1", "answer 1", "degrees r", "all r", "room r s", "covering", "covering r", "covering R r", "filling r", "degree r",
        "degree", "covering r  r s", "constant yes", "crossing a", "least r", "best", "best r s", "best R", "best 1", "what", "nothing", "degree r 1", "help", "draw\nr s",
        "question\n", "\nquestion", "undo;redo", "plan; plan",
    )

    def test_near_commands(self):
        for line in (*self.ODD, *(f"{line} " for line in self.GOOD), *(f" {line}" for line in self.GOOD), *(line.upper() for line in self.GOOD),
                     *(f"{line}\n" for line in self.GOOD), *(line.replace(" ", "  ", 1) for line in self.GOOD if " " in line)):
            shell = Shell(write_question(TRI))
            before = seen(shell)
            self.assertSame([shell(line), shell.answer(line), len(shell)], ["what", "what", 0])
            self.assertEqual(seen(shell), before)

    def test_commands(self):
        shell = Shell(write_question(TRI))
        for at, line in enumerate(self.GOOD):
            self.assertNotIn(shell(line), ("what", *WORDS.values()), line)
            self.assertSame(len(shell), at + 1)

    def test_other_values(self):
        shell = Shell(write_question(TRI))
        for value in all_kinds():
            self.assertSame([shell(value), shell.answer(value)], ["what", "what"])
        self.assertSame(len(shell), 0)

    def test_words_for_errors(self):
        shell = Shell(write_question(TRI))
        for lines in ("put r 1 2", "draw r s", "demand degree t 0", "demand all 1"):
            shell(lines)
        before = seen(shell)
        for line, word in (
            ("resize r 10", "question"), ("resize r -1", "question"), ("resize r 1/61", "question"), ("regroup z", "question"), ("regroup b a", "question"),
            ("regroup a a", "question"), ("put r 1", "row"), ("put r 1 2 3", "row"), ("take r 1", "row"), ("foresee put r 1", "row"), ("draw s r", "view"),
            ("draw r q", "view"), ("draw r r", "view"), ("erase q", "view"), ("covering r s r", "view"), ("filling r r t", "view"), ("degree r q", "view"),
            ("draw r s", "operation"), ("draw r", "operation"), ("draw s t", "operation"), ("erase s t", "operation"), ("erase r s t", "operation"),
            ("demand all 1", "operation"), ("demand all -1", "operation"), ("demand degree r -1/2", "operation"), ("waive all 2", "operation"),
            ("waive constant", "operation"), ("resize q 1", "unknown"), ("put q 1 2", "unknown"), ("take q 1", "unknown"), ("foresee take q 1", "unknown"),
            ("covering t r s", "unknown"), ("filling q r s", "unknown"), ("degree t r", "unknown"), ("best q", "unknown"), ("put r 1 2", "there"),
            ("take r 2 1", "absent"), ("redo", "undo"), ("erase r s", "refused degree t 0"), ("regroup b", "refused degree t 0"), ("demand constant", "refused constant"),
            ("demand degree r 1/2", "refused degree r 1/2"), ("demand degree zz 9", "refused degree zz 9"), ("demand room 3/2", "refused room 3/2"),
            ("resize t 0", "nothing"), ("undo", "nothing"),
        ):
            self.assertSame(shell(line), word, )
            if word != "nothing":
                self.assertEqual(seen(shell)[:2], before[:2])
        shell = Shell(write_question(TRI))
        self.assertSame([shell("undo"), shell("redo"), len(shell)], ["undo", "undo", 0])

    def test_first_pledge_that_does_not_hold(self):
        shell = Shell(write_question(TRI))
        for line in ("draw r s", "demand room 2", "demand all 1", "demand degree t 0"):
            self.assertSame(shell(line) != "what", True)
        self.assertSame([shell("resize r 2"), shell("erase r s"), shell("pledges")],
                        ["refused room 2", "refused degree t 0", "room 2; all 1; degree t 0"])


class Limits(Strict, unittest.TestCase):
    def test_ten_pledges(self):
        shell = Shell(write_question(TRI))
        for number in range(10):
            self.assertSame(shell(f"demand all {number + 1}"), "nothing")
        self.assertSame([shell("demand all 11"), shell("demand constant"), shell("demand all 3"), len(shell)], ["many 10", "many 10", "operation", 10])

    def test_many_plans(self):
        shell = Shell("\n".join(f"table {name} a" for name in "pqrstu"))
        self.assertSame([shell("least"), shell("best p"), shell("constant"), shell("crossing"), len(shell)], ["many 300", "0", "yes", "none", 3])

    def test_many_rows(self):
        shell = Shell("table r a")
        for number in range(2000):
            shell(f"put r {number}")
        self.assertSame([shell("put r 2000"), shell("put r 3"), shell("foresee put r 2000"), len(shell)], ["many 2000", "there", "1", 2001])

    def test_many_readings(self):
        shell = Shell(write_question(APART.with_groups(())))
        for number in range(320):
            shell(f"put r {number}")
            if number < 313:
                shell(f"put s {number}")
        self.assertSame(len(shell.keeper().store), 633)
        before = seen(shell)
        # 320 * 313 readings of r and s are more than 100000, and the flat plan has no view of these.
        self.assertSame([shell("draw r s"), shell("draw s t"), shell("undo"), shell("put t 0")], ["many 100000", "nothing", "nothing", "many 100000"])
        after = seen(shell)
        self.assertEqual([after[:2], after[4]], [before[:2], before[4]])
        self.assertSame([shell("take r 0"), shell("draw r s"), shell("plan"), shell("put r 0"), shell("undo"), shell("redo")],
                        ["1 0", "nothing", "((r s) t)", "many 100000", "nothing", "nothing"])

    def test_undo_that_leads_to_many_readings(self):
        shell = Shell(write_question(APART.with_groups(())))
        shell("draw r s")
        shell("erase r s")
        for number in range(400):
            shell(f"put r {number}")
            shell(f"put s {number}")
        before = seen(shell)
        self.assertSame([shell("undo"), shell("undo")], ["many 100000", "many 100000"])
        self.assertEqual(seen(shell), before)
        for number in range(160):
            shell(f"take r {number}")
        self.assertSame([shell("undo"), shell("plan")], ["nothing", "((r s) t)"])


class Known(Strict, unittest.TestCase):
    def test_beginnings(self):
        for value in kinds_but(str):
            self.assertKeeps(ParseError, "number", None, Shell, value)
        for text, number in (("", 0), ("table r a\n", 1), ("table r a\ntable r b", 1), ("x", 0)):
            self.assertKeeps(ParseError, "number", number, Shell, text)
        for text in ("group a", "table r a\ngroup b", "table r a\nsize q 1/2"):
            self.assertFails(InvalidQuestion, Shell, text)
        shell = Shell("group a\nsize r 1/2\ntable r a b")
        self.assertSame([shell("question"), shell("plan"), shell("store"), shell("answer"), shell("pledges"), shell("room")],
                        ["table r a b; size r 1/2; group a", "r", "empty", "nothing", "nothing", "1/2"])

    def test_answers_by_groups(self):
        shell = Shell(write_question(STAR))
        for line in ("put u 1", "put r 1 5", "put r 1 6", "put s 1 7", "put u -2", "put r -2 0", "put s -2 0"):
            shell(line)
        self.assertSame([shell("answer"), shell("regroup a b"), shell("answer"), shell("regroup"), shell("answer"), shell("store")], [
            "-2: 1; 1: 2", "from 0 0 0 to 0 1 1", "-2 0: 1; 1 5: 1; 1 6: 1", "from 0 1 1 to 0 0 0", ": 3",
            "r -2 0; r 1 5; r 1 6; s -2 0; s 1 7; u -2; u 1"])

    def test_great_integers(self):
        shell = Shell("table r a\ngroup a")
        self.assertSame([shell(f"put r {LONGEST}"), shell("answer"), shell(f"put r {LONGEST + 1}"), shell(f"take r {LONGEST}")], ["1", f"{LONGEST}: 1", "what", "1"])

    def test_crossings(self):
        self.assertSame([Shell(write_question(PATH))("crossing"), Shell(write_question(STAR))("crossing"), Shell("table r a\ntable s b\ngroup b")("crossing")],
                        ["columns b c, r s t", "none", "group b, r"])

    def test_no_iteration(self):
        for call in (iter, list, lambda shell: 1 in shell):
            self.assertFails(TypeError, call, Shell("table r a"))

    def test_example(self):
        shell = Shell(write_question(TRI))
        told = [shell("put r 1 2"), shell("put s 2 5"), shell("draw r s"), shell("put t 1 5"), shell("answer"), shell("take r 1 2")]
        self.assertSame(told, ["1 0", "1 0", "from 1 1 1 to 1 1 0", "1 1", ": 1", "1 1 1"])
        told = [shell("demand constant"), shell("crossing")[:7], shell("degree r r s"), shell("put t 1 5"), shell("degrees"), shell("fly"), len(shell)]
        self.assertSame(told, ["refused constant", "columns", "1", "there", "r 1, s 1, t 0", "what", 9])
