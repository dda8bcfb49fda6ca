"""Stage 4 and [0.10]: readings and answers."""

import itertools
import unittest

from tests.force import at_columns, counted, drawn_question, drawn_store, many, readings_by_force
from tests.samples import PATH, STAR, THREE, TRI, Strict, all_kinds, kinds_but
from touchrows.base.questions import Question
from touchrows.data.stores import Store, answer_of, count_readings, readings
from touchrows.errors import InvalidStore, InvalidView, TooMany

APART = Question({"r": ("a",), "s": ("b",)}, ())


def crossed(left, right, question=APART):
    """A store with left * right readings."""
    return Store(question, {"r": tuple((one,) for one in range(left)), "s": tuple((one,) for one in range(right))})


class ByForce(Strict, unittest.TestCase):
    def test_drawn_stores(self):
        for draw in many(250, "readings"):
            question = drawn_question(draw, draw.randint(1, 5), columns=draw.randint(1, 8))
            store = drawn_store(draw, question, draw.randint(1, 6), draw.randint(1, 3))
            told = readings_by_force(question, store.rows, question.names)
            self.assertSame(list(readings(store)), told)
            self.assertSame(count_readings(store), len(told))
            self.assertSame(answer_of(store), counted(question, question.names, told, question.groups))

    def test_among(self):
        for draw in many(60, "among"):
            question = drawn_question(draw, draw.randint(1, 5), columns=6)
            store = drawn_store(draw, question, 4, 2)
            for size in range(1, len(question) + 1):
                for names in itertools.combinations(question.names, size):
                    wanted = readings_by_force(question, store.rows, names)
                    self.assertSame(list(readings(store, among=names)), wanted)
            self.assertSame(list(readings(store, among=None)), list(readings(store, among=question.names)))

    def test_rings_and_cliques(self):
        pairs = list(itertools.combinations("abcd", 2))
        for tables in (pairs, [pairs[at] for at in (0, 2, 3, 5)]):
            question = Question(dict(zip("uvwxyz", tables)), ("a", "d"))
            for draw in many(30, "rings"):
                store = drawn_store(draw, question, 7, 4)
                wanted = readings_by_force(question, store.rows, question.names)
                self.assertSame(list(readings(store)), wanted)
                self.assertSame(answer_of(store), counted(question, question.names, wanted, ("a", "d")))


class Known(Strict, unittest.TestCase):
    def test_values_of_all_sizes(self):
        store = Store(TRI, {"r": ((-5, 10 ** 59), (3, -7)), "s": ((10 ** 59, 0), (-7, 1)), "t": ((-5, 0), (3, 1), (3, 0))})
        self.assertSame(list(readings(store)), [(-5, 10 ** 59, 0), (3, -7, 1)])

    def test_ascending_as_numbers(self):
        told = list(readings(crossed(12, 2)))
        self.assertSame(told, sorted(told))
        self.assertSame(told[3:6], [(1, 1), (2, 0), (2, 1)])

    def test_answers_without_groups(self):
        self.assertSame(answer_of(THREE), {(): 2})
        self.assertSame(answer_of(crossed(7, 5)), {(): 35})
        self.assertSame(answer_of(crossed(7, 0)), {})
        self.assertSame(answer_of(Store(TRI, {})), {})

    def test_answers_with_groups(self):
        store = Store(STAR, {"r": ((1, 2), (1, 3), (0, 9), (4, 4)), "s": ((1, 7), (1, 8), (0, 7)), "u": ((1,), (0,), (5,))})
        self.assertSame(answer_of(store), {(0,): 1, (1,): 4})
        wide = Store(STAR.with_groups(("a", "b", "c")), store.rows)
        self.assertSame(list(answer_of(wide)), [(0, 9, 7), (1, 2, 7), (1, 2, 8), (1, 3, 7), (1, 3, 8)])
        self.assertSame(answer_of(Store(STAR, {"r": ((1, 2),)})), {})

    def test_equal_columns(self):
        same = Question({"r": ("a", "b"), "s": ("a", "b"), "t": ("b",)}, ("b",))
        store = Store(same, {"r": ((1, 1), (2, 1), (3, 2)), "s": ((2, 1), (3, 2), (1, 1)), "t": ((1,), (3,))})
        self.assertSame([list(readings(store)), answer_of(store)], [[(1, 1), (2, 1)], {(1,): 2}])

    def test_answers_are_told_anew(self):
        answer_of(THREE).clear()
        self.assertSame(answer_of(THREE), {(): 2})

    def test_dead_ends_do_not_take_long(self):
        names = "rstuvw"
        star = Question({name: (column, "z") for name, column in zip(names, "abcdef")}, ())
        apart = {name: tuple((row, at % 2 if name != "w" else 7) for at, row in enumerate(range(2000))) for name in names}
        self.assertSame(count_readings(Store(star, apart)), 0)
        alone = {name: tuple((row, row) for row in range(2000)) for name in names}
        self.assertSame(count_readings(Store(star, alone)), 2000)
        heavy = tuple((0, row) for row in range(1000)) + tuple((row, 0) for row in range(1, 1000))
        self.assertSame(count_readings(Store(TRI, {"r": heavy, "s": heavy, "t": heavy})), 2998)


class Limits(Strict, unittest.TestCase):
    def test_as_many_as_there_can_be(self):
        store = crossed(2000, 50)
        self.assertSame(count_readings(store), 100000)
        self.assertSame(len(list(readings(store))), 100000)
        self.assertSame(answer_of(store), {(): 100000})

    def test_one_more(self):
        # 1999 * 50 readings with the value 0 at z, and 1 * 50 with 1, to which one more comes.
        question = Question({"r": ("a", "z"), "s": ("b", "z")}, ())
        rows = {"r": tuple((one, 0) for one in range(1999)), "s": tuple((one, 0) for one in range(50))}
        rows["r"] += ((7, 1),)
        rows["s"] += tuple((one, 1) for one in range(50))
        store = Store(question, rows)
        self.assertSame([count_readings(store), answer_of(store)], [100000, {(): 100000}])
        more = store + ("s", (50, 1))
        self.assertKeeps(TooMany, "limit", 100000, count_readings, more)
        self.assertKeeps(TooMany, "limit", 100000, answer_of, more)
        told = readings(more)
        self.assertSame(len(list(itertools.islice(told, 100000))), 100000)
        self.assertKeeps(TooMany, "limit", 100000, next, told)

    def test_raised_when_the_one_after_the_last_is_asked_for(self):
        store = crossed(1000, 1000)
        told = readings(store)
        first = list(itertools.islice(told, 100000))
        self.assertSame(first, [(one, other) for one in range(100) for other in range(1000)])
        self.assertKeeps(TooMany, "limit", 100000, next, told)
        self.assertKeeps(TooMany, "limit", 100000, list, readings(store))
        self.assertKeeps(TooMany, "limit", 100000, count_readings, store)
        self.assertKeeps(TooMany, "limit", 100000, answer_of, store)
        self.assertSame(len(list(readings(store, among=("r",)))), 1000)

    def test_far_too_many(self):
        names = "rstuvw"
        apart = Question({name: (column,) for name, column in zip(names, "abcdef")}, ("a",))
        store = Store(apart, {name: tuple((row,) for row in range(2000)) for name in names})
        self.assertKeeps(TooMany, "limit", 100000, count_readings, store)
        self.assertKeeps(TooMany, "limit", 100000, answer_of, store)
        self.assertSame(next(readings(store)), (0, 0, 0, 0, 0, 0))


class Errors(Strict, unittest.TestCase):
    def test_no_store(self):
        for value in kinds_but(Store):
            self.assertFails(InvalidStore, list, readings(value))
            self.assertFails(InvalidStore, list, readings(value, among=("q",)))
            self.assertFails(InvalidStore, count_readings, value)
            self.assertFails(InvalidStore, answer_of, value)

    def test_no_view(self):
        wrong = [value for value in all_kinds() if value is not None]
        wrong += ["r", ["r"], ("q",), ("r", "q"), ("s", "r"), ("r", "r"), (("r",),), ("r", 1), {"r": 1}, ("r", "s", "t", "u")]
        for value in wrong:
            self.assertFails(InvalidView, list, readings(THREE, among=value))

    def test_errors_come_with_the_first_result(self):
        for told, error in ((readings(None), InvalidStore), (readings(THREE, among=()), InvalidView)):
            self.assertFails(error, next, told)

    def test_too_many_comes_behind_no_view(self):
        self.assertFails(InvalidView, list, readings(crossed(400, 400), among=("q",)))

    def test_a_generator(self):
        told = readings(THREE)
        self.assertIs(iter(told), told)
        self.assertSame([next(told), next(told), next(told, None)], [(1, 2, 5), (1, 3, 5), None])

    def test_values_of_a_reading(self):
        self.assertSame(at_columns(PATH, ("r", "s"), (1, 2, 3), ("a", "c")), (1, 3))

    def test_example(self):
        told = [
            list(readings(THREE)), answer_of(THREE), list(readings(THREE, among=("r", "s")))[0], count_readings(THREE),
            THREE.fits(2),
        ]
        self.assertSame(told, [[(1, 2, 5), (1, 3, 5)], {(): 2}, (1, 2, 5), 2, True])
