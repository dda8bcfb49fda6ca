"""Stage 2: ratios."""

import unittest

from tests.samples import LONGEST, Strict, all_kinds, kinds_but
from touchrows.base.ratios import Ratio, greatest_of, sum_of
from touchrows.errors import InvalidOperation, InvalidRatio

HALF = Ratio(1, 2)
NAUGHT = Ratio(0, 1)


class Making(Strict, unittest.TestCase):
    def test_lowest_terms_and_signs(self):
        wanted = {
            (3, 6): (1, 2), (-3, 6): (-1, 2), (6, 3): (2, 1), (-6, 3): (-2, 1), (0, 5): (0, 1), (7, 1): (7, 1),
            (12, 18): (2, 3), (-12, 18): (-2, 3), (5, 7): (5, 7), (-5, 7): (-5, 7),
        }
        for (top, bottom), pair in wanted.items():
            ratio = Ratio(top, bottom)
            self.assertSame((ratio.top, ratio.bottom, ratio.pair), (*pair, pair))

    def test_sixty_digits(self):
        self.assertEqual(Ratio(LONGEST, 1).pair, (LONGEST, 1))
        self.assertEqual(Ratio(-LONGEST, LONGEST - 1).pair, (-LONGEST, LONGEST - 1))
        for given in ((LONGEST + 1, 1), (-LONGEST - 1, 1), (1, LONGEST + 1), (LONGEST + 1, LONGEST + 1)):
            self.assertFails(InvalidRatio, Ratio, *given)

    def test_bottom_is_at_least_1(self):
        for bottom in (0, -1, -6, -LONGEST):
            self.assertFails(InvalidRatio, Ratio, 3, bottom)
            self.assertFails(InvalidRatio, Ratio, 0, bottom)

    def test_other_kinds(self):
        for value in kinds_but(int):
            self.assertFails(InvalidRatio, Ratio, value, 1)
            self.assertFails(InvalidRatio, Ratio, 1, value)
            self.assertFails(InvalidRatio, Ratio, value, value)

    def test_never_changes(self):
        ratio = Ratio(1, 2)
        for name in ("top", "bottom", "pair"):
            with self.assertRaises(AttributeError):
                setattr(ratio, name, 5)
        list(map(str, [ratio + ratio, ratio - HALF, ratio * ratio, -ratio, ratio.over(Ratio(3, 1))]))
        self.assertEqual(ratio.pair, (1, 2))


class Texts(Strict, unittest.TestCase):
    def test_both_ways(self):
        texts = {
            "3/2": (3, 2), "0": (0, 1), "-1/3": (-1, 3), "2": (2, 1), "-17": (-17, 1), "10/9": (10, 9), "1": (1, 1),
            f"{LONGEST}/{LONGEST - 1}": (LONGEST, LONGEST - 1), "100/101": (100, 101), "1/60": (1, 60),
        }
        for text, pair in texts.items():
            self.assertSame(Ratio.of_text(text).pair, pair)
            self.assertSame(str(Ratio.of_text(text)), text)
            self.assertIs(type(Ratio.of_text(text)), Ratio)

    def test_texts_near_them(self):
        for text in (
            "", "+1", "+1/2", "1/+2", " 1", "1 ", "1 /2", "1/ 2", "1/2 ", "1/2\n", "\n1", "01", "1/02", "00", "-01/2",
            "2/1", "0/1", "-3/1", "-0", "-0/1", "0/2", "2/4", "-2/4", "6/3", "4/6", "1/0", "0/0", "1/-2", "-1/-2", "--1",
            "-", "/", "1/", "/2", "-/2", "1/2/3", "1//2", "1.5", "1e2", "1_0", "a", "a/b", "1/b", "0x1", "one", "None",
        ):
            self.assertFails(InvalidRatio, Ratio.of_text, text)

    def test_figures_of_other_scripts(self):
        for text in ("\u00b2", "\u0663", "1/\u0663"):
            self.assertFails(InvalidRatio, Ratio.of_text, text)

    def test_other_values(self):
        for value in kinds_but(str):
            self.assertFails(InvalidRatio, Ratio.of_text, value)
        for value in (b"1", ("1",), ("1", "2")):
            self.assertFails(InvalidRatio, Ratio.of_text, value)
        self.assertFails(InvalidRatio, Ratio.of_text, "9" * 2000 + "/" + "9" * 1999)

    def test_sixty_digits(self):
        for pair in ((LONGEST, 1), (-LONGEST, 1), (1, LONGEST), (-1, LONGEST), (LONGEST, 10 ** 59), (1 - LONGEST, LONGEST)):
            self.assertEqual(Ratio.of_text(str(Ratio(*pair))).pair, pair)
        longer = ("9" * 61, "1" + "0" * 60)
        for text in longer:
            for wrong in (text, "-" + text, "1/" + text, "-1/" + text, text + "/7", "-" + text + "/7", text + "/" + text):
                self.assertFails(InvalidRatio, Ratio.of_text, wrong)

    def test_longer_texts_are_written_but_not_read(self):
        big = Ratio(LONGEST, 2) * Ratio(LONGEST, 8)
        self.assertEqual(str(big), f"{LONGEST ** 2}/16")
        for _ in range(8):
            self.assertFails(InvalidRatio, Ratio.of_text, str(big))
            self.assertFails(InvalidRatio, Ratio.of_text, str(Ratio(1, 1).over(-big)))
            big = big * big
        self.assertFails(InvalidRatio, Ratio.of_text, str(-big))


class Operators(Strict, unittest.TestCase):
    def test_sums_and_differences(self):
        for one, other, total, less in (
            (HALF, Ratio(1, 3), "5/6", "1/6"), (HALF, HALF, "1", "0"), (HALF, -HALF, "0", "1"),
            (Ratio(1, 6), Ratio(1, 3), "1/2", "-1/6"), (NAUGHT, Ratio(-2, 3), "-2/3", "2/3"),
            (Ratio(7, 1), Ratio(2, 1), "9", "5"),
        ):
            self.assertSame([str(one + other), str(one - other)], [total, less])

    def test_products_and_quotients(self):
        for one, other, product, quotient in (
            (HALF, Ratio(2, 3), "1/3", "3/4"), (Ratio(-3, 4), Ratio(4, 3), "-1", "-9/16"),
            (HALF, Ratio(-1, 4), "-1/8", "-2"), (-HALF, Ratio(-1, 4), "1/8", "2"), (NAUGHT, -HALF, "0", "0"),
            (Ratio(6, 1), Ratio(4, 1), "24", "3/2"),
        ):
            told = one.over(other)
            self.assertSame([str(one * other), str(told)], [product, quotient])
            self.assertGreaterEqual(told.bottom, 1)

    def test_negatives(self):
        self.assertSame([str(-HALF), str(-(-HALF)), str(-NAUGHT), (-HALF).pair], ["-1/2", "1/2", "0", (-1, 2)])

    def test_results_are_ratios(self):
        for told in (HALF + HALF, HALF - HALF, HALF * HALF, -HALF, HALF.over(HALF), sum_of(()), greatest_of((HALF,))):
            self.assertIs(type(told), Ratio)

    def test_more_than_sixty_digits(self):
        big = Ratio(LONGEST, 1)
        self.assertEqual((big + big).pair, (2 * LONGEST, 1))
        self.assertEqual((big * big).pair, (LONGEST ** 2, 1))
        self.assertEqual((-big - big).pair, (-2 * LONGEST, 1))
        small = Ratio(1, LONGEST).over(big)
        self.assertEqual(small.pair, (1, LONGEST ** 2))
        self.assertEqual((small * big * big).pair, (1, 1))
        self.assertEqual(((big * big) - (big * big)).pair, (0, 1))
        self.assertEqual(sum_of((small, small)).pair, (2, LONGEST ** 2))
        self.assertEqual(greatest_of((big, big * big, small)), big * big)
        self.assertEqual((-(big * big)).pair, (-(LONGEST ** 2), 1))
        self.assertIs(big.is_less(big * big), True)

    def test_other_operands(self):
        for value in kinds_but(Ratio):
            for call in (
                lambda: HALF + value, lambda: HALF - value, lambda: HALF * value,
                lambda: value + HALF, lambda: value - HALF, lambda: value * HALF,
            ):
                self.assertFails(TypeError, call)
            self.assertFails(InvalidRatio, HALF.over, value)

    def test_over_0(self):
        self.assertFails(InvalidOperation, HALF.over, NAUGHT)
        self.assertFails(InvalidOperation, NAUGHT.over, HALF - HALF)
        self.assertFails(InvalidRatio, HALF.over, 0)


class Comparisons(Strict, unittest.TestCase):
    def test_is_less(self):
        ascending = [Ratio(-2, 1), Ratio(-1, 2), Ratio(-1, 3), NAUGHT, Ratio(1, 3), HALF, Ratio(2, 3), Ratio(1, 1)]
        for at, one in enumerate(ascending):
            for place, other in enumerate(ascending):
                self.assertIs(one.is_less(other), at < place)

    def test_is_less_for_other_values(self):
        for value in kinds_but(Ratio):
            self.assertIs(Ratio(-5, 1).is_less(value), False)

    def test_truth(self):
        self.assertSame([bool(HALF), bool(-HALF), bool(NAUGHT), bool(HALF - HALF)], [True, True, False, False])

    def test_equality(self):
        self.assertIs(Ratio(3, 6) == HALF, True)
        self.assertIs(Ratio(3, 6) != HALF, False)
        for other in (Ratio(-1, 2), Ratio(1, 3), Ratio(2, 1), Ratio(3, 2)):
            self.assertIs(other == HALF, False)
            self.assertIs(other != HALF, True)

    def test_equality_with_other_values(self):
        for ratio in (HALF, NAUGHT, Ratio(1, 1), Ratio(3, 1)):
            for value in [*kinds_but(Ratio), ratio.pair, str(ratio), 3, 0.5, b"", {1}, object()]:
                self.assertIs(ratio == value, False)
                self.assertIs(value == ratio, False)
                self.assertIs(ratio != value, True)

    def test_in_tuples(self):
        self.assertIs(Ratio(2, 4) in (None, 1, "a", HALF), True)
        self.assertIs(Ratio(2, 3) in (None, 1, "a", HALF), False)

    def test_no_iteration(self):
        for call in (iter, list, tuple, len, lambda ratio: [*ratio], lambda ratio: 1 in ratio):
            self.assertFails(TypeError, call, HALF)


class OfTuples(Strict, unittest.TestCase):
    def test_sum_of(self):
        self.assertSame([str(sum_of(())), sum_of(()).pair], ["0", (0, 1)])
        self.assertSame(str(sum_of((HALF,))), "1/2")
        self.assertSame(str(sum_of((HALF, Ratio(1, 3), Ratio(1, 6), Ratio(-2, 1)))), "-1")

    def test_greatest_of(self):
        self.assertSame(str(greatest_of((-HALF,))), "-1/2")
        ratios = [Ratio(-1, 2), Ratio(1, 3), HALF, NAUGHT]
        for at in range(4):
            self.assertEqual(greatest_of(tuple(ratios[at:] + ratios[:at])), HALF)
        self.assertEqual(greatest_of((Ratio(-3, 1), Ratio(-2, 1), Ratio(-5, 2))), Ratio(-2, 1))
        self.assertEqual(greatest_of((HALF, Ratio(2, 4))), HALF)

    def test_no_ratios(self):
        self.assertFails(InvalidOperation, greatest_of, ())

    def test_no_tuple_of_ratios(self):
        wrong = [value for value in all_kinds() if value != ()]
        wrong += [[HALF], [HALF, HALF], {HALF.pair: HALF}, (HALF, 1), (1, HALF), (HALF, None), (HALF, (HALF,)), ("1/2",)]
        for call in (sum_of, greatest_of):
            for value in wrong:
                self.assertFails(InvalidRatio, call, value)

    def test_the_first_error(self):
        for value in ([], {}, "", None):
            self.assertFails(InvalidRatio, greatest_of, value)

    def test_arguments_stay(self):
        ratios = (HALF, Ratio(1, 3))
        sum_of(ratios)
        greatest_of(ratios)
        self.assertEqual([one.pair for one in ratios], [(1, 2), (1, 3)])


class Examples(Strict, unittest.TestCase):
    def test_of_the_document(self):
        half = Ratio(3, 6)
        told = [
            str(half), str(half + Ratio(1, 3)), str(half - Ratio(2, 1)), half.over(Ratio(1, 4)).pair,
            half.is_less(Ratio(1, 1)), bool(half - half),
        ]
        self.assertSame(told, ["1/2", "5/6", "-3/2", (2, 1), True, False])
        told = [
            Ratio.of_text("3/2") == Ratio(6, 4), str(sum_of((half, half))), str(greatest_of((half, -half))), half == 1,
        ]
        self.assertSame(told, [True, "1", "1/2", False])
