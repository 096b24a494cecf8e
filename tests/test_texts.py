"""Points 46 to 48: texts."""

import itertools
import random
import unittest

from savedseats import errors
from savedseats.lots import Lot, Placing, placing_of
from savedseats.prices import Prices
from savedseats.texts import read_placing, read_prices, read_web, write_placing, write_prices, write_web
from savedseats.webs import Web
from support import (
    DIAMOND, LOOP, POINT, ROUNDS, SeatCase, all_lots, chain, drawn_lot, drawn_prices, drawn_web, large_web,
)

# Words that are no numbers.
NO_NUMBERS = (
    "", "00", "01", "007", "000000", "0000001", "1000000", "9999999", "-1", "+1", "-0", "1.0", "1,", "a", "x", "0x1", "1e1",
    "1_0", "\u0661", "\u00b2", "\uff11", "1\t", "\t1", "1\r", " ", "none", "None", "1/1",
)


class TestWebs(SeatCase):
    def test_writing(self):
        self.assertEqual(write_web(DIAMOND), "places 4 entry 0 exits 3\n0 1\n1 3\n0 2\n2 3")
        self.assertEqual(write_web(POINT), "places 1 entry 0 exits 0")
        self.assertEqual(write_web(LOOP), "places 1 entry 0 exits 0\n0 0")
        self.assertEqual(write_web(ROUNDS), "places 3 entry 1 exits 1 2\n1 1\n1 0\n0 2\n2 0")
        self.assertEqual(write_web(chain(12)).split("\n")[-1], "10 11")

    def test_reading(self):
        self.assertEqual(read_web("places 4 entry 0 exits 3\n0 1\n1 3\n0 2\n2 3"), DIAMOND)
        self.assertEqual(read_web("places 1 entry 0 exits 0"), POINT)
        self.assertEqual(read_web("places 3 entry 1 exits 1 2\n1 1\n1 0\n0 2\n2 0"), ROUNDS)
        self.assertIs(read_web("places 1 entry 0 exits 0").__class__, Web)

    def test_writing_and_reading_give_back_an_equal_web_and_the_same_text(self):
        rng = random.Random(46)
        webs = [drawn_web(rng, rng.randint(1, 8), 14) for _ in range(100)] + [large_web(rng) for _ in range(10)]
        for web in webs:
            text = write_web(web)
            self.assertEqual(read_web(text), web)
            self.assertEqual(write_web(read_web(text)), text)

    def test_missing_lines_and_empty_texts(self):
        self.raises(errors.BadLine, 1, read_web, "")
        self.raises(errors.BadLine, 1, read_web, "\n")
        self.raises(errors.BadLine, 1, read_web, "\nplaces 1 entry 0 exits 0")
        self.raises(errors.BadLine, 1, read_web, "0 1")
        self.raises(errors.BadLine, 2, read_web, "places 1 entry 0 exits 0\n")
        self.raises(errors.BadLine, 2, read_web, "places 1 entry 0 exits 0\n\n0 0")
        self.raises(errors.BadLine, 3, read_web, "places 1 entry 0 exits 0\n0 0\n")
        self.raises(errors.BadLine, 3, read_web, "places 2 entry 0 exits 1\n0 1\n\n1 0")

    def test_forms_of_the_first_line(self):
        for line in (
            "places", "places 1", "places 1 entry", "places 1 entry 0", "places 1 entry 0 exits", "places 1 entry 0 exits ",
            "places 1 entry 0 exit 0", "place 1 entry 0 exits 0", "places 1 entries 0 exits 0", "Places 1 entry 0 exits 0",
            "places 1 Entry 0 exits 0", "places 1 entry 0 EXITS 0", "entry 0 places 1 exits 0", "places 1 exits 0 entry 0",
            " places 1 entry 0 exits 0", "places 1 entry 0 exits 0 ", "places  1 entry 0 exits 0",
            "places 1  entry 0 exits 0", "places 1 entry  0 exits 0", "places 1 entry 0  exits 0",
            "places 1 entry 0 exits  0", "places 1 entry 0 exits 0  1", "places\t1 entry 0 exits 0",
            "places 1 entry 0 exits 0\t", "places 1 entry 0 exits 0\r", "places 1 entry 0 exits 0 x",
            "places 1 entry 0 exits 0 end", "places 1 0 exits 0", "1 entry 0 exits 0", "places 1 entry 0 exits 0,1",
        ):
            self.raises(errors.BadLine, 1, read_web, line)
            self.raises(errors.BadLine, 1, read_web, line + "\n0 0")

    def test_exits_strictly_ascending(self):
        for exits in ("1 0", "0 0", "1 1", "0 1 1", "0 2 1", "2 0 1", "9 10 9"):
            self.raises(errors.BadLine, 1, read_web, f"places 3 entry 0 exits {exits}\n0 1\n1 2")
        # By their numbers, not by their signs.
        web = chain(11)
        self.assertEqual(read_web(write_web(web).replace("exits 10", "exits 9 10")).exits, (9, 10))
        self.raises(errors.BadLine, 1, read_web, write_web(web).replace("exits 10", "exits 10 9"))

    def test_forms_of_numbers(self):
        for word in NO_NUMBERS:
            self.raises(errors.BadLine, 1, read_web, f"places {word} entry 0 exits 0")
            self.raises(errors.BadLine, 1, read_web, f"places 1 entry {word} exits 0")
            self.raises(errors.BadLine, 1, read_web, f"places 1 entry 0 exits {word}")
            self.raises(errors.BadLine, 1, read_web, f"places 1 entry 0 exits 0 {word}")
            self.raises(errors.BadLine, 2, read_web, f"places 1 entry 0 exits 0\n{word} 0")
            self.raises(errors.BadLine, 3, read_web, f"places 2 entry 0 exits 1\n0 1\n0 {word}")

    def test_forms_of_the_lines_of_edges(self):
        for line in ("0", "0 0 0", "0  0", " 0 0", "0 0 ", "0\t0", "0,0", "0-0", "(0, 0)", "0 0\r", "0 0\t", "# 0 0"):
            self.raises(errors.BadLine, 2, read_web, "places 1 entry 0 exits 0\n" + line)
            self.raises(errors.BadLine, 3, read_web, "places 1 entry 0 exits 0\n0 0\n" + line + "\n0")

    def test_the_first_line_of_another_form(self):
        self.raises(errors.BadLine, 1, read_web, "places 1 entry 0 exits\n0\n0")
        self.raises(errors.BadLine, 3, read_web, "places 9 entry 9 exits 9\n9 9\n0\n")

    def test_errors_of_the_constructor(self):
        for error, value, text in (
            (errors.BadPlaces, 0, "places 0 entry 0 exits 0"), (errors.BadPlaces, 25, "places 25 entry 0 exits 0"),
            (errors.BadPlaces, 999999, "places 999999 entry 0 exits 0"),
            (errors.BadEdge, 1, "places 2 entry 0 exits 1\n0 1\n0 2"), (errors.BadEdge, 0, "places 1 entry 9 exits 9\n1 0"),
            (errors.BadEdge, 2, "places 2 entry 0 exits 1\n0 1\n1 0\n0 1"), (errors.BadEntry, 1, "places 1 entry 1 exits 1"),
            (errors.BadExit, 123456, "places 1 entry 0 exits 0 123456"), (errors.Idle, 1, "places 2 entry 0 exits 0"),
            (errors.BadEdge, 0, "places 1 entry 0 exits 0\n100000 0"),
        ):
            self.raises(error, value, read_web, text)
        edges = "\n".join(f"{begin} {end}" for begin, end in list(itertools.product(range(10), repeat=2))[:81])
        self.raises(errors.BadEdges, 81, read_web, "places 10 entry 0 exits 0\n" + edges)
        # The form of all lines comes first.
        self.raises(errors.BadLine, 2, read_web, "places 0 entry 0 exits 0\n0")


class TestPrices(SeatCase):
    def test_writing(self):
        prices = Prices(LOOP, [1, None, 100000], [0, 20, None])
        self.assertEqual(write_prices(prices), "1 0\nx 20\n100000 x")
        self.assertEqual(write_prices(Prices(POINT, [None, None], [0, None])), "x 0\nx x")

    def test_reading(self):
        self.assertEqual(read_prices(LOOP, "1 0\nx 20\n100000 x"), Prices(LOOP, [1, None, 100000], [0, 20, None]))
        self.assertEqual(read_prices(POINT, "x x\nx x"), Prices(POINT, [None, None], [None, None]))
        self.assertIs(read_prices(POINT, "0 0\n0 0").__class__, Prices)

    def test_writing_and_reading_give_back_equal_prices_and_the_same_text(self):
        rng = random.Random(47)
        webs = [drawn_web(rng, rng.randint(1, 8), 14) for _ in range(100)] + [large_web(rng) for _ in range(5)]
        for web in webs:
            prices = drawn_prices(rng, web, rng.choice((9, 100000)), 0.2)
            text = write_prices(prices)
            self.assertEqual(read_prices(web, text), prices)
            self.assertEqual(write_prices(read_prices(web, text)), text)

    def test_missing_lines_and_empty_texts(self):
        self.raises(errors.BadLine, 1, read_prices, POINT, "")
        self.raises(errors.BadLine, 1, read_prices, POINT, "\n1 1")
        self.raises(errors.BadLine, 2, read_prices, POINT, "1 1\n")
        self.raises(errors.BadLine, 3, read_prices, POINT, "1 1\n1 1\n")
        self.raises(errors.BadLine, 2, read_prices, POINT, "1 1\n\n1 1")

    def test_forms(self):
        for line in ("1", "1 1 1", "1  1", " 1 1", "1 1 ", "1\t1", "1 1\r", "1,1", "x", "xx", "x x x", "1/1"):
            self.raises(errors.BadLine, 1, read_prices, POINT, line + "\n0 0")
            self.raises(errors.BadLine, 2, read_prices, POINT, "0 0\n" + line)
        for word in NO_NUMBERS + ("X", "xx", "-", "x1"):
            if word != "x":
                self.raises(errors.BadLine, 1, read_prices, POINT, f"{word} 0\n0 0")
                self.raises(errors.BadLine, 2, read_prices, POINT, f"0 0\n0 {word}")

    def test_the_first_line_of_another_form(self):
        self.raises(errors.BadLine, 2, read_prices, POINT, "1 1\n1\n1")
        # The form of all lines comes first, also of more than there are gates.
        self.raises(errors.BadLine, 4, read_prices, POINT, "999999 1\n1 1\n1 1\n1")

    def test_errors_of_the_constructor(self):
        self.raises(errors.BadLength, 1, read_prices, POINT, "1 1")
        self.raises(errors.BadLength, 3, read_prices, POINT, "1 1\n1 1\n999999 1")
        self.raises(errors.BadPrice, 1, read_prices, POINT, "0 100001\n100001 0")
        self.raises(errors.BadPrice, 0, read_prices, POINT, "0 999999\n100000 0")


class TestPlacings(SeatCase):
    def test_writing(self):
        self.assertEqual(write_placing(Placing([0, 10], [2])), "+0 -2 +10")
        self.assertEqual(write_placing(Placing([], [])), "")
        self.assertEqual(write_placing(Placing([], [7])), "-7")
        self.assertEqual(write_placing(Placing([999999], [])), "+999999")

    def test_reading(self):
        self.assertEqual(read_placing("+0 -2 +10"), Placing([0, 10], [2]))
        self.assertEqual(read_placing(""), Placing([], []))
        self.assertEqual(read_placing("-7"), Placing([], [7]))
        self.assertEqual(read_placing("+999999"), Placing([999999], []))
        self.assertIs(read_placing("").__class__, Placing)

    def test_writing_and_reading_give_back_an_equal_placing_and_the_same_text(self):
        rng = random.Random(48)
        placings = [placing_of(web, lot) for web in (DIAMOND, ROUNDS, POINT, LOOP) for lot in all_lots(web, Lot([]))]
        for _ in range(200):
            gates = rng.sample(range(rng.choice((20, 10 ** 6))), rng.randint(0, 12))
            at = rng.randint(0, len(gates))
            placings.append(Placing(gates[:at], gates[at:]))
        web = large_web(rng)
        placings += [placing_of(web, drawn_lot(rng, web)) for _ in range(20)]
        for placing in placings:
            text = write_placing(placing)
            self.assertEqual(read_placing(text), placing)
            self.assertEqual(write_placing(read_placing(text)), text)

    def test_gates_that_are_not_ascending(self):
        for text in ("+1 +0", "+1 -0", "+0 +0", "+0 -0", "-3 +3", "-3 -3", "+0 +2 +1", "+2 -10 +9", "+0 +1 -1 +2"):
            self.raises(errors.BadLine, 1, read_placing, text)
        self.assertEqual(read_placing("+2 -9 +10"), Placing([2, 10], [9]))

    def test_other_texts(self):
        for text in (
            " ", "  ", "+", "-", "+ 1", "1", "0", "+1 ", " +1", "+1  -2", "++1", "+-1", "-+1", "--1", "+1,-2", "+1-2", "+1\n",
            "\n", "+1\n-2", "\n+1", "+1\t-2", "+x", "x", "+1 x", "+1 -", "+1 2", "*1", "=1", "save 1", "+1 +", "~1", "\u22121",
        ):
            self.raises(errors.BadLine, 1, read_placing, text)
        for word in NO_NUMBERS:
            self.raises(errors.BadLine, 1, read_placing, "+" + word)
            self.raises(errors.BadLine, 1, read_placing, "-" + word)
            self.raises(errors.BadLine, 1, read_placing, "+0 -" + word)


if __name__ == "__main__":
    unittest.main()
