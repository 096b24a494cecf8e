"""Point 49: the console."""

import copy
import random
import unittest

from savedseats.console import console
from savedseats.lots import Lot
from savedseats.onway import most_saves
from savedseats.prices import Prices
from savedseats.table import Table
from savedseats.tasks import Task
from savedseats.texts import write_placing, write_web
from savedseats.verdicts import judge
from savedseats.webs import Web
from support import DIAMOND, drawn_lot, drawn_web, large_web, marked, marks_of

WEB = "web places 4 entry 0 exits 3 / 0 1 / 1 3 / 0 2 / 2 3"
POINT = "web places 1 entry 0 exits 0"
# From 2 the way can come back to 1.
BACK = "web places 4 entry 0 exits 3 / 0 1 / 1 2 / 2 1 / 2 3"
NO_NUMBERS = ("-1", "+1", "01", "00", "1000000", "x1", "a", "1.0", "\u0661", "1\t", "None", "0x1", "/")


class ConsoleCase(unittest.TestCase):
    def told(self, *lines):
        """The answer to the last line behind the others, each of which has one answer."""
        answers = console(list(lines))
        self.assertIs(answers.__class__, list)
        self.assertEqual(len(answers), len(lines))
        self.assertTrue(all(answer.__class__ is str for answer in answers))
        return answers[-1]

    def bad_lines(self, *lines):
        """Check that each of the lines is a bad line behind a web, and changes nothing."""
        for line in lines:
            with self.subTest(repr(line)):
                self.assertEqual(self.told(WEB, line), "error BadLine")
                self.assertEqual(self.told(WEB, "use a 1", line, "undo"), "ok")
                self.assertEqual(self.told(WEB, line, "undo"), "nothing")


class TestConsole(ConsoleCase):
    def test_no_lines(self):
        self.assertEqual(console([]), [])
        self.assertEqual(console(()), [])

    def test_a_list_that_belongs_to_the_caller(self):
        lines = [WEB, "total"]
        answers = console(lines)
        answers.append("more")
        self.assertEqual(console(lines), ["ok", "0"])

    def test_each_call_begins_without_a_task(self):
        console([WEB])
        self.assertEqual(console(["total"]), ["error NoTable"])

    def test_lines_are_not_changed(self):
        lines = [WEB, "use a 1", "price 0 save 5", "set a 1 2", "judge a +0 -1", "lot a", "undo", "nonsense", ""]
        kept = copy.deepcopy(lines)
        self.assertEqual(console(lines), console(tuple(lines)))
        self.assertEqual(lines, kept)

    def test_one_answer_for_each_command(self):
        lines = [
            "total", WEB, "total", "use a 1", "total", "lot a", "most a", "judge a +4 -5", "judge a", "free a 1", "lot a",
            "undo", "undo", "undo", "price 4 save x", "price 0 save x", "use a 1", "total", "lot a", "most a", "set a",
            "total", "lot a", "most a",
        ]
        answers = [
            "error NoTable", "ok", "0", "ok", "2", "0 1 2 3", "1", "right", "wrong", "ok", "empty",
            "ok", "ok", "nothing", "ok", "ok", "ok", "x", "x", "x", "ok",
            "0", "empty", "0",
        ]
        self.assertEqual(console(lines), answers)
        for count in range(len(lines) + 1):
            self.assertEqual(console(lines[:count]), answers[:count])

    def test_no_command(self):
        for line in (
            "", " ", "  ", "webs", "Web", "WEB places 1 entry 0 exits 0", " web places 1 entry 0 exits 0", "edit use a 1",
            "help", "quit", "lots", "lots a", "judges a", "Total", " total", "total\t", "total\r", "preview", "mending",
            "redo", "1", "x", "a", "usea 1", "use\ta\t1", "places 1 entry 0 exits 0", "price0 save 1", "/", "/ total",
        ):
            with self.subTest(repr(line)):
                self.assertEqual(self.told(line), "error BadLine")
                self.assertEqual(self.told(WEB, line), "error BadLine")

    def test_no_table_ahead_of_the_form_of_the_rest(self):
        for line in (
            "use a 1", "free a 1", "price 0 save 1", "set a 1", "set a", "undo", "total", "lot a", "judge a +0", "judge a",
            "most a", "use", "use ", "use a", "use a x", "use a 1 1", "use  a 1", "free", "price", "price 0", "set", "set ",
            "undo 1", "undo ", "total ", "total x", "lot", "lot a b", "judge", "judge a ", "judge a x", "most", "most a b",
        ):
            with self.subTest(repr(line)):
                self.assertEqual(self.told(line), "error NoTable")
                self.assertEqual(self.told("web", line), "error NoTable")
                self.assertEqual(self.told("web places 0 entry 0 exits 0", line), "error NoTable")

    def test_after_an_error_all_is_as_it_was(self):
        start = [WEB, "use a 1", "price 0 save 7"]
        ends = ["total", "lot a", "judge a +4 -5", "judge a +0 -1", "undo", "total", "undo", "undo", "total"]
        plain = console(start + ends)[3:]
        self.assertNotIn("error", " ".join(plain))
        for line, answer in (
            ("web", "error BadLine"), ("web places 4 entry 0 exits", "error BadLine"), (WEB + " / 0 1", "error BadEdge"),
            ("web places 0 entry 0 exits 0", "error BadPlaces"), ("web places 2 entry 0 exits 0", "error Idle"),
            ("use a 4", "error BadPlace"), ("use b 1", "error NoSeat"), ("free a 4", "error BadPlace"),
            ("price 9 save 1", "error NoGate"), ("price 0 pay 1", "error BadWord"), ("price 0 save 100001", "error BadPrice"),
            ("set a 1 9", "error BadPlace"), ("set b", "error NoSeat"), ("set a 1 x", "error BadLine"),
            ("lot b", "error NoSeat"), ("most b", "error NoSeat"), ("judge b", "error NoSeat"),
            ("judge a +9", "error NoGate"), ("judge a +", "error BadLine"), ("undo it", "error BadLine"),
            ("nonsense", "error BadLine"), ("", "error BadLine"),
        ):
            with self.subTest(line):
                self.assertEqual(self.told(*start, line), answer)
                self.assertEqual(console(start + [line] + ends)[4:], plain)
                self.assertEqual(console(start + [line] * 3 + ends)[6:], plain)


class TestWeb(ConsoleCase):
    def test_a_new_table(self):
        self.assertEqual(self.told(WEB), "ok")
        self.assertEqual(self.told(WEB, "undo"), "nothing")
        self.assertEqual(self.told(WEB, "lot a"), "empty")
        self.assertEqual(self.told(WEB, "lot b"), "error NoSeat")
        self.assertEqual(self.told(POINT), "ok")
        self.assertEqual(self.told("web places 2 entry 0 exits 0 1 / 0 1 / 1 0 / 1 1"), "ok")

    def test_all_prices_are_1(self):
        self.assertEqual(self.told(WEB, "set a 0 1 2 3", "total"), "2")
        self.assertEqual(self.told(WEB, "price 4 save 0", "set a 0 1 2 3", "total"), "1")
        self.assertEqual(self.told(WEB, "price 5 back 0", "set a 0 1 2 3", "total"), "1")
        chain = "web places 3 entry 0 exits 2 / 0 1 / 1 2"
        # For each mark, a place whose lots it can be cheaper for.
        for gate, word, place in (
            (2, "save", 0), (0, "save", 1), (1, "save", 2), (0, "back", 0), (1, "back", 1), (3, "back", 2),
        ):
            self.assertEqual(self.told(chain, f"use a {place}", "total"), "2")
            self.assertEqual(self.told(chain, f"use a {place}", f"price {gate} {word} 0", "total"), "1")

    def test_a_web_takes_the_place_of_the_one_before(self):
        lines = [WEB, "use a 1", "price 4 save 9", POINT]
        self.assertEqual(self.told(*lines, "undo"), "nothing")
        self.assertEqual(self.told(*lines, "lot a"), "empty")
        self.assertEqual(self.told(*lines, "use a 1"), "error BadPlace")
        self.assertEqual(self.told(*lines, "use a 0", "total"), "2")

    def test_forms(self):
        for line in (
            "web", "web ", "web  ", "web places", "web places 1 entry 0 exits", "web places 1 entry 0 exits ",
            "web  places 1 entry 0 exits 0", "web places 1 entry 0 exits 0 ", "web places 1  entry 0 exits 0",
            POINT + " /", POINT + " / ", POINT + " / 0", POINT + " / 0 0 /", POINT + " / 0 0 / ", POINT + " /0 0",
            POINT + "/ 0 0", POINT + "/0 0", POINT + " / / 0 0", POINT + " /  / 0 0", POINT + " // 0 0", POINT + "  / 0 0",
            POINT + " /  0 0", POINT + " / 0 0 0", POINT + " / 0  0", POINT + " / 0 x", POINT + " 0 0", POINT + ", 0 0",
            POINT + " / 0 00", "web / " + POINT[4:], "web / places 1 entry 0 exits 0", "web 0 0", "web place 1 entry 0 exits 0",
            "web places 2 entry 0 exits 1 0 / 0 1", "web places 1 entry 0 exits 0 0", "web places 1 entry 01 exits 0",
            "web places 1000000 entry 0 exits 0", "web places -1 entry 0 exits 0", "web places 1 entry x exits 0",
            "web web " + POINT[4:],
        ):
            with self.subTest(repr(line)):
                self.assertEqual(self.told(line), "error BadLine")
                self.assertEqual(self.told(WEB, "use a 1", line, "lot a"), "0 1 2 3")

    def test_errors(self):
        for line, name in (
            ("web places 0 entry 0 exits 0", "BadPlaces"), ("web places 25 entry 0 exits 0", "BadPlaces"),
            ("web places 1 entry 0 exits 0 / 0 1", "BadEdge"), ("web places 1 entry 0 exits 0 / 0 0 / 0 0", "BadEdge"),
            ("web places 1 entry 1 exits 0", "BadEntry"), ("web places 1 entry 0 exits 0 1", "BadExit"),
            ("web places 2 entry 0 exits 0", "Idle"), ("web places 999999 entry 0 exits 0", "BadPlaces"),
            ("web places 10 entry 0 exits 0" + "".join(f" / {at // 10} {at % 10}" for at in range(81)), "BadEdges"),
        ):
            self.assertEqual(self.told(line), "error " + name)
            self.assertEqual(self.told(line, "total"), "error NoTable")
            self.assertEqual(self.told(WEB, "use a 1", line, "lot a"), "0 1 2 3")
            self.assertEqual(self.told(WEB, "use a 1", line, "undo"), "ok")

    def test_drawn_webs(self):
        rng = random.Random(49)
        for _ in range(40):
            web = drawn_web(rng, rng.randint(1, 6), 9)
            lot = drawn_lot(rng, web)
            line = "web " + write_web(web).replace("\n", " / ")
            marks = (" " + write_placing(marked(marks_of(web, lot)))).rstrip()
            self.assertEqual(self.told(line, "judge a" + marks), "right")


class TestUseAndFree(ConsoleCase):
    def test_edits(self):
        self.assertEqual(self.told(WEB, "use a 1"), "ok")
        self.assertEqual(self.told(WEB, "use a 1", "total"), "2")
        self.assertEqual(self.told(WEB, "use a 1", "free a 1"), "ok")
        self.assertEqual(self.told(WEB, "use a 1", "free a 1", "total"), "0")
        self.assertEqual(self.told(WEB, "use a 1", "free a 0", "total"), "2")

    def test_what_changes_nothing_can_be_undone(self):
        for line in ("use a 1", "free a 2"):
            self.assertEqual(console([WEB, "use a 1", line, "undo", "undo", "undo"]), ["ok"] * 5 + ["nothing"])

    def test_forms(self):
        for word in ("use", "free"):
            self.bad_lines(
                word, word + " ", word + " a", word + " a ", word + " a 1 ", word + " a  1", word + "  a 1", word + " a 1 2",
                word + "  1", word + " 1 a", *[f"{word} a {number}" for number in NO_NUMBERS],
            )

    def test_errors(self):
        for word in ("use", "free"):
            self.assertEqual(self.told(WEB, word + " b 1"), "error NoSeat")
            self.assertEqual(self.told(WEB, word + " b 9"), "error NoSeat")
            self.assertEqual(self.told(WEB, word + " A 1"), "error NoSeat")
            self.assertEqual(self.told(WEB, word + " 1 1"), "error NoSeat")
            self.assertEqual(self.told(WEB, word + " a/\t\u00e4 1"), "error NoSeat")
            self.assertEqual(self.told(WEB, word + " a 4"), "error BadPlace")
            self.assertEqual(self.told(WEB, word + " a 999999"), "error BadPlace")
            # The form of the line comes first.
            self.assertEqual(self.told(WEB, word + " b x"), "error BadLine")


class TestPrice(ConsoleCase):
    def test_edits(self):
        self.assertEqual(self.told(WEB, "price 4 save 7"), "ok")
        self.assertEqual(self.told(WEB, "price 4 save 7", "use a 0", "total"), "8")
        self.assertEqual(self.told(WEB, "price 4 back 7", "use a 0", "total"), "2")
        self.assertEqual(self.told(WEB, "price 4 save x", "use a 0", "total"), "x")
        self.assertEqual(self.told(WEB, "price 4 save 100000", "use a 0", "total"), "100001")
        self.assertEqual(self.told(WEB, "price 4 save 0", "use a 0", "total"), "1")
        self.assertEqual(self.told(WEB, "price 4 save x", "undo", "use a 0", "total"), "2")

    def test_forms(self):
        self.bad_lines(
            "price", "price ", "price 0", "price 0 save", "price 0 save ", "price 0 save 1 ", "price 0 save 1 1",
            "price 0  1", "price  0 save 1", "price 0  save 1", "price 0 save  1", "price save 0 1", "price x save 1",
            "price 0 save X", "price 0 save xx", "price 0 save none",
            *[f"price {number} save 1" for number in NO_NUMBERS], *[f"price 0 save {number}" for number in NO_NUMBERS],
        )

    def test_errors(self):
        for line, name in (
            ("price 6 save 1", "NoGate"), ("price 6 pay 999999", "NoGate"), ("price 999999 save 1", "NoGate"),
            ("price 0 pay 1", "BadWord"), ("price 0 pay 100001", "BadWord"), ("price 0 Save 1", "BadWord"),
            ("price 0 0 1", "BadWord"), ("price 0 \t/ 1", "BadWord"), ("price 0 save 100001", "BadPrice"),
            ("price 5 back 999999", "BadPrice"),
        ):
            self.assertEqual(self.told(WEB, line), "error " + name)
            self.assertEqual(self.told(WEB, line, "undo"), "nothing")


class TestSet(ConsoleCase):
    def test_settings(self):
        self.assertEqual(self.told(WEB, "set a 1 0"), "ok")
        self.assertEqual(self.told(WEB, "set a 1 0 1"), "ok")
        self.assertEqual(self.told(WEB, "set a 2 1 0 3", "total"), "2")
        self.assertEqual(self.told(WEB, "use a 1", "set a"), "ok")
        self.assertEqual(self.told(WEB, "use a 1", "set a", "lot a"), "empty")
        self.assertEqual(self.told(WEB, "use a 1", "set a", "undo", "lot a"), "0 1 2 3")
        self.assertEqual(self.told(WEB, "set a", "undo"), "ok")

    def test_forms(self):
        self.bad_lines(
            "set", "set ", "set a ", "set  a", "set a  1", "set a 1 ", "set  1", *[f"set a {word}" for word in NO_NUMBERS],
            *[f"set a 1 {word} 2" for word in NO_NUMBERS], "set a 1,2", "set a x",
        )

    def test_errors(self):
        self.assertEqual(self.told(WEB, "set b"), "error NoSeat")
        self.assertEqual(self.told(WEB, "set b 9"), "error NoSeat")
        self.assertEqual(self.told(WEB, "set 1 2"), "error NoSeat")
        self.assertEqual(self.told(WEB, "set a 4"), "error BadPlace")
        self.assertEqual(self.told(WEB, "set a 1 999999 2"), "error BadPlace")
        self.assertEqual(self.told(WEB, "set b x"), "error BadLine")


class TestUndo(ConsoleCase):
    def test_undo(self):
        lines = [WEB, "undo", "use a 1", "set a 2", "price 0 save 5", "undo", "undo", "lot a", "undo", "lot a", "undo"]
        self.assertEqual(
            console(lines), ["ok", "nothing"] + ["ok"] * 5 + ["0 1 2 3", "ok", "empty", "nothing"]
        )

    def test_forms(self):
        self.bad_lines("undo ", "undo undo", "undo 1", "undo a", "undo  ")


class TestTotal(ConsoleCase):
    def test_totals(self):
        self.assertEqual(self.told(WEB, "total"), "0")
        self.assertEqual(self.told(WEB, "use a 1", "total"), "2")
        self.assertEqual(self.told(POINT, "use a 0", "price 0 save 100000", "price 1 back 34", "total"), "100034")
        self.assertEqual(self.told(POINT, "use a 0", "price 1 back x", "total"), "x")
        self.assertEqual(self.told(POINT, "price 1 back x", "total"), "0")

    def test_forms(self):
        self.bad_lines("total ", "total a", "total total", "total  ")


class TestLot(ConsoleCase):
    def test_the_greatest_best_lot(self):
        self.assertEqual(self.told(WEB, "lot a"), "empty")
        self.assertEqual(self.told(WEB, "use a 1", "lot a"), "0 1 2 3")
        self.assertEqual(self.told(POINT, "use a 0", "lot a"), "0")
        self.assertEqual(self.told(POINT, "use a 0", "price 0 save x", "lot a"), "x")
        self.assertEqual(self.told(POINT, "price 0 save x", "lot a"), "empty")
        # Without a price for them, all places are best for no uses.
        self.assertEqual(self.told(POINT, "price 0 save 0", "price 1 back 0", "lot a"), "0")
        chain = "web places 12 entry 0 exits 11" + "".join(f" / {at} {at + 1}" for at in range(11))
        self.assertEqual(self.told(chain, "use a 5", "lot a"), "0 1 2 3 4 5 6 7 8 9 10 11")
        self.assertEqual(self.told(chain, "use a 5", "price 11 save 2", "price 9 back 0", "lot a"), "1 2 3 4 5 6 7 8 9")

    def test_forms(self):
        self.bad_lines("lot", "lot ", "lot a ", "lot  a", "lot a a", "lot a b", "lot a  ")

    def test_errors(self):
        for name in ("b", "A", "1", "aa", "ab", "-"):
            self.assertEqual(self.told(WEB, "lot " + name), "error NoSeat")
            self.assertEqual(self.told(POINT, "use a 0", "price 0 save x", "lot " + name), "error NoSeat")


class TestJudge(ConsoleCase):
    def test_verdicts(self):
        for marks, answer in (
            ("", "wrong"), (" +0 -1", "right"), (" +4 -5", "right"), (" +0", "wrong"), (" -1", "wrong"), (" +2 -3", "wrong"),
            (" -1 -2 +4", "right"), (" +1 -5", "wrong"), (" +0 +2 -5", "right"), (" +0 -2 -5", "wrong"),
        ):
            self.assertEqual(self.told(WEB, "use a 1", "judge a" + marks), answer)
        self.assertEqual(self.told(WEB, "judge a"), "right")
        self.assertEqual(self.told(WEB, "judge a +2 -3"), "right")
        self.assertEqual(self.told(WEB, "judge a -1 +2"), "wrong")

    def test_forms(self):
        self.bad_lines(
            "judge", "judge ", "judge a ", "judge  a", "judge a  +0", "judge a +0 ", "judge a +", "judge a -", "judge a 0",
            "judge a +1 +0", "judge a +0 +0", "judge a +0 -0", "judge a ++0", "judge a x", "judge a +x", "judge a +0,-1",
            "judge a +0-1", "judge  +0 -1", "judge a + 0", *[f"judge a +0 -{word}" for word in NO_NUMBERS],
        )

    def test_errors(self):
        self.assertEqual(self.told(WEB, "judge b"), "error NoSeat")
        self.assertEqual(self.told(WEB, "judge b +0 -1"), "error NoSeat")
        self.assertEqual(self.told(WEB, "judge +0 -1"), "error NoSeat")
        self.assertEqual(self.told(WEB, "judge b +9"), "error NoSeat")
        self.assertEqual(self.told(WEB, "judge a +6"), "error NoGate")
        self.assertEqual(self.told(WEB, "judge a -999999"), "error NoGate")
        # The form of the line comes first.
        self.assertEqual(self.told(WEB, "judge b +1 +0"), "error BadLine")


class TestMost(ConsoleCase):
    def test_numbers(self):
        self.assertEqual(self.told(WEB, "most a"), "0")
        self.assertEqual(self.told(WEB, "use a 1", "most a"), "1")
        chain = "web places 3 entry 0 exits 1 2 / 0 1 / 1 2"
        self.assertEqual(self.told(chain, "set a 0 2", "most a"), "1")
        # With 1 a way may leave there, so now the lot of 0 and 2 is best.
        self.assertEqual(self.told(chain, "price 3 back 9", "set a 0 2", "lot a"), "0 2")
        self.assertEqual(self.told(chain, "price 3 back 9", "set a 0 2", "most a"), "2")

    def test_endless(self):
        # The lot of 2 alone costs nothing, all others with 2 cost 9 or more.
        lines = [BACK, "use a 2", "price 1 save 0", "price 2 back 0", "price 3 back 0"]
        lines += ["price 0 save 9", "price 4 save 9", "price 5 back 9"]
        self.assertEqual(self.told(*lines, "lot a"), "2")
        self.assertEqual(self.told(*lines, "most a"), "endless")
        self.assertEqual(self.told(*lines, "price 0 save 0", "lot a"), "1 2")
        self.assertEqual(self.told(*lines, "price 0 save 0", "most a"), "1")

    def test_no_best_lot(self):
        self.assertEqual(self.told(POINT, "use a 0", "price 0 save x", "most a"), "x")

    def test_forms(self):
        self.bad_lines("most", "most ", "most a ", "most  a", "most a a", "most a 1")

    def test_errors(self):
        self.assertEqual(self.told(WEB, "most b"), "error NoSeat")
        self.assertEqual(self.told(POINT, "use a 0", "price 0 save x", "most b"), "error NoSeat")


class TestDrawnLines(ConsoleCase):
    def test_against_a_table(self):
        rng = random.Random(490)
        counts = {}
        for draw in range(60):
            web = large_web(rng) if draw % 20 == 0 else drawn_web(rng, rng.randint(1, 5), 9)
            row = [1] * web.gates
            table = Table(Task(web, {"a": []}, Prices(web, row, row)))
            lines, answers = ["web " + write_web(web).replace("\n", " / ")], ["ok"]
            for _ in range(25):
                line, answer = self.drawn_line(rng, web, table)
                lines.append(line)
                answers.append(answer)
                counts[answer] = counts.get(answer, 0) + 1
            self.assertEqual(console(lines), answers)
        self.assertTrue({"ok", "nothing", "x", "0", "empty", "endless", "right", "wrong", "1"} <= set(counts))

    def drawn_line(self, rng, web, table):
        """A drawn line and its answer; what it does is done at the table, too."""
        kind = rng.choice(("use", "free", "price", "set", "undo", "total", "lot", "judge", "most", "price", "use"))
        place = rng.randrange(web.places)
        if kind in ("use", "free"):
            table.edit((kind, "a", place))
            return f"{kind} a {place}", "ok"
        if kind == "price":
            edit = (rng.randrange(web.gates), rng.choice(("save", "back")), rng.choice((None, 0, 0, 3, 100000)))
            table.edit(("price", *edit))
            return f"price {edit[0]} {edit[1]} {'x' if edit[2] is None else edit[2]}", "ok"
        if kind == "set":
            places = list(drawn_lot(rng, web, min(2, web.places)))
            table["a"] = places
            return " ".join(["set", "a", *map(str, places)]), "ok"
        if kind == "undo":
            return kind, "ok" if table.undo() else "nothing"
        if kind == "total":
            total = table.total()
            return kind, "x" if total is None else str(total)
        if kind == "judge":
            placing = marked(marks_of(web, table["a"] | drawn_lot(rng, web, 1)))
            if rng.random() < 0.4:
                placing = marked({(gate, rng.choice(("save", "back"))) for gate in (placing.saves + placing.backs)[:1]})
            right = judge(web, table["a"], placing).right
            return f"judge a {write_placing(placing)}".rstrip(), "right" if right else "wrong"
        lot = table.lots()["a"]
        if lot is None:
            return kind + " a", "x"
        if kind == "lot":
            return "lot a", " ".join(map(str, lot)) if lot != Lot([]) else "empty"
        number = most_saves(web, lot).number
        return "most a", "endless" if number is None else str(number)


if __name__ == "__main__":
    unittest.main()
