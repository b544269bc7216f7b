"""Points 41, 43 and 44: the texts of houses and the lines of events, and how each wrong line is refused."""

import unittest

from duehouse.errors import BadLine
from duehouse.houses import House
from duehouse.reading import read_event, read_house
from duehouse.writing import write_house
from tests.support import Case, made_course, made_house, seeded

TEXT = [
    "signs a b",
    "rule r flat 1 5",
    "rule s upto b 1 7",
    "bridge r s 1",
    "bridge s r - 0",
    "offices x y",
    "charge x b y",
    "late 2",
    "reach 0",
    "practice x term 1",
    "practice y heeds own",
    "purse x unit 3",
    "purse x cap 9",
    "way y x",
]
SAYS_NOTHING = ["", "#", "# a b", "#signs a", "##"]


class ReadCase(Case):
    def wrong(self, lines, line, word):
        with self.subTest(lines[line - 1] if line <= len(lines) else "the line that lacks"):
            self.refused(BadLine, {"line": line, "word": word}, read_house, lines)

    def wrong_line(self, text, word, at=None):
        """This line, put in the place of TEXT's line of its first word, is refused by this word."""
        at = [line.split(" ")[0] for line in TEXT].index(text.split(" ")[0]) if at is None else at
        self.wrong([*TEXT[:at], text, *TEXT[at + 1:]], at + 1, word)


class RightTest(ReadCase):
    def test_text(self):
        house = read_house(TEXT)
        self.assertIsInstance(house, House)
        self.assertEqual(write_house(house), TEXT)
        self.assertEqual((house.late, house.reach), (2, 0))
        self.assertEqual(str(house.practice("x")), "term=1")
        self.assertEqual((house.purse("x").unit, house.purse("x").cap, house.purse("y").unit), (3, 9, 1))
        self.assertEqual(list(house.ways()), [("y", "x")])
        self.assertEqual(house.course.charge("x", "b"), "y")
        self.assertEqual(house.course.book_copy()["s", "r"], (None, 0))

    def test_lines_left_out(self):
        kept = [line for line in TEXT if line.split(" ")[0] in ("signs", "offices") or line == "rule r flat 1 5"]
        house = read_house(kept)
        self.assertEqual(write_house(house), kept)
        self.assertEqual((house.late, house.reach, list(house.ways())), (None, None, []))
        for at, line in enumerate(TEXT):
            if line not in kept and not line.startswith("rule"):
                lines = [*TEXT[:at], *TEXT[at + 1:]]
                self.assertEqual(write_house(read_house(lines)), lines)

    def test_comments_and_empty_lines_anywhere(self):
        lines = []
        for at, line in enumerate(TEXT):
            lines += [SAYS_NOTHING[at % 5], SAYS_NOTHING[(at + 1) % 5], line]
        lines.append("")
        self.assertEqual(write_house(read_house(lines)), TEXT)

    def test_what_is_not_written(self):
        lines = ["signs a", "rule r flat 0", "rule s flat 1", "bridge r s 0", "offices x", "charge x a x"]
        self.assertEqual(write_house(read_house(lines)), [*lines[:3], "offices x"])

    def test_any_order_within_a_part(self):
        lines = [*TEXT[:3], TEXT[4], TEXT[3], *TEXT[5:9], TEXT[10], TEXT[9], TEXT[12], TEXT[11], TEXT[13]]
        self.assertEqual(write_house(read_house(lines)), TEXT)

    def test_names_of_unlike_things_may_be_the_same(self):
        lines = ["signs a rule", "rule a once rule 5", "offices a rule", "charge a a rule", "way rule a"]
        self.assertEqual(write_house(read_house(lines)), lines)

    def test_lines_stay_as_they_are(self):
        lines = list(TEXT)
        read_house(lines)
        self.assertEqual(lines, TEXT)


class LineOrderTest(ReadCase):
    def test_no_such_word(self):
        for bad in ["sign", "Signs", "signs:", "rules", "x", " ", "  signs a", " signs a", "\u00a0", "- a", "0", "day", " #", "ways x y"]:
            for at in range(len(TEXT) + 1):
                self.wrong([*TEXT[:at], bad, *TEXT[at:]], at + 1, 1)

    def test_out_of_order(self):
        order = [line.split(" ")[0] for line in TEXT]
        for at in range(1, len(TEXT)):
            for ahead in range(at):
                # A bridge between two rules is due, but tells of a rule that is not there yet.
                if order[ahead] != order[at] and (order[at], ahead) != ("bridge", 2):
                    lines = [*TEXT[:ahead], TEXT[at], *TEXT[ahead:]]
                    needed = [word for word in order[:ahead] if word in ("signs", "rule", "offices")]
                    first = ahead + 1 if self.lacks(order[at], needed) else ahead + 2
                    self.wrong(lines, first, 1)

    def lacks(self, word, needed):
        """Whether a line of this word needs one that is not among these."""
        places = ["signs", "rule", "bridge", "offices", "charge"]
        ahead = places[: places.index(word)] if word in places else places
        return any(part in ahead and part not in needed for part in ("signs", "rule", "offices"))

    def test_late_behind_reach(self):
        self.wrong(["signs a", "rule r flat 0", "offices x", "reach 1", "late 1"], 5, 1)
        self.wrong(["signs a", "rule r flat 0", "offices x", "late 1", "charge x a x"], 5, 1)

    def test_told_a_second_time(self):
        for at, line in enumerate(TEXT):
            if line.split(" ")[0] in ("signs", "offices", "late", "reach"):
                self.wrong([*TEXT[: at + 1], line, *TEXT[at + 1:]], at + 2, 1)
                self.wrong([*TEXT[: at + 1], "", line.split(" ")[0], *TEXT[at + 1:]], at + 3, 1)

    def test_a_fourth_rule(self):
        lines = ["signs a", "rule r flat 0", "rule s flat 0", "rule t flat 0"]
        for fourth in ["rule u flat 0", "rule", "rule r", "rule u flat", "rule u flat 0 0 0"]:
            self.wrong([*lines, fourth, "offices x"], 5, 1)
        read_house([*lines, "offices x"])

    def test_the_same_again(self):
        for line, others in [
            ("bridge r s 1", ["bridge r s 1", "bridge r s", "bridge r s - -", "bridge r s q", "bridge r s 9 9"]),
            ("charge x b y", ["charge x b y", "charge x b", "charge x b q", "charge x b x x"]),
            ("practice x term 1", ["practice x term 1", "practice x term", "practice x term 9", "practice x term 2 2"]),
            ("purse x cap 9", ["purse x cap 9", "purse x cap", "purse x cap 0", "purse x cap 1 1", "purse x unit 2"]),
            ("way y x", ["way y x", "way y x x", "way y x "]),
        ]:
            at = TEXT.index(line) + 1
            for other in others:
                self.wrong([*TEXT[:at], other, *TEXT[at:]], at + 1, 1)
                self.wrong([*TEXT[:at], "# way", other, *TEXT[at:]], at + 2, 1)
        # Words that do not fit come first.
        for at, other, word in [(4, "bridge r r 0", 3), (4, "bridge r", 3), (7, "charge x", 3), (10, "practice x", 3), (14, "way y", 3), (14, "way y y", 3)]:
            self.wrong([*TEXT[:at], other, *TEXT[at:]], at + 1, word)

    def test_lacking_lines(self):
        self.wrong([], 1, 1)
        self.wrong([""], 2, 1)
        self.wrong(["# nothing", ""], 3, 1)
        self.wrong(["signs a"], 2, 1)
        self.wrong(["signs a", "rule r flat 0"], 3, 1)
        self.wrong(["signs a", "", "rule r flat 0", "# x", ""], 6, 1)
        self.wrong(["signs a", "rule r flat 0", "rule s flat 0", "bridge r s 0"], 5, 1)
        self.wrong(["rule r flat 0", "offices x"], 1, 1)
        self.wrong(["signs a", "offices x"], 2, 1)
        self.wrong(["signs a", "bridge r s 0"], 2, 1)
        self.wrong(["signs a", "rule r flat 0", "way x y"], 3, 1)

    def test_the_first_wrong_line(self):
        self.wrong(["signs a", "rule r flat 0 0", "rule r flat"], 2, 5)
        self.wrong(["signs a", "rule r flat", "offices"], 2, 4)
        self.wrong(["signs a A", "nothing"], 1, 3)


class WordsTest(ReadCase):
    """Each way in which a word of each line can be wrong."""

    def test_signs(self):
        for text, word in [
            ("signs", 2), ("signs ", 2), ("signs A", 2), ("signs abcdefghi", 2), ("signs a1", 2), ("signs a-b", 2),
            ("signs a a", 3), ("signs a b a", 4), ("signs a b c d", 5), ("signs a b c a", 5), ("signs a b c D", 5),
            ("signs a  b", 3), ("signs a b ", 4), ("signs a b c ", 5), ("signs  a", 2), ("signs \ta", 2), ("signs a\tb", 2),
        ]:
            self.wrong_line(text, word)

    def test_offices(self):
        for text, word in [
            ("offices", 2), ("offices ", 2), ("offices X", 2), ("offices x x", 3), ("offices x y z w", 5), ("offices x  y", 3),
            ("offices x y x", 4), ("offices x 1", 3),
        ]:
            self.wrong_line(text, word)

    def test_rule(self):
        for text, word in [
            ("rule", 2), ("rule ", 2), ("rule R", 2), ("rule r", 3), ("rule r ", 3), ("rule r plain 1 5", 3), ("rule r Flat 1 5", 3),
            ("rule abcdefghi flat 1 5", 2), ("rule  flat 1 5", 2),
        ]:
            self.wrong_line(text, word)
        self.wrong_line("rule r flat 1 5", 2, at=2)
        self.wrong_line("rule r once", 2, at=2)

    def test_flat(self):
        for words, word in [
            ("", 4), (" 1", 5), (" 1 5 0", 6), (" 1 5 ", 6), (" 1000 5", 4), (" -1000 5", 4), (" 1 1000", 5), (" x 5", 4),
            (" 1 +5", 5), (" 01 5", 4), (" 1 -05", 5), (" -0 5", 4), (" 1.0 5", 4), (" 1 5a", 5), (" -- 5", 4), (" - 5", 4),
            (" 1  5", 5), (" 1_0 5", 4), (" x", 4), (" 1 \u00b2", 5), (" 00 5", 4), (" --1 5", 4), (" 1- 5", 4),
        ]:
            self.wrong_line(f"rule r flat{words}", word)
        for words in ["-999 999", "0 -1", "10 100"]:
            read_house(["signs a b", f"rule r flat {words}", "offices x"])

    def test_the_other_kinds(self):
        for words, word in [
            ("waiting", 4), ("waiting c", 4), ("waiting b", 5), ("waiting b -1 7", 5), ("waiting b 4 7", 5), ("waiting b x 7", 5),
            ("waiting b 3", 6), ("waiting b 3 1000", 6), ("waiting b 3 7 7", 7), ("waiting b 03 7", 5), ("waiting B 3 7", 4),
            ("upto", 4), ("upto c 1 7", 4), ("upto b", 5), ("upto b 0 7", 5), ("upto b 4 7", 5), ("upto b 3", 6), ("upto b 3 -1000", 6),
            ("upto b 1 7 ", 7), ("spell", 4), ("spell q 1 7", 4), ("spell b 0 7", 5), ("spell b 4 7", 5), ("spell b 1 x", 6),
            ("spell b 1", 6), ("spell b 1 7 7", 7), ("once", 4), ("once c 7", 4), ("once b", 5), ("once b 1000", 5), ("once b 7 7", 6),
            ("once  7", 4), ("after", 4), ("after c b 7", 4), ("after a", 5), ("after a c 7", 5), ("after a b", 6), ("after a b x", 6),
            ("after a b 7 7", 7), ("after c c x", 4),
        ]:
            self.wrong_line(f"rule r {words}", word)
        for words in ["waiting b 0 0", "waiting a 3 -999", "upto b 3 999", "spell a 1 -1", "once a 0", "after b b 1"]:
            read_house(["signs a b", f"rule r {words}", "offices x"])

    def test_rows(self):
        for words, word in [
            ("", 4), (" 0:0", 5), (" 0:0 0:0 0:0", 7), (" 0:0 0:1", 5), (" 0:1 0:0 0:0", 7), (" 0:2 0:0 0:1 0:1", 4),
            (" 0:0 0:1 0:2 0:0", 6), (" 0:-1 0:0", 4), (" 1000:0 0:0", 4), (" -1000:0 0:0", 4), (" 0:0 0", 5), (" 0:0 :0", 5),
            (" 0: 0:0", 4), (" 0:0:0 0:0", 4), (" 0:00 0:0", 4), (" 00:0 0:0", 4), (" x:0 0:0", 4), (" 0:x 0:0", 4), (" 0:+0 0:0", 4),
            (" -0:0 0:0", 4), (" 0:-0 0:0", 4), (" 0:0 0 :0", 5), (" 0:0  0:0 0:0", 5), (" 0:0 -", 5), (" 0 0", 4),
            (" 0:0 0:0" * 5, 12), (" 0:0 0:0" * 4 + " x", 12), (" 0:0 0:0" * 4 + " ", 12), (" 0:4 0:0" + " 0:0 0:0" * 4, 4),
            (" 0:0 0:0 0:0 0:5 0:0", 7), (" 0:0 0:0 x", 6),
        ]:
            self.wrong_line(f"rule r rows{words}", word)
        for words in ["0:0 0:0", "-999:1 999:0 0:1 0:0", "0:3 0:2" + " 0:1 0:0" * 3, "0:2 0:0 0:0 0:0 1:1 1:1"]:
            self.assertEqual(read_house(["signs a b", f"rule r rows {words}", "offices x"]).course.rules, ("r",))

    def test_rows_of_one_sign(self):
        for words, word in [("", 4), (" 0:1", 4), (" 0:1 0:2", 5), (" 0:0" * 5, 8), (" 0:3" * 3, 4)]:
            self.wrong(["signs a", f"rule r rows{words}", "offices x"], 2, word)
        for many in range(1, 5):
            read_house(["signs a", "rule r rows" + f" 0:{many - 1}" * many, "offices x"])

    def test_bridge(self):
        for text, word in [
            ("bridge", 2), ("bridge q s 0", 2), ("bridge r", 3), ("bridge r q 0", 3), ("bridge r r 0", 3), ("bridge r s", 4),
            ("bridge r s 2", 4), ("bridge r s -1", 4), ("bridge r s x", 4), ("bridge r s --", 4), ("bridge r s 0 0", 5), ("bridge r s - ", 5),
            ("bridge s r 0", 5), ("bridge s r 1 0", 4), ("bridge s r 0 1", 5), ("bridge s r - -0", 5), ("bridge s r - 00", 5),
            ("bridge s r - - -", 6), ("bridge s r  -", 4), ("bridge  s 0", 2), ("bridge s s", 3), ("bridge r s None", 4),
        ]:
            self.wrong_line(text, word, at=3)

    def test_charge(self):
        for text, word in [
            ("charge", 2), ("charge q b y", 2), ("charge x", 3), ("charge x q y", 3), ("charge x b", 4), ("charge x b q", 4),
            ("charge x b y y", 5), ("charge x b y ", 5), ("charge  b y", 2), ("charge X b y", 2), ("charge b x y", 2),
        ]:
            self.wrong_line(text, word)

    def test_bounds(self):
        for part in ["late", "reach"]:
            for words, word in [
                ("", 2), (" ", 2), (" 4", 2), (" -1", 2), (" x", 2), (" None", 2), (" -", 2), (" 03", 2), (" +3", 2), (" 3 3", 3), (" 0 ", 3),
            ]:
                self.wrong_line(part + words, word)

    def test_practice(self):
        for text, word in [
            ("practice", 2), ("practice q term 1", 2), ("practice x", 3), ("practice x hears y", 3), ("practice x terms 1", 3),
            ("practice x term", 4), ("practice x term 4", 4), ("practice x term None", 4), ("practice x term 01", 4),
            ("practice x term -1", 4), ("practice x again 0", 4), ("practice x again 4", 4), ("practice x amends back", 4),
            ("practice x heeds all", 4), ("practice x stands last", 4), ("practice x stands ahead", 4), ("practice x pays True", 4),
            ("practice x term 1 1", 5), ("practice x term 1 ", 5), ("practice x term ", 4), ("practice x  1", 3), ("practice q hears 9", 2),
        ]:
            self.wrong_line(text, word)
        for words in ["again 1", "again 3", "amends ahead", "heeds own", "stands come", "term 0", "pays 3", "asks 0"]:
            read_house([*TEXT[:9], f"practice x {words}"])

    def test_purse(self):
        for text, word in [
            ("purse", 2), ("purse q unit 2", 2), ("purse x", 3), ("purse x paid 2", 3), ("purse x unit", 4), ("purse x unit 1", 4),
            ("purse x unit 6", 4), ("purse x unit 0", 4), ("purse x unit x", 4), ("purse x rest keep", 4), ("purse x rest 2", 4),
            ("purse x cap 0", 4), ("purse x cap 100", 4), ("purse x cap None", 4), ("purse x cap -", 4), ("purse x held keep", 4),
            ("purse x held", 4), ("purse x unit 2 2", 5), ("purse x rest drop ", 5), ("purse x unit 02", 4), ("purse x unit drop", 4),
        ]:
            self.wrong_line(text, word)
        for words in ["unit 2", "unit 5", "rest drop", "cap 1", "cap 99", "held drop"]:
            read_house([*TEXT[:9], f"purse x {words}"])

    def test_way(self):
        for text, word in [
            ("way", 2), ("way q x", 2), ("way x", 3), ("way x q", 3), ("way x x", 3), ("way y x x", 4), ("way y x ", 4), ("way  x", 2),
            ("way y  x", 3), ("way Y x", 2),
        ]:
            self.wrong_line(text, word)

    def test_spoiled_words(self):
        """A word that fits nowhere, put in the place of each word of each line, is refused by its number."""
        rnd = seeded(431)
        for _ in range(25):
            lines = write_house(made_house(rnd, made_course(rnd)))
            for _ in range(12):
                at = rnd.randrange(len(lines))
                words = lines[at].split(" ")
                word = rnd.randrange(len(words))
                for bad in ["", "A", "-", "9999", "a:b"]:
                    if bad == "-" and words[0] == "bridge":
                        continue
                    spoiled = " ".join([*words[:word], bad, *words[word + 1:]])
                    if spoiled:
                        self.wrong([*lines[:at], spoiled, *lines[at + 1:]], at + 1, word + 1)


class EventLinesTest(Case):
    def wrong(self, line, word):
        with self.subTest(line):
            self.refused(BadLine, {"line": 1, "word": word}, read_event, line)

    def test_lines_that_say_nothing(self):
        for line in SAYS_NOTHING:
            self.wrong(line, 1)

    def test_first_words(self):
        for line in [" ", " day", "Day", "days", "settle", "verdict", "file x", "tells x 0 a", "#day", "-", "0", "book x 0 1"]:
            self.wrong(line, 1)

    def test_wrong_words(self):
        for line, word in [
            ("tell", 2), ("tell ", 2), ("tell X 0 a", 2), ("tell x", 3), ("tell x y a", 3), ("tell x 00 a", 3), ("tell x 0", 4),
            ("tell x 0 A", 4), ("tell x 0 0", 4), ("tell x 0 a a", 5), ("tell x 0 a ", 5), ("tell  0 a", 2), ("tell x  a", 3),
            ("tell x +1 a", 3), ("tell x -0 a", 3), ("tell x - a", 3), ("tell x 1.5 a", 3), ("tell abcdefghi 0 a", 2), ("tell 0 x a", 2),
            ("amend", 2), ("amend x 0", 4), ("amend x 0 a b", 5), ("amend X x X", 2), ("void x", 3), ("void x a", 3), ("void x 1 1", 4),
            ("void 1 x", 2), ("read", 2), ("read x", 2), ("read 0 0", 3), ("read -", 2), ("read 01", 2), ("day ", 2), ("day x", 2), ("day 1", 2),
            ("appeal x", 3), ("appeal x y", 3), ("appeal x 0 0", 4), ("hold", 2), ("hold 1", 2), ("hold x x", 3), ("free", 2), ("free x ", 3),
            ("run", 2), ("run X", 2), ("close x", 2), ("close ", 2), ("day  ", 2),
        ]:
            self.wrong(line, word)

    def test_right_lines(self):
        for line, event in [
            ("tell x -7 abcdefgh", ("tell", "x", -7, "abcdefgh")), ("read 1000", ("read", 1000)), ("void zz 0", ("void", "zz", 0)),
            ("appeal x -10", ("appeal", "x", -10)), ("day", ("day",)),
        ]:
            self.assertEqual(read_event(line), event)


if __name__ == "__main__":
    unittest.main()
