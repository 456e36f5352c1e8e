import copy
import unittest

from pieceyard.errors import BadPosition, BadText
from pieceyard.moves import moves
from pieceyard.notes import line_text, position_text, read_line, read_position, read_yard, yard_text
from pieceyard.positions import is_position, placed
from pieceyard.yards import Yard
from tests.samples import chance_positions, fields, king_steps, parts, plain_yard, race_yard, small_yards, wide_yard
from tests.texts import misread

PLAIN = (
    "yard 4 3 lost\n"
    "holes 0.1 2.2\n"
    "goals 3.0 3.2\n"
    "goals 0.0\n"
    "kind k 1 leaps -1.-1 -1.0 -1.1 0.-1 0.1 1.-1 1.0 1.1 rides\n"
    "kind p 0 leaps 1.0 rides\n"
    "kind r 0 leaps 2.1 rides -1.0 0.-1 0.1 1.0\n"
)

BARE = "yard 1 2 drawn\nholes\ngoals\ngoals\nkind k 1 leaps rides\n"


def refused(case, read, text):
    with case.subTest(text=text):
        with case.assertRaises(BadText) as taken:
            read(text)
        case.assertIs(type(taken.exception), BadText)


class YardTextTest(unittest.TestCase):
    def test_by_hand(self):
        self.assertEqual(yard_text(plain_yard()), PLAIN)
        self.assertEqual(yard_text(Yard(1, 2, [], {"k": ([], [], 1)}, ([], []), "drawn")), BARE)

    def test_read_by_hand(self):
        self.assertEqual(fields(read_yard(PLAIN)), parts())
        wanted = {"height": 1, "width": 2, "holes": [], "kinds": {"k": ([], [], 1)}, "goals": ([], []), "stuck": "drawn"}
        self.assertEqual(fields(read_yard(BARE)), wanted)

    def test_kinds_are_written_rising(self):
        kinds = parts()["kinds"]
        for names in (["k", "p", "r"], ["r", "p", "k"], ["p", "r", "k"]):
            yard = Yard(**{**parts(), "kinds": {name: kinds[name] for name in names}})
            self.assertEqual(yard_text(yard), PLAIN)
        six = {name: ([], [], 1) for name in "zyxcba"}
        told = yard_text(Yard(1, 1, [], six, ([], []), "lost"))
        self.assertEqual([row[5] for row in told.split("\n")[4:-1]], list("abcxyz"))
        self.assertEqual(fields(read_yard(told))["kinds"], six)

    def test_read_to_the_same(self):
        steps = [(dr, dc) for dr in range(-4, 5) for dc in range(-4, 5) if (dr, dc) != (0, 0)]
        corners = [(0, 0), (0, 4), (4, 0), (4, 4)]
        great = Yard(5, 5, [(1, 1), (2, 2)], {"q": (steps, steps[::3], 0), "k": ([], steps, 1)}, (corners, []), "lost")
        for yard in small_yards() + [wide_yard(), great]:
            told = yard_text(yard)
            read = read_yard(told)
            self.assertEqual(fields(read), fields(yard))
            self.assertEqual(yard_text(read), told)
            self.assertEqual(list(read.kinds), sorted(yard.kinds))

    def test_every_size(self):
        for height in range(1, 6):
            for width in range(1, 6):
                yard = Yard(height, width, [], {"k": ([], [], 1)}, ([], []), "lost")
                self.assertEqual(fields(read_yard(yard_text(yard))), fields(yard))

    def test_near_texts(self):
        for text in (PLAIN, BARE, yard_text(race_yard())):
            wrong, read_too = misread(read_yard, yard_text, text)
            self.assertEqual(wrong, [])
            self.assertGreater(read_too, 0)

    def test_refused(self):
        for text in [
            "", "\n", "yard\n", PLAIN[:-1], PLAIN + "\n", "\n" + PLAIN, PLAIN + " ", " " + PLAIN,
            PLAIN.replace("\n", "\n\n", 1), PLAIN.replace("4 3", "4  3"), PLAIN.replace("lost", "lost "),
            PLAIN.replace("holes 0.1", "holes  0.1"), PLAIN.replace("2.2\n", "2.2 \n"), PLAIN.replace("4 3", "04 3"),
            PLAIN.replace("4 3", "+4 3"), PLAIN.replace("4 3", "4 3.0"), PLAIN.replace("0.0", "-0.0"),
            PLAIN.replace("0.0", "0.-0"), PLAIN.replace("0.0", "00.0"), PLAIN.replace("0.0", "0.00"),
            PLAIN.replace("0.0", "0,0"), PLAIN.replace("0.0", "0"), PLAIN.replace("0.0", "0.0.0"),
            PLAIN.replace("lost", "Lost"), PLAIN.replace("lost", "won"), PLAIN.replace("yard", "Yard"),
            PLAIN.replace("kind k", "kind K"), PLAIN.replace("kind k", "kind kk"), PLAIN.replace("kind k 1", "kind 1"),
            PLAIN.replace("kind k 1", "kind k 2"), PLAIN.replace("kind k 1", "kind k -1"),
            PLAIN.replace("rides\n", "rides \n"), PLAIN.replace("rides\n", "\n"), PLAIN.replace("leaps", "leap"),
            PLAIN.replace("leaps", "rides"), PLAIN.replace("rides\n", "rides rides\n"), PLAIN.replace("\n", "\t\n"),
            PLAIN.replace(" ", "\t"), PLAIN.replace("holes", "holes holes"), PLAIN.replace("goals", "holes"),
        ]:
            refused(self, read_yard, text)

    def test_rows_exchanged_left_out_or_twice(self):
        rows = PLAIN.split("\n")[:-1]
        for one in range(len(rows)):
            for other in range(len(rows)):
                if one != other and {one, other} != {2, 3}:
                    mixed = list(rows)
                    mixed[one], mixed[other] = mixed[other], mixed[one]
                    refused(self, read_yard, "".join(row + "\n" for row in mixed))
            less = rows[:one] + rows[one + 1:]
            if one < 4:
                refused(self, read_yard, "".join(row + "\n" for row in less))
            more = rows[:one] + rows[one:one + 1] + rows[one:]
            refused(self, read_yard, "".join(row + "\n" for row in more))
        refused(self, read_yard, "".join(row + "\n" for row in rows[:4]))

    def test_what_is_no_yard(self):
        for text in [
            BARE.replace("1 2", "0 2"), BARE.replace("1 2", "1 0"), BARE.replace("1 2", "6 2"),
            BARE.replace("1 2", "1 -1"), BARE.replace("holes", "holes 0.2"), BARE.replace("holes", "holes 1.0"),
            BARE.replace("holes", "holes -1.0"), BARE.replace("holes", "holes 0.1 0.0"),
            BARE.replace("holes", "holes 0.0 0.0"), BARE.replace("holes\ngoals", "holes 0.0\ngoals 0.0"),
            BARE.replace("goals\nkind", "goals 0.2\nkind"), BARE.replace("leaps", "leaps 0.0"),
            BARE.replace("leaps", "leaps 5.0"), BARE.replace("rides", "rides -5.1"),
            BARE.replace("rides", "rides 1.0 0.1"), BARE.replace("rides", "rides 0.1 0.1"),
            BARE.replace("leaps", "leaps 10.0"), BARE.replace("1 2", "10 2"), BARE.replace("1 2", "9" * 1500 + " 2"),
            BARE + BARE[-20:], "yard 1 1 lost\nholes\ngoals\ngoals\n",
            "".join([BARE[:-len("kind k 1 leaps rides\n")]] + [f"kind {name} 1 leaps rides\n" for name in "abcdefg"]),
        ]:
            refused(self, read_yard, text)

    def test_kinds_not_rising_or_twice(self):
        head = BARE[:BARE.index("kind")]
        for names in ("ba", "aa", "abb", "acb", "bab"):
            refused(self, read_yard, head + "".join(f"kind {name} 1 leaps rides\n" for name in names))
        read_yard(head + "".join(f"kind {name} 1 leaps rides\n" for name in "abcdef"))

    def test_nothing_hangs_together(self):
        yard = plain_yard()
        yard_text(yard)
        self.assertEqual(fields(yard), parts())
        one = read_yard(PLAIN)
        one.holes.clear()
        one.kinds["k"][0].clear()
        one.kinds.clear()
        one.goals[0].clear()
        self.assertEqual(fields(read_yard(PLAIN)), parts())


class PositionTextTest(unittest.TestCase):
    def test_by_hand(self):
        yard = Yard(2, 3, [], {"k": (king_steps(), [], 1)}, ([], []), "lost")
        position = placed(yard, 0, [((1, 2), 1, "k"), ((0, 0), 0, "k")])
        self.assertEqual(position_text(yard, position), "0 k0:0.0 k1:1.2")
        self.assertEqual(read_position(yard, "0 k0:0.0 k1:1.2"), position)
        self.assertEqual(position_text(yard, (1, (((0, 1), 1, "k"),))), "1 k1:0.1")

    def test_read_to_the_same(self):
        for yard in small_yards() + [wide_yard()]:
            for position in chance_positions(yard, 20, 10, 71):
                told = position_text(yard, position)
                self.assertEqual(read_position(yard, told), position)
                self.assertIs(is_position(yard, read_position(yard, told)), True)

    def test_near_texts(self):
        yard = plain_yard()
        for text in ("1 k0:0.0 p1:1.1 k1:1.2", "0 k1:3.2"):
            wrong, read_too = misread(
                lambda other: read_position(yard, other), lambda value: position_text(yard, value), text
            )
            self.assertEqual(wrong, [])
            self.assertGreater(read_too, 0)

    def test_refused(self):
        yard = plain_yard()
        good = "0 k0:0.0 k1:1.2"
        read_position(yard, good)
        for text in [
            "", " ", "0", "0 ", "k0:0.0", good + " ", " " + good, good + "\n", good.replace(" ", "  ", 1),
            good.replace("0 k", "2 k", 1), good.replace("0 k", "-1 k", 1), good.replace("0 k", "00 k", 1),
            good.replace("0 k", "+0 k", 1), good.replace("0 k", "-0 k", 1), "0 k1:1.2 k0:0.0", "0 k0:0.0 k0:0.0",
            "0 k0:0.0 r1:0.0", "0 k0:0.1", "0 k0:4.0", "0 k0:0.3", "0 k0:0.-1", "0 k0:-1.0", "0 q0:0.0", "0 r0:0.0",
            "0 K0:0.0", "0 kk0:0.0", "0 k2:0.0", "0 k-1:0.0", "0 k:0.0", "0 0:0.0", "0 k00:0.0", "0 k0.0.0", "0 k0:0",
            "0 k0:", "0 k0", "0 k", "0 k0:0.0.0", "0 k0:00.0", "0 k0:0.00", "0 k0::0.0", "0 k0:0:0", "0\tk0:0.0",
            "0 k0:0.0\tk1:1.2", "0\nk0:0.0", "k0:0.0 0", "0 :0.0", "0 0k:0.0", "0 k0:" + "9" * 1900 + ".0",
        ]:
            refused(self, lambda other: read_position(yard, other), text)

    def test_too_many_pieces(self):
        yard = wide_yard()
        words = [f"k{at % 2}:{cell[0]}.{cell[1]}" for at, cell in enumerate(yard.cells())]
        self.assertEqual(len(read_position(yard, " ".join(["0"] + words[:10]))[1]), 10)
        refused(self, lambda other: read_position(yard, other), " ".join(["0"] + words[:11]))

    def test_bad_positions(self):
        yard = plain_yard()
        pieces = (((0, 0), 0, "k"), ((1, 2), 1, "k"))
        for wrong in [(2, pieces), (0, pieces[::-1]), (0, ()), (0, (((0, 1), 0, "k"),)), (0, (((0, 0), 0, "r"),))]:
            with self.assertRaises(BadPosition):
                position_text(yard, wrong)
        self.assertEqual(fields(yard), parts())


class LineTextTest(unittest.TestCase):
    def test_by_hand(self):
        self.assertEqual(line_text([]), "")
        self.assertEqual(read_line(""), [])
        self.assertEqual(line_text([((0, 3), (1, 2))]), "0.3-1.2")
        self.assertEqual(line_text([((0, 3), (1, 2)), ((4, 4), (0, 0))]), "0.3-1.2 4.4-0.0")
        self.assertEqual(read_line("0.3-1.2 4.4-0.0"), [((0, 3), (1, 2)), ((4, 4), (0, 0))])

    def test_every_cell(self):
        cells = [(r, c) for r in range(5) for c in range(5)]
        for start in cells:
            line = [(start, end) for end in cells]
            self.assertEqual(read_line(line_text(line)), line)

    def test_moves_of_a_position(self):
        for position in chance_positions(plain_yard(), 5, 5, 72):
            line = moves(plain_yard(), position)
            self.assertEqual(read_line(line_text(line)), line)

    def test_near_texts(self):
        for text in ("0.3-1.2", "0.3-1.2 4.4-0.0 1.1-1.1"):
            wrong, read_too = misread(read_line, line_text, text)
            self.assertEqual(wrong, [])
            self.assertGreater(read_too, 0)

    def test_refused(self):
        for text in [
            " ", "0", "-", ".", "0.3", "0.3-", "-1.2", "0.3-1.2 ", " 0.3-1.2", "0.3-1.2  0.3-1.2", "0.3-1.2\n",
            "0.3-1.2\t0.3-1.2", "0.31.2", "0.3--1.2", "0..3-1.2", "03-1.2", "0.3-12", "5.0-1.2", "0.5-1.2", "0.3-5.2",
            "0.3-1.5", "-1.3-1.2", "0.-3-1.2", "0.3--1.2", "0.3-1.-2", "00.3-1.2", "0.03-1.2", "+0.3-1.2", "0.3-1.2-0.0",
            "0,3-1.2", "0.3:1.2", "0.3 -1.2", "0.3- 1.2", "a.3-1.2", "0.3-1.2.1", "9.9-9.9", "10.0-0.0", "0.3-1.2|0.3-1.2",
            "-0.3-1.2", "0.3-1.-0", "0.3-1." + "2" * 1900, "\n", "\t",
        ]:
            refused(self, read_line, text)

    def test_the_line_stays(self):
        line = [((0, 3), (1, 2)), ((4, 4), (0, 0))]
        kept = copy.deepcopy(line)
        line_text(line)
        self.assertEqual(line, kept)
        read_line("0.3-1.2").clear()
        read_line("").append(1)
        self.assertEqual(read_line("0.3-1.2"), kept[:1])
        self.assertEqual(read_line(""), [])


if __name__ == "__main__":
    unittest.main()
