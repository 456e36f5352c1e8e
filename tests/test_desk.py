import copy
import unittest

from pieceyard.contrary import not_holds
from pieceyard.desk import Desk, read_desk
from pieceyard.errors import BadPosition, BadSide, BadText, Ended, NoMove, Nothing, TooMany
from pieceyard.lines import walked
from pieceyard.moves import after, moves
from pieceyard.notes import line_text, position_text, yard_text
from pieceyard.positions import placed
from pieceyard.trees import least, win_holds
from pieceyard.yards import Yard
from tests.samples import (
    chance_positions, fields, no_two_are_one, parts, plain_yard, race, race_yard, small_yards,
)
from tests.texts import misread

FAR = 10 ** 5000

LINE = [((1, 0), (2, 0)), ((0, 2), (1, 1)), ((2, 0), (3, 0))]

NOTE = (
    "yard 4 3 lost\n"
    "holes 0.1 2.2\n"
    "goals 3.0 3.2\n"
    "goals 0.0\n"
    "kind k 1 leaps -1.-1 -1.0 -1.1 0.-1 0.1 1.-1 1.0 1.1 rides\n"
    "kind p 0 leaps 1.0 rides\n"
    "kind r 0 leaps 2.1 rides -1.0 0.-1 0.1 1.0\n"
    "from 0 k1:0.2 k0:1.0 p0:1.2 r1:3.1\n"
    "line 1.0-2.0 0.2-1.1 2.0-3.0\n"
)


def begun():
    return placed(plain_yard(), 0, [((1, 0), 0, "k"), ((0, 2), 1, "k"), ((1, 2), 0, "p"), ((3, 1), 1, "r")])


def played():
    desk = Desk(plain_yard(), begun())
    for move in LINE:
        desk.play(move)
    return desk


class PlayTest(unittest.TestCase):
    def test_over_several_moves(self):
        yard = plain_yard()
        desk = Desk(yard, begun())
        places = walked(yard, begun(), LINE)
        self.assertEqual((desk.position(), desk.line()), (begun(), []))
        for at, move in enumerate(LINE):
            self.assertEqual(desk.play(move), places[at + 1])
            self.assertEqual(desk.position(), places[at + 1])
            self.assertEqual(desk.line(), LINE[:at + 1])
        for at in (2, 1, 0):
            self.assertEqual(desk.back(), places[at])
            self.assertEqual(desk.position(), places[at])
            self.assertEqual(desk.line(), LINE[:at])
        with self.assertRaises(Nothing):
            desk.back()

    def test_back_and_another_way(self):
        desk = played()
        desk.back()
        desk.back()
        other = moves(plain_yard(), desk.position())[-1]
        self.assertNotEqual(other, LINE[1])
        self.assertEqual(desk.play(other), after(plain_yard(), after(plain_yard(), begun(), LINE[0]), other))
        self.assertEqual(desk.line(), [LINE[0], other])
        self.assertEqual(desk.position(), walked(plain_yard(), begun(), [LINE[0], other])[-1])

    def test_to_and_fro(self):
        for yard in small_yards():
            for position in chance_positions(yard, 4, 4, 91):
                desk = Desk(yard, position)
                for times in range(6):
                    allowed = moves(yard, desk.position())
                    if allowed:
                        desk.play(allowed[times % len(allowed)])
                    self.assertEqual(walked(yard, position, desk.line())[-1], desk.position())
                while desk.line():
                    desk.back()
                self.assertEqual(desk.position(), position)

    def test_an_ended_position(self):
        desk = Desk(race_yard(), race(0, (3, 0), (2, 2)))
        self.assertEqual(desk.position(), race(0, (3, 0), (2, 2)))
        with self.assertRaises(Ended):
            desk.play(((3, 0), (2, 0)))
        with self.assertRaises(Nothing):
            desk.back()

    def test_bad_positions(self):
        for wrong in [(2, begun()[1]), (0, begun()[1][::-1]), (0, ()), (0, (((0, 1), 0, "k"),))]:
            with self.assertRaises(BadPosition):
                Desk(plain_yard(), wrong)


class RefusedTest(unittest.TestCase):
    def refused(self, desk, error, asked):
        before = (desk.position(), desk.line(), desk.note())
        with self.assertRaises(error) as taken:
            asked(desk)
        self.assertIs(type(taken.exception), error)
        self.assertEqual((desk.position(), desk.line(), desk.note()), before)

    def test_what_is_refused_changes_nothing(self):
        desk = Desk(plain_yard(), begun())
        desk.play(LINE[0])
        for move in [LINE[0], ((0, 2), (0, 1)), ((9, 9), (9, 9)), ((0, 2), (0, 3)), ((-1, 0), (0, 0)), ((FAR, 0), (0, 0))]:
            self.refused(desk, NoMove, lambda one, move=move: one.play(move))
            self.refused(desk, NoMove, lambda one, move=move: one.tried([move]))
            self.refused(desk, NoMove, lambda one, move=move: one.tried([LINE[1], move]))
        for move in [LINE[0], ((9, 9), (9, 9))]:
            self.refused(played(), Ended, lambda one, move=move: one.play(move))
            self.refused(played(), Ended, lambda one, move=move: one.tried([move]))
            self.refused(desk, Ended, lambda one, move=move: one.tried(LINE[1:] + [move]))
        self.refused(Desk(plain_yard(), begun()), Nothing, lambda one: one.back())
        for side in (-1, 2, 3, FAR, -FAR):
            for many in (0, -1, 9, FAR):
                self.refused(desk, BadSide, lambda one, side=side, many=many: one.told(side, many))
        for many in (-1, 9, 1000, FAR, -FAR):
            for side in (0, 1):
                self.refused(desk, TooMany, lambda one, side=side, many=many: one.told(side, many))
                self.refused(played(), TooMany, lambda one, side=side, many=many: one.told(side, many))


class TriedAndToldTest(unittest.TestCase):
    def test_tried(self):
        desk = Desk(plain_yard(), begun())
        desk.play(LINE[0])
        before = desk.note()
        line = LINE[1:]
        told = desk.tried(line)
        self.assertEqual(told, walked(plain_yard(), begun(), LINE)[1:])
        self.assertEqual(desk.tried([]), [desk.position()])
        self.assertEqual(line, LINE[1:])
        told.clear()
        self.assertEqual(desk.tried(LINE[1:]), walked(plain_yard(), begun(), LINE)[1:])
        self.assertEqual(desk.note(), before)
        self.assertEqual(desk.line(), LINE[:1])

    def test_told(self):
        kinds = set()
        for yard in small_yards():
            for position in chance_positions(yard, 4, 4, 92):
                desk = Desk(yard, position)
                for times in range(2):
                    for side in (0, 1):
                        for many in (0, 1, 3):
                            kinds.add((side, self.check(yard, desk, side, many)))
                    if moves(yard, desk.position()):
                        desk.play(moves(yard, desk.position())[0])
        self.assertEqual(kinds, {(side, word) for side in (0, 1) for word in ("won", "not")})

    def check(self, yard, desk, side, many):
        told = desk.told(side, many)
        self.assertIs(type(told), tuple)
        self.assertEqual(len(told), 2)
        wins = least(yard, desk.position(), side, many) is not None
        self.assertEqual(told[0], "won" if wins else "not")
        holds = win_holds if wins else not_holds
        self.assertIs(holds(yard, desk.position(), side, many, told[1]), True)
        self.assertTrue(no_two_are_one(told))
        return told[0]

    def test_the_bounds(self):
        desk = Desk(race_yard(), race(0, (2, 0), (2, 2)))
        self.assertEqual(desk.told(0, 0), ("not", ("not",)))
        self.assertEqual(desk.told(0, 8)[0], "won")
        self.assertEqual(desk.told(1, 8)[0], "not")

    def test_what_was_told_may_be_changed(self):
        desk = Desk(race_yard(), race(1, (2, 0), (2, 2)))
        for side in (0, 1):
            told = desk.told(side, 2)
            whole = copy.deepcopy(told)
            told[1][1].clear()
            self.assertNotEqual(told, whole)
            self.assertEqual(desk.told(side, 2), whole)


class NothingHangsTogetherTest(unittest.TestCase):
    def test_lists_told_may_be_changed(self):
        desk = played()
        desk.line().clear()
        desk.line().append(LINE[0])
        desk.tried([]).clear()
        self.assertEqual(desk.line(), LINE)
        self.assertEqual(desk.note(), NOTE)
        self.assertEqual(desk.back(), walked(plain_yard(), begun(), LINE[:2])[-1])

    def test_two_desks_of_the_same(self):
        yard = plain_yard()
        position = begun()
        one = Desk(yard, position)
        other = Desk(yard, position)
        one.play(LINE[0])
        self.assertEqual((other.position(), other.line()), (position, []))
        other.play(moves(yard, position)[-1])
        self.assertEqual(one.line(), LINE[:1])
        one.back()
        self.assertEqual(len(other.line()), 1)

    def test_a_yard_changed_later(self):
        yard = plain_yard()
        desk = Desk(yard, begun())
        yard.holes.append((3, 1))
        yard.kinds["k"][0].clear()
        yard.kinds["r"][1].clear()
        del yard.kinds["p"]
        yard.goals[0].clear()
        yard.height = 1
        yard.stuck = "drawn"
        for move in LINE:
            desk.play(move)
        self.assertEqual(desk.note(), NOTE)

    def test_parts_of_a_yard_changed_later(self):
        handed = parts()
        desk = Desk(Yard(**handed), begun())
        handed["kinds"]["k"][0].clear()
        handed["holes"].clear()
        handed["goals"][0].clear()
        for move in LINE:
            desk.play(move)
        self.assertEqual(desk.note(), NOTE)

    def test_what_is_handed_in_stays(self):
        yard = plain_yard()
        position = begun()
        line = list(LINE)
        desk = Desk(yard, position)
        desk.tried(line)
        desk.play(line[0])
        desk.told(0, 2)
        desk.note()
        desk.back()
        self.assertEqual(fields(yard), parts())
        self.assertEqual(position, begun())
        self.assertEqual(line, LINE)


class NoteTest(unittest.TestCase):
    def test_by_hand(self):
        self.assertEqual(played().note(), NOTE)
        bare = Desk(plain_yard(), begun())
        self.assertEqual(bare.note(), NOTE[:NOTE.index("line ")] + "line \n")

    def test_as_the_document_tells(self):
        for yard in small_yards():
            for position in chance_positions(yard, 4, 5, 93):
                desk = Desk(yard, position)
                for times in range(4):
                    wanted = f"from {position_text(yard, position)}\nline {line_text(desk.line())}\n"
                    self.assertEqual(desk.note(), yard_text(yard) + wanted)
                    self.same(desk, read_desk(desk.note()), position)
                    allowed = moves(yard, desk.position())
                    if allowed:
                        desk.play(allowed[-1])

    def same(self, desk, read, position):
        self.assertIs(type(read), Desk)
        self.assertEqual(read.position(), desk.position())
        self.assertEqual(read.line(), desk.line())
        self.assertEqual(read.note(), desk.note())
        for times in range(len(desk.line())):
            read.back()
        self.assertEqual(read.position(), position)
        with self.assertRaises(Nothing):
            read.back()

    def test_read_and_played_on(self):
        read = read_desk(NOTE.replace(" 2.0-3.0", ""))
        self.assertEqual(read.line(), LINE[:2])
        read.play(LINE[2])
        self.assertEqual(read.note(), NOTE)
        with self.assertRaises(Ended):
            read.play(LINE[0])

    def test_two_desks_read_of_one_text(self):
        one = read_desk(NOTE)
        other = read_desk(NOTE)
        one.back()
        self.assertEqual(other.note(), NOTE)

    def test_near_texts(self):
        for text in (NOTE, NOTE[:NOTE.index("line ")] + "line \n"):
            wrong, read_too = misread(read_desk, lambda desk: desk.note(), text)
            self.assertEqual(wrong, [])
            self.assertGreater(read_too, 0)

    def refused(self, text):
        with self.subTest(text=text):
            with self.assertRaises(BadText) as taken:
                read_desk(text)
            self.assertIs(type(taken.exception), BadText)

    def test_refused(self):
        for text in [
            "", "\n", "\n\n\n", NOTE[:-1], NOTE + "\n", NOTE + " ", " " + NOTE, NOTE.replace("from ", "from"),
            NOTE.replace("from ", "from  "), NOTE.replace("line ", "line"), NOTE.replace("line ", "line  "),
            NOTE.replace("line 1.0-2.0 0.2-1.1 2.0-3.0", "line"), NOTE.replace("line", "Line"),
            NOTE.replace("from", "From"), NOTE.replace("2.0-3.0\n", "2.0-3.0 \n"),
            # A move that can't be made, at the beginning, in the midst, behind the end.
            NOTE.replace("line ", "line 0.2-1.1 "), NOTE.replace("0.2-1.1", "0.2-0.1"),
            NOTE.replace("2.0-3.0", "2.0-3.1 3.1-3.2"), NOTE.replace("2.0-3.0", "2.0-3.0 1.1-1.0"),
            NOTE.replace("1.0-2.0", "5.0-2.0"), NOTE.replace("1.0-2.0", "4.0-2.0"),
            # A position that is none, of the yard or of any.
            NOTE.replace("from 0", "from 2"), NOTE.replace("k1:0.2", "k1:0.1"), NOTE.replace("k1:0.2 k0:1.0", "k0:1.0 k1:0.2"),
            NOTE.replace("k1:0.2", "q1:0.2"), NOTE.replace("from 0 k1:0.2 k0:1.0 p0:1.2 r1:3.1", "from 0"),
            # A yard that is none.
            NOTE.replace("yard 4 3", "yard 6 3"), NOTE.replace("holes 0.1 2.2", "holes 2.2 0.1"),
            NOTE.replace("goals 3.0 3.2", "goals 3.0 4.0"), NOTE.replace("kind p", "kind k"),
        ]:
            self.refused(text)

    def test_rows_left_out_exchanged_or_more(self):
        rows = NOTE.split("\n")[:-1]
        for one in range(len(rows)):
            self.refused("".join(row + "\n" for row in rows[:one] + rows[one + 1:]))
            self.refused("".join(row + "\n" for row in rows[:one] + rows[one:one + 1] + rows[one:]))
            self.refused("".join(row + "\n" for row in rows[:one] + [""] + rows[one:]))
            for other in range(one):
                if (other, one) != (2, 3):
                    mixed = list(rows)
                    mixed[one], mixed[other] = mixed[other], mixed[one]
                    self.refused("".join(row + "\n" for row in mixed))


if __name__ == "__main__":
    unittest.main()
