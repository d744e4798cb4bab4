"""Point 22: sessions, each kind of row and what it tells."""

import random
import re
from collections import Counter

from bothdoors.sessions import session

from tests.asking import Asking
from tests.plain_hall import PlainHall, Refused, chance_deed
from tests.plain_tapes import Plain, gone_tape, look_papers
from tests.small import chance_doors

PAIR = (2, [(0, 1)])
LINE = (3, [(0, 1), (1, 2)])
NUMBER = "(0|-?[1-9][0-9]{0,8})"
DEED = f"(strike|undo|bead) {NUMBER}|bead {NUMBER} {NUMBER}|look( {NUMBER}){{3}}|way( {NUMBER}){{2}}"


class Sessions(Asking):

    def ask(self, house, begin, rows, wanted):
        self.same(self.told(session, house=house, begin=begin, rows="\n".join(rows)), "\n".join(wanted))

    def rows(self, house, begin, *pairs):
        """That each row is told so, one behind the other."""
        self.ask(house, begin, [row for row, _ in pairs], [told for _, told in pairs])


class EachKind(Sessions):

    def test_a_session_of_no_signs(self):
        self.same(self.told(session, house=PAIR, begin=[1, 0], rows=""), "?")

    def test_rows_of_no_signs(self):
        self.ask(PAIR, [1, 0], ["", ""], ["?", "?"])
        self.ask(PAIR, [1, 0], ["bead 0", "", "sure", ""], ["ok", "?", "0", "?"])

    def test_each_kind_of_row(self):
        self.rows(LINE, [2, 5, 0],
                  ("bead 0", "ok"), ("mark", "0"), ("bead 1 0", "ok"), ("bead 1 -1", "ok"), ("bead 0 1", "ok"),
                  ("sure", "-0-1"), ("look 2 0 0", "ok"), ("sure", "-011"), ("way 0 1", "ok"), ("sure", "1011"),
                  ("mark", "1"), ("strike 0", "ok"), ("sure", "10-1"), ("room 2 2", "1 1"), ("room 2 4", "0 2"),
                  ("room 0 0", "2 2"), ("lot 0", "4 4"), ("lot 1,2", "3 3"), ("lot 0,1,2", "7 7"),
                  ("end 4,3,0", "yes"), ("end 4,1,2", "yes"), ("end 4,2,1", "look"), ("end 2,3,2", "no"),
                  ("end 4,3,2", "no"), ("news", "0 4 4;1 1 3;2 0 2;"), ("news", ""), ("undo 0", "ok"),
                  ("news", "0 1 3;1 4 6;2 0 0;"), ("sure", "-"), ("undo 1", "NoMark"), ("mark", "1"), ("undo 1", "ok"))

    def test_asks_of_a_new_hall(self):
        self.rows(PAIR, [3, 0], ("sure", ""), ("news", ""), ("room 0 0", "3 3"), ("lot 0,1", "3 3"), ("end 3,0", "yes"),
                  ("end 2,1", "look"), ("end 3,-1", "look"), ("mark", "0"), ("undo 0", "ok"))

    def test_one_room(self):
        self.rows((1, []), [4], ("lot 0", "4 4"), ("end 4", "yes"), ("end 5", "look"), ("end", "?"),
                  ("bead 0", "NoDoor"))

    def test_each_refusal(self):
        self.rows(LINE, [2, 5, 0],
                  ("bead 0 0", "ok"), ("bead 2", "NoDoor"), ("bead -1", "NoDoor"), ("bead 2 7", "NoDoor"),
                  ("bead 0 2", "NoWay"), ("bead 0 -2", "NoWay"), ("look 3 0 9", "NoRoom"), ("look -1 0 9", "NoRoom"),
                  ("way 1 0", "NoBead"), ("way -1 5", "NoBead"), ("way 0 2", "NoWay"), ("way 0 -1", "NoWay"),
                  ("way 0 1", "Known"), ("way 0 0", "ok"), ("strike 0", "NoLook"), ("strike -1", "NoLook"),
                  ("undo 0", "NoMark"), ("undo -1", "NoMark"), ("room 3 0", "NoRoom"), ("room 3 9", "NoRoom"),
                  ("room 0 2", "NoMoment"), ("room 0 -1", "NoMoment"), ("lot 3", "NoRoom"), ("lot 0,3", "NoRoom"),
                  ("lot -1,0", "NoRoom"), ("lot 999999999", "NoRoom"), ("sure", "0"))

    def test_barred_with_and_without_look(self):
        self.rows(LINE, [1, 0, 0],
                  ("bead 1", "Barred"), ("bead 0 1", "Barred"), ("look 0 0 0", "Barred look"),
                  ("look 0 2 9", "Barred look"), ("bead 0", "ok"), ("look 0 2 2", "Barred"),
                  ("look 0 1 1", "Barred look"), ("look 1 9 2", "Barred look"),
                  ("way 0 1", "Barred"), ("look 0 -5 -1", "Barred look"), ("look 0 -5 0", "ok"), ("way 0 0", "ok"),
                  ("way 0 1", "Known"), ("bead 0 0", "Barred"), ("sure", "0"))


class NotSoWritten(Sessions):

    def wrong(self, *rows):
        for row in rows:
            with self.subTest(row=row):
                self.ask(LINE, [2, 5, 0], ["bead 0", "mark", row, "sure"], ["ok", "0", "?", "-"])

    def test_words(self):
        self.wrong("bed 0", "Bead 0", "BEAD 0", "beads 0", "0", "-", "?", "ok", "bead", "look", "way", "strike", "undo",
                   "room", "lot", "end", "news 0", "sure 0", "mark 0", "told", "seen 0 0", "story", "bead0", "mark1",
                   "tape", "house", "lots 0", "ends 0,0,0")

    def test_how_many_numbers(self):
        self.wrong("bead 0 0 0", "look 0 0", "look 0", "look 0 0 9 9", "way 0", "way 0 0 0", "strike 0 0", "undo 0 0",
                   "room 0", "room 0 0 0", "lot 0 1", "end 2 5 0", "lot 0,1 2", "end 2,5,0 1")

    def test_blanks(self):
        self.wrong(" bead 0", "bead 0 ", "bead  0", "bead\t0", "mark ", " mark", "news ", " ", "  ", "lot ", "end ",
                   "lot 0, 1", "lot 0 ,1", "end 2, 5,0", "bead 0\r", "sure\r", "bead 0  0")

    def test_numbers(self):
        for number in ("00", "01", "-0", "-00", "-01", "+0", "+1", "--1", "1-", "-", "1e0", "1.0", "0x0", "1_0", "a",
                       "1234567890", "-1234567890", "0000000000", "\u0661", "\u00b2", "0-", "- 1", "#0", "'0'"):
            self.wrong(f"bead {number}", f"bead 0 {number}", f"look 0 {number} 9", f"look 0 0 {number}",
                       f"way {number} 0", f"way 0 {number}", f"strike {number}", f"undo {number}", f"room {number} 0",
                       f"room 0 {number}", f"lot {number}", f"lot 0,{number}", f"end 2,5,{number}", f"end {number},5,0")

    def test_nine_figures(self):
        self.rows(LINE, [999999999, 5, 0], ("look 0 999999999 999999999", "ok"), ("look 0 -999999999 999999999", "ok"),
                  ("bead 999999999", "NoDoor"), ("bead -999999999", "NoDoor"), ("bead 0", "ok"),
                  ("room 0 1", "999999998 1000000000"), ("end 999999998,6,0", "yes"))

    def test_lots_that_do_not_rise(self):
        self.wrong("lot 1,0", "lot 0,0", "lot 0,2,1", "lot 0,1,1", "lot 9,3", "lot 0,-1", "lot -1,-2", "lot ,",
                   "lot 0,", "lot ,0", "lot 0,,1", "lot 0;1", "lot -1,-1")

    def test_ends_of_more_or_fewer_numbers(self):
        self.wrong("end 2", "end 2,5", "end 2,5,0,0", "end ,,", "end 2,5,", "end ,2,5,0", "end 2;5;0", "end 2.5.0")


class ToldAnew(Sessions):
    """Sessions by fixed chance against a plain hall."""

    def answer(self, plain, row):
        """What a row is told, by a plain hall."""
        try:
            return self.deed(plain, row)
        except Refused as refused:
            if refused.name != "Barred":
                return refused.name
            looks = look_papers(plain.place, plain.first, refused.tape)
            return "Barred look" if looks else "Barred"

    def deed(self, plain, row):
        if re.fullmatch(DEED, row):
            word, *numbers = row.split()
            numbers = [int(number) for number in numbers]
            if word == "bead":
                plain.bead(numbers[0], way=(numbers + [-1])[1])
            else:
                getattr(plain, {"way": "seen"}.get(word, word))(*numbers)
            return "ok"
        if row == "mark":
            return str(plain.mark())
        if row == "sure":
            return "".join("01-"[way] for way in plain.sure())
        if row == "news":
            return "".join("{} {} {};".format(*one) for one in plain.news())
        if re.fullmatch(f"room {NUMBER} {NUMBER}", row):
            return "{} {}".format(*plain.room(*[int(number) for number in row.split()[1:]]))
        if re.fullmatch(f"(lot|end) {NUMBER}(,{NUMBER})*", row):
            return self.listed(plain, row[:3], [int(number) for number in row[4:].split(",")])
        return "?"

    def listed(self, plain, word, numbers):
        if word == "lot":
            return "{} {}".format(*plain.lot(numbers)) if numbers == sorted(set(numbers)) else "?"
        if len(numbers) != plain.place[0]:
            return "?"
        tape = plain.end_tape(numbers)
        if Plain(plain.place, plain.first, tape).possible():
            return "yes"
        return "look" if look_papers(plain.place, plain.first, tape) else "no"

    def chance_row(self, chance, plain):
        rooms, now = plain.place[0], len(plain.beads)
        if chance.random() < 0.5:
            name, named = chance_deed(chance, plain)
            return " ".join([{"seen": "way"}.get(name, name)] + [str(number) for number in named.values()])
        end = list(chance.choice(plain.ends()))
        end[chance.randrange(rooms)] += chance.choice((0, 0, 1, 2))
        end[chance.randrange(rooms)] -= chance.choice((0, 0, 1, 2))
        lot = [str(room) for room in range(rooms) if chance.random() < 0.6]
        return chance.choice((
            "sure", "news", f"room {chance.randint(0, rooms)} {chance.randint(-1, now)}", "lot " + ",".join(lot),
            f"room {chance.randrange(rooms)} {chance.randint(0, now)}", "end " + ",".join(map(str, end)),
            "lot " + ",".join(lot[::-1]), "end " + ",".join(map(str, end[1:])), "bead 0 ", "mark 1"))

    def through(self, chance, house, begin, many):
        plain, rows, wanted = PlainHall(house, begin), [], []
        for _ in range(many):
            rows.append(self.chance_row(chance, plain))
            wanted.append(self.answer(plain, rows[-1]))
        self.ask(house, begin, rows, wanted)
        return Counter((row.split(" ")[0], "told" if told[:1].isdigit() else told) for row, told in zip(rows, wanted))

    def test_small_halls(self):
        chance, met = random.Random(111), Counter()
        for _ in range(100):
            rooms = chance.choice((2, 3, 4))
            house = (rooms, chance_doors(chance, rooms, chance.randint(1, 4)))
            met += self.through(chance, house, [chance.randint(0, 3) for _ in range(rooms)], 40)
        for kind in (("bead", "ok"), ("bead", "NoDoor"), ("bead", "NoWay"), ("bead", "Barred"), ("bead", "?"),
                     ("look", "ok"), ("look", "NoRoom"), ("look", "Barred"), ("look", "Barred look"), ("way", "ok"),
                     ("way", "NoBead"), ("way", "NoWay"), ("way", "Known"), ("way", "Barred"), ("strike", "ok"),
                     ("strike", "NoLook"), ("mark", "told"), ("mark", "?"), ("undo", "ok"), ("undo", "NoMark"),
                     ("room", "told"), ("room", "NoRoom"), ("room", "NoMoment"), ("lot", "told"), ("lot", "?"),
                     ("end", "yes"), ("end", "look"), ("end", "no"), ("end", "?"), ("news", "told")):
            self.assertGreater(met[kind], 8, kind)

    def test_four_thousand_signs(self):
        chance = random.Random(112)
        house, begin, (row, _) = gone_tape(chance, 10, 24, 0, 200, 0, 0.2)
        rows = [f"bead {door}" if way == -1 else f"bead {door} {way}" for door, way in row] + ["news"]
        rows += [f"look {room} 0 9" for room in range(10)] * 6
        while sum(map(len, rows)) + len(rows) < 3980:
            rows += [f"room {chance.randrange(10)} {chance.randint(0, 200)}", "sure", "news", "mark"]
        plain, wanted = PlainHall(house, begin), []
        for one in rows:
            if one.startswith("bead"):
                # That each leaves a story is known, as the tape was gone.
                door, *way = map(int, one.split()[1:])
                plain.beads.append((door, (way + [-1])[0]))
                wanted.append("ok")
            else:
                wanted.append(self.answer(plain, one))
        self.ask(house, begin, rows, wanted)

    def test_two_sessions_know_nothing_of_one_another(self):
        for _ in range(2):
            self.rows(PAIR, [1, 0], ("bead 0", "ok"), ("mark", "0"), ("news", "0 0 0;1 1 1;"))
