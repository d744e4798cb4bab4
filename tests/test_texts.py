"""Point 4: houses and the texts that they are written as."""

import random
import re

from bothdoors.errors import NoText
from bothdoors.houses import read, written

from tests.asking import Asking
from tests.small import chance_doors

NUMBER = "(0|[1-9][0-9]{0,8})"
WRITTEN = re.compile(f"rooms {NUMBER}((?:\ndoor {NUMBER} {NUMBER})*)")
# Signs that Python's own reading or splitting would let by stand among these.
SIGNS = "0123456789 \n-+_.,xrodsmeDR%\t\r\x0b\x0c\x1c\x1f\x85\xa0\xb2\u0661\u2028\uff12"


def plainly(text):
    """The house that the text is of, or None, by a pattern and a look at each number."""
    found = WRITTEN.fullmatch(text)
    if found is None:
        return None
    rooms = int(found[1])
    doors = [tuple(int(word) for word in row.split(" ")[1:]) for row in found[2].split("\n")[1:]]
    fits = 1 <= rooms <= 10 and len(doors) <= 24 and all(a != b and max(a, b) < rooms for a, b in doors)
    return (rooms, doors) if fits else None


def rows(rooms, *doors):
    return "\n".join([f"rooms {rooms}"] + [f"door {door}" for door in doors])


class ThereAndBack(Asking):

    def test_a_house_is_written_row_by_row(self):
        self.same(self.told(written, house=(3, [(0, 1), (2, 1)])), "rooms 3\ndoor 0 1\ndoor 2 1")
        self.same(self.told(written, house=(1, [])), "rooms 1")
        self.same(self.told(written, house=(10, [(9, 0)])), "rooms 10\ndoor 9 0")

    def test_a_text_is_read(self):
        self.same(self.told(read, text="rooms 3\ndoor 0 1\ndoor 2 1"), (3, [(0, 1), (2, 1)]))
        self.same(self.told(read, text="rooms 1"), (1, []))
        self.same(self.told(read, text="rooms 10\ndoor 9 0"), (10, [(9, 0)]))

    def test_several_doors_between_the_same_rooms_and_turned_about(self):
        house = (2, [(0, 1), (1, 0), (0, 1), (0, 1), (1, 0)])
        text = "rooms 2\ndoor 0 1\ndoor 1 0\ndoor 0 1\ndoor 0 1\ndoor 1 0"
        self.same(self.told(written, house=house), text)
        self.same(self.told(read, text=text), house)

    def test_all_sizes_there_and_back(self):
        chance = random.Random(1)
        for rooms in range(1, 11):
            for many in range(25 if rooms > 1 else 1):
                house = (rooms, chance_doors(chance, rooms, many))
                text = self.told(written, house=house)
                self.assertEqual(text, rows(rooms, *[f"{a} {b}" for a, b in house[1]]))
                self.same(self.told(read, text=text), house)

    def test_every_door_of_ten_rooms(self):
        for a in range(10):
            for b in range(10):
                if a != b:
                    self.same(read(rows(10, f"{a} {b}")), (10, [(a, b)]))

    def test_what_is_read_again_is_new(self):
        first, second = read("rooms 2\ndoor 0 1"), read("rooms 2\ndoor 0 1")
        first[1].append((1, 0))
        self.same(second, (2, [(0, 1)]))
        self.same(read("rooms 2\ndoor 0 1"), (2, [(0, 1)]))

    def test_a_house_that_changed_is_written_as_it_is_now(self):
        doors = [(0, 1)]
        house = (3, doors)
        self.assertEqual(written(house), rows(3, "0 1"))
        doors.append((1, 2))
        self.assertEqual(written(house), rows(3, "0 1", "1 2"))


class NotSoWritten(Asking):

    def none(self, *texts):
        for text in texts:
            with self.subTest(text=text[:80]):
                self.refused(NoText, read, text=text)

    def test_no_text_at_all(self):
        self.none("", " ", "\n", "\n\n")

    def test_numbers_that_are_not_so_written(self):
        for number in ("02", "002", "0000000002", "+2", "-2", "- 2", "2.", "2.0", "2e0", "0x2", "1_0", "0_2", "two",
                       "", "2a", "a2", "2,", "\u0662", "\uff12", "\xb2", "2\t", "\t2", "2\r", "\xa02", "2\x0b",
                       "2\u2028", "2 ", " 2", "1000000002", "0b10", "'2'", "(2)", "2%"):
            self.none(f"rooms {number}", f"rooms {number}\ndoor 0 1",
                      f"rooms 3\ndoor 0 {number}", f"rooms 3\ndoor {number} 0",
                      f"rooms 3\ndoor 0 1\ndoor {number} 1\ndoor 1 2")

    def test_nought_in_other_guises(self):
        for nought in ("00", "-0", "+0", "000000000", "0.", "0_0", "\u0660", "\uff10"):
            self.none(f"rooms 3\ndoor {nought} 1", f"rooms 3\ndoor 1 {nought}", f"rooms {nought}")

    def test_numbers_of_nine_figures_and_of_ten(self):
        self.none("rooms 100000000", "rooms 999999999", "rooms 1000000000", "rooms 9999999999",
                  "rooms 10\ndoor 0 100000000", "rooms 10\ndoor 999999999 0",
                  "rooms 10\ndoor 0 1000000000", "rooms 10\ndoor 1000000000 0",
                  "rooms 999999999\ndoor 100000000 999999998", "rooms 1000000000\ndoor 0 1",
                  "rooms 000000003", "rooms 0000000003", "rooms 3\ndoor 000000001 0", "rooms 3\ndoor 0 0000000001")

    def test_numbers_beyond_all_measure(self):
        for many in (20, 400, 5000):
            self.none("rooms " + "1" * many, "rooms 3\ndoor 0 " + "1" * many, "rooms 3\ndoor " + "0" * many + " 1")

    def test_a_blank_more_or_less(self):
        self.none("rooms  3", " rooms 3", "rooms 3 ", "rooms3", "rooms 3\ndoor 0  1", "rooms 3\ndoor  0 1",
                  "rooms 3\n door 0 1", "rooms 3\ndoor 0 1 ", "rooms 3\ndoor0 1", "rooms 3\ndoor 01",
                  "rooms 3 \ndoor 0 1", "r ooms 3", "rooms 1 0", "rooms 3\ndo or 0 1", "rooms\t3",
                  "rooms 3\ndoor 0\t1", "rooms 3\ndoor\t0 1", "rooms\xa03")

    def test_a_line_feed_more_or_less(self):
        self.none("\nrooms 3", "rooms 3\n", "rooms 3\n\ndoor 0 1", "rooms 3\ndoor 0 1\n", "\nrooms 3\ndoor 0 1",
                  "rooms 3\ndoor 0 1\n\ndoor 1 2", "rooms 3door 0 1", "rooms 3 door 0 1", "rooms 3\ndoor 0 1door 1 2",
                  "rooms 3\ndoor 0 1 door 1 2", "rooms\n3", "rooms 3\ndoor\n0 1", "rooms 3\ndoor 0\n1",
                  "rooms 3\r\ndoor 0 1", "rooms 3\rdoor 0 1", "rooms 3\r", "rooms 3\ndoor 0 1\r", "rooms 3\x0b",
                  "rooms 3\x0cdoor 0 1", "rooms 3\x1cdoor 0 1", "rooms 3\x85door 0 1", "rooms 3\u2028door 0 1",
                  "rooms 3\n\n", "rooms 3\n ", "rooms 3\\ndoor 0 1")

    def test_rows_out_twice_exchanged_or_of_no_signs(self):
        self.none("door 0 1", "door 0 1\ndoor 1 2", "rooms 3\nrooms 3", "rooms 3\nrooms 3\ndoor 0 1",
                  "rooms 3\ndoor 0 1\nrooms 3", "door 0 1\nrooms 3", "door 0 1\nrooms 3\ndoor 1 2",
                  "rooms 3\n\ndoor 0 1", "\ndoor 0 1", "rooms 3\n")

    def test_a_door_row_twice_is_two_doors(self):
        self.same(read("rooms 3\ndoor 0 1\ndoor 0 1"), (3, [(0, 1), (0, 1)]))

    def test_words_out_twice_or_other_ones(self):
        self.none("rooms", "3", "rooms 3 3", "rooms rooms 3", "room 3", "Rooms 3", "ROOMS 3", "roomss 3", "door 3",
                  "house 3", "rooms 3\ndoor", "rooms 3\ndoor 0", "rooms 3\n0 1", "rooms 3\ndoor 0 1 2",
                  "rooms 3\ndoor 0 1 1", "rooms 3\ndoor door 0 1", "rooms 3\ndoors 0 1", "rooms 3\nDoor 0 1",
                  "rooms 3\nway 0 1", "rooms 3\nrooms 0 1", "rooms 3\ndoor 0 one", "rooms: 3", "rooms 3;",
                  "rooms 3\ndoor 0 1;", "rooms 3\ndoor (0, 1)", "rooms 3\ndoor 0,1", "rooms 3 # three", "rooms 3 doors")

    def test_no_house(self):
        self.none("rooms 0", "rooms 0\ndoor 0 1", "rooms 11", "rooms 12", "rooms 11\ndoor 0 1", "rooms 100",
                  "rooms 3\ndoor 0 3", "rooms 3\ndoor 3 0", "rooms 3\ndoor 3 4", "rooms 10\ndoor 0 10",
                  "rooms 10\ndoor 10 0", "rooms 1\ndoor 0 1", "rooms 1\ndoor 0 0", "rooms 3\ndoor 0 0",
                  "rooms 3\ndoor 2 2", "rooms 3\ndoor 0 1\ndoor 1 1", "rooms 2\ndoor 0 1\ndoor 1 2\ndoor 1 0",
                  "rooms 10\ndoor 9 9", "rooms 3\ndoor 3 3")

    def test_twenty_four_doors_are_a_house_and_twenty_five_none(self):
        self.assertEqual(len(read(rows(10, *["0 1"] * 24))[1]), 24)
        self.none(rows(10, *["0 1"] * 25), rows(2, *["0 1"] * 25), rows(10, *["0 1"] * 26), rows(3, *["1 2"] * 400))

    def test_texts_with_a_sign_out_more_or_another_one(self):
        read_too = 0
        for text in (rows(3, "0 1", "2 1"), rows(10, "9 0"), rows(1), rows(2, "1 0", "0 1", "1 0"), rows(9)):
            for at in range(len(text) + 1):
                changed = [text[:at] + text[at + 1:]]
                for sign in SIGNS:
                    changed += [text[:at] + sign + text[at:], text[:at] + sign + text[at + 1:]]
                for other in changed:
                    wanted = plainly(other)
                    with self.subTest(text=other):
                        if wanted is None:
                            self.refused(NoText, read, text=other)
                        else:
                            read_too += 1
                            self.same(read(other), wanted)
        self.assertGreater(read_too, 50)

    def test_texts_of_any_rows(self):
        chance = random.Random(2)
        some = ["rooms 3", "rooms 10", "rooms 0", "rooms 11", "door 0 1", "door 2 0", "door 1 1", "door 9 2", ""]
        for _ in range(400):
            text = "\n".join(chance.choice(some) for _ in range(chance.randint(1, 4)))
            wanted = plainly(text)
            with self.subTest(text=text):
                if wanted is None:
                    self.refused(NoText, read, text=text)
                else:
                    self.same(read(text), wanted)
