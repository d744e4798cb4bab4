"""The errors: each under just one class of Python's own."""

import unittest

from bothdoors import errors

ABOVE = {
    "NoText": ValueError, "NoEnd": ValueError, "NoStory": ValueError, "NoDoor": LookupError,
    "NoRoom": LookupError, "NoWay": ValueError, "NoBead": LookupError, "NoLook": LookupError,
    "NoMoment": LookupError, "NoMark": KeyError, "Known": ValueError, "Barred": ValueError,
}
PAPERS = [("look", 0, 3), ("many", [(0, 1, 2), (4, 1, 7)]), ("few", []), ("nobody", [0, 2]), ("folk",)]


class Errors(unittest.TestCase):

    def test_each_is_under_just_its_class(self):
        for name, above in ABOVE.items():
            with self.subTest(name):
                self.assertEqual(getattr(errors, name).__bases__, (above,))

    def test_each_is_defined_in_its_file_under_its_name(self):
        for name in ABOVE:
            with self.subTest(name):
                self.assertEqual(getattr(errors, name).__module__, "bothdoors.errors")
                self.assertEqual(getattr(errors, name).__name__, name)

    def test_none_is_caught_as_another(self):
        for name in ABOVE:
            for other in ABOVE:
                with self.subTest(name=name, other=other):
                    self.assertEqual(issubclass(getattr(errors, name), getattr(errors, other)), name == other)

    def test_each_but_barred_is_made_with_a_text(self):
        for name, above in ABOVE.items():
            if name != "Barred":
                with self.subTest(name):
                    with self.assertRaises(above) as caught:
                        raise getattr(errors, name)("why so")
                    self.assertIs(type(caught.exception), getattr(errors, name))


class Barred(unittest.TestCase):

    def test_it_bears_the_paper(self):
        for paper in PAPERS:
            with self.subTest(paper=paper):
                for barred in (errors.Barred(paper), errors.Barred(paper=paper)):
                    self.assertEqual(barred.paper, paper)
                    self.assertIs(type(barred.paper), tuple)
                    self.assertEqual([type(part) for part in barred.paper], [type(part) for part in paper])

    def test_it_is_raised_and_caught(self):
        with self.assertRaises(ValueError) as caught:
            raise errors.Barred(("look", 2, 1))
        self.assertIs(type(caught.exception), errors.Barred)
        self.assertEqual(caught.exception.paper, ("look", 2, 1))

    def test_it_keeps_a_copy(self):
        stretches = [(0, 1, 2)]
        barred = errors.Barred(("many", stretches))
        stretches.append((1, 1, 1))
        self.assertEqual(barred.paper, ("many", [(0, 1, 2)]))
        barred.paper[1].append((2, 2, 2))
        self.assertEqual(stretches, [(0, 1, 2), (1, 1, 1)])

    def test_each_bears_its_own(self):
        one, other = errors.Barred(("look", 0, 1)), errors.Barred(("look", 5, 2))
        self.assertEqual((one.paper, other.paper), (("look", 0, 1), ("look", 5, 2)))
