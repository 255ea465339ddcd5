"""The interface: each name in its own file, with the arguments told."""

import importlib
import inspect
import unittest

FUNCTIONS = {
    "names.is_name": "(thing)",
    "circles.is_circle": "(members, bars, past, gap)",
    "drawings.keeps": "(circle, drawing)",
    "drawings.broken": "(circle, drawing)",
    "finding.some_drawing": "(circle)",
    "fewlooks.shows_few": "(circle, thing)",
    "knowing.may_by": "(circle, known)",
    "counting.many": "(circle, known=None)",
    "counting.kth": "(circle, number, known=None)",
    "counting.number_of": "(circle, drawing, known=None)",
    "counting.drawn": "(circle, lot, known=None)",
    "counting.counts": "(circle, known=None)",
    "shares.share": "(circle, giver, taker, known=None)",
    "telling.tells": "(circle, known, giver, taker)",
    "tellooks.shows_tells": "(circle, known, giver, taker, thing)",
    "changing.without": "(circle, name)",
    "changing.with_one": "(circle, member)",
    "mending.lacking": "(circle, pairs)",
    "mending.mended": "(circle, pairs)",
    "mending.fallen_out": "(circle, drawing, name)",
    "mending.come_in": "(circle, drawing, member)",
    "mendlooks.shows_mended": "(circle, pairs, drawing, layers)",
    "years.years": "(circle)",
    "yearlooks.shows_years": "(circle, drawings, givers, takers)",
    "rings.ring": "(circle)",
    "rings.rings": "(circle)",
    "ringlooks.shows_ring": "(circle, thing)",
    "ringlooks.shows_no_ring": "(circle, thing)",
    "reading.read_circle": "(text)",
    "reading.read_drawing": "(text)",
}
CLASSES = {
    "errors.NoMember": "(name)",
    "errors.NoDrawing": "(thing)",
    "errors.TooFew": "(lot)",
    "errors.NoNumber": "(number)",
    "errors.TooMany": "(many)",
    "errors.Twice": "(name)",
    "errors.NoBar": "(giver, taker)",
    "errors.NoText": "(row)",
    "circles.Circle": "(members, bars=None, past=None, gap=1)",
    "drawings.Drawing": "(pairs)",
    "shares.Share": "(part, whole)",
    "clubs.Club": "(gap=1)",
    "desk.Desk": "()",
}
METHODS = {
    "circles.Circle": {
        "__eq__": "(self, other)", "__len__": "(self)", "__repr__": "(self)", "__str__": "(self)",
        "names": "(self)", "house_of": "(self, name)", "reason": "(self, giver, taker)",
        "takers": "(self, giver)", "givers": "(self, taker)",
    },
    "drawings.Drawing": {
        "__eq__": "(self, other)", "__len__": "(self)", "__repr__": "(self)", "__str__": "(self)",
        "taker_of": "(self, name)", "giver_of": "(self, name)", "chains": "(self)",
    },
    "shares.Share": {
        "__eq__": "(self, other)", "__repr__": "(self)", "__str__": "(self)", "more_than": "(self, other)",
    },
    "clubs.Club": {
        "__eq__": "(self, other)", "__len__": "(self)", "__str__": "(self)",
        "join": "(self, name, house='')", "leave": "(self, name)", "bar": "(self, giver, taker)",
        "unbar": "(self, giver, taker)", "draw": "(self, lot)", "fall": "(self, name)",
        "come": "(self, name, house='')", "back": "(self)", "circle": "(self)", "last": "(self)",
    },
    "desk.Desk": {"say": "(self, row)"},
}


def found(place):
    """What stands under this name in this file of the package."""
    file, name = place.split(".")
    return getattr(importlib.import_module("lotgivers." + file), name)


class TestInterface(unittest.TestCase):
    def test_arguments(self):
        for place, arguments in {**FUNCTIONS, **CLASSES}.items():
            self.assertEqual(str(inspect.signature(found(place))), arguments, place)

    def test_defined_in_the_file_told(self):
        for place in [*FUNCTIONS, *CLASSES, "errors.LotError", "errors.NoYear", "errors.NoBack", "errors.NoRow"]:
            self.assertEqual(found(place).__module__, "lotgivers." + place.split(".")[0])

    def test_methods_in_the_class_itself(self):
        for place, methods in METHODS.items():
            for name, arguments in methods.items():
                self.assertIn(name, vars(found(place)))
                self.assertEqual(str(inspect.signature(vars(found(place))[name])), arguments, (place, name))


if __name__ == "__main__":
    unittest.main()
