"""shows_mended: a look at a mended drawing and its layers, whoever made them."""

import copy
import unittest
from itertools import permutations, product

from lotgivers.changing import with_one, without
from lotgivers.circles import Circle
from lotgivers.drawings import Drawing
from lotgivers.errors import NoDrawing
from lotgivers.finding import some_drawing
from lotgivers.mending import come_in, fallen_out, mended
from lotgivers.mendlooks import shows_mended
from test_mending import anew_in, gaps, gone_from
from things import (
    Asking, all_pairs, chance_circle, drawings_of, free, letters, no_names, oddities, only, pairs_by, subsets,
)

THREE = ("anna", "bert", "cleo")
# The idle one may not take the one left over, so that two draw anew.
STEP = free(*"abcd", bars=(("d", "a"),))
STEP_PAIRS = (("a", "b"), ("b", "c"), ("c", "d"))
STEP_DRAWING = Drawing((("a", "b"), ("b", "a"), ("c", "d"), ("d", "c")))
STEP_LAYERS = (("d",), ("a", "b"))


def shown(circle, pairs, rows, layers):
    """Whether these show it, by the words of the document; layers being tuples of rising tuples of names."""
    idle = gone_from(circle.names(), [giver for giver, _ in pairs])
    left_over = gone_from(circle.names(), [taker for _, taker in pairs])
    every = [name for layer in layers for name in layer]
    if rows not in drawings_of(circle) or len(layers) != len(anew_in(rows, pairs)) or layers[0] != (idle,):
        return False
    if len(every) != len(set(every)) or () in layers:
        return False
    giver_of = {taker: giver for giver, taker in pairs}
    for at, layer in enumerate(layers[:-1]):
        near = [name for some in layers[:at + 2] for name in some]
        for giver, taker in pairs_by(circle, ()):
            if giver in layer and (taker == left_over or giver_of[taker] not in near):
                return False
    return True


class Looking(Asking):
    def check(self, circle, pairs, drawing, layers, told):
        for _ in range(2):
            self.assertIs(shows_mended(circle, pairs, drawing, layers), told, (pairs, drawing, layers))


class TestShows(Looking):
    def test_what_mended_tells(self):
        for may in subsets(all_pairs("abcd"))[::31]:
            circle = only("abcd", may)
            if drawings_of(circle):
                for pairs in gaps(circle)[::4]:
                    drawing, _, layers = mended(circle, pairs)
                    self.check(circle, pairs, drawing, layers, True)

    def test_what_falls_out_and_comes_in(self):
        for seed in range(60):
            names = "abcdef"[:3 + seed % 4]
            circle = chance_circle(names, seed)
            smaller = without(circle, "b")
            for rows in drawings_of(circle)[::9]:
                if drawings_of(smaller):
                    drawing, _, layers = fallen_out(circle, Drawing(rows), "b")
                    pairs = tuple(pair for pair in rows if "b" not in pair)
                    self.check(smaller, pairs, drawing, layers, True)
            for rows in drawings_of(smaller)[::9]:
                if drawings_of(circle):
                    drawing, _, layers = come_in(smaller, Drawing(rows), ("b", circle.house_of("b")))
                    self.check(circle, rows, drawing, layers, True)

    def test_all_layers_of_some_circles_of_three(self):
        some = subsets(THREE)
        layerings = [layers for many in range(4) for layers in product(some, repeat=many)]
        two = subsets(all_pairs(THREE))
        for circle, pairs in [
            (free(*THREE), (("anna", "bert"), ("bert", "anna"))),
            (free(*THREE), (("anna", "bert"), ("bert", "cleo"))),
            (only(THREE, two[-2]), gaps(only(THREE, two[-2]))[0]),
            (only(THREE, two[-5]), gaps(only(THREE, two[-5]))[-1]),
        ]:
            for takers in permutations(THREE):
                rows = tuple(zip(THREE, takers))
                for layers in layerings:
                    self.assertIs(
                        shows_mended(circle, pairs, Drawing(rows), layers), shown(circle, pairs, rows, layers), layers,
                    )

    def test_many_layers_of_circles_of_four(self):
        found = 0
        for may in subsets(all_pairs("abcd"))[3000::211]:
            circle = only("abcd", may)
            for pairs in gaps(circle)[::6]:
                for rows in drawings_of(circle):
                    # The idle one first, the others in layers in every way, or left out.
                    others = sorted({name for name, _ in pairs})
                    idle = gone_from("abcd", others)
                    for places in product(range(4), repeat=3):
                        layers = ((idle,), *[
                            tuple(name for name, place in zip(others, places) if place == at) for at in (1, 2, 3)
                        ])
                        layers = tuple(layer for layer in layers if layer)
                        told = shown(circle, pairs, rows, layers)
                        found += told
                        self.assertIs(shows_mended(circle, pairs, Drawing(rows), layers), told, (pairs, rows, layers))
        self.assertGreater(found, 50)

    def test_twenty_four_members(self):
        names = letters(24)
        circle = Circle(tuple((name, ("elm", "oak", "")[at % 3]) for at, name in enumerate(names)))
        drawing = some_drawing(circle)
        mended_one, anew, layers = fallen_out(circle, drawing, names[7])
        pairs = tuple(pair for pair in drawing.pairs if names[7] not in pair)
        self.check(without(circle, names[7]), pairs, mended_one, layers, True)
        self.check(without(circle, names[7]), pairs, mended_one, layers + ((names[0],),), False)
        mended_one, anew, layers = come_in(circle, drawing, ("zoe", "elm"))
        self.check(with_one(circle, ("zoe", "elm")), drawing.pairs, mended_one, layers, True)
        self.check(with_one(circle, ("zoe", "elm")), drawing.pairs, mended_one, layers[:1], False)
        self.check(with_one(circle, ("zoe", "elm")), drawing.pairs, drawing, layers, False)
        pairs = tuple(zip(names, names[1:]))
        may = {*pairs, *zip(names, names[2:]), (names[-2], names[0]), (names[-1], names[1])}
        drawing, _, layers = mended(only(names, may), pairs)
        self.check(only(names, may), pairs, drawing, layers, True)
        self.check(only(names, may), pairs, drawing, (*layers[:5], layers[6], layers[5], *layers[7:]), False)
        self.check(only(names, may | {(names[3], names[0])}), pairs, drawing, layers, False)
        self.check(only(names, may | {(names[3], names[9])}), pairs, drawing, layers, False)

    def test_by_name_in_any_order(self):
        told = {"circle": STEP, "pairs": STEP_PAIRS, "drawing": STEP_DRAWING, "layers": STEP_LAYERS}
        self.in_any_order(True, shows_mended, **told)
        self.in_any_order(False, shows_mended, **{**told, "layers": STEP_LAYERS[:1]})


class TestOtherwise(Looking):
    def test_of_one_with_one_thing_otherwise(self):
        self.assertTrue(shown(STEP, STEP_PAIRS, STEP_DRAWING.pairs, STEP_LAYERS))
        self.check(STEP, STEP_PAIRS, STEP_DRAWING, STEP_LAYERS, True)
        drawing, anew, layers = mended(STEP, STEP_PAIRS)
        self.check(STEP, STEP_PAIRS, drawing, layers, True)
        self.assertEqual(layers, STEP_LAYERS)
        for other in [
            layers[:1], layers[1:], layers[::-1], (("d",), ("b", "a")), (("d",), ("a",)), (("d",), ("b",)),
            (("d",), ("a", "a", "b")), (("d",), ("a", "b"), ()), (("d",), ("a", "b"), ("c",)), ((), ("d",), ("a", "b")),
            (("d",), ()), (("d",), ("a", "b", "d")), (("a", "d"), ("b",)), (("a",), ("b", "d")), (("c",), ("a", "b")),
            (("d",), ("a", "b", "zoe")), (("d",), ("a", "aa", "b")), (("d", "zoe"), ("a", "b")), ("d", ("a", "b")),
            (["d"], ("a", "b")), (("d",), ["a", "b"]), [("d",), ("a", "b")], {("d",): 1, ("a", "b"): 2}, ("d", "ab"),
            (("d",), ("a", "b", None)), (("d",), ("a", "B")), (("d",), (("a",), "b")), (("d",), {"a", "b"}), (), None,
        ]:
            self.check(STEP, STEP_PAIRS, drawing, other, False)
        # In the last layer, who is no nearer may stand, too.
        self.check(STEP, STEP_PAIRS, drawing, (("d",), ("a", "b", "c")), True)

    def test_drawings_otherwise(self):
        drawing, anew, layers = mended(STEP, STEP_PAIRS)
        for other in [
            drawing.pairs, list(drawing.pairs), str(drawing), dict(drawing.pairs), [drawing], (drawing,), None,
            Drawing(()), Drawing(drawing.pairs[:0]), Drawing((("a", "b"), ("b", "a"))),
            Drawing((("a", "b"), ("b", "c"), ("c", "d"), ("d", "a"))),
            Drawing((("a", "b"), ("b", "c"), ("c", "a"), ("d", "d"))),
            Drawing((("a", "d"), ("b", "a"), ("c", "b"), ("d", "c"))),
            Drawing((("a", "b"), ("b", "a"), ("c", "d"), ("d", "zoe"), ("zoe", "c"))),
            Drawing((("aa", "b"), ("b", "aa"), ("c", "d"), ("d", "c"))), STEP,
        ]:
            self.check(STEP, STEP_PAIRS, other, layers, False)

    def test_another_drawing_as_near(self):
        circle, pairs = free(*"abcd"), (("a", "b"), ("b", "c"), ("c", "a"))
        near = [rows for rows in drawings_of(circle) if len(anew_in(rows, pairs)) == 2]
        self.assertEqual(len(near), 3)
        for rows in drawings_of(circle):
            self.check(circle, pairs, Drawing(rows), (("d",), ("a", "b", "c")), rows in near)

    def test_more_than_the_fewest_with_as_many_layers(self):
        circle, pairs = free(*THREE), (("anna", "bert"), ("bert", "cleo"))
        far = Drawing((("anna", "cleo"), ("bert", "anna"), ("cleo", "bert")))
        for layers in [
            (("cleo",), ("anna",), ("bert",)), (("cleo",), ("bert",), ("anna",)), (("cleo",), ("anna", "bert")),
            (("cleo",),), (("cleo",), ("anna",)),
        ]:
            self.check(circle, pairs, far, layers, False)
        self.check(circle, pairs, Drawing((("anna", "bert"), ("bert", "cleo"), ("cleo", "anna"))), (("cleo",),), True)

    def test_where_no_drawing_keeps(self):
        for layers in [(), (("anna",),), None]:
            self.check(free("anna"), (), Drawing((("anna", "anna"),)), layers, False)
            self.check(free("anna"), (), Drawing(()), layers, False)

    def test_things_of_all_kinds(self):
        drawing, _, layers = mended(STEP, STEP_PAIRS)
        for thing in no_names():
            self.check(STEP, STEP_PAIRS, drawing, thing, False)
            self.check(STEP, STEP_PAIRS, thing, layers, False)
            self.check(STEP, STEP_PAIRS, thing, thing, False)
            self.check(STEP, STEP_PAIRS, drawing, (thing, layers[1]), False)
            self.check(STEP, STEP_PAIRS, drawing, (layers[0], thing), False)
            self.check(STEP, STEP_PAIRS, drawing, (*layers, thing), False)
            self.check(STEP, STEP_PAIRS, drawing, (layers[0], ("a", thing)), False)
            self.check(STEP, STEP_PAIRS, drawing, ((thing,), layers[1]), False)

    def test_pairs_that_lack_more_or_less(self):
        for pairs in [
            STEP_PAIRS[:2], STEP_PAIRS[::-1], (), STEP_DRAWING.pairs, list(STEP_PAIRS), Drawing(()), STEP_DRAWING,
            (("a", "b"), ("b", "c"), ("d", "a")), (("a", "b"), ("b", "b"), ("c", "d")),
            (("a", "b"), ("b", "c"), ("zoe", "d")), (("a", "b"), ("c", "b"), ("d", "c")),
        ]:
            self.refused(NoDrawing, pairs, shows_mended, STEP, pairs, STEP_DRAWING, STEP_LAYERS)
            self.refused(NoDrawing, pairs, shows_mended, STEP, pairs, None, None)
        for thing in oddities():
            self.refused(NoDrawing, thing, shows_mended, STEP, thing, STEP_DRAWING, STEP_LAYERS)
            self.refused(NoDrawing, (thing,), shows_mended, STEP, (thing,), thing, thing)
        self.refused(NoDrawing, (), shows_mended, Circle(()), (), Drawing(()), ())

    def test_what_is_handed_in_stays(self):
        drawing, layers = Drawing(STEP_DRAWING.pairs), [["d"], ["a", "b"]]
        before = copy.deepcopy(layers)
        self.check(STEP, STEP_PAIRS, drawing, layers, False)
        self.check(STEP, STEP_PAIRS, drawing, STEP_LAYERS, True)
        self.assertEqual(layers, before)
        self.assertEqual(drawing, STEP_DRAWING)
        self.assertEqual(STEP, free(*"abcd", bars=(("d", "a"),)))


if __name__ == "__main__":
    unittest.main()
