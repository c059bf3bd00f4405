"""Trials: [145] and the section toldorfree/trials.py."""

import unittest

from tests.asking import Asking
from tests.samples import BENT, NO_LISTS
from toldorfree.desks import Desk
from toldorfree.errors import BadDeed, BadLot, BadNumber, BadParting, OtherShape
from toldorfree.listings import listing
from toldorfree.naming import Renaming
from toldorfree.tables import Table
from toldorfree.trials import Trial, tried

FOUR = Table.parity(2, 4)
SQUARE = Table.parity(2, 3)


def state(desk):
    return (desk.now, desk.deeds, desk.left, desk.wanted)


def begun():
    """A desk on which two deeds have been done."""
    desk = Desk(FOUR)
    desk.copy(1)
    desk.deal(2)
    return desk


class Stop(Exception):
    """An error of the tests."""


class TriedTest(Asking):
    DEEDS = (("rename", (Renaming.same(2, 5),)), ("move", ([4, 3, 2, 1, 0],)), ("hold", (4, 0)), ("leave", [(0,)]),
             ("copy", (0,)), ("put", [(0,) * 4]), ("glue", (0, SQUARE, 1)), ("glue", [0, SQUARE, 1, (1, 0)]), ("deal", [1]))

    def test_each_deed(self):
        desk, other = begun(), begun()
        before = state(desk)
        for many in range(len(self.DEEDS) + 1):
            if many:
                name, values = self.DEEDS[many - 1]
                if len(values) == 4:
                    other.glue(*values[:3], names=values[3])
                else:
                    getattr(other, name)(*values)
            wanted = (other.now, other.deeds, other.left - 2, other.wanted)
            self.assertEqual(tried(desk, self.DEEDS[:many], state), wanted)
            self.assertEqual(tried(desk, [list(pair) for pair in self.DEEDS[:many]], state), wanted)
            self.assertEqual(state(desk), before)

    def test_glue_with_names_by_position(self):
        desk = Desk(Table.parity(3, 3))
        for names in ((1, 2, 0), [2, 1, 0], None):
            wanted = Desk(Table.parity(3, 3)).glue(0, Table.parity(3, 3), 1, names=names)
            found = tried(desk, [("glue", (0, Table.parity(3, 3), 1, names))], lambda asked: asked.now)
            self.assertEqual(found, wanted)

    def test_what_the_question_returns(self):
        desk = begun()
        for value in (None, [1, 2], True, desk, ValueError):
            self.assertIs(tried(desk, (), lambda asked: value), value)
        self.assertIs(tried(desk, [], lambda asked: asked), desk)

    def test_questions_that_do_deeds(self):
        desk = begun()
        before = state(desk)

        def question(asked):
            found = [asked.left, asked.back(), asked.left]
            asked.copy(0)
            asked.deal(0)
            self.assertEqual(asked.deeds, ("copy", "deal", "copy", "deal"))
            return found + [asked.left, asked.back(), asked.back(), asked.left]

        self.assertEqual(tried(desk, [("hold", (0, 1))], question), [1, "hold", 0, 2, "deal", "copy", 0])
        self.assertEqual(state(desk), before)

    def test_earlier_deeds_stay(self):
        desk = begun()
        before = state(desk)

        def question(asked):
            self.wrong(BadDeed, "name", "back", asked.back)
            self.assertEqual((asked.left, asked.deeds), (0, ("copy", "deal")))
            asked.leave((0,))
            self.assertEqual(asked.wanted, 1)
            return [asked.back(), asked.left]

        self.assertEqual(tried(desk, [], question), ["leave", 0])
        self.assertEqual(state(desk), before)
        self.assertEqual([desk.back(), desk.back(), desk.left], ["deal", "copy", 0])

    def test_deeds_that_raise(self):
        desk = begun()
        before = state(desk)
        self.wrong(BadNumber, "name", "sign", tried, desk, [("hold", (0, 1)), ("hold", (0, 2)), ("copy", (9,))], state)
        self.assertEqual(state(desk), before)
        self.wrong(BadParting, "place", -1, tried, desk, [("copy", (0,)), ("put", ((0, 0, 0, 0, 0, 0, 0, 1),))], state)
        self.wrong(BadLot, "place", 0, tried, desk, [("move", ((5, 0, 1, 2, 3),))], state)
        self.assertEqual(state(desk), before)

    def test_questions_that_raise(self):
        desk = begun()
        before = state(desk)

        def question(asked):
            asked.hold(0, 0)
            raise Stop

        with self.assertRaises(Stop):
            tried(desk, [("copy", (0,))], question)
        self.assertEqual(state(desk), before)
        self.wrong(OtherShape, "word", "fixed", tried, desk, [("hold", (4, 1))], lambda asked: asked.deal(1))
        self.assertEqual(state(desk), before)

    def test_trials_inside_trials(self):
        desk = begun()
        before = state(desk)

        def inner(asked):
            self.assertEqual((asked.left, asked.deeds), (1, ("copy", "deal", "hold", "copy", "copy")))
            return [asked.back(), asked.left]

        def question(asked):
            asked.copy(0)
            self.assertEqual(tried(asked, [("copy", (0,))], inner), ["copy", 0])
            self.assertEqual((asked.left, asked.deeds), (2, ("copy", "deal", "hold", "copy")))
            with self.assertRaises(Stop):
                tried(asked, [("copy", (0,))], self.stop)
            return [asked.left, asked.back(), asked.back(), asked.left]

        self.assertEqual(tried(desk, [("hold", (0, 1))], question), [2, "copy", "hold", 0])
        self.assertEqual(state(desk), before)

    def stop(self, asked):
        raise Stop

    def test_example(self):
        desk = Desk(Table.parity(2, 4))
        found = tried(desk, [("hold", (0, 1)), ("deal", (2,))], listing)
        self.assertEqual([found, desk.left], ["signs 2 columns 3 rows 4 rank 2\ndeeds: hold, deal\ndealt: 2\n"
                                              "pieces: square\n 0  0  1\n 0  1  0\n 1  0  0\n 1  1  1", 0])


class WrongDeedsTest(Asking):
    def check(self, name, deeds):
        """BadDeed(name) before any deed is done."""
        desk = begun()
        before = state(desk)
        asked = []
        self.wrong(BadDeed, "name", name, tried, desk, deeds, asked.append)
        self.assertEqual((asked, state(desk)), ([], before))

    def test_no_lists(self):
        for deeds in NO_LISTS + ("hold", Desk(FOUR), Table.full(2, 1)):
            self.check("deeds", deeds)

    def test_no_pairs(self):
        for pair in NO_LISTS + ((), ("hold",), ("hold", (0, 1), 2), ["copy"], "ab", "copy"):
            self.check("deeds", [pair])
            self.check("deeds", (("copy", (0,)), pair, ("x", ())))

    def test_no_names(self):
        for name in ("", "x", "back", "Hold", "hold ", "tree", "now", "note", "opened_by", None, 3, True, (), ["hold"], {0: 1},
                     ("hold",)):
            self.check(name, [(name, (0,))])
            self.check(name, [["copy", [0]], [name, None], 7])

    def test_no_arguments(self):
        many = {"rename": 1, "move": 1, "hold": 2, "leave": 1, "copy": 1, "put": 1, "deal": 1}
        for name, right in many.items():
            for wrong in range(6):
                if wrong != right:
                    self.check(name, [(name, (0,) * wrong)])
                    self.check(name, [("copy", (0,)), [name, [0] * wrong], 7])
            for arguments in NO_LISTS:
                self.check(name, [(name, arguments)])
        for wrong in (0, 1, 2, 5, 6):
            self.check("glue", [("glue", (0,) * wrong)])

    def test_deeds_are_checked_before_they_are_done(self):
        # the first deed would raise, and the last one is wrong
        self.check("x", [("copy", (9,)), ("x", ())])
        self.check("deeds", [("copy", (9,)), 5])


class TrialTest(Asking):
    def test_block(self):
        desk = begun()
        before = state(desk)
        with Trial(desk) as held:
            self.assertIs(held, desk)
            self.assertEqual(state(desk), before[:2] + (0, 2))
            held.leave((0, 1))
            self.assertEqual((desk.left, desk.wanted, desk.deeds), (1, 0, ("copy", "deal", "leave")))
        self.assertEqual(state(desk), before)

    def test_errors_go_on(self):
        desk = begun()
        before = state(desk)
        for error in (Stop, KeyError, BadDeed):
            with self.assertRaises(error):
                with Trial(desk) as held:
                    held.deal(0)
                    raise error("x")
            self.assertEqual(state(desk), before)
        with self.assertRaises(BadDeed):
            with Trial(desk) as held:
                held.back()
        self.assertEqual(state(desk), before)

    def test_a_trial_begins_when_its_block_is_entered(self):
        desk = Desk(FOUR)
        trial = Trial(desk)
        desk.copy(0)
        desk.deal(1)
        before = state(desk)
        with trial as held:
            held.copy(0)
            self.assertEqual(held.left, 1)
        self.assertEqual(state(desk), before)
        # the same object once more, behind its block
        desk.copy(2)
        before = state(desk)
        with trial:
            desk.deal(3)
            self.assertEqual(desk.left, 1)
            self.wrong(BadDeed, "name", "wanted", setattr, desk, "wanted", 0)
        self.assertEqual(state(desk), before)

    def test_blocks_inside_blocks(self):
        desk = begun()
        before = state(desk)
        with Trial(desk) as one:
            one.copy(0)
            middle = state(desk)
            with Trial(one) as two:
                two.hold(0, 1)
                self.assertEqual([two.left, two.back(), two.left], [1, "hold", 0])
                self.wrong(BadDeed, "name", "back", two.back)
                two.move((1, 0, 2, 3, 4, 5))
            self.assertEqual(state(desk), middle)
            self.assertEqual([one.left, one.back(), one.left], [1, "copy", 0])
        self.assertEqual(state(desk), before)

    def test_leaving_early(self):
        desk = begun()
        before = state(desk)
        for number in range(3):
            with Trial(desk) as held:
                held.copy(0)
                if number == 1:
                    continue
                held.deal(0)
        self.assertEqual(state(desk), before)
        self.assertEqual(self.asked_in_a_block(desk), 3)
        self.assertEqual(state(desk), before)

    def asked_in_a_block(self, desk):
        with Trial(desk) as held:
            held.copy(0)
            return len(held.deeds)

    def test_table_without_deeds(self):
        desk = Desk(BENT)
        with Trial(desk) as held:
            held.hold(1, 2)
        self.assertEqual(state(desk), (BENT, (), 0, None))


if __name__ == "__main__":
    unittest.main()
