"""Desks: [143], [144], [146] and the section toldorfree/desks.py."""

import random
import unittest

from tests.asking import Asking
from tests.samples import (BENT, FIVE, FOUR, GROUPS, NO_INTEGERS, UNFAIR, bent, drawn, four_points, plain_fair, ring,
                           shuffled, square_of)
from tests.wholes import MORE, TURNS
from toldorfree.circuits import circuits_of, fixed_columns
from toldorfree.cuts import class_column, splits_of
from toldorfree.desks import Desk
from toldorfree.errors import (BadDeed, BadLot, BadNames, BadNumber, BadParting, Loose, NotFair, NotWhole,
                               OtherColumns, OtherShape, OtherSigns, TableError, TooMany)
from toldorfree.glue import glued
from toldorfree.goings import goings
from toldorfree.holding import held
from toldorfree.naming import Renaming, renamed
from toldorfree.partings import column_parting, put_in
from toldorfree.ranks import Ranks
from toldorfree.rings import ring_group
from toldorfree.secrets import openers
from toldorfree.spectra import spectrum
from toldorfree.tables import Table
from toldorfree.trees import tree_of

SQUARE = Table.parity(3, 3)


def state(desk):
    return (desk.now, desk.deeds, desk.left, desk.wanted)


def loose(table):
    return [column for column in range(table.columns) if column not in fixed_columns(table)]


class StartTest(Asking):
    def test_start(self):
        for table in (SQUARE, BENT, Table(2, [(1,)]), Table.full(36, 1)):
            desk = Desk(table)
            self.assertEqual((desk.start, state(desk)), (table, (table, (), 0, None)))
        for table in UNFAIR:
            with self.assertRaises(NotFair):
                Desk(table)
        self.wrong(NotFair, "lot", (0, 1), Desk, UNFAIR[0])

    def test_wanted_is_not_assigned(self):
        desk = Desk(SQUARE)
        desk.deal(1)
        for value in (None, 0, 1, 2, "x"):
            with self.assertRaises(BadDeed) as caught:
                desk.wanted = value
            self.assertEqual(caught.exception.name, "wanted")
            self.assertEqual(state(desk), (SQUARE, ("deal",), 1, 1))

    def test_each_deed_returns_the_table_now(self):
        desk = Desk(SQUARE)
        renaming = Renaming([(1, 2, 0), (0, 1, 2), (2, 1, 0)])
        parting = column_parting(renamed(SQUARE, renaming).moved((2, 0, 1)), 0)
        wanted = SQUARE
        steps = (("rename", lambda table: renamed(table, renaming), (renaming,)),
                 ("move", lambda table: table.moved((2, 0, 1)), ([2, 0, 1],)),
                 ("copy", lambda table: table.with_copy(1), (1,)),
                 ("put", lambda table: put_in(table, parting), (parting,)),
                 ("glue", lambda table: glued(table, 0, SQUARE, 1), (0, SQUARE, 1)),
                 ("leave", lambda table: table - (4, 0), ([4, 0],)),
                 ("hold", lambda table: held(table, 1, 2), (1, 2)))
        done = ()
        for name, step, values in steps:
            wanted = step(wanted)
            self.assertEqual(getattr(desk, name)(*values), wanted)
            done += (name,)
            self.assertEqual(state(desk), (wanted, done, len(done), None))
            self.assertEqual(desk.start, SQUARE)
        self.assertEqual(desk.deal(0), 0)
        self.assertEqual(state(desk), (wanted, done + ("deal",), 8, 0))

    def test_glue_with_names(self):
        for names in (None, (1, 2, 0), [2, 0, 1]):
            desk = Desk(SQUARE.with_copy(0))
            self.assertEqual(desk.glue(1, SQUARE, 2, names=names), glued(SQUARE.with_copy(0), 1, SQUARE, 2, names=names))
        self.assertNotEqual(Desk(FIVE).glue(0, FIVE, 0, names=(1, 0, 2, 3, 4)), Desk(FIVE).glue(0, FIVE, 0))

    def test_deeds_that_change_nothing(self):
        desk = Desk(SQUARE)
        desk.deal(2)
        desk.leave(())
        desk.move((0, 1, 2))
        desk.rename(Renaming.same(3, 3))
        self.assertEqual(state(desk), (SQUARE, ("deal", "leave", "move", "rename"), 4, 2))
        self.assertEqual([desk.back(), desk.back(), desk.back()], ["rename", "move", "leave"])
        self.assertEqual(state(desk), (SQUARE, ("deal",), 1, 2))


class DealtTest(Asking):
    def test_dealing(self):
        desk = Desk(SQUARE)
        self.assertEqual([desk.deal(2), desk.wanted, desk.deal(0), desk.wanted], [2, 2, 0, 0])
        self.assertEqual([desk.back(), desk.wanted, desk.back(), desk.wanted], ["deal", 2, "deal", None])

    def test_columns_that_go(self):
        six = Table.parity(2, 6)
        for column in range(6):
            for gone in range(6):
                for name, values in (("hold", (gone, 1)), ("leave", ((gone,),)), ("glue", (gone, Table.parity(2, 3), 0))):
                    desk = Desk(six)
                    desk.deal(column)
                    getattr(desk, name)(*values)
                    self.assertEqual(desk.wanted, None if column == gone else column - (gone < column))
                    self.assertEqual([desk.back(), desk.wanted], [name, column])
        desk = Desk(six)
        desk.deal(4)
        desk.leave([5, 3, 0])
        self.assertEqual(desk.wanted, 2)
        desk.leave((2, 0))
        self.assertIsNone(desk.wanted)
        self.assertEqual([desk.back(), desk.wanted], ["leave", 2])

    def test_moves(self):
        chance = random.Random(1)
        for column in range(5):
            desk = Desk(Table.parity(2, 5))
            desk.deal(column)
            order = chance.sample(range(5), 5)
            desk.move(order)
            self.assertEqual(order[desk.wanted], column)
            desk.move(tuple(order))
            self.assertEqual(order[order[desk.wanted]], column)

    def test_it_stays(self):
        desk = Desk(SQUARE)
        desk.deal(1)
        desk.rename(Renaming([(1, 2, 0)] * 3))
        desk.copy(0)
        desk.put(column_parting(desk.now, 2))
        self.assertEqual((desk.now.columns, desk.wanted), (5, 1))

    def test_fixed_by_a_deed(self):
        desk = Desk(SQUARE.with_copy(1))
        desk.deal(3)
        desk.hold(1, 2)
        self.assertEqual((desk.wanted, fixed_columns(desk.now)), (2, (2,)))
        self.wrong(OtherShape, "word", "fixed", desk.opened_by)
        self.wrong(OtherShape, "word", "fixed", desk.deal, 2)
        self.assertEqual([desk.back(), desk.wanted, desk.opened_by()], ["hold", 3, ((1,), (0, 2))])

    def test_wrong_columns(self):
        desk = Desk(SQUARE + Table(3, [(1,)]))
        for column in NO_INTEGERS + (-1, 4):
            self.wrong(BadNumber, "name", "column", desk.deal, column)
        self.wrong(OtherShape, "word", "fixed", desk.deal, 3)
        self.assertEqual(state(desk), (desk.start, (), 0, None))


class ChainTest(Asking):
    """Chains of drawn deeds, beside a plain account of which column is which."""

    STARTS = (SQUARE, BENT, FIVE, Table.parity(2, 4), Table.full(2, 3), ring(TURNS, 3), Table(3, [(1, 2)]), MORE[0],
              Table.parity(3, 3) + Table(3, [(1,)]))

    def drawn_deed(self, chance, desk, marks):
        """Do a drawn deed; its name and the marks of the columns behind it."""
        table = desk.now
        name = chance.choice(("rename", "move", "hold", "leave", "copy", "put", "glue", "deal"))
        column = chance.randrange(table.columns)
        new = chance.random()
        without = [mark for mark in marks if mark != marks[column]]
        if name == "rename":
            desk.rename(Renaming([drawn(table.signs, chance.random()) for _ in marks]))
        elif name == "move":
            order = chance.sample(range(table.columns), table.columns)
            desk.move(order)
            marks = [marks[place] for place in order]
        elif name == "hold":
            desk.hold(column, chance.randrange(table.signs))
            marks = without
        elif name == "leave":
            lot = chance.sample(range(table.columns), chance.randrange(table.columns))
            desk.leave(lot)
            marks = [mark for place, mark in enumerate(marks) if place not in lot]
        elif name == "copy":
            desk.copy(column)
            marks = marks + [new]
        elif name == "put":
            desk.put([table.rows[0][0]] * table.many if table.many > 27 else chance.choice(goings(table)))
            marks = marks + [new]
        elif name == "glue":
            other = Table.parity(table.signs, 3)
            desk.glue(column, other, chance.randrange(3), names=drawn(table.signs, 1))
            marks = without + [new, new + 1]
        else:
            desk.deal(column)
        return name, marks

    def test_chains(self):
        errors = set()
        for seed in range(180):
            chance = random.Random(seed)
            start = self.STARTS[seed % len(self.STARTS)]
            desk = Desk(start)
            past = [(state(desk), list(range(start.columns)), None)]
            for _ in range(9):
                before, marks, dealt = past[-1]
                try:
                    name, marks = self.drawn_deed(chance, desk, marks)
                except TableError as error:
                    errors.add(error.__class__.__name__)
                    self.assertEqual(state(desk), before)
                    continue
                if name == "deal":
                    dealt = marks[desk.wanted]
                self.assertEqual(desk.deeds, before[1] + (name,))
                self.assertEqual(desk.left, len(desk.deeds))
                self.assertEqual(desk.now.columns, len(marks))
                self.assertEqual(desk.wanted, marks.index(dealt) if dealt in marks else None)
                dealt = None if desk.wanted is None else dealt
                past.append((state(desk), marks, dealt))
                if chance.random() < 0.3:
                    self.assertEqual(desk.back(), name)
                    past.pop()
                    self.assertEqual(state(desk), past[-1][0])
            self.check_now(desk)
            while desk.left:
                past.pop()
                desk.back()
                self.assertEqual(state(desk), past[-1][0])
            self.assertEqual(state(desk), (start, (), 0, None))
            self.wrong(BadDeed, "name", "back", desk.back)
        self.assertGreater(len(errors), 2)

    def check_now(self, desk):
        """What is asked of the table now is what is asked of a new table with its rows."""
        again = Table(desk.now.signs, desk.now.rows)
        self.assertEqual(again, desk.now)
        self.assertEqual(Ranks(again), Ranks(desk.now))
        self.assertEqual(circuits_of(again), circuits_of(desk.now))
        if again.many <= 81:
            self.assertTrue(plain_fair(again))
        self.assertEqual(desk.spectrum_now(), spectrum(again, again[again.many - 1]))


class QuestionsTest(Asking):
    def test_trees(self):
        for table in (BENT, bent(4, [(0, 1)]), SQUARE.with_copy(1)):
            desk = Desk(shuffled(table, 1))
            tree, again = desk.tree(), tree_of(desk.now)
            self.assertEqual([tree.edges, tree.sorts(), tree.splits(), tree.table],
                             [again.edges, again.sorts(), again.splits(), desk.now])
        self.wrong(NotWhole, "lot", (0,), Desk(Table.full(2, 3)).tree)

    def test_opened_by(self):
        desk = Desk(Table.parity(2, 3).with_copy(0))
        self.wrong(BadDeed, "name", "wanted", desk.opened_by)
        desk.deal(2)
        self.assertEqual(desk.opened_by(), openers(desk.now, 2))
        self.assertEqual(desk.opened_by(), ((0, 1), (1, 3)))
        desk.leave((2,))
        self.wrong(BadDeed, "name", "wanted", desk.opened_by)
        self.assertEqual(Desk(SQUARE).deal(0), 0)

    def test_spectra(self):
        for table in (BENT, SQUARE, four_points(FOUR), Table(2, [(1, 0)])):
            self.assertEqual(Desk(table).spectrum_now(), spectrum(table, table[table.many // 2]))
            self.is_tuples(Desk(table).spectrum_now())

    def test_rings(self):
        for table in (SQUARE, FIVE, BENT, ring(FOUR, 4), ring(TURNS, 4).moved((0, 2, 1, 3))):
            self.assertEqual(Desk(table).ring_now(), ring_group(table))
        for table in (Table.full(2, 3), Table.parity(3, 2), Table.full(3, 1), four_points(FOUR), SQUARE.with_copy(0),
                      Table.parity(13, 2), Table(13, [(1, 2, 3)]), SQUARE + Table(3, [(1,)])):
            self.assertIsNone(Desk(table).ring_now())
        self.wrong(TooMany, "limit", 12, Desk(Table.parity(13, 3)).ring_now)
        self.assertIsNone(Desk(FIVE).ring_now())
        self.assertEqual(Desk(square_of(GROUPS["6"])).ring_now(), GROUPS["6"])

    def test_splits_stay(self):
        """[146]: a split of the table is one of the table with a parting that goes in."""
        asked = 0
        for table in (ring(GROUPS["2"], 4), ring(GROUPS["3"], 4), SQUARE.with_copy(1), Table.parity(2, 5)):
            if table.many <= 27:
                for parting in goings(table):
                    if len(set(parting)) > 1:
                        larger = put_in(table, parting)
                        self.assertEqual(tree_of(larger).table, larger)
                        for lot in splits_of(table):
                            asked += self.check_split(table, larger, lot, parting)
        self.assertGreater(asked, 20)

    def check_split(self, table, larger, lot, parting):
        rest = tuple(column for column in range(table.columns) if column not in lot)
        asked = 0
        for side in (lot, rest):
            signs = {}
            for row, sign in zip(table, parting):
                signs.setdefault(tuple(row[column] for column in side), set()).add(sign)
            if all(len(some) == 1 for some in signs.values()):
                with_new = side + (table.columns,)
                found = with_new if 0 in with_new else tuple(c for c in range(larger.columns) if c not in with_new)
                self.assertIn(found, splits_of(larger))
                self.assertEqual(len(class_column(larger, with_new)), table.many)
                asked += 1
        return asked

    def test_examples(self):
        desk = Desk(Table.parity(3, 4))
        self.assertEqual(desk.deal(3), 3)
        table = desk.hold(0, 1)
        self.assertEqual([table.rows[0], desk.deeds, desk.left, desk.wanted, desk.opened_by()],
                         [(0, 0, 2), ("deal", "hold"), 2, 2, ((0, 1),)])
        self.assertEqual([desk.back(), desk.wanted, desk.back(), desk.wanted, desk.now == desk.start],
                         ["hold", 3, "deal", None, True])


class RefusedTest(Asking):
    def refused(self, desk, error, attribute, value, call, *values, **named):
        before = state(desk)
        self.wrong(error, attribute, value, call, *values, **named)
        self.assertEqual(state(desk), before)

    def test_errors_leave_the_desk(self):
        desk = Desk(SQUARE)
        desk.deal(1)
        desk.copy(0)
        self.refused(desk, OtherSigns, "signs", 2, desk.rename, Renaming.same(2, 4))
        self.refused(desk, OtherColumns, "columns", 3, desk.rename, Renaming.same(3, 3))
        self.refused(desk, BadLot, "place", 3, desk.move, (0, 1, 2, 2))
        self.refused(desk, BadLot, "place", -1, desk.move, [0, 1, 2])
        self.refused(desk, BadNumber, "name", "column", desk.hold, 4, 0)
        self.refused(desk, BadNumber, "name", "sign", desk.hold, 0, 3)
        self.refused(desk, BadLot, "place", 1, desk.leave, (0, 0))
        self.refused(desk, BadLot, "place", -1, desk.leave, (3, 1, 2, 0))
        self.refused(desk, BadNumber, "name", "column", desk.copy, True)
        self.refused(desk, BadNumber, "name", "column", desk.deal, 4)
        self.refused(desk, BadParting, "place", -1, desk.put, (0,) * 8)
        self.refused(desk, BadParting, "place", 8, desk.put, [0] * 8 + [3])
        self.refused(desk, BadNumber, "name", "column", desk.glue, 4, SQUARE, 0)
        self.refused(desk, BadNumber, "name", "second", desk.glue, 0, SQUARE, 3)
        self.refused(desk, BadNames, "column", -1, desk.glue, 0, SQUARE, 0, names=(0, 1))
        self.refused(desk, OtherSigns, "signs", 2, desk.glue, 0, Table.parity(2, 3), 0)
        self.refused(desk, Loose, "column", 1, desk.glue, 0, Table.full(3, 2), 1)

    def test_partings_that_do_not_go_in(self):
        desk = Desk(Table.full(2, 2))
        self.refused(desk, BadParting, "place", -1, desk.put, (0, 0, 0, 1))
        self.assertEqual(desk.put([0, 1, 1, 0]), Table.parity(2, 3))
        eight = Desk(Table.full(2, 8))
        self.refused(eight, BadNumber, "name", "columns", eight.put, (0,) * 255 + (1,))
        self.refused(eight, BadNumber, "name", "columns", eight.copy, 0)
        one = Desk(Table.full(2, 1))
        self.refused(one, BadNumber, "name", "columns", one.hold, 0, 1)
        self.refused(one, BadLot, "place", -1, one.leave, [0])
        self.refused(one, BadDeed, "name", "back", one.back)

    def test_lists_that_change_later(self):
        order, lot, parting, names = [2, 0, 1], [0], [0, 1, 1, 0, 0, 1, 1, 0], [1, 0]
        desk = Desk(Table.parity(2, 4))
        desk.put(parting)
        desk.move(order + [3, 4])
        desk.glue(0, Table.parity(2, 3), 1, names=names)
        desk.leave(lot)
        before = state(desk)
        parting[0] = 1
        order.reverse()
        lot.append(1)
        names.reverse()
        self.assertEqual(state(desk), before)


if __name__ == "__main__":
    unittest.main()
