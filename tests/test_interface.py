"""The interface as a whole: each name stands in its file, with its arguments, and each method in its class."""

import ast
import os
import unittest

from tests.asking import Asking
from toldorfree import errors
from toldorfree.errors import TableError

ROOT = os.path.join(os.path.dirname(os.path.dirname(os.path.abspath(__file__))), "toldorfree")
# functions of each module with their arguments; * stands before those that are passed by keyword
FUNCTIONS = {
    "lots": "lot_of(lot, columns) rest_of(lot, columns) plus(one, other, columns) common(one, other, columns) "
            "minus(one, other, columns) lots_of(columns, *, most)",
    "texts": "table_text(table) table_from(text)",
    "naming": "renamed(table, renaming)",
    "fairness": "sees(table, lot, column) tells(table, lot, column) leaves_free(table, lot, column) told_by(table, lot) "
                "is_full(table, lot) is_fair(table) is_latin(table) power_of(number, base)",
    "breaks": "table_circuits(table) find_break(table) is_break(table, found) fair_up_to(table, most) "
              "seen_by_all(table, column) least_tellers(table, column) needed_for(table, column)",
    "ranks": "closed_lots(table) hanging_parts(table) hangs_together(table)",
    "circuits": "circuits_of(table) bases_of(table) least_base(table) circuit_in(table, base, column) "
                "fixed_columns(table) equal_columns(table) connecting_circuit(table, one, other)",
    "rebuilding": "rows_fitting(signs, columns, parts) base_parts(table, base) rebuilt(table, base)",
    "matching": "renaming_between(one, other) equal_up_to_names(one, other) keeps(table, renaming)",
    "sums": "is_sum_closed(table) cubes_of(signs, columns)",
    "gaps": "rows_apart(one, other) gap_bound(one, other) least_gap(table) near_one(rows, tables)",
    "spectra": "spectrum(table, row) rank_spectrum(signs, ranks) alike_just(table, row, lot) rank_alike(signs, ranks, lot)",
    "together": "tuples_just(table, row, lot, many) rank_tuples(signs, ranks, lot, many) least_many(signs, ranks)",
    "duals": "dual_count(signs, ranks, lot, *, many) dual_spectrum(signs, ranks) turned(signs, counts)",
    "farness": "least_difference(table) farthest_closed(table) pairs_at(table, number)",
    "holding": "held(table, column, sign) short_part(table, lot, part) stacked_parts(table, column)",
    "stacks": "stack(*tables) mixed_lot(tables) stackable(tables)",
    "pairing": "unpaired(table, low) is_paired(table, low)",
    "inner": "chosen_rows(table, chosen) is_inner(table, chosen) relabelled(table, chosen) inner_tables(table, size) "
             "inner_through(table, size, row)",
    "coarse": "coarse_table(table, blocks) is_coarse(table, blocks) block_of(table, blocks, row) coarse_blocks(table, size)",
    "classes": "classes(table, one, other) class_count(table, one, other) class_shares(table, one, other)",
    "meeting": "meets(table, one, other) open_round(table, one, other) closing_row(table, one, other, first, last) "
               "full_classes(table, one, other)",
    "foursomes": "foursomes(table, one, other) most_foursomes(signs, ranks, one, other)",
    "evenly": "seen_evenly(table, one, other, lot) free_within(table, one, other)",
    "laid": "is_laid(table, groups) laid_table(groups, rows) square_of(group) ring_table(group, columns) "
            "bent_table(columns, lots)",
    "partings": "numbered(parting) put_in(table, parting) column_parting(table, column) "
                "tells_parting(table, lot, parting) least_lots(table, parting)",
    "putting": "goes_in(table, parting) greatest_silent(table, parting) why_not(table, parting) "
               "class_parting(table, one, other) meeting_column(table, one, other)",
    "transversals": "transversals(table) partings_by_transversals(table)",
    "goings": "goings(table) goings_with(table, lot) put_all(table, partings)",
    "cuts": "cuts_of(table) splits_of(table) strong_splits(table) is_split(table, lot) class_column(table, lot) "
            "crosses(one, other, columns)",
    "glue": "glued(one, column, other, second, *, names) unglued(table, lot)",
    "crossing": "quarters(one, other, columns) third(one, other, columns) quarter_table(table, one, other) "
                "crossing_kind(table, one, other) crossing_group(table, one, other, *, base)",
    "trees": "tree_of(table) rebuilt_from(tree, *, order)",
    "reading": "elements_of(table, *, base) read_product(table, *, base) read_group(table, *, base)",
    "rings": "is_ring(table) ring_order(table) ring_group(table, *, base) neighbours_split(table) same_ring(one, other)",
    "symmetries": "symmetries_of(table, *, row) count_symmetries(table, *, row) leads(table, first, last)",
    "inside": "inner_count(group, columns, size) coarse_count(group, size) subgroup_signs(table, lot, *, base) "
              "normal_blocks(table, lot, *, base)",
    "ringglue": "ring_names(one, other) glue_gives_ring(one, other, names) "
                "glue_symmetries(one, column, other, second, *, names)",
    "squares": "ways(table) closes(table) open_corner(table) corner(table, first, second, third) comes_of(table, group) "
               "turns_alike(table)",
    "fourpoints": "four_point_table(group) is_four_points(table) four_point_group(table, *, base) fits_in(square) "
                  "triangles(table) rounds_of_edges(table)",
    "opposite": "opposite_meet(table, first, second) opposite_column(table, first, second) seventh(table, first, second) "
                "halves_alike(table)",
    "planes": "plane_table(group) short_plane_table(group) is_plane(table) is_short_plane(table) line_table(signs)",
    "secrets": "opens(table, column, lot) openers(table, column) needed(table, column) what_seen(table, column, lot, part) "
               "links(table, lot, first, second) link_names(table, lot, part, first, second)",
    "losses": "mends(table, lot) ways_left(table, lot) refilled(table, row) wrong_found(table) wrong_mended(table) "
              "nearest(table, row) least_changes(table, column) changed(table, row, column, sign)",
    "trials": "tried(desk, deeds, question)",
    "listings": "line_of(table, row) listing(desk)",
}
# the methods of each class, their own object left out
CLASSES = {
    ("tables", "Table"): "__init__(signs, rows) many() full(signs, columns) parity(signs, columns) alike(one, other) "
                         "part_rows(lot) rows_with(lot, part) number_of(row) part_table(lot) moved(order) "
                         "with_copy(column) __add__(other) __mul__(other) __sub__(other) __contains__(x) "
                         "__getitem__(at) __eq__(other) __len__() __iter__()",
    ("naming", "Renaming"): "__init__(names) same(signs, columns) __call__(row) __getitem__(at) __iter__() "
                            "__mul__(other) __invert__() __eq__(other)",
    ("breaks", "Break"): "__init__(lot, missing, one, other)",
    ("ranks", "Ranks"): "__init__(table) rank(lot) told(lot) is_closed(lot) meet_number(one, other) "
                        "is_modular(one, other) __eq__(other)",
    ("groups", "Group"): "__init__(products) unit() times(one, other) inverse(one) order_of(one) product_of(factors) "
                         "generated(lot) is_normal(lot) subgroups() normal_subgroups() commutators() is_abelian() "
                         "has_exponent_two() automorphisms() isomorphism_to(other) sums(size) turns() __mul__(other) "
                         "__eq__(other)",
    ("pieces", "Piece"): "inner_lots() many_splits() ring_way() group(*, base)",
    ("pieces", "EqualPiece"): "many_splits()",
    ("pieces", "StarPiece"): "many_splits() ring_way() group(*, base)",
    ("pieces", "RingPiece"): "many_splits() ring_way() group(*, base)",
    ("trees", "Tree"): "edges() __len__() __iter__() __getitem__(at) sorts() splits() ends(edge)",
    ("desks", "Desk"): "__init__(table) now() deeds() left() wanted() rename(renaming) move(order) hold(column, sign) "
                       "leave(lot) copy(column) put(parting) glue(column, other, second, *, names) deal(column) back() "
                       "tree() opened_by() spectrum_now() ring_now()",
    ("trials", "Trial"): "__init__(desk) __enter__() __exit__(kind, value, trace)",
}
STORED = {"BadNumber": "name", "BadRow": "place", "BadLot": "place", "BadNames": "column", "BadGroup": "place",
          "BadParting": "place", "BadBlocks": "column", "BadText": "line", "OtherSigns": "signs", "OtherColumns": "columns",
          "NoRow": "row", "NotFair": "lot", "NotWhole": "lot", "NotCut": "lot", "NotSplit": "lot", "OtherShape": "word",
          "Loose": "column", "TooMany": "limit", "BadDeed": "name"}


def body_of(module):
    with open(os.path.join(ROOT, module + ".py"), encoding="utf-8") as file:
        return ast.parse(file.read()).body


def written(node, skip=0):
    """The name and the arguments of a function, without the first ones and without values."""
    found = [arg.arg for arg in node.args.args][skip:]
    if node.args.vararg:
        found.append("*" + node.args.vararg.arg)
    if node.args.kwonlyargs:
        found += ["*"] + [arg.arg for arg in node.args.kwonlyargs]
    return f"{node.name}({', '.join(found)})"


def listed(text):
    return [entry + ")" for entry in text.split(")")[:-1]]


class InterfaceTest(Asking):
    def test_functions(self):
        for module, text in FUNCTIONS.items():
            found = {written(node): node for node in body_of(module) if isinstance(node, ast.FunctionDef)}
            for entry in listed(text):
                self.assertIn(entry.strip(), found, module)
                for value in found[entry.strip()].args.kw_defaults:
                    self.assertEqual(value.value, 1 if module == "duals" else None)

    def test_methods(self):
        for (module, name), text in CLASSES.items():
            node = [node for node in body_of(module) if isinstance(node, ast.ClassDef) and node.name == name][0]
            found = set()
            for method in node.body:
                if isinstance(method, ast.FunctionDef):
                    static = "staticmethod" in [getattr(entry, "id", "") for entry in method.decorator_list]
                    found.add(written(method, 0 if static else 1))
            self.assertLessEqual({entry.strip() for entry in listed(text)}, found, name)

    def test_errors(self):
        self.assertEqual(TableError.__bases__, (Exception,))
        for name, attribute in STORED.items():
            kind = getattr(errors, name)
            self.assertEqual((kind.__bases__, kind.__module__), ((TableError,), "toldorfree.errors"))
            for value in (0, -1, "x", (1, 2), [1], None):
                self.assertEqual(getattr(kind(value), attribute), value)

    def test_all_modules(self):
        names = {name[:-3] for name in os.listdir(ROOT) if name.endswith(".py")}
        self.assertEqual(names, set(FUNCTIONS) | {module for module, _ in CLASSES} | {"__init__", "checks", "errors"})


if __name__ == "__main__":
    unittest.main()
