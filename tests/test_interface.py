"""The names, arguments and places of the interface, as DOC.md lists them."""

import importlib
import inspect
import unittest

FUNCTIONS = {
    "amounts": ["amount(value)", "plus(one, other)", "times(one, other)", "over(one, other)",
                "apart(one, other)", "at_most(one, other)", "least(amounts)", "greatest(amounts)"],
    "lots": ["set_of(things, size)", "least_lots(lots)", "blocker_lots(lots)"],
    "rows": ["row_of(value, size)", "whole_row(value, size)"],
    "texts": ["family_text(family)", "family_from(text)"],
    "blockers": ["blocker(family)", "side_of(family, things)", "private_lot(family, lot, thing)",
                 "quiet_sets(family)"],
    "parts": ["part(family, left, kept)", "left_out(family, things)", "held(family, things)",
              "is_lost(family, left, kept)", "parts_of(family)", "single_parts(family)"],
    "putting": ["put_in(family, families)", "place_of(families, e, f)", "merged(family, names, size)",
                "beside(*families)", "both(*families)", "renamed(family, names)"],
    "shapes": ["votes(k, n)", "ring(n)", "fan(m)", "four_points()", "seven_lines()", "block(l, w)"],
    "lengths": ["short(family, lengths)", "narrow(family, widths)", "shortest(family, lengths)",
                "narrowest(family, widths)", "critical(family, lengths, thing)"],
    "filling": ["fill(columns, gains, room)"],
    "packings": ["packing(family, widths)", "cap(family, widths)", "cheapest_cover(family, widths)",
                 "whole_packing(family, widths)", "whole(family, widths)", "total_of(weighted)",
                 "row_of_packing(weighted, size)"],
    "products": ["fourfold(family, thing, lengths, widths)",
                 "keeps(family, factor, lengths, widths, *, tolls=None)",
                 "keeps_at(family, thing, factor, lengths, widths, *, tolls=None)",
                 "worst_entries(family, thing, factor, lengths, widths, *, tolls=None)"],
    "alone": ["alone(family, lots)", "two_mixes(family, lots)"],
    "covers": ["is_cover(family, row)", "tight_lots(family, row)", "raised(family, row, thing)",
               "lowered(family, row)", "is_corner(family, row)"],
    "corners": ["corners_of(family)", "whole_corners(family)", "broken_corners(family)",
                "cheapest_corner(family, tolls)", "bound_of(number)"],
    "mixes": ["mix_under(family, row)", "stretch(family, row)", "mix_of_corners(family, row)"],
    "breakers": ["breaking(family, row)", "breakers(family, row)"],
    "cornerparts": ["corners_held(family, thing)", "lifted(family, row, thing)",
                    "dropped(family, row, thing)"],
    "cornerput": ["put_row(family, families, row, rows)", "put_corners(family, families)",
                  "shares(family, families, row)"],
    "pricing": ["price(family, tolls)", "best_pairs(family, tolls)", "best_pair(family, tolls)",
                "sum_of_pair(x, y, tolls)", "price_limit(family, lengths, widths, *, tolls=None)"],
    "loads": ["loads_of(family)", "lean_loads(family)", "price_by(loads, tolls)",
              "rise(family, tolls, thing)", "greatest_rise(family, tolls, thing)"],
    "partprices": ["price_of_part(family, tolls, left, kept)", "lesser_part(family, tolls, thing)",
                   "lesser_parts(family, tolls, things)", "far_toll(family, tolls, things)",
                   "rests(family, tolls, thing)"],
    "putprices": ["put_price(family, families, tolls)", "put_prices_row(family, families, tolls)",
                  "share_of(families, row, e)"],
    "pairs": ["is_pair(family, x, y)", "some_family(x, y)", "failing_set(x, y)"],
    "strains": ["strain(family)", "is_calm(family)", "worst_pair(family)",
                "strain_of_part(family, left, kept)"],
    "faces": ["worst_lengths(family)", "worst_widths(family)", "pack_ratio(family, widths)",
              "lot_ratio(family, lengths)", "widest_stretch(family)"],
    "bounds": ["strain_top(n)", "strain_bottom(n)", "least_broken(n)", "broken_family(n)", "is_votes(family)",
               "size_bound(family)", "meeting_bound(family)", "holding_bound(family)"],
    "blocks": ["block_family(family, lengths, widths)", "block_sizes(family, lengths, widths)",
               "worst_blocks(family)"],
    "settling": ["is_settled(family, x, y, *, tolls=None)", "settled_pairs(family, tolls)", "contrary_of(row)"],
    "answers": ["answers_from(family, row, tolls)", "last_answer(family, row, tolls)"],
    "bare": ["bare_play(family)", "raised_pair(family, thing, word, x, y)"],
    "breaks": ["is_least_break(family)", "find_break(family)", "breaking_singles(family)"],
    "cores": ["hub_of(family)", "read_break(family)"],
    "breakprices": ["break_price(found, tolls)", "put_break_price(found, families, tolls)"],
    "couples": ["is_couples(family)", "odd_ring(family)", "cliques(family)", "greatest_quiet(family)",
                "hueing(family)", "joined(*families)"],
    "hues": ["hues(family)", "quiet_mix(family)", "couple_price(family, tolls)", "couple_strain(family)",
             "half_row(family)", "hue_bound(family)"],
    "votes": ["vote_short(k, lengths)", "vote_cap(k, widths)", "vote_price(k, tolls)",
              "vote_contacts(k, weights)", "vote_strain(k, n)", "vote_rises(k, n)", "vote_product(k, n, m)",
              "vote_corners(k, n)"],
    "treetexts": ["tree_text(tree)", "tree_from(text)"],
    "treevalues": ["tree_short(tree, lengths)", "tree_narrow(tree, widths)", "tree_cap(tree, widths)",
                   "tree_price(tree, tolls)", "tree_contacts(tree, weights)", "tree_strain(tree)",
                   "tree_least(tree)", "level_tree(needs)"],
    "ways": ["ways_of(net)", "cuts_of(net)", "net_family(net)", "distances(net, lengths)",
             "cut_at(net, lengths, level)"],
    "contacts": ["is_enough(family, row)", "contacts(family, weights=None)", "enough_row(family, weights=None)",
                 "lean_rows(family)", "pair_weights(family, weights=None)", "least_links(family)",
                 "contact_mix(family)"],
    "formulas": ["net_of_tree(tree, size)", "tree_of_lots(family)", "tree_of_blocker(family)",
                 "contact_sides(family)"],
    "putnets": ["put_nets(net, nets)"],
    "unseen": ["price_ends(family, stretches)", "row_with_price(family, stretches, value)",
               "end_row(family, stretches, load, other)", "regret(family, stretches, x, y)",
               "worst_row(family, stretches, x, y)", "is_safe(family, stretches, x, y)",
               "safe_pairs(family, stretches)"],
    "deeds": ["deed_text(deed)"],
    "trials": ["tried(desk, deeds)"],
    "listings": ["listing(desk)"],
}
GENERATORS = {"quiet_sets", "parts_of", "answers_from"}
CLASSES = {
    ("rows", "Row"): {
        "plain": ["__init__(self, tops, bottom=1)", "at(self, things)", "total(self)", "dot(self, other)",
                  "scaled(self, value)", "with_entry(self, thing, value)", "covers_row(self, other)",
                  "support(self)"],
        "operators": ["__add__", "__mul__", "__rmul__", "__eq__", "__len__", "__getitem__", "__iter__"],
        "properties": ["is_whole"],
        "class": ["ones(cls, size)", "of_set(cls, things, size)", "of_amounts(cls, amounts)"],
        "static": [],
    },
    ("families", "Family"): {
        "plain": ["__init__(self, things, lots)", "__call__(self, families)", "holds(self, things)",
                  "least_size(self)", "sizes(self)", "lots_at(self, thing)"],
        "operators": ["__eq__", "__len__", "__contains__", "__iter__", "__or__", "__and__", "__invert__",
                      "__sub__", "__floordiv__"],
        "properties": ["useful"],
        "class": ["single(cls)"],
        "static": ["least_of(lots)"],
    },
    ("plays", "Play"): {
        "plain": ["__init__(self, family, ours, theirs, *, costs=None)", "mean(self)", "better(self)",
                  "is_steady(self)", "is_bare(self)", "mixes(self)", "pair_of(self)"],
        "operators": ["__eq__"],
        "properties": [],
        "class": ["worst(cls, family, *, costs=None)", "of_pair(cls, family, x, y, *, costs=None)"],
        "static": [],
    },
    ("cores", "Break"): {
        "plain": ["__init__(self, family)", "ratio(self)"],
        "operators": [], "properties": [], "class": [], "static": [],
    },
    ("cores", "FanBreak"): {
        "plain": ["__init__(self, family)", "ratio(self)"],
        "operators": [], "properties": [], "class": [], "static": [],
    },
    ("cores", "EvenBreak"): {
        "plain": ["__init__(self, family)", "ratio(self)", "excess(self)"],
        "operators": [], "properties": [], "class": [], "static": [],
    },
    ("trees", "Tree"): {
        "plain": ["__init__(self)", "__call__(self, things)", "leaves(self)", "is_once(self)", "depth(self)",
                  "family_on(self, size)", "leaf_row(self, size)", "numbered(self)", "lot_count(self)"],
        "operators": ["__invert__", "__eq__"],
        "properties": ["names"],
        "class": [], "static": [],
    },
    ("trees", "Leaf"): {
        "plain": ["__init__(self, name)"],
        "operators": [], "properties": [], "class": [], "static": [],
    },
    ("trees", "Vote"): {
        "plain": ["__init__(self, need, branches)"],
        "operators": [], "properties": [], "class": [], "static": [],
    },
    ("nets", "Net"): {
        "plain": ["__init__(self, points, links, size)", "row_of_contacts(self)", "is_single(self)"],
        "operators": ["__eq__", "__len__"],
        "properties": [],
        "class": ["of_lots(cls, family)"],
        "static": [],
    },
    ("stretches", "Stretches"): {
        "plain": ["__init__(self, ends)", "lows(self)", "highs(self)", "seen(self)", "agrees(self, row)",
                  "asked(self, thing, toll)"],
        "operators": ["__eq__", "__len__"],
        "properties": [], "class": [], "static": [],
    },
    ("desks", "Desk"): {
        "plain": ["__init__(self, family, *, tolls=None)", "set_toll(self, thing, toll)", "hold(self, thing)",
                  "leave(self, thing)", "put_lot(self, lot)", "drop_lot(self, lot)", "put(self, thing, family)",
                  "merge(self, names, size)", "turn(self)", "back(self)", "price_now(self)", "strain_now(self)",
                  "contacts_now(self)", "pair_now(self)", "play_now(self)"],
        "operators": ["__iter__", "__len__"],
        "properties": ["family_now", "tolls_now", "deeds"],
        "class": [], "static": [],
    },
    ("trials", "Trial"): {
        "plain": ["__init__(self, desk)"],
        "operators": ["__enter__", "__exit__"],
        "properties": [], "class": [], "static": [],
    },
}


ERRORS = {
    "Trouble": (), "BadNumber": ("word",), "BadAmount": ("word",), "BadSet": ("place",), "BadRow": ("place",),
    "BadLots": ("place",), "EmptyLot": ("place",), "NoLots": (), "BadFamily": ("place",), "BadThing": ("thing",),
    "BadNames": ("place",), "BadMix": ("place",), "BadPlay": ("word",), "BadTree": ("word",), "BadNet": ("place",),
    "BadStretch": ("place",), "BadDeed": ("word",), "OtherSize": ("size",), "Lost": ("thing", "word"),
    "Clash": ("thing",), "NotCover": ("lot",), "NotCouples": ("lot",), "NotOnce": ("name",), "NoWay": (),
    "NothingBack": (), "TooMany": ("limit",), "BadText": ("line", "word"),
}


class InterfaceTest(unittest.TestCase):
    """Everything listed exists where it is listed."""

    def test_functions(self):
        for module, entries in FUNCTIONS.items():
            found = importlib.import_module(f"shortbynarrow.{module}")
            for entry in entries:
                name, arguments = entry.split("(", 1)
                one = getattr(found, name)
                self.assertTrue(inspect.isfunction(one), entry)
                self.assertEqual(str(inspect.signature(one)), "(" + arguments, entry)
                self.assertEqual(one.__module__, found.__name__, entry)
                self.assertEqual(inspect.isgeneratorfunction(one), name in GENERATORS, entry)

    def test_errors(self):
        errors = importlib.import_module("shortbynarrow.errors")
        for name, arguments in ERRORS.items():
            found = getattr(errors, name)
            self.assertEqual(found.__bases__, (Exception,) if name == "Trouble" else (errors.Trouble,))
            values = list(range(5, 5 + len(arguments)))
            self.assertEqual(vars(found(*values)), dict(zip(arguments, values)), name)
            if values:
                self.assertEqual(vars(found(**dict(zip(arguments, values)))), dict(zip(arguments, values)), name)
        own = {name for name, value in vars(errors).items() if isinstance(value, type)}
        self.assertEqual(own, set(ERRORS))

    def test_class_values(self):
        cores = importlib.import_module("shortbynarrow.cores")
        self.assertEqual((cores.Break.KIND, cores.FanBreak.KIND, cores.EvenBreak.KIND), ("", "fan", "even"))
        trees = importlib.import_module("shortbynarrow.trees")
        self.assertTrue(issubclass(trees.Leaf, trees.Tree) and issubclass(trees.Vote, trees.Tree))

    def test_classes(self):
        for (module, name), kinds in CLASSES.items():
            found = getattr(importlib.import_module(f"shortbynarrow.{module}"), name)
            body = vars(found)
            self.assertEqual(found.__module__, f"shortbynarrow.{module}")
            for entry in kinds["plain"]:
                method, arguments = entry.split("(", 1)
                self.assertEqual(str(inspect.signature(body[method])), "(" + arguments, entry)
            for method in kinds["operators"]:
                self.assertTrue(inspect.isfunction(body[method]), method)
            for method in kinds["properties"]:
                self.assertIsInstance(body[method], property)
            for kind, wanted in (("class", classmethod), ("static", staticmethod)):
                for entry in kinds[kind]:
                    method, arguments = entry.split("(", 1)
                    self.assertIsInstance(body[method], wanted)
                    inner = inspect.signature(body[method].__func__)
                    self.assertEqual(str(inner), "(" + arguments, entry)


if __name__ == "__main__":
    unittest.main()
