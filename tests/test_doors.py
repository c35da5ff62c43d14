"""Points 1 and 2 at every door: tuples and lists, lists changed behind a call, lists returned, arguments kept."""

import copy
import importlib
import inspect
import itertools
import unittest

from shortbynarrow.cores import Break, EvenBreak, FanBreak, read_break
from shortbynarrow.desks import Desk
from shortbynarrow.errors import Trouble
from shortbynarrow.families import Family
from shortbynarrow.nets import Net
from shortbynarrow.plays import Play
from shortbynarrow.rows import Row
from shortbynarrow.shapes import fan, ring, votes
from shortbynarrow.stretches import Stretches
from shortbynarrow.trees import Leaf, Tree, Vote
from shortbynarrow.treetexts import tree_from, tree_text
from tests.test_interface import CLASSES, FUNCTIONS

S = Family.single()
F = Family(4, [(0, 1), (0, 2), (0, 3), (1, 2)])
HALF = Row([1, 1, 1, 1], 2)
TREE = tree_from("2(0 1 1(2 3))")
NET = Net(4, [(0, 1, 0), (0, 2, 1), (3, 1, 1), (2, 3, 0), (1, 2, 2)], 3)
KNOWN = Stretches([(1, 2), (1, 2), (1, 3), (0, 1)])

# for each function of the interface some calls: their arguments, with lists wherever lists are taken
CALLS = {
    "amounts": {
        "amount": [[[4, 6]], [5]], "plus": [[[1, 2], [1, 3]], [None, [1, 2]]], "times": [[[1, 2], [2, 3]]],
        "over": [[[1, 2], [2, 3]]], "apart": [[[1, 2], [2, 3]]], "at_most": [[[1, 2], [2, 3]]],
        "least": [[[[1, 2], None, [1, 3]]]], "greatest": [[[[1, 2], 3, [1, 3]]]],
    },
    "lots": {"set_of": [[[3, 1], 5]], "least_lots": [[[[3, 1], [1], [2, 4]]]], "blocker_lots": [[[[3, 1], [2, 1]]]]},
    "rows": {"row_of": [[[1, 2, 3], 3]], "whole_row": [[[1, 2, 3], 3]]},
    "texts": {"family_text": [[F]], "family_from": [["things 3\n0 1\n2\n"]]},
    "blockers": {"blocker": [[F]], "side_of": [[F, [2, 0]]], "private_lot": [[F, [2, 0], 2]], "quiet_sets": [[F]]},
    "parts": {"part": [[F, [3], [0]]], "left_out": [[F, [3, 1]]], "held": [[F, [3]]],
              "is_lost": [[F, [3], [0, 1]]], "parts_of": [[F]], "single_parts": [[F]]},
    "putting": {
        "put_in": [[votes(2, 2), [S, ring(3)]]], "place_of": [[[S, ring(3)], 1, 2]],
        "merged": [[F, [0, 1, 1, 0], 2]], "beside": [[S, ring(3)]], "both": [[S, ring(3)]],
        "renamed": [[F, [3, 2, 1, 0]]],
    },
    "shapes": {"votes": [[2, 4]], "ring": [[5]], "fan": [[5]], "four_points": [[]], "seven_lines": [[]],
               "block": [[2, 3]]},
    "lengths": {"short": [[F, [1, 2, 3, 4]]], "narrow": [[F, [1, 2, 3, 4]]], "shortest": [[F, [1, 1, 1, 1]]],
                "narrowest": [[F, [1, 1, 1, 1]]], "critical": [[F, [1, 2, 3, 4], 0]]},
    "filling": {"fill": [[[[1, 0, 2], [0, 1, 1]], [2, 3], [4, 5, 6]]]},
    "packings": {
        "packing": [[F, [1, 2, 3, 4]]], "cap": [[F, [1, 2, 3, 4]]], "cheapest_cover": [[F, [1, 2, 3, 4]]],
        "whole_packing": [[F, [1, 2, 3, 4]]], "whole": [[F, [1, 2, 3, 4]]],
        "total_of": [[[[[0, 1], [1, 2]], [[3], 2]]]], "row_of_packing": [[[[[1, 0], [1, 2]], [[3], 2]], 4]],
    },
    "products": {
        "fourfold": [[F, 1, [1, 2, 3, 4], [4, 3, 2, 1]]], "keeps": [[F, [9, 7], [1, 2, 3, 4], [4, 3, 2, 1]]],
        "keeps_at": [[F, 1, [9, 7], [1, 2, 3, 4], [4, 3, 2, 1]]],
        "worst_entries": [[F, 1, [9, 7], [1, 2, 3, 4], [4, 3, 2, 1]]],
    },
    "alone": {"alone": [[F, [[1, 0], [2, 0]]]], "two_mixes": [[ring(4), [[0, 1], [3, 2]]]]},
    "covers": {"is_cover": [[F, [1, 1, 0, 1]]], "tight_lots": [[F, [1, 1, 0, 1]]], "raised": [[F, [1, 1, 0, 1], 2]],
               "lowered": [[F, [1, 1, 1, 1]]], "is_corner": [[F, [1, 1, 0, 0]]]},
    "corners": {"corners_of": [[F]], "whole_corners": [[F]], "broken_corners": [[F]],
                "cheapest_corner": [[F, [1, 2, 3, 4]]], "bound_of": [[5]]},
    "mixes": {"mix_under": [[F, [1, 1, 0, 1]]], "stretch": [[F, [1, 1, 0, 1]]],
              "mix_of_corners": [[F, [1, 1, 1, 1]]]},
    "breakers": {"breaking": [[F, [0, 1, 0, 0]]], "breakers": [[F, [0, 1, 0, 0]]]},
    "cornerparts": {"corners_held": [[F, 1]], "lifted": [[F, [0, 1, 1, 0], 3], [F, [1, 1, 0, 0], 3]],
                    "dropped": [[F, [0, 1, 1, 1], 3]]},
    "cornerput": {"put_row": [[votes(2, 2), [S, ring(3)], [1, 0], [[1], [1, 1, 0]]]],
                  "put_corners": [[votes(2, 2), [S, ring(3)]]], "shares": [[votes(2, 2), [S, ring(3)], [1, 2, 3, 4]]]},
    "pricing": {
        "price": [[F, [1, 2, 3, 4]]], "best_pairs": [[F, [1, 2, 3, 4]]], "best_pair": [[F, [1, 2, 3, 4]]],
        "sum_of_pair": [[[1, 2], [3, 4], [5, 6]]], "price_limit": [[F, [1, 2, 3, 4], [4, 3, 2, 1]]],
    },
    "loads": {"loads_of": [[F]], "lean_loads": [[F]], "price_by": [[[[1, 2], [2, 1]], [3, 4]]],
              "rise": [[F, [1, 1, 1, 1], 0]], "greatest_rise": [[F, [1, 1, 1, 1], 0]]},
    "partprices": {
        "price_of_part": [[F, [1, 2, 3, 4], [3], [0]]], "lesser_part": [[F, [1, 2, 3, 4], 0]],
        "lesser_parts": [[F, [1, 2, 3, 4], [3, 0]]], "far_toll": [[F, [1, 2, 3, 4], [3, 0]]],
        "rests": [[F, [1, 2, 3, 4], 0]],
    },
    "putprices": {
        "put_price": [[votes(2, 2), [S, ring(3)], [1, 2, 3, 4]]],
        "put_prices_row": [[votes(2, 2), [S, ring(3)], [1, 2, 3, 4]]], "share_of": [[[S, ring(3)], [1, 2, 3, 4], 1]],
    },
    "pairs": {"is_pair": [[F, [1, 1, 0, 1], [1, 1, 1, 0]]], "some_family": [[[1, 1, 0], [1, 1, 1]]],
              "failing_set": [[[1, 0, 0], [0, 1, 0]]]},
    "strains": {"strain": [[F]], "is_calm": [[F]], "worst_pair": [[F]], "strain_of_part": [[F, [3], [0]]]},
    "faces": {"worst_lengths": [[F]], "worst_widths": [[F]], "pack_ratio": [[F, [1, 2, 3, 4]]],
              "lot_ratio": [[F, [1, 2, 3, 4]]], "widest_stretch": [[F]]},
    "bounds": {"strain_top": [[5]], "strain_bottom": [[5]], "least_broken": [[5]], "broken_family": [[5]],
               "is_votes": [[votes(2, 3)]], "size_bound": [[F]], "meeting_bound": [[F]], "holding_bound": [[F]]},
    "blocks": {"block_family": [[F, [1, 0, 2, 1], [1, 1, 1, 0]]], "block_sizes": [[F, [1, 0, 2, 1], [1, 1, 1, 0]]],
               "worst_blocks": [[F]]},
    "settling": {"is_settled": [[F, [1, 1, 0, 1], [1, 1, 1, 0]]], "settled_pairs": [[F, [1, 2, 3, 4]]],
                 "contrary_of": [[[1, 2, 3]]]},
    "answers": {
        "answers_from": [[F, [1, 1, 0, 0], [1, 2, 3, 4]], [ring(5), [1, 1, 0, 0, 0], [10, 10, 1, 2, 1]]],
        "last_answer": [[F, [1, 1, 0, 0], [1, 2, 3, 4]], [ring(5), [1, 1, 0, 0, 0], [10, 10, 1, 2, 1]]],
    },
    "bare": {"bare_play": [[F]], "raised_pair": [[F, 3, "left", HALF, HALF], [F, 3, "held", [1, 0, 1, 0], [1, 0, 0, 0]]]},
    "breaks": {"is_least_break": [[F]], "find_break": [[F]], "breaking_singles": [[F]]},
    "cores": {"hub_of": [[fan(4)]], "read_break": [[ring(5)]]},
    "breakprices": {"break_price": [[read_break(fan(4)), [1, 2, 3, 4]]],
                    "put_break_price": [[read_break(ring(3)), [S, ring(3), S], [1, 2, 3, 4, 5]]]},
    "couples": {"is_couples": [[F]], "odd_ring": [[F]], "cliques": [[F]], "greatest_quiet": [[F]], "hueing": [[F]],
                "joined": [[F, ring(3)]]},
    "hues": {"hues": [[F]], "quiet_mix": [[F]], "couple_price": [[F, [1, 2, 3, 4]]], "couple_strain": [[F]],
             "half_row": [[F]], "hue_bound": [[F]]},
    "votes": {"vote_short": [[2, [4, 1, 2]]], "vote_cap": [[2, [4, 1, 2]]], "vote_price": [[2, [4, 1, 2]]],
              "vote_contacts": [[2, [4, 1, 2]]], "vote_strain": [[2, 4]], "vote_rises": [[2, 4]],
              "vote_product": [[2, 4, 3]], "vote_corners": [[2, 4]]},
    "treetexts": {"tree_text": [[TREE]], "tree_from": [["2(0 1 1(2 3))"]]},
    "treevalues": {"tree_short": [[TREE, [1, 2, 3, 4]]], "tree_narrow": [[TREE, [1, 2, 3, 4]]],
                   "tree_cap": [[TREE, [1, 2, 3, 4]]], "tree_price": [[TREE, [1, 2, 3, 4]]],
                   "tree_contacts": [[TREE, [1, 2, 3, 4]]], "tree_strain": [[TREE]], "tree_least": [[TREE]],
                   "level_tree": [[[[2, 3], [1, 2]]]]},
    "ways": {"ways_of": [[NET]], "cuts_of": [[NET]], "net_family": [[NET]], "distances": [[NET, [2, 1, 1]]],
             "cut_at": [[NET, [2, 1, 1], [3, 2]]]},
    "contacts": {"is_enough": [[F, [1, 2, 1, 1]]], "contacts": [[F, [1, 2, 3, 4]], [F]],
                 "enough_row": [[F, [1, 2, 3, 4]]], "lean_rows": [[F]], "pair_weights": [[F, [1, 2, 3, 4]]],
                 "least_links": [[F]], "contact_mix": [[F]]},
    "formulas": {"net_of_tree": [[tree_from("2(0 1(1 2))"), 3]], "tree_of_lots": [[F]], "tree_of_blocker": [[F]],
                 "contact_sides": [[F]]},
    "putnets": {"put_nets": [[Net(2, [(0, 1, 1), (0, 1, 0)], 2), [Net(2, [(0, 1, 0)], 1), Net(3, [(0, 1, 0)], 3)]]]},
    "unseen": {
        "price_ends": [[F, KNOWN]], "row_with_price": [[F, KNOWN, [1, 2]]],
        "end_row": [[F, KNOWN, [1, 0, 2, 1], [0, 1, 1, 1]]], "regret": [[F, KNOWN, [1, 1, 0, 1], [1, 1, 1, 0]]],
        "worst_row": [[F, KNOWN, [1, 1, 0, 1], [1, 1, 1, 0]]], "is_safe": [[F, KNOWN, [1, 1, 0, 1], [1, 1, 1, 0]]],
        "safe_pairs": [[F, KNOWN]],
    },
    "deeds": {"deed_text": [[["put lot", [2, 0]]], [["merge", [0, 1], 2]]]},
    "trials": {"tried": [[Desk(F), [["put lot", [3, 1]], ["merge", [0, 1, 1, 0], 2], ["hold", 9], ["turn"]]]]},
    "listings": {"listing": [[Desk(F, tolls=[1, 2, 3, 4])]]},
}
# for each class some objects, and calls of their methods
MAKES = {
    "Row": [[[2, 4, 1], 6]], "Family": [[4, [[1, 0], [2, 3], [3, 0]]]], "Play": [[F, [1, 1, 0, 0], [1, 1, 0, 1]]],
    "Break": [[ring(5)]], "FanBreak": [[fan(5)]], "EvenBreak": [[ring(5)]], "Leaf": [[3]],
    "Vote": [[2, [Leaf(0), Leaf(1), Vote(1, [Leaf(2), Leaf(3)])]]], "Net": [[3, [[1, 0, 0], [2, 1, 1]], 2]],
    "Stretches": [[[[1, 2], [0, 3], [4, 4]]]], "Desk": [[F]],
}
METHODS = {
    "Row": [("at", [[2, 0]]), ("total", []), ("dot", [[1, 2, 3]]), ("scaled", [[2, 3]]), ("with_entry", [1, [5, 7]]),
            ("covers_row", [[0, 1, 0]]), ("support", [])],
    "Family": [("holds", [[3, 1, 2]]), ("least_size", []), ("sizes", []), ("lots_at", [3]),
               ("__call__", [[S, ring(3), S, votes(2, 2)]])],
    "Play": [("mean", []), ("better", []), ("is_steady", []), ("is_bare", []), ("mixes", [])],
    "Break": [("ratio", [])], "FanBreak": [("ratio", [])], "EvenBreak": [("ratio", []), ("excess", [])],
    "Leaf": [("leaves", []), ("__call__", [[3, 5]])],
    "Vote": [("leaves", []), ("is_once", []), ("depth", []), ("family_on", [5]), ("leaf_row", [5]), ("numbered", []),
             ("lot_count", []), ("__call__", [[3, 1]])],
    "Net": [("row_of_contacts", []), ("is_single", [])],
    "Stretches": [("lows", []), ("highs", []), ("seen", []), ("agrees", [[1, 1, 4]]), ("asked", [1, 2])],
    "Desk": [("price_now", []), ("strain_now", []), ("contacts_now", []), ("pair_now", []), ("play_now", [])],
}
KINDS = {"Row": Row, "Family": Family, "Play": Play, "Break": Break, "FanBreak": FanBreak, "EvenBreak": EvenBreak,
         "Leaf": Leaf, "Vote": Vote, "Net": Net, "Stretches": Stretches, "Desk": Desk}


def plain(value):
    """Return a value with own objects told by what is seen of them."""
    if isinstance(value, (list, tuple)):
        return (type(value).__name__, *[plain(entry) for entry in value])
    if isinstance(value, Row):
        return ("Row", value.tops, value.bottom)
    if isinstance(value, Family):
        return ("Family", value.things, value.lots)
    if isinstance(value, Tree):
        return ("Tree", tree_text(value))
    if isinstance(value, Net):
        return ("Net", value.points, value.links, value.size)
    if isinstance(value, Stretches):
        return ("Stretches", value.ends)
    if isinstance(value, Play):
        return ("Play", plain([value.family, value.ours, value.theirs, value.costs]))
    if isinstance(value, Break):
        return (value.KIND, plain([value.family, value.x, value.y, value.size, value.ratio()]))
    if isinstance(value, Desk):
        return ("Desk", plain([value.family_now, value.tolls_now, value.deeds, value.price_now()]))
    if isinstance(value, Trouble):
        return (type(value).__name__, vars(value))
    if hasattr(value, "__iter__") and not isinstance(value, (str, dict)):
        return ("iterated", *[plain(entry) for entry in value])
    return value


def as_tuples(value):
    """Return a value with tuples in the place of all lists."""
    if isinstance(value, (list, tuple)):
        return tuple(as_tuples(entry) for entry in value)
    return value


def as_lists(value):
    """Return a value with new lists in the place of all lists and tuples."""
    if isinstance(value, (list, tuple)):
        return [as_lists(entry) for entry in value]
    return value


def begun(value):
    """Return the value; of a generator, which reads its arguments at its first step, this one is done."""
    if inspect.isgenerator(value):
        return itertools.chain([next(value)], value)
    return value


def spoil(value):
    """Change all lists in a value, the inner ones first."""
    if isinstance(value, list):
        for entry in value:
            spoil(entry)
        value.reverse()
        value.append("spoiled")


class DoorsTest(unittest.TestCase):
    """All functions and methods of the interface."""

    def doors(self):
        """Yield (word, callable, arguments) for each call."""
        for module, names in CALLS.items():
            for name, calls in names.items():
                found = getattr(importlib.import_module(f"shortbynarrow.{module}"), name)
                for arguments in calls:
                    yield f"{module}.{name}", found, arguments
        for name, calls in METHODS.items():
            for made in MAKES[name]:
                for method, arguments in calls:
                    yield f"{name}.{method}", getattr(KINDS[name](*as_lists(made)), method), arguments
            for made in MAKES[name]:
                yield name, KINDS[name], made

    def test_every_door_is_tried(self):
        for module, entries in FUNCTIONS.items():
            self.assertEqual(set(CALLS[module]), {entry.split("(")[0] for entry in entries}, module)
        deeds = {"set_toll", "hold", "leave", "put_lot", "drop_lot", "put", "merge", "turn", "back"}
        for (_, name), kinds in CLASSES.items():
            methods = {entry.split("(")[0] for entry in kinds["plain"]} - {"__init__", "pair_of"} - deeds
            if name not in ("Tree", "Trial"):
                self.assertLessEqual(methods, {method for method, _ in METHODS[name]}, name)

    def test_lists_and_tuples(self):
        for word, call, arguments in self.doors():
            with self.subTest(word):
                due = plain(call(*as_lists(arguments)))
                self.assertEqual(plain(call(*as_tuples(arguments))), due)
                # equal arguments give equal answers
                self.assertEqual(plain(call(*as_lists(arguments))), due)

    def test_arguments_stay_as_they_were(self):
        for word, call, arguments in self.doors():
            with self.subTest(word):
                given = as_lists(arguments)
                before = plain(given)
                plain(call(*given))
                self.assertEqual(plain(given), before)

    def test_lists_changed_behind_a_call(self):
        for word, call, arguments in self.doors():
            with self.subTest(word):
                due = plain(call(*as_lists(arguments)))
                given = as_lists(arguments)
                found = begun(call(*given))
                spoil(given)
                self.assertEqual(plain(found), due)

    def test_lists_returned_and_changed(self):
        for word, call, arguments in self.doors():
            with self.subTest(word):
                found = call(*as_lists(arguments))
                due = plain(call(*as_lists(arguments)))
                spoil(found)
                if isinstance(found, tuple):
                    for entry in found:
                        spoil(entry)
                self.assertEqual(plain(call(*as_lists(arguments))), due)

    def test_keyword_rows(self):
        tolls = [1, 2, 3, 4]
        for module, name, arguments, word in (
                ("products", "keeps", [F, 1, [1, 1, 1, 1], [1, 1, 1, 1]], "tolls"),
                ("products", "keeps_at", [F, 0, 1, [1, 1, 1, 1], [1, 1, 1, 1]], "tolls"),
                ("products", "worst_entries", [F, 0, 1, [1, 1, 1, 1], [1, 1, 1, 1]], "tolls"),
                ("pricing", "price_limit", [F, [1, 1, 1, 1], [1, 1, 1, 1]], "tolls"),
                ("settling", "is_settled", [F, [1, 1, 0, 1], [1, 1, 1, 0]], "tolls"),
                ("plays", "Play", [F, [1, 1, 0, 0], [1, 1, 0, 1]], "costs"), ("desks", "Desk", [F], "tolls")):
            call = getattr(importlib.import_module(f"shortbynarrow.{module}"), name)
            given = list(tolls)
            found = call(*arguments, **{word: given})
            self.assertEqual(given, tolls)
            due = plain(call(*arguments, **{word: Row(tolls)}))
            spoil(given)
            self.assertEqual(plain(found), due)
            self.assertEqual(plain(call(*arguments, **{word: tuple(tolls)})), due)
        for call, arguments in ((Play.worst, [F]), (Play.of_pair, [F, [1, 0, 1, 0], [1, 1, 0, 0]])):
            given = [1, 1, 1, 1]
            found = call(*arguments, costs=given)
            spoil(given)
            self.assertEqual(plain(found), plain(call(*arguments, costs=(1, 1, 1, 1))))

    def test_desks(self):
        deeds = [["put lot", [3, 1]], ["drop lot", [2, 0]], ["merge", [0, 1, 1, 2], 3], ["put", 0, votes(2, 2)]]
        one, two = Desk(F), Desk(F)
        for deed in deeds:
            first, second = copy.deepcopy(deed[1:]), as_tuples(deed[1:])
            name = {"put lot": "put_lot", "drop lot": "drop_lot"}.get(deed[0], deed[0])
            self.assertEqual(getattr(one, name)(*first), getattr(two, name)(*second))
            self.assertEqual(plain(first), plain(deed[1:]))
            spoil(first)
        self.assertEqual(plain(one), plain(two))
        for _ in deeds:
            self.assertEqual(one.back(), two.back())
        self.assertEqual(plain(one), plain(Desk(F)))


if __name__ == "__main__":
    unittest.main()
