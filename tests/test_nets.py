"""Nets: refusals, what they tell, and rings, orders and cuts against a count of all."""

import random
import unittest
from itertools import combinations, permutations

from firstmade.errors import NoName, NoNet, TooMany
from firstmade.nets import Net
from tests.odd_values import Alike, Touchy, odd_values


def all_rings(needs):
    """Every ring of the needs, from each of its values."""
    rows = [row for many in range(1, len(needs) + 1) for row in permutations(needs, many)]
    return [list(row) for row in rows
            if all(row[(at + 1) % len(row)] in needs[row[at]] for at in range(len(row)))]


def all_pairs(needs):
    return [(name, need) for name in sorted(needs) for need in needs[name]]


def less(needs, cut):
    return {name: [need for need in needs[name] if (name, need) not in cut] for name in needs}


def in_rings(needs):
    return {(row[at], row[(at + 1) % len(row)]) for row in all_rings(needs) for at in range(len(row))}


def fewest_cuts(needs):
    pairs = all_pairs(needs)
    for many in range(len(pairs) + 1):
        cuts = [cut for cut in combinations(pairs, many) if not all_rings(less(needs, cut))]
        if cuts:
            return cuts
    return None


def reached_from(needs, name):
    found = set(needs[name])
    for _ in needs:
        found |= {further for need in found for further in needs[need]}
    return sorted(found)


def told_order(needs):
    placed = []
    while len(placed) < len(needs):
        ready = sorted(name for name in needs if name not in placed and set(needs[name]) <= set(placed))
        if not ready:
            return None
        placed.append(ready[0])
    return placed


def small_nets():
    """All needs of two values, in all orders, and all of three, in one order each."""
    def sorts(names):
        return [row for many in range(len(names) + 1) for row in permutations(names, many)]

    rows = [{"a": one} for one in sorts("a")]
    rows += [{"b": two, "a": one} for one in sorts("ab") for two in sorts("ab")]
    picks = [row for many in range(4) for row in combinations("cab", many)]
    rows += [{"b": two, "c": three, "a": one} for one in picks for two in picks for three in picks]
    return rows


def large_nets():
    """Some needs of four and five values, thin and thick ones."""
    source = random.Random(5)
    rows = []
    for many in (4, 5):
        for share in (0.15, 0.25, 0.35, 0.5, 0.8) * 8:
            names = ["d", "b", "e", "a", "cc"][:many]
            needs = {}
            for name in names:
                row = [need for need in names if source.random() < share]
                source.shuffle(row)
                needs[name] = row
            rows.append(needs)
    return rows


class NetCase(unittest.TestCase):
    def no_net(self, name, call, *args):
        with self.assertRaises(NoNet) as caught:
            call(*args)
        self.assertIs(caught.exception.name, name)

    def no_name(self, name, call, *args):
        with self.assertRaises(NoName) as caught:
            call(*args)
        self.assertIs(caught.exception.name, name)


class TestRefusals(NetCase):
    def test_no_dict(self):
        for value in odd_values() + [[("a", ())], "a", Net({"a": ()})]:
            if not isinstance(value, dict):
                self.no_net(None, Net, value)
                self.no_net(None, lambda: Net(needs=value))

    def test_one_to_five_keys(self):
        self.no_net(None, Net, {})
        for many in range(1, 9):
            needs = {name: () for name in "abcdefgh"[:many]}
            if many <= 5:
                self.assertEqual(len(Net(needs)), many)
            else:
                self.no_net(None, Net, needs)

    def test_keys_are_names(self):
        for key in (None, True, 0, 1, "", " ", "A", "aB", "a1", "a b", "a=b", "abcdefghi", b"a", (), ("a",)):
            self.no_net(None, Net, {key: ()})
            self.no_net(None, Net, {"a": (), key: (), "b": ()})
            self.no_net(None, Net, {"a": "wrong", key: ()})
        self.assertEqual(Net({"abcdefgh": ()}).names(), ["abcdefgh"])

    def test_keys_ahead_of_needs(self):
        self.no_net(None, Net, {"a": None, "b": (), "c": (), "d": (), "e": (), "f": ()})

    def test_needs_are_lists_or_tuples_of_unlike_names_of_the_net(self):
        wrong = [value for value in odd_values() if not isinstance(value, (list, tuple))]
        wrong += ["a", "b", "ab", {"b": 1}, {"b"}, iter(["b"]), ("c",), ["c"], ("b", "b"), ["a", "b", "a"],
                  ("b", None), ["b", 1], (True,), [["b"]], (("b",),), ("",), ("B",), ("b", "c"), ("c", "b"), (b"b",)]
        wrong += [[value] for value in odd_values()] + [("b", value) for value in odd_values()]
        for value in wrong:
            for needs in ({"a": (), "b": value}, {"b": value, "a": ("b",)}):
                self.no_net("b", Net, needs)

    def test_the_first_name_ascending(self):
        self.no_net("b", Net, {"d": None, "b": ("x",), "c": 5, "a": ["d"]})
        self.no_net("ab", Net, {"b": "b", "ab": "b", "c": "b"})
        self.no_net("a", Net, {"c": (), "b": None, "a": ("a", "a")})

    def test_needs_of_all_kinds_that_are_right(self):
        net = Net({"b": ["a", "b"], "a": (), "c": ("c", "a", "b")})
        self.assertEqual((net["a"], net["b"], net["c"]), ((), ("a", "b"), ("c", "a", "b")))
        self.assertEqual(Net(needs={"a": []})["a"], ())


class TestTelling(NetCase):
    def setUp(self):
        self.net = Net({"z": (), "x": ("y",), "y": ("z", "x")})

    def test_names_ascending(self):
        for rows in (self.net.names(), self.net.listed(), list(self.net), [name for name in self.net]):
            self.assertEqual(rows, ["x", "y", "z"])
        self.assertEqual(len(self.net), 3)

    def test_needs_of_a_name(self):
        self.assertEqual([self.net[name] for name in self.net], [("y",), ("z", "x"), ()])
        for value in ["w", "xy"] + odd_values():
            self.no_name(value, lambda: self.net[value])
            self.no_name(value, self.net.reaches, value)
            self.no_name(value, lambda: self.net.reaches(name=value))

    def test_in_tells_of_any_value(self):
        for name in ("x", "y", "z"):
            self.assertIs(name in self.net, True)
            self.assertIs(name not in self.net, False)
        for value in ["w", "xy"] + odd_values():
            self.assertIs(value in self.net, False)

    def test_what_was_handed_in_is_copied(self):
        needs = {"a": ["b"], "b": []}
        net = Net(needs)
        needs["a"].append("a")
        needs["b"] = ["a"]
        needs["c"] = []
        self.assertEqual((net.names(), net.pairs(), net.order()), (["a", "b"], [("a", "b")], ["b", "a"]))

    def test_returned_lists_are_new_ones(self):
        net = Net({"a": ("b", "c"), "b": ("a",), "c": ()})
        free = net.without(("b", "a"))
        for tell in (net.names, net.listed, net.pairs, net.ring, net.least_cuts, free.order,
                     lambda: net.reaches("a")):
            before = tell()
            tell().append("z")
            tell().clear()
            self.assertEqual(tell(), before)

    def test_pairs(self):
        self.assertEqual(self.net.pairs(), [("x", "y"), ("y", "z"), ("y", "x")])
        self.assertEqual(Net({"a": ()}).pairs(), [])
        for needs in small_nets() + large_nets():
            self.assertEqual(Net(needs).pairs(), all_pairs(needs))

    def test_equal_with_the_same_needs_in_order(self):
        same = Net({"x": ["y"], "y": ["z", "x"], "z": []})
        self.assertIs(self.net == same, True)
        self.assertIs(self.net != same, False)
        for needs in ({"x": ("y",), "y": ("x", "z"), "z": ()}, {"x": ("y",), "y": ("z",), "z": ()},
                      {"x": ("y",), "y": ("z", "x"), "z": (), "w": ()}, {"w": ("y",), "y": ("z", "w"), "z": ()}):
            self.assertIs(self.net == Net(needs), False)
            self.assertIs(Net(needs) == self.net, False)
            self.assertIs(self.net != Net(needs), True)

    def test_equal_only_to_nets(self):
        needs = {"x": ("y",), "y": ("z", "x"), "z": ()}
        for value in [needs, "x"] + [value for value in odd_values() if not isinstance(value, (Alike, Touchy))]:
            self.assertIs(self.net == value, False)
            self.assertIs(self.net != value, True)


class TestBoth(NetCase):
    def test_less_or_equal(self):
        net = Net({"a": ("b", "a"), "b": ("a",)})
        for needs in ({"a": ("b", "a"), "b": ("a",)}, {"a": ("a", "b"), "b": ("a",)}, {"a": ("b",), "b": ("a",)},
                      {"a": (), "b": ()}):
            self.assertIs(Net(needs) <= net, True)
        for needs in ({"a": ("b", "a"), "b": ("b",)}, {"a": ("b",), "b": ("a", "b")}, {"a": ("b",)} | {"b": (), "c": ()},
                      {"a": ()}, {"a": (), "c": ()}):
            self.assertIs(Net(needs) <= net, False)
        self.assertIs(net <= Net({"a": ("b", "a"), "b": ("a",), "c": ()}), False)
        self.assertIs(net <= Net({"a": ("b",), "b": ("a",)}), False)
        self.assertIs(net <= net, True)

    def test_or(self):
        one = Net({"d": ("b",), "b": ("d", "b")})
        other = Net({"c": (), "a": ("c",)})
        both = one | other
        self.assertEqual(both, Net({"a": ("c",), "b": ("d", "b"), "c": (), "d": ("b",)}))
        self.assertEqual(both, other | one)
        self.assertEqual(both.names(), ["a", "b", "c", "d"])
        self.assertEqual((one.names(), other.names()), (["b", "d"], ["a", "c"]))
        self.assertEqual(len(both | Net({"e": ("e",)})), 5)

    def test_or_with_common_names(self):
        one = Net({name: () for name in "dcb"})
        for needs, name in (({"d": (), "b": (), "a": ()}, "b"), ({"e": (), "d": (), "c": ()}, "c"),
                            ({"d": (), "e": (), "f": (), "a": (), "g": ()}, "d")):
            for left, right in ((one, Net(needs)), (Net(needs), one)):
                with self.assertRaises(NoNet) as caught:
                    left | right
                self.assertEqual(caught.exception.name, name)

    def test_or_with_too_many(self):
        one = Net({name: () for name in "abc"})
        self.no_net(None, lambda: one | Net({name: () for name in "xyz"}))
        self.no_net(None, lambda: Net({name: () for name in "vwxyz"}) | one)
        self.assertEqual(len(one | Net({"x": (), "y": ()})), 5)

    def test_without(self):
        net = Net({"a": ("c", "b", "a"), "b": ("a",), "c": ()})
        self.assertEqual(net.without(("a", "b")), Net({"a": ("c", "a"), "b": ("a",), "c": ()}))
        self.assertEqual(net.without(("b", "a"), ("a", "c"), ("a", "a")), Net({"a": ("b",), "b": (), "c": ()}))
        self.assertEqual(net.without(*net.pairs()), Net({"a": (), "b": (), "c": ()}))
        self.assertEqual(net.without(), net)
        self.assertEqual(net, Net({"a": ("c", "b", "a"), "b": ("a",), "c": ()}))

    def test_without_what_is_no_pair(self):
        net = Net({"a": ("b", "c"), "b": ("a",), "c": ()})
        wrong = odd_values() + [("a", "a"), ("c", "a"), ("b", "c"), ("x", "a"), ("a", "x"), ["a", "b"], "ab", ("a",),
                                ("a", "b", "c"), (("a", "b"),), ("a", None), (None, "a"), ("a", ["b"]), (["a"], "b")]
        for pair in wrong:
            self.no_net(pair, net.without, pair)
            self.no_net(pair, net.without, ("a", "b"), pair, ("b", "a"))
            self.no_net(pair, net.without, pair, None, ("z", "z"))
        self.assertEqual(net.pairs(), [("a", "b"), ("a", "c"), ("b", "a")])


class TestRings(NetCase):
    def test_the_example(self):
        net = Net({"x": ("y",), "y": ("x", "z"), "z": ()})
        self.assertEqual((net.ring(), net.order()), (["x", "y"], None))
        self.assertEqual(net.least_cuts(), [(("x", "y"),), (("y", "x"),)])
        self.assertEqual(net.without(("y", "x")).order(), ["z", "y", "x"])

    def test_rings(self):
        for needs in small_nets() + large_nets():
            rings = all_rings(needs)
            ring = Net(needs).ring()
            if not rings:
                self.assertIsNone(ring)
                continue
            shortest = [row for row in rings if len(row) == min(map(len, rings))]
            self.assertIn(ring, shortest)
            self.assertEqual(ring[0], min(row[0] for row in shortest))

    def test_a_value_that_needs_itself(self):
        net = Net({"a": ("b",), "b": ("a",), "c": ("c",)})
        self.assertEqual((net.ring(), net.order(), net.reaches("c")), (["c"], None, ["c"]))
        self.assertEqual(net.least_cuts(), [(("a", "b"), ("c", "c")), (("b", "a"), ("c", "c"))])

    def test_a_shortest_ring_not_the_first_one(self):
        net = Net({"a": ("b",), "b": ("c",), "c": ("a", "d"), "d": ("e",), "e": ("d",)})
        self.assertEqual(net.ring(), ["d", "e"])
        self.assertEqual(Net({"b": ("c", "a"), "c": ("d",), "d": ("b",), "a": ()}).ring(), ["b", "c", "d"])

    def test_of_equally_short_rings_the_one_that_is_met_first(self):
        self.assertEqual(Net({"a": ("c", "b"), "b": ("a",), "c": ("a",)}).ring(), ["a", "c"])
        self.assertEqual(Net({"a": ("b", "c"), "b": ("a",), "c": ("a",)}).ring(), ["a", "b"])
        net = Net({"a": ("c", "b"), "b": ("d",), "c": ("e",), "d": ("a",), "e": ("a",)})
        self.assertEqual(net.ring(), ["a", "c", "e"])

    def test_orders(self):
        for needs in small_nets() + large_nets():
            self.assertEqual(Net(needs).order(), told_order(needs))
        self.assertEqual(Net({"a": ("e",), "b": (), "c": ("a",), "d": (), "e": ("d",)}).order(),
                         ["b", "d", "e", "a", "c"])

    def test_reaches(self):
        for needs in small_nets() + large_nets():
            net = Net(needs)
            for name in needs:
                self.assertEqual(net.reaches(name), reached_from(needs, name))
        net = Net({"a": ("c",), "b": (), "c": ("d", "b"), "d": ("c",)})
        self.assertEqual([net.reaches(name) for name in net], [["b", "c", "d"], [], ["b", "c", "d"], ["b", "c", "d"]])

    def test_least_cuts(self):
        refused = 0
        for needs in small_nets() + large_nets():
            if len(in_rings(needs)) > 8:
                refused += 1
                with self.assertRaises(TooMany) as caught:
                    Net(needs).least_cuts()
                self.assertEqual(caught.exception.most, 8)
            else:
                self.assertEqual(Net(needs).least_cuts(), fewest_cuts(needs))
        self.assertGreater(refused, 1)

    def test_no_rings_need_no_cut(self):
        self.assertEqual(Net({"a": ()}).least_cuts(), [()])
        thick = Net({"a": (), "b": ("a",), "c": ("b", "a"), "d": ("a", "c", "b"), "e": ("d", "c", "b", "a")})
        self.assertEqual((len(thick.pairs()), thick.ring(), thick.least_cuts()), (10, None, [()]))

    def test_eight_pairs_in_rings_and_nine(self):
        eight = {"a": ("a", "b", "c"), "b": ("b", "a", "c"), "c": ("a", "b")}
        self.assertEqual(len(in_rings(eight)), 8)
        self.assertEqual(Net(eight).least_cuts(), fewest_cuts(eight))
        more = {"d": ("a", "b", "c"), **eight}
        self.assertEqual((len(in_rings(more)), len(all_pairs(more))), (8, 11))
        self.assertEqual(Net(more).least_cuts(), fewest_cuts(eight))
        nine = {**eight, "c": ("a", "b", "c")}
        with self.assertRaises(TooMany) as caught:
            Net(nine).least_cuts()
        self.assertEqual(caught.exception.most, 8)


if __name__ == "__main__":
    unittest.main()
