"""What the tests of cubes, papers, rules and derivations share: the document's words, worked out slowly."""

import itertools
import math
import random
from fractions import Fraction

from checking import all_lots, as_number, fraction, other_taps, part_places, plain, plain_weights

ABCD = ("a", "b", "c", "d")
C = (ABCD, ((("a",), -1), (("a", "b"), 1), (("a", "c"), 1), (("a", "d"), 1), (("b",), -1), (("c",), -1), (("d",), -1)))


def worth_of(value):
    """A fraction as it is, or what a number is worth."""
    return value if isinstance(value, Fraction) else fraction(value)


class Cube:
    """The cube of directions [(lot, weight)], weights fractions, as [41] tells it."""

    def __init__(self, taps, sort, directions):
        self.taps = taps
        self.sort = sort
        self.lots = [lot for lot, _ in directions]
        self.weights = [weight for _, weight in directions]
        self.corners = list(itertools.product((0, 1), repeat=len(directions)))
        pairs = [(low, high) for low in self.corners for high in self.corners
                 if low != high and all(one <= other for one, other in zip(low, high))]
        self.spans = [pair for pair in pairs if sort == "hubs" or sum(pair[1]) - sum(pair[0]) == 1]

    def corner(self, tap):
        return tuple(int(tap in lot) for lot in self.lots)

    def face(self, span):
        low, high = span
        return [corner for corner in self.corners
                if all(corner[at] == low[at] or low[at] != high[at] for at in range(len(low)))]

    def cost(self, span):
        return sum((weight for weight, low, high in zip(self.weights, *span) if low != high), Fraction(0))

    def faults(self, targets, paper):
        """What is wrong with a paper by [42], for targets [(ones, zeros, weight)] of taps."""
        if type(paper) is not tuple or len(paper) != len(targets):
            return ["form"]
        faults = []
        told = []
        for (ones, zeros, _), row in zip(targets, paper):
            if type(row) is not tuple or len(row) != len(self.corners):
                return ["form of a row"]
            told.append(dict(zip(self.corners, [fraction(number) for number in row])))
            faults.extend(("tap", tap) for tap in ones if told[-1][self.corner(tap)] != 1)
            faults.extend(("tap", tap) for tap in zeros if told[-1][self.corner(tap)] != 0)
            faults.extend("range" for number in told[-1].values() if not 0 <= number <= 1)
        for span in self.spans:
            total = Fraction(0)
            for (_, _, weight), row in zip(targets, told):
                total += weight * self.step(span, row, faults)
            if total > self.cost(span):
                faults.append(("cost", span))
        return faults

    def step(self, span, row, faults):
        low, high = span
        if self.sort == "pipes":
            return abs(row[high] - row[low])
        if self.sort == "leads":
            if row[high] < row[low]:
                faults.append(("down", span))
            return row[high] - row[low]
        numbers = [row[corner] for corner in self.face(span)]
        return max(numbers) - min(numbers)


def cube_of(claim, sort):
    """The cube of a claim and its targets, by its plain form."""
    weights = plain_weights(claim, sort)
    cube = Cube(claim[0], sort, [(lot, weight) for lot, weight in weights.items() if weight > 0])
    return cube, [(lot, other_taps(claim[0], lot), -weight) for lot, weight in weights.items() if weight < 0]


def paper_faults(claim, sort, paper):
    cube, targets = cube_of(claim, sort)
    return cube.faults(targets, paper)


def least_over_sides(net, source, target):
    """The least cost of a side, counted over all of them, in wholes."""
    places = sorted({*net[0], *(place for part in net[1] for place in part_places(part))})
    bit = {place: 1 << at for at, place in enumerate(places)}
    common = 1
    for part in net[1]:
        common *= fraction(part[-1]).denominator // math.gcd(common, fraction(part[-1]).denominator)
    parts = []
    for part in net[1]:
        masks = [bit[place] for place in part_places(part)]
        parts.append((part[0], masks[0], masks[-1], sum(masks), int(fraction(part[-1]) * common)))
    free = [bit[place] for place in places if place not in source and place not in target]
    best = None
    for many in itertools.product((0, 1), repeat=len(free)):
        side = sum(bit[place] for place in source) + sum(one for one, taken in zip(free, many) if taken)
        cost = 0
        for kind, first, second, mask, width in parts:
            inside = side & mask
            if kind == "lead":
                if side & first and not side & second:
                    cost += width
            elif inside and inside != mask:
                cost += width
        best = cost if best is None or cost < best else best
    return Fraction(best, common)


def counted_worth(claim, net):
    """The worth of a claim, its walls counted over all sides."""
    return sum((fraction(weight) * least_over_sides(net, lot, other_taps(net[0], lot)) for lot, weight in claim[1]),
               Fraction(0))


def lessened(claim, lot, share):
    """The claim, its terms as they stand, less share times the wall of the lot."""
    weights = {one: fraction(weight) for one, weight in claim[1]}
    weights[lot] = weights.get(lot, 0) - worth_of(share)
    return claim_with(claim[0], weights)


def claim_with(taps, weights):
    """The claim of fractions by lot, zeros left out."""
    return (taps, tuple((lot, as_number(weights[lot])) for lot in sorted(weights) if weights[lot] != 0))


def step_weights(taps, step):
    """The weights by lot of which the worth of a step is made, as [52] says it."""
    weights = {lot: Fraction(1) for lot in step}
    if len(step) == 2:
        for lot in (set(step[0]) & set(step[1]), set(step[0]) | set(step[1])):
            key = tuple(sorted(lot))
            if 0 < len(key) < len(taps):
                weights[key] = weights.get(key, 0) - 1
    return weights


def sum_weights(taps, weighted, sort):
    """The sum of [(weights by lot, factor)], at plain lots for pipes and hubs, zeros left out."""
    found = {}
    for weights, factor in weighted:
        for lot, weight in weights.items():
            key = lot if sort == "leads" else plain(taps, lot)
            found[key] = found.get(key, 0) + worth_of(factor) * worth_of(weight)
    return {lot: found[lot] for lot in sorted(found) if found[lot] != 0}


def steps_of(taps, way):
    """All steps of the taps."""
    lots = all_lots(taps)
    pairs = [(one, other) for one in lots for other in lots
             if one < other and not set(one) <= set(other) and not set(other) <= set(one)]
    return pairs + ([(lot,) for lot in lots] if way == "free" else [])


def rule_faults(taps, way, rule):
    """The steps whose worth in a dict is below 0, over all lots; the keys must be just the right ones."""
    lots = all_lots(taps)
    if set(rule) != {lot if way == "free" else plain(taps, lot) for lot in lots}:
        return ["keys"]
    told = {lot: fraction(rule[lot if way == "free" else plain(taps, lot)]) for lot in lots}
    told[()] = told[taps] = Fraction(0)
    faults = [lot for lot in lots if way == "free" and told[lot] < 0]
    for one in lots:
        for other in lots:
            both = tuple(sorted(set(one) & set(other)))
            either = tuple(sorted(set(one) | set(other)))
            if told[one] + told[other] < told[both] + told[either]:
                faults.append((one, other))
    return faults


def holding_claim(draw, taps, sort, most=3):
    """A claim that holds: a sum of steps, multiplied, and for pipes also of the claim of four lots; few greater terms."""
    while True:
        weights = {}
        for _ in range(draw.randint(1, 2)):
            factor = draw.choice((1, 2, Fraction(1, 2), Fraction(5, 3)))
            if sort == "pipes" and len(taps) >= 4 and draw.random() < 0.4:
                names = dict(zip(ABCD, draw.sample(taps, 4)))
                found = {tuple(sorted(names[tap] for tap in lot)): weight for lot, weight in C[1]}
                if len(taps) > 4:
                    rest = [tap for tap in taps if tap not in names.values()]
                    found = {tuple(sorted((*lot, *(rest if names["d"] in lot else ())))): weight
                             for lot, weight in found.items()}
            else:
                step = draw.choice(steps_of(taps, "free" if sort == "leads" else "even"))
                found = step_weights(taps, step)
            for lot, weight in found.items():
                weights[lot] = weights.get(lot, 0) + factor * weight
        claim = claim_with(taps, weights)
        if sum(weight > 0 for weight in plain_weights(claim, sort).values()) <= most:
            return claim


def drawn_terms(draw, taps, sort, greater, lesser, kind="whole"):
    """A claim with so many greater and lesser terms at most, its lots drawn."""
    lots = [lot for lot in all_lots(taps) if sort == "leads" or plain(taps, lot) == lot]
    chosen = draw.sample(lots, min(len(lots), greater + lesser))
    weights = {}
    for at, lot in enumerate(chosen):
        if kind == "whole":
            weight = Fraction(draw.randint(1, 6))
        elif kind == "fraction":
            weight = Fraction(draw.randint(1, 12), draw.randint(1, 7))
        else:
            weight = Fraction(draw.randint(1, 10 ** 29), draw.randint(1, 10 ** 29))
        key = lot if sort == "leads" or draw.random() < 0.6 else other_taps(taps, lot)
        weights[key] = weight * (3 if at < greater and draw.random() < 0.5 else 1) * (1 if at < greater else -1)
    return claim_with(taps, weights)


def generator(seed):
    return random.Random(seed)
