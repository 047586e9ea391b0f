"""Live houses: what is told about one network that nobody has seen, entry by entry."""

from itertools import combinations

from behindtaps.claims import are_claim_terms
from behindtaps.errors import BadNumber, BadTerms, Clash, NoEntry, TooMany
from behindtaps.facts import followed, follows
from behindtaps.leastsums import check_spoken_of
from behindtaps.lots import check_lot, check_sort, check_taps
from behindtaps.numbers import is_number, turned
from behindtaps.ranges import range_of, ranges, settled

MOST_ENTRIES = 15
MOST_ENTRIES_TO_CHOOSE_FROM = 6

# The fact that no net keeps: facts clash exactly if it follows from them.
NEVER = ((), 1)


class House:
    """Entries that agree, in order; told has them, changes all that was done, and taken what can be added again."""

    def __init__(self, taps, sort):
        check_taps(taps)
        check_sort(sort)
        self.taps = taps
        self.of_sort = sort
        self.told = []
        self.changes = []
        self.taken = []

    def tell(self, terms, bound):
        """Adds that the sum of the terms is not below the bound."""
        self.check_sum(terms, bound)
        self.put(("tell", terms, bound))

    def measure(self, lot, number):
        """Adds that this is the wall of the lot."""
        check_lot(self.taps, lot)
        if not is_number(number):
            raise BadNumber("a wall is measured as a number")
        self.put(("measure", lot, number))

    def back(self):
        """Takes the last entry away."""
        if len(self.told) == 0:
            raise NoEntry("there is no entry")
        self.taken.append(self.told.pop())
        self.changes.append(("back",))

    def again(self):
        """Adds the entry that was taken away last and has not been added again."""
        if len(self.taken) == 0:
            raise NoEntry("no entry was taken away")
        self.told.append(self.taken.pop())
        self.changes.append(("again",))

    def entries(self):
        """The list of the entries, in order."""
        return list(self.told)

    def facts(self):
        """The list of the facts of the entries, in order."""
        return facts_of(self.told)

    def log(self):
        """The list of all that changed the house, in order."""
        return list(self.changes)

    def copy(self):
        """A new house with the same entries and the same log."""
        house = House(self.taps, self.of_sort)
        house.told = list(self.told)
        house.changes = list(self.changes)
        house.taken = list(self.taken)
        return house

    def range_of(self, lot):
        """The pair of the least and the greatest wall of the lot."""
        return range_of(self.taps, self.facts(), self.of_sort, lot)

    def ranges(self):
        """The dict from each plain lot to its range."""
        return ranges(self.taps, self.facts(), self.of_sort)

    def settled(self):
        """The dict from each plain lot whose wall is settled to this wall."""
        return settled(self.taps, self.facts(), self.of_sort)

    def follows(self, terms, bound):
        """Whether it follows that the sum of the terms is not below the bound, and what shows it."""
        self.check_sum(terms, bound)
        return follows(self.taps, self.facts(), self.of_sort, (terms, bound))

    def net(self):
        """A net of the sort that keeps all facts."""
        return follows(self.taps, self.facts(), self.of_sort, NEVER)[1]

    def conflicts(self, terms, bound):
        """The ascending list of the least lots of entries that do not agree with this fact."""
        self.check_choice(terms, bound)
        return least_conflicts(self, (terms, bound))

    def ways_out(self, terms, bound):
        """The ascending list of the least lots of entries without which all others agree with this fact."""
        self.check_choice(terms, bound)
        found = least_conflicts(self, (terms, bound))
        return least_lots(len(self.told), lambda lot: all([meets(lot, conflict) for conflict in found]))

    def thinned(self):
        """A new house of those entries that do not follow from others that stay."""
        left = list(range(len(self.told)))
        for at, entry in enumerate(self.told):
            others = facts_of([self.told[other] for other in left if other != at])
            words = [follows(self.taps, others, self.of_sort, fact)[0] for fact in facts_of([entry])]
            if all([word == "follows" for word in words]):
                left.remove(at)
        house = House(self.taps, self.of_sort)
        for at in left:
            house.put(self.told[at])
        return house

    def check_sum(self, terms, bound):
        """Checks terms about the taps of the house and a bound."""
        if not are_claim_terms(self.taps, terms):
            raise BadTerms("terms are an ascending tuple of pairs of a lot and a number that is not 0")
        if not is_number(bound):
            raise BadNumber("a bound is a number")

    def check_choice(self, terms, bound):
        """Checks a fact which few entries should agree with."""
        self.check_sum(terms, bound)
        if len(self.told) > MOST_ENTRIES_TO_CHOOSE_FROM:
            raise TooMany(MOST_ENTRIES_TO_CHOOSE_FROM)
        check_spoken_of(self.taps, [*self.facts(), (terms, bound)], self.of_sort, NEVER[0])

    def put(self, entry):
        """Adds the entry if the entries with it agree."""
        if len(self.told) >= MOST_ENTRIES:
            raise TooMany(MOST_ENTRIES)
        answer = follows(self.taps, facts_of([*self.told, entry]), self.of_sort, NEVER)
        if answer[0] == "clash":
            raise Clash(answer[1])
        self.told.append(entry)
        self.changes.append(entry)
        self.taken = []

    def __eq__(self, other):
        if not isinstance(other, House):
            return False
        return self.taps == other.taps and self.of_sort == other.of_sort and self.told == other.told

    def __len__(self):
        return len(self.told)


def facts_of(entries):
    """The list of the facts that the entries give."""
    found = []
    for word, about, told in entries:
        if word == "tell":
            found.append((about, told))
        else:
            found.extend([(((about, 1),), told), (((about, -1),), turned(told))])
    return found


def least_lots(many, has):
    """The ascending list of the least lots of so many numbers that have a property; with more they keep it."""
    found = []
    for size in range(many + 1):
        for lot in combinations(list(range(many)), size):
            if not any([all([at in lot for at in fewer]) for fewer in found]) and has(lot):
                found.append(lot)
    return sorted(found)


def meets(lot, other):
    """Whether some number is in both lots."""
    return any([at in other for at in lot])


def least_conflicts(house, fact):
    """As conflicts, for a fact which few enough lots are spoken of in."""
    return least_lots(len(house.told), lambda lot: not agree(house, lot, fact))


def agree(house, lot, fact):
    """Whether the entries of these numbers agree with the fact."""
    facts = [*facts_of([house.told[at] for at in lot]), fact]
    return followed(house.taps, facts, house.of_sort, NEVER)[0] != "clash"
