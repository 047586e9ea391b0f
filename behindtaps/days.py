"""Stories, which are nets on some days one behind the other, and claims about their days."""

from behindtaps.claims import summed
from behindtaps.errors import BadDayClaim, BadStory, BadTrend
from behindtaps.flows import what_a_lot_lets
from behindtaps.lots import are_taps, check_sort, is_lot, plain_lot_in
from behindtaps.nets import is_net
from behindtaps.numbers import is_less, is_number, is_whole, plus, sum_of_products

TRENDS = ("same", "closed", "opened", "any")
MOST_DAYS = 7


def is_story(value, trend):
    """Whether any value is a story of the trend."""
    check_trend(trend)
    return is_story_of(value, trend)


def is_day_claim(value):
    """Whether any value is a day claim."""
    if not isinstance(value, tuple) or len(value) != 2 or not are_taps(value[0]) or not isinstance(value[1], tuple):
        return False
    taps, terms = value
    if not all([is_day_term(taps, term) for term in terms]):
        return False
    return all([one[0] < other[0] for one, other in zip(terms, terms[1:])])


def plain_days(claim, sort):
    """The day claim with the plain lot in the place of each lot."""
    check_day_claim(claim)
    check_sort(sort)
    return plain_days_in(claim, sort)


def day_worth(claim, story):
    """What the day claim is worth in the story."""
    check_day_claim(claim)
    if not is_story_of(story, "any") or story[0][0] != claim[0] or len(story) <= last_day(claim):
        raise BadStory("it is a story with the taps and all the days of the day claim")
    lets = [what_a_lot_lets(story[day], lot) for (day, lot), _ in claim[1]]
    return sum_of_products([weight for _, weight in claim[1]], lets)


def turned_days(claim):
    """The day claim whose last day is the first one."""
    check_day_claim(claim)
    last = last_day(claim)
    return summed_days(claim[0], [((last - day, lot), weight) for (day, lot), weight in claim[1]])


def pressed_days(claim):
    """The day claim whose days are numbered anew, without gaps."""
    check_day_claim(claim)
    days = days_in(claim)
    return summed_days(claim[0], [((days.index(day), lot), weight) for (day, lot), weight in claim[1]])


def without_days(claim):
    """The claim in which each lot has the sum of its weights on all days."""
    check_day_claim(claim)
    return summed(claim[0], [(lot, weight) for (_, lot), weight in claim[1]])


def day_parts(claim):
    """The dict from each day of the terms to the claim of its terms."""
    check_day_claim(claim)
    found = {}
    for day in days_in(claim):
        found[day] = (claim[0], tuple([(lot, weight) for (own, lot), weight in claim[1] if own == day]))
    return found


def check_trend(trend):
    if not isinstance(trend, str) or trend not in TRENDS:
        raise BadTrend("a trend is same, closed, opened or any")


def check_day_claim(claim):
    if not is_day_claim(claim):
        raise BadDayClaim("a day claim is a pair of taps and ascending terms, each of a day with a lot, and a weight")


def is_day_term(taps, value):
    """Whether any value is a pair of a day with a lot of the taps, and a number that is not 0."""
    if not isinstance(value, tuple) or len(value) != 2 or not isinstance(value[0], tuple) or len(value[0]) != 2:
        return False
    (day, lot), weight = value
    return is_whole(day) and 0 <= day < MOST_DAYS and is_lot(taps, lot) and is_number(weight) and weight != 0


def is_story_of(value, trend):
    """As is_story, for what is surely a trend."""
    if not isinstance(value, tuple) or not 1 <= len(value) <= MOST_DAYS or not all([is_net(net) for net in value]):
        return False
    return all([is_next_day(one, other, trend) for one, other in zip(value, value[1:])])


def is_next_day(net, other, trend):
    """Whether the other net may come behind the net: with the same taps and the same parts but for their widths."""
    if net[0] != other[0] or [part[:-1] for part in net[1]] != [part[:-1] for part in other[1]]:
        return False
    return all([is_next_width(one[-1], width[-1], trend) for one, width in zip(net[1], other[1])])


def is_next_width(width, other, trend):
    """Whether the other width may come behind the width."""
    if trend == "closed":
        return not is_less(width, other)
    if trend == "opened":
        return not is_less(other, width)
    return trend == "any" or width == other


def days_in(claim):
    """The ascending list of the days of the terms."""
    return sorted(set([day for (day, _), _ in claim[1]]))


def last_day(claim):
    """The greatest day of the terms, 0 if there are none."""
    return max([0, *days_in(claim)])


def summed_days(taps, terms):
    """The day claim of terms that may come in any order and have a day with a lot more than once."""
    found = {}
    for key, weight in terms:
        found[key] = plus(found.get(key, 0), weight)
    return (taps, tuple([(key, found[key]) for key in sorted(found) if found[key] != 0]))


def plain_days_in(claim, sort):
    """As plain_days, of what are surely a day claim and a sort."""
    if sort == "leads":
        return claim
    return summed_days(claim[0], [((day, plain_lot_in(claim[0], lot)), weight) for (day, lot), weight in claim[1]])
