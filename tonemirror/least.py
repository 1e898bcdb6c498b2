"""The least leading of a crowd into another one, and prices that show it (point 20)."""

from tonemirror.errors import NoLeading
from tonemirror.leadings import cost, square
from tonemirror.wheel import distance


def turned_round(tones):
    # At least one, because no tones are led into no tones too.
    return [tones[k:] + tones[:k] for k in range(max(1, len(tones)))]


def rank(n, one, seconds):
    leading = list(zip(one, seconds))
    return (cost(n, leading), square(n, leading), seconds)


def least_leading(n, one, other):
    if len(one) != len(other):
        raise NoLeading("a leading goes between crowds of as many tones")
    # A crossing could be exchanged for a lesser square at no more cost, so the least leading has none;
    # and without a crossing the second ones go once round the wheel in order, from any one of them on.
    best = min([rank(n, one, seconds) for seconds in turned_round(other)])
    return (best[0], list(zip(one, best[2])))


def more_than_own(n, pair, tone):
    return distance(n, pair[0], tone) - distance(n, pair[0], pair[1])


def lowered(n, leading, second_prices):
    found = []
    for pair in leading:
        # Its own price is among them, because its own tone costs no more than its own.
        bounds = [price + more_than_own(n, payer, pair[1]) for payer, price in zip(leading, second_prices)]
        found.append(min(bounds))
    return found


def prices(n, one, other):
    leading = least_leading(n, one, other)[1]
    second_prices = [0] * len(leading)
    # The two prices of a pair of the leading come to its distance. So a second one's price may be above
    # that of any other pair by no more than what that pair's first one would pay more to go there.
    # As the leading costs the least, no ring of pairs lowers itself, and a round for each pair is enough.
    for turn in range(len(leading)):
        second_prices = lowered(n, leading, second_prices)
    price_of = dict([(pair[1], price) for pair, price in zip(leading, second_prices)])
    firsts = tuple([distance(n, a, b) - price_of[b] for a, b in leading])
    return (firsts, tuple([price_of[tone] for tone in other]))
