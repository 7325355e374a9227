"""The cheapest further ties by which wishes come true."""

from alldrawn.basics import is_number
from alldrawn.errors import BadOffers, BadWishes
from alldrawn.flat import near_of, tells, wheels_in
from alldrawn.further import further
from alldrawn.nets import MOST_TIES, is_free, is_pair
from alldrawn.numbers import many
from alldrawn.rings import is_off, is_ring
from alldrawn.sides import as_land, sides

MOST_OFFERS = 4
MOST_WISHES = 3
MOST_PRICE = 9
MOST_FAR = 99
# However a drawing is turned about, it is not counted as one more.
MOST_OF_ONE = 2


def is_offer(net, value):
    """Whether any value is an offer: a tie that the net does not have, and a price."""
    if not isinstance(value, tuple) or len(value) != 2 or not is_free(net, value[0]):
        return False
    return is_number(value[1], MOST_PRICE + 1) and value[1] > 0


def check_offers(net, offers):
    """BadOffers, unless a value is an ascending tuple of one to four offers, no two between the same two places."""
    if not isinstance(offers, tuple) or not 1 <= len(offers) <= MOST_OFFERS:
        raise BadOffers(offers)
    if not all([is_offer(net, offer) for offer in offers]) or list(offers) != sorted(offers):
        raise BadOffers(offers)
    if len(set([tuple(sorted(tie)) for tie, _ in offers])) < len(offers):
        raise BadOffers(offers)


def is_wish(net, value):
    """Whether any value is a wish."""
    if tells(value, "together", 4) or tells(value, "apart", 4):
        _, ring, one, other = value
        return is_ring(net, ring) and is_off(net, ring, one) and is_off(net, ring, other)
    if tells(value, "always", 2) or tells(value, "never", 2):
        return is_ring(net, value[1])
    if tells(value, "far", 4):
        return is_pair(net, value[1:3]) and is_number(value[3], MOST_FAR + 1)
    return tells(value, "one", 1)


def check_wishes(net, wishes):
    """BadWishes, unless a value is a tuple of one to three wishes."""
    if not isinstance(wishes, tuple) or not 1 <= len(wishes) <= MOST_WISHES:
        raise BadWishes(wishes)
    if not all([is_wish(net, wish) for wish in wishes]):
        raise BadWishes(wishes)


def price_of(choice):
    """What a choice costs."""
    return sum([price for _, price in choice])


def choices_of(offers):
    """All choices of some offers, in sequence."""
    found = [()]
    for offer in offers:
        found = found + [choice + (offer,) for choice in found]
    return sorted(found, key=lambda choice: (price_of(choice), len(choice), choice))


def changed_nets(net, offers):
    """The choices that count, in sequence, each with the changed net: pairs (choice, net)."""
    found = []
    for choice in choices_of(offers):
        if len(net.ties) + len(choice) <= MOST_TIES:
            changed = net
            for tie, _ in choice:
                changed = changed + tie
            if wheels_in(near_of(changed)):
                found.append((choice, changed))
    return found


def comes_true(net, wish):
    """Whether a wish comes true for a net, which has a drawing."""
    word = wish[0]
    if word == "one":
        return many(net) <= MOST_OF_ONE
    if word == "far":
        _, one, other, number = wish
        return not net.tied(one, other) and further(net, one, other)[0] >= number
    if word in ("always", "never"):
        return as_land(net, wish[1])[0] == word
    _, ring, one, other = wish
    return sides(net, ring, one, other)[0] == word


def cheapest(net, offers, wishes):
    """The first choice that counts by which all wishes come true: BadOffers, BadWishes.

    ("choice", price, choice, reasons), or ("none", reasons) if there is none.
    """
    check_offers(net, offers)
    check_wishes(net, wishes)
    reasons = ()
    for choice, changed in changed_nets(net, offers):
        failed = [number for number, wish in enumerate(wishes) if not comes_true(changed, wish)]
        if not failed:
            return "choice", price_of(choice), choice, reasons
        reasons = reasons + ((choice, failed[0]),)
    return "none", reasons
