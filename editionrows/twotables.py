"""Two tables beside one another: pairs of editions, one of each, and which of them go together."""

from editionrows.covers import MOST_COVERED, companions, go_together, least_parted, live_ones
from editionrows.errors import BadPair, TooMany
from editionrows.histories import is_edition
from editionrows.values import is_list


def is_pair(one, other, value):
    """Whether any value is a tuple of an edition of one history and an edition of the other."""
    if not isinstance(value, tuple) or len(value) != 2:
        return False
    return is_edition(one, value[0]) and is_edition(other, value[1])


def check_pairs(one, other, pairs):
    """Raises BadPair for the first of some values that is no pair."""
    for index, pair in enumerate(pairs):
        if not is_pair(one, other, pair):
            raise BadPair(index)


def pairs_together(one, other, first, second):
    """Whether both editions of each history in two pairs go together."""
    check_pairs(one, other, [first, second])
    return go_together(one, first[0], second[0]) and go_together(other, first[1], second[1])


def live_pairs(one, other, pairs):
    """Those of some pairs that are not dead, ascending, each once."""
    told = {pair: True for pair in pairs}
    seconds = live_ones(other, [pair[1] for pair in pairs])
    return [(first, second) for first in live_ones(one, [pair[0] for pair in pairs]) for second in seconds
            if (first, second) in told]


def least_pair_cover(one, other, pairs):
    """As few lists as possible of pairs that go together, each pair that is not dead in just one of them."""
    if not is_list(pairs):
        raise BadPair(None)
    check_pairs(one, other, pairs)
    live = live_pairs(one, other, pairs)
    if len(live) > MOST_COVERED:
        raise TooMany(MOST_COVERED)
    firsts = companions(one, live_ones(one, [first for first, _ in live]))
    seconds = companions(other, live_ones(other, [second for _, second in live]))
    together = {(first, second): [pair for pair in live if pair[0] in firsts[first] and pair[1] in seconds[second]]
                for first, second in live}
    return least_parted(together, live)
