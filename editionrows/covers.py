"""Covers: which editions go together, and the least number of maps by which all their rows are read."""

from editionrows.errors import BadEdition, BadLot, BadRow, TooMany
from editionrows.histories import is_edition
from editionrows.maps import is_dead, maps_of
from editionrows.stored import barred_at, is_stored, stored_value
from editionrows.values import is_list, is_whole

MOST_COVERED = 12


def check_edition(history, edition):
    """Raises BadEdition for what is no edition of a history; None is none here."""
    if not is_edition(history, edition):
        raise BadEdition(edition)


def check_editions(history, editions):
    """Raises BadEdition for what is no list of editions of a history."""
    if not is_list(editions):
        raise BadEdition(None)
    for edition in editions:
        check_edition(history, edition)


def differing_arguments(one, other):
    """The arguments that two Maps lead elsewhere, ascending."""
    return [argument for argument in one.arguments() if argument in other and one(argument) != other(argument)]


def parting_argument(history, one, other):
    """The first tuple (number, argument) on which the maps of two editions differ, or None."""
    check_editions(history, [one, other])
    if is_dead(history, one) or is_dead(history, other):
        return None
    others = maps_of(history, other)
    for number, found in maps_of(history, one).items():
        differing = differing_arguments(found, others[number])
        if len(differing) > 0:
            return (number, differing[0])
    return None


def go_together(history, one, other):
    """Whether two editions go together."""
    if parting_argument(history, one, other) is not None:
        return False
    return not is_dead(history, one) and not is_dead(history, other)


def live_ones(history, editions):
    """Those of some editions that are not dead, ascending."""
    check_editions(history, editions)
    return [edition for edition in range(len(history) + 1)
            if edition in editions and not is_dead(history, edition)]


def companions(history, live):
    """For each of some editions that are not dead, those of them that it goes together with."""
    maps = {edition: maps_of(history, edition) for edition in live}
    return {one: [other for other in live if do_agree(maps[one], maps[other])] for one in live}


def do_agree(one, other):
    """Whether the Maps of two editions, by the same numbers, agree."""
    return all([found.agrees(other[number]) for number, found in one.items()])


def lot_map(history, lot):
    """The joined map of editions, any two of which go together."""
    joined = {}
    for edition in lot:
        for number, found in maps_of(history, edition).items():
            joined[number] = joined[number] | found if number in joined else found
    return {number: {argument: whole(argument) for argument in whole.arguments()}
            for number, whole in joined.items()}


def joined_map(history, editions):
    """The joined map of those of some editions that are not dead, by numbers and arguments."""
    live = live_ones(history, editions)
    together = companions(history, live)
    for one in live:
        for other in live:
            if other not in together[one]:
                raise BadLot((one, other))
    return lot_map(history, live)


def parted(together, editions, lots, most):
    """Some lots with more editions put into them or into new ones, at most so many in all; None if this cannot be."""
    if len(editions) == 0:
        return lots
    edition = editions[0]
    for at, lot in enumerate(lots):
        if all([other in together[edition] for other in lot]):
            found = parted(together, editions[1:], lots[:at] + [lot + [edition]] + lots[at + 1:], most)
            if found is not None:
                return found
    if len(lots) == most:
        return None
    return parted(together, editions[1:], lots + [[edition]], most)


def least_parted(together, editions):
    """As few lots as possible of some editions."""
    for most in range(len(editions)):
        found = parted(together, editions, [], most)
        if found is not None:
            return found
    return [[edition] for edition in editions]


def least_cover(history, editions):
    """A least cover of some editions."""
    live = live_ones(history, editions)
    if len(live) > MOST_COVERED:
        raise TooMany(MOST_COVERED)
    return least_parted(companions(history, live), live)


def is_cover(history, editions, value):
    """Whether any value is a cover of some editions, least or not."""
    live = live_ones(history, editions)
    if not isinstance(value, list):
        return False
    together = companions(history, live)
    covered = []
    for lot in value:
        if not is_lot(together, lot):
            return False
        covered.extend(lot)
    return sorted([int(edition) for edition in covered]) == live


def is_lot(together, value):
    """Whether any value is a lot of editions, those that are told with whom they go together."""
    if not isinstance(value, list) or len(value) == 0:
        return False
    ahead = []
    for edition in value:
        if not is_whole(edition) or edition not in together:
            return False
        if not all([other < edition and other in together[edition] for other in ahead]):
            return False
        ahead.append(edition)
    return True


class Memory:
    """The joined maps of a least cover, and the editions whose rows are read by them."""

    def __init__(self, history, editions):
        self._lots = least_cover(history, editions)
        self._history = history
        self._maps = {}
        for lot in self._lots:
            joined = lot_map(history, lot)
            for edition in lot:
                self._maps[edition] = joined

    def __eq__(self, other):
        return isinstance(other, Memory) and self._history == other._history and self._lots == other._lots

    def __len__(self):
        return len(self._lots)

    def lots(self):
        """The cover."""
        return [list(lot) for lot in self._lots]

    def read(self, row):
        """The values of a stored row at the present, by names, read by the joined map of its edition."""
        history = self._history
        if not is_stored(history, row) or row[0] not in self._maps or barred_at(history, row) is not None:
            raise BadRow(row)
        joined = self._maps[row[0]]
        return {column.name: joined[column.number][stored_value(row, column.number)] for column in history.columns()}
