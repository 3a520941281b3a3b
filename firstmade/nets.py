"""Nets of values that need one another."""

from firstmade.errors import NoName, NoNet, TooMany
from firstmade.names import is_name

MOST_VALUES = 5
MOST_RINGED = 8


def is_table(needs):
    """Whether any value is a dict with one to five keys that are all names."""
    if not isinstance(needs, dict):
        return False
    return 1 <= len(needs) <= MOST_VALUES and all([is_name(name) for name in needs])


def are_needs(value, names):
    """Whether any value is a list or tuple of unlike ones of the names."""
    if not isinstance(value, (list, tuple)):
        return False
    # Only names may be compared and put into a set: any value may stand there.
    if not all([is_name(need) for need in value]):
        return False
    return all([need in names for need in value]) and len(set(value)) == len(value)


def kept_needs(needs):
    """A copy of the needs of a net, by names ascending; raises NoNet."""
    if not is_table(needs):
        raise NoNet(None)
    names = sorted(needs, key=str)
    for name in names:
        if not are_needs(needs[name], names):
            raise NoNet(name)
    return {name: tuple(needs[name]) for name in names}


def ring_from(needs, first):
    """A shortest ring that begins with a value, or None."""
    paths = [(first,)]
    met = []
    at = 0
    while at < len(paths):
        path = paths[at]
        for need in needs[path[-1]]:
            if need == first:
                return list(path)
            if need not in met:
                met.append(need)
                paths.append((*path, need))
        at += 1
    return None


def selections(rows, many):
    """All tuples of so many of the rows, ordered as the tuples of their places."""
    chosen = [()]
    for _ in range(many):
        chosen = [(*places, at) for places in chosen
                  for at in range(places[-1] + 1 if places else 0, len(rows))]
    return [tuple([rows[at] for at in places]) for places in chosen]


class Net:
    """One to five values with names, each with those that it needs; a net does not change."""

    def __init__(self, needs):
        self._needs = kept_needs(needs)

    def __getitem__(self, at):
        """The tuple of the needs of a name, in order."""
        if at not in self:
            raise NoName(at)
        return self._needs[at]

    def __iter__(self):
        return iter(self._needs)

    def __len__(self):
        return len(self._needs)

    def __contains__(self, x):
        return isinstance(x, str) and x in self._needs

    def __eq__(self, other):
        return isinstance(other, Net) and self._needs == other._needs

    def __le__(self, other):
        """Whether the names are the same, and each need is one of the other net."""
        if not isinstance(other, Net):
            return NotImplemented
        others = other.pairs()
        return self.names() == other.names() and all([pair in others for pair in self.pairs()])

    def __or__(self, other):
        """A net with the values of both; raises NoNet with the first common name, then with None."""
        if not isinstance(other, Net):
            return NotImplemented
        for name in self._needs:
            if name in other:
                raise NoNet(name)
        return Net({**self._needs, **other._needs})

    def names(self):
        """The names, ascending."""
        return list(self._needs)

    def listed(self):
        """What a net is iterated over for: its names, ascending."""
        return list(self._needs)

    def pairs(self):
        """The tuples (name, need), by names ascending, needs in order."""
        return [(name, need) for name in self._needs for need in self._needs[name]]

    def without(self, *pairs):
        """The net without these pairs; raises NoNet with the first that is none."""
        for pair in pairs:
            if not self._has_pair(pair):
                raise NoNet(pair)
        return Net({name: [need for need in self._needs[name] if (name, need) not in pairs]
                    for name in self._needs})

    def _has_pair(self, pair):
        if not isinstance(pair, tuple) or len(pair) != 2 or pair[0] not in self:
            return False
        return isinstance(pair[1], str) and pair[1] in self[pair[0]]

    def reaches(self, name):
        """Ascending, the values that one needs, straight or by others; raises NoName."""
        reached = list(self[name])
        at = 0
        while at < len(reached):
            reached = reached + [need for need in self[reached[at]] if need not in reached]
            at += 1
        return sorted(reached, key=str)

    def ring(self):
        """A shortest ring, of several one that begins with the least name; or None."""
        rings = [ring_from(self._needs, name) for name in self._needs]
        found = [row for row in rings if row is not None]
        return min(found, key=len, default=None)

    def order(self):
        """An order in which all can be made, the least name first where several can; or None."""
        placed = []
        while len(placed) < len(self._needs):
            ready = [name for name in self._needs
                     if name not in placed and all([need in placed for need in self._needs[name]])]
            if not ready:
                return None
            placed.append(ready[0])
        return placed

    def least_cuts(self):
        """All tuples of fewest pairs without which there is no ring; raises TooMany."""
        ringed = [(name, need) for name, need in self.pairs() if name in self.reaches(need)]
        if len(ringed) > MOST_RINGED:
            raise TooMany(MOST_RINGED)
        cuts = []
        many = 0
        while not cuts:
            cuts = [cut for cut in selections(ringed, many) if self.without(*cut).order() is not None]
            many += 1
        return cuts
