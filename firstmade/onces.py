"""Values that are made when they are first asked for."""

from firstmade.errors import Failed, Failing, NoName
from firstmade.names import is_name


class Place:
    """What there is of one value: itself, a kept failure, or neither."""

    def __init__(self, kept):
        self.kept = kept
        self.times = 0
        self.busy = False
        self.full = False
        self.value = None
        self.failed = False
        self.why = None
        self.wanted = []

    def fill(self, make, *given):
        """Makes the value, unless it is being made or a failure is kept."""
        if self.busy:
            raise Failed("itself")
        if self.failed:
            raise Failed(self.why) from None
        self.times += 1
        self.wanted = []
        self.busy = True
        try:
            self.value = make(*given)
            self.full = True
        except (Failing, Failed) as e:
            if self.kept:
                self.failed, self.why = True, e.why
            raise Failed(e.why) from e
        finally:
            # Whatever a making ends with, the next asking must be able to begin one.
            self.busy = False

    def empty(self):
        """Forgets the value, or the kept failure."""
        if self.busy:
            raise Failed("itself")
        self.full, self.value = False, None
        self.failed, self.why = False, None


class Once:
    """A value that is made at the first asking and kept from then on."""

    def __init__(self, make, *, kept=False):
        self._make = make
        self._place = Place(kept)

    def __call__(self):
        """The value; raises Failed if it is being made, or its making fails or has failed for good."""
        if not self._place.full:
            self._place.fill(self._make)
        return self._place.value

    @property
    def begun(self):
        """How often a making was begun."""
        return self._place.times

    @property
    def is_made(self):
        """Whether the value is there."""
        return self._place.full

    def forget(self):
        """The value, or a kept failure, is gone; raises Failed while the value is being made."""
        self._place.empty()


class Shelf:
    """Values under names, each made at its first asking by a function that may ask for others."""

    def __init__(self, makes, *, kept=False):
        for name in makes:
            if not is_name(name):
                raise NoName(name)
        self._makes = dict(makes)
        self._kept = kept
        self._places = {name: Place(kept) for name in makes}
        self._made = []
        self._inner = None

    def __call__(self, name):
        """The value of a name; raises NoName, and Failed as a once does."""
        place = self._place_of(name)
        self._note_asking(name)
        outer = self._inner
        if not place.full:
            self._inner = place
            try:
                place.fill(self._makes[name], self)
                self._made.append(name)
            finally:
                # What is asked for from here on is asked for by the making around this one.
                self._inner = outer
        return place.value

    def _place_of(self, name):
        if name not in self:
            raise NoName(name)
        return self._places[name]

    def _note_asking(self, name):
        """Tells the innermost making that goes on that it asked for a name."""
        inner = self._inner
        if inner is not None and name not in inner.wanted:
            inner.wanted.append(name)

    def names(self):
        """The names, ascending."""
        return sorted(self._places, key=str)

    def made(self):
        """The names of the values that are there, in the order in which their makings ended."""
        return list(self._made)

    def asked(self, name):
        """The names that the last begun making of a value asked for, in order; raises NoName."""
        return list(self._place_of(name).wanted)

    def makings(self, name):
        """How often a making of a value was begun; raises NoName."""
        return self._place_of(name).times

    def forget(self, name):
        """A value, or its kept failure, is gone; raises NoName, then Failed while it is being made."""
        self._place_of(name).empty()
        self._made = [other for other in self._made if other != name]

    def __contains__(self, x):
        return isinstance(x, str) and x in self._places

    def __len__(self):
        return len(self._places)

    def __or__(self, other):
        """A new shelf with the functions of both; raises NoName with the first common name."""
        if not isinstance(other, Shelf):
            return NotImplemented
        for name in self.names():
            if name in other:
                raise NoName(name)
        return Shelf({**self._makes, **other._makes}, kept=self._kept)
