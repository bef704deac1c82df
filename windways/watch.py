"""Stage 12: watches, which collect facts, shut ways and dig ways, and can undo what they did."""

from windways.amountclaims import decide_amount
from windways.amounts import same_air
from windways.claims import decide
from windways.deeds import after_deed, after_try, are_deeds
from windways.errors import InvalidFacts, NothingDone, NotJoined, Refused
from windways.facts import is_fact
from windways.mines import is_joined, is_place, require_mine
from windways.routes import turning_ways
from windways.sures import known_signs, sign_of
from windways.wider import effects_of


class Watch:
    """A mine with what is seen of its pressures, and with the deeds that led there.

    _states holds the pair of the mine and the facts before the first deed and after each deed.
    """

    def __init__(self, mine):
        require_mine(mine)
        if not is_joined(mine):
            raise NotJoined()
        self._first = mine
        self._deeds = []
        self._states = [(mine, ())]

    def __len__(self):
        return len(self._deeds)

    def __eq__(self, other):
        return isinstance(other, Watch) and self._first == other._first and self._deeds == other._deeds

    def __iadd__(self, other):
        if not are_deeds(other):
            raise Refused(-1, None)
        states = [self._states[-1]]
        for index, deed in enumerate(other):
            state, reason = after_try(states[-1], deed)
            if reason is not None:
                raise Refused(index, reason)
            states.append(state)
        self._states.extend(states[1:])
        self._deeds.extend(other)
        return self

    def see(self, fact):
        """Add a fact; raise InvalidFacts or Impossible."""
        self._keep(("see", fact))

    def shut(self, way):
        """Shut a way; raise CannotShut."""
        self._keep(("shut", way))

    def dig(self, pair):
        """Dig a way between two places; raise CannotDig."""
        self._keep(("dig", pair))

    def _keep(self, deed):
        """Do a deed and keep what it leads to; an error that it raises comes before anything is kept."""
        state = after_deed(self._states[-1], deed)
        self._states.append(state)
        self._deeds.append(deed)

    def undo(self):
        """Undo the last deed; raise NothingDone if there is none."""
        if not self._deeds:
            raise NothingDone()
        self._states.pop()
        self._deeds.pop()

    def twin(self):
        """Return another watch with the same first mine and the same deeds."""
        other = Watch(self._first)
        other._states = list(self._states)
        other._deeds = list(self._deeds)
        return other

    def mine(self):
        """Return the current mine."""
        return self._states[-1][0]

    def facts(self):
        """Return the current facts."""
        return self._states[-1][1]

    def deeds(self):
        """Return the tuple of all deeds done."""
        return tuple(self._deeds)

    def sign(self, x, y):
        """Return the sign of two places, or None if it is not sure or one of them is no place."""
        if not is_place(self.mine(), x) or not is_place(self.mine(), y):
            return None
        return 0 if x == y else sign_of(self.mine(), self.facts(), x, y)

    def signs(self):
        """Return the tuple of the signs of the ends of all ways."""
        return known_signs(self.mine(), self.facts())

    def turning(self):
        """Return the ascending tuple of the numbers of the ways that turn in the current mine."""
        return turning_ways(self.mine())

    def paper_of(self, fact):
        """Return the certificate on the claim that the fact is sure; raise InvalidFacts."""
        if not is_fact(self.mine(), fact):
            raise InvalidFacts(None)
        return decide(("sure", self.mine(), self.facts(), fact))

    def within(self, way, others):
        """Return the certificate on the claim that the way is within others; raise InvalidClaim."""
        return decide_amount(("within", self.mine(), way, others))

    def same_air(self):
        """Return the ascending tuple of the tuples of ways with the same air."""
        return same_air(self.mine())

    def effects(self):
        """Return, for each way, the tuple of its effects on each way; raise NotPlain."""
        return effects_of(self.mine())
