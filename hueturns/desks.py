"""Desks: nets that are changed, and whose changes can be taken back."""

from hueturns.cores import core_mask
from hueturns.errors import TooGreat
from hueturns.limits import MOST_PLACES
from hueturns.masks import places_of
from hueturns.nets import Net, need_net
from hueturns.trials import Trial, states_before


class Desk:
    """A net that is changed."""

    def __init__(self, net):
        need_net(net)
        # All nets that were here and can come back, in their order; the last one is here now.
        self.states = (net,)

    @property
    def net(self):
        """The net as it is now."""
        return self.states[-1]

    @property
    def core(self):
        """The core of the net as it is now."""
        now = self.states[-1]
        return places_of(core_mask(now.size, now.roads))

    @property
    def changes(self):
        """How many changes can be taken back."""
        return len(self.states) - 1

    def paint(self, one, two, hue):
        """Gives a hue to the road between both places, also if there was none."""
        self._keep(self.net.painted(one, two, hue))

    def close(self, one, two):
        """Takes the road between both places away."""
        self._keep(self.net.closed(one, two))

    def grow(self):
        """Puts one place more behind the last one, without roads."""
        size = self.net.size + 1
        if size > MOST_PLACES:
            raise TooGreat(size)
        self._keep(Net(size, self.net.roads))

    def drop(self):
        """Takes the last place away, with its roads."""
        size = self.net.size - 1
        if size == 0:
            raise TooGreat(size)
        self._keep(Net(size, tuple([road for road in self.net.roads if road[1] < size])))

    def swap(self, one, two):
        """Changes the numbers of both places."""
        self._keep(self.net.swapped(one, two))

    def undo(self):
        """Takes back the last change."""
        self.states = states_before(self.states)

    def trial(self):
        """What takes back all changes within the rows of a `with` statement."""
        return Trial(self)

    def tried(self, action):
        """What a function returns that is called with the desk within a trial."""
        with self.trial() as desk:
            return action(desk)

    def _keep(self, net):
        self.states = (*self.states, net)
