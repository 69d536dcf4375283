"""Books: nets under names, and wishes that hold after each change."""

from hueturns.errors import Broken, InUse, InvalidDeeds, InvalidIndex, InvalidWish, UnknownName
from hueturns.kinds import is_integer_from, is_name, need_name
from hueturns.nets import need_net
from hueturns.trials import Trial, states_before
from hueturns.wishes import holds, holds_in, is_wish

# How many elements the deeds have that begin with these words.
LENGTHS = {"put": 3, "drop": 2, "wish": 2, "lift": 2}


class Book:
    """Nets under names, and wishes about them."""

    def __init__(self):
        # All pairs of the nets under their names and the wishes that were here and can come back; the last one is here
        # now. Their dicts are never changed.
        self.states = (({}, ()),)

    def __setitem__(self, at, worth):
        need_name(at)
        need_net(worth)
        nets, wishes = self.states[-1]
        for index, wish in enumerate(wishes):
            # What other wishes are about stays as it is.
            if wish[1] == at and not holds_in(worth, wish):
                raise Broken(index)
        self._keep({**nets, at: worth}, wishes)

    def __getitem__(self, at):
        if at not in self:
            raise UnknownName(at)
        return self.states[-1][0][at]

    def __contains__(self, x):
        return is_name(x) and x in self.states[-1][0]

    def __len__(self):
        return len(self.states[-1][0])

    def __iter__(self):
        raise TypeError("a book is not gone through: take its names")

    @property
    def names(self):
        """The ascending tuple of the names."""
        return tuple(sorted(self.states[-1][0]))

    @property
    def wishes(self):
        """The tuple of the wishes, in their order."""
        return self.states[-1][1]

    @property
    def changes(self):
        """How many changes can be taken back."""
        return len(self.states) - 1

    def drop(self, name):
        """Takes a name away, with its net."""
        if name not in self:
            raise UnknownName(name)
        nets, wishes = self.states[-1]
        for index, wish in enumerate(wishes):
            if wish[1] == name:
                raise InUse(index)
        self._keep({other: net for other, net in nets.items() if other != name}, wishes)

    def wish(self, wish):
        """Makes a wish behind the other ones."""
        if not is_wish(wish):
            raise InvalidWish(wish)
        nets, wishes = self.states[-1]
        if not holds(nets, wish):
            raise Broken(len(wishes))
        self._keep(nets, (*wishes, wish))

    def lift(self, index):
        """Takes a wish away."""
        nets, wishes = self.states[-1]
        if not is_integer_from(index, 0, len(wishes) - 1):
            raise InvalidIndex(index)
        self._keep(nets, (*wishes[:index], *wishes[index + 1:]))

    def undo(self):
        """Takes back the last change."""
        self.states = states_before(self.states)

    def do_all(self, *deeds, watch=None):
        """Does all these deeds, or none; returns how many there are."""
        wrong = first_wrong_deed(deeds)
        if wrong is not None:
            raise InvalidDeeds(wrong)
        kept = self.states
        try:
            for deed in deeds:
                do_one(self, deed)
                if watch is not None:
                    watch(self)
            kept = self.states
        finally:
            self.states = kept
        return len(deeds)

    def trial(self):
        """What takes back all changes within the rows of a `with` statement."""
        return Trial(self)

    def tried(self, action):
        """What a function returns that is called with the book within a trial."""
        with self.trial() as book:
            return action(book)

    def _keep(self, nets, wishes):
        self.states = (*self.states, (nets, wishes))


def is_deed(value):
    """Whether a value is a tuple of a word for deeds and as many elements as belong to it."""
    if not isinstance(value, tuple) or len(value) == 0 or not isinstance(value[0], str):
        return False
    return LENGTHS.get(value[0]) == len(value)


def first_wrong_deed(deeds):
    """The index of the first element that is no deed, None if there is none."""
    for index, deed in enumerate(deeds):
        if not is_deed(deed):
            return index
    return None


def do_one(book, deed):
    """Does a deed at a book."""
    word, what = deed[:2]
    if word == "put":
        book[what] = deed[2]
    elif word == "drop":
        book.drop(what)
    elif word == "wish":
        book.wish(what)
    else:
        book.lift(what)
