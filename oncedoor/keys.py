"""Keys: what stands under each asker and key, and for how long an answer is kept there."""

from oncedoor.errors import Busy, NoAsk


class Keys:
    """Deeds under way, and answers that are kept for a life, by pairs (asker, key)."""

    def __init__(self, life):
        self.life = life
        # Tuples (number, deed).
        self.begun_ones = {}
        # Tuples (number, turn, deed, answer), those behind their life too: turns may be looked at in any order.
        self.settled_ones = {}

    def look(self, asker, key, turn):
        """What stands under an asker and a key at a turn."""
        pair = (asker, key)
        if pair in self.begun_ones:
            return ("busy",) + self.begun_ones[pair]
        if pair in self.settled_ones and self.is_kept(pair, turn):
            entry = self.settled_ones[pair]
            return ("kept", entry[0], entry[2], entry[3])
        return ("free",)

    def begin(self, asker, key, number, deed):
        """Put a deed under way; Busy where one is. A kept answer is forgotten."""
        pair = (asker, key)
        if pair in self.begun_ones:
            raise Busy(self.begun_ones[pair][0])
        self.settled_ones.pop(pair, None)
        self.begun_ones[pair] = (number, deed)

    def drop(self, asker, key):
        """Let nothing stand where a deed is under way; NoAsk where none is."""
        self.end((asker, key))

    def settle(self, asker, key, turn, answer):
        """Keep the answer, from a turn on, of the deed that is under way; NoAsk where none is."""
        entry = self.end((asker, key))
        self.settled_ones[(asker, key)] = (entry[0], turn, entry[1], answer)

    def kept(self, turn):
        """The tuples (number, turn, asker, key, deed, answer) of what is kept at a turn, by numbers."""
        told = []
        for pair in self.settled_ones:
            if self.is_kept(pair, turn):
                entry = self.settled_ones[pair]
                told.append(entry[:2] + pair + entry[2:])
        return sorted(told)

    def under(self):
        """The tuples (number, asker, key, deed) of what is under way, by numbers."""
        return sorted([entry[:1] + pair + entry[1:] for pair, entry in self.begun_ones.items()])

    def end(self, pair):
        """Take away, and tell, the number and deed under way under a pair; NoAsk where none is."""
        if pair not in self.begun_ones:
            raise NoAsk("no deed is under way under this asker and key")
        return self.begun_ones.pop(pair)

    def is_kept(self, pair, turn):
        """Whether the answer under a pair is still kept at a turn."""
        return is_alive(self.settled_ones[pair][1], self.life, turn)


def is_alive(since, life, turn):
    """Whether an answer of the turn since is still kept, by a life, at a turn."""
    return since + life > turn
