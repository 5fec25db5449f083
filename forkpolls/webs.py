"""Webs: which standings stand behind which, and what is met there, in bits of numbers.

A voter's *hand* at an option is what a book tells by (a mark, and whether yes is known;
where two books are compared, a mark by each). A hand and what late deeds can come to the
option are a standing; four standings of each hand follow one another as bits, by LATES.
The bits above all of these are signs of what is met, reached as standings are.
"""

LATES = ("", "broken", "gone", "kept")

# The bits of two of LATES among the four of a hand.
BROKEN = 2
KEPT = 8

# The bits behind each kind of step, and behind an edit that is not kept. Steps that
# leave late deeds what they were have those of all three that are not gone.
WEIGHTS = {
    "yes": 11, "no": 11, "cut": 11, "late yes": 2, "late no": 2, "word": 2, "join": 2, "part": 2, "strike": 4,
    "back": 1,
}

# The place of the bit of an option that is gone.
GONE_PLACE = 2

# What can come about at one option, in the order in which stories look for it.
WAYS = ("yes", "no", "word", "cut", "strike", "late yes", "late no", "left", "right", "back")

STAYING = ("yes", "no", "cut")

LATE = ("late yes", "late no")


class Web:
    """All steps between standings, as masks of what is behind them.

    A strand is a list with a mask for each hand: a bit for each standing that can be
    behind this way, and the signs that are met. The strand `shown` has signs alone,
    and `join` a list for each hand, by the other hand.
    """

    def __init__(self, start, hands, strands):
        self.start = start
        self.strands = strands
        self.joins = strands["join"]
        self.states = (1 << (4 * hands)) - 1
        fresh = self.states // 15
        # A mask of a staying way is of all of LATES at once; these leave one of them.
        self.views = [(fresh << late) | ~self.states for late in range(4)]
        self.singles = self._singles()

    def behind(self, way, place):
        """Return the mask behind a way from the standing at a place, 0 if it has none."""
        late = place & 3
        mask = self.strands[way][place >> 2]
        if late == GONE_PLACE or way == "back":
            return mask if late == GONE_PLACE and way == "back" else 0
        if way in LATE and late == 0:
            return 0
        return mask & self.views[late] if way in LATE or way in STAYING else mask

    def all_behind(self, layer, live):
        """Return the mask behind a layer of standings; add its hands to the live ones."""
        behind = 0
        for place in places_of(layer & self.states):
            behind = behind | self.singles[place]
            hand = place >> 2
            if (place & 3) != GONE_PLACE and hand not in live:
                live.append(hand)
                for other in live:
                    behind = behind | self.joins[hand][other] | self.joins[other][hand]
        return behind

    def layers(self, enough):
        """Return the masks of all that comes about, by depths.

        They end with the first one in which there is one of these signs.
        """
        layer = self.start
        reached = layer
        layers = [layer]
        live = []
        while layer != 0 and (layer & enough) == 0:
            layer = self.all_behind(layer, live) & ~reached
            reached = reached | layer
            layers.append(layer)
        return layers

    def meets(self, goal):
        """Return whether one of the signs of a goal comes about."""
        return (self.layers(goal)[-1] & goal) != 0

    def _singles(self):
        """Return a mask of all single ways from each standing."""
        names = (*WAYS, "shown")
        fresh, broken, _, kept = self.views
        singles = []
        ways = [self.strands[name] for name in names]
        for yes, no, word, cut, strike, late_yes, late_no, left, right, back, shown in zip(*ways):
            stay = yes | no | cut
            late = stay | late_yes | late_no
            move = word | strike | left | right | shown
            singles.extend([move | (stay & fresh), move | (late & broken), back, move | (late & kept)])
        return singles


def places_of(mask):
    """Return the places of the bits of a mask, ascending."""
    places = []
    while mask != 0:
        places.append((mask & -mask).bit_length() - 1)
        mask = mask & (mask - 1)
    return places
