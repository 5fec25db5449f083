"""Stories: events of one voter that bring options to given standings."""

from forkpolls.events import LATE_DEEDS, MAKES
from forkpolls.webs import GONE_PLACE, WAYS, places_of

# The ways that are one of the new options of an edit: the edit, and which one of them.
ONE_OF_NEW = {"left": ("part", 0), "right": ("part", 1)}


class Trail:
    """How the standings of a web first come about, up to the depth of a goal.

    The origins tell of the places of standings and of signs the way there and the
    places from which it goes, None for the standing at the beginning.
    """

    def __init__(self, web, goal):
        self.web = web
        self.origins = {}
        # By hands that are in the poll: the first standing of each that was found.
        self.firsts = {}
        self.reached = 0
        layer = []
        self._find(layer, web.start, None)
        while layer != [] and (self.reached & goal) == 0:
            layer = self._next_layer(layer)

    def first_clash(self, goal):
        """Return the first two standings that are found to meet a goal side by side."""
        joins = self.web.joins
        found = []
        for there in list(self.firsts.values()):
            for here in found:
                if (joins[here >> 2][there >> 2] & goal) != 0:
                    return here, there
            found.append(there)
        return None

    def _next_layer(self, layer):
        """Return the standings to which only ways from this layer lead."""
        found = []
        # Single steps are taken first, so that stories need few options.
        for place in layer:
            if (self.web.singles[place] & ~self.reached) != 0:
                self._find_singles(found, place)
        for here, there in self._pairs_with(layer):
            self._find(found, self.web.joins[here >> 2][there >> 2], ("join", (here, there)))
        return found

    def _find_singles(self, found, place):
        """Find what is behind single ways from a standing."""
        for way in WAYS:
            self._find(found, self.web.behind(way, place), (way, (place,)))
        self._find(found, self.web.singles[place] & ~self.web.states, ("", (place,)))

    def _find(self, found, mask, origin):
        """Note the origin of what is new in a mask, and which standings that are."""
        fresh = mask & ~self.reached
        if fresh != 0:
            for place in places_of(fresh):
                self.origins[place] = origin
            found.extend(places_of(fresh & self.web.states))
            self.reached = self.reached | mask

    def _pairs_with(self, layer):
        """Return the pairs of standings in the poll with a hand that comes with this layer.

        Standings of one hand are joined alike, so the first ones stand for all.
        """
        fresh = {}
        for place in layer:
            hand = place >> 2
            if (place & 3) != GONE_PLACE and hand not in self.firsts:
                self.firsts[hand] = place
                fresh[place] = True
        places = list(self.firsts.values())
        return [(here, there) for here in places for there in places if here in fresh or there in fresh]


class Teller:
    """Brings options to standings, the past of one behind that of another.

    The origins tell how each standing comes about, as a trail found them.
    """

    def __init__(self, origins, options):
        self.origins = origins
        self.told = []
        self.next_first = 0
        self.next_made = options
        # What a late deed names to come to an option.
        self.shown = {}

    def bring(self, standing):
        """Bring an option to a standing and return its number."""
        origin = self.origins[standing]
        if origin is None:
            self.next_first += 1
            return self.next_first - 1
        way, sources = origin
        options = []
        for source in sources:
            options.append(self.bring(source))
        return self.tell(way, options)

    def tell(self, way, options):
        """Go a way from these options and return the number of the one behind it."""
        kind, at = ONE_OF_NEW.get(way, (way, 0))
        self.told.append(self._event(kind, options))
        if kind not in MAKES:
            if kind == "word":
                self.shown[options[0]] = options[0]
            return options[0]
        made = self.next_made + at
        self.next_made += MAKES[kind]
        self.shown[made] = options[0]
        return made

    def _event(self, kind, options):
        """Return the event of this kind at these options."""
        if kind in LATE_DEEDS:
            return f"{kind} 0 {self.shown[options[0]]}"
        if kind in ("yes", "no", "cut"):
            return f"{kind} 0 {options[0]}"
        return " ".join([kind, *[str(option) for option in options]])


def story_of_way(web, goal):
    """Return a story behind whose last event a way was gone that meets the goal, or None."""
    if not web.meets(goal):
        return None
    trail = Trail(web, goal)
    way, sources = trail.origins[goal.bit_length() - 1]
    return _told(trail.origins, sources, way)


def story_of_standing(web, goal):
    """Return a story that brings options to standings which meet the goal, or None."""
    if not web.meets(goal):
        return None
    trail = Trail(web, goal)
    way, sources = trail.origins[goal.bit_length() - 1]
    return _told(trail.origins, sources if way == "" else trail.first_clash(goal), "")


def _told(origins, standings, way):
    """Return how many options there are at first, and the events.

    They bring options to the standings, and then go the way, if it is one.
    """
    options = sum([_untouched(origins, standing) for standing in standings])
    teller = Teller(origins, options)
    places = []
    for standing in standings:
        places.append(teller.bring(standing))
    if way != "":
        teller.tell(way, places)
    return options, tuple(teller.told)


def _untouched(origins, standing):
    """Return how many options at first the past of a standing takes."""
    origin = origins[standing]
    if origin is None:
        return 1
    return sum([_untouched(origins, source) for source in origin[1]])
