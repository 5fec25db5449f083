"""Stories: events of one voter that bring options to given standings."""

from forkpolls.events import LATE_DEEDS, MAKES


class Teller:
    """Brings options to standings, the past of one behind that of another.

    The origins tell of each standing the leap that leads to it, None for that of an
    option that nobody touched.
    """

    def __init__(self, origins, options):
        self.origins = origins
        self.told = []
        self.next_first = 0
        self.next_made = options
        # What a late deed names to come to an option.
        self.shown = {}

    def bring(self, standing):
        """Bring an option to a standing and return its number."""
        leap = self.origins[standing]
        if leap is None:
            self.next_first += 1
            return self.next_first - 1
        places = []
        for source in leap.sources:
            places.append(self.bring(source))
        return self.tell(leap, places)

    def tell(self, leap, places):
        """Do a leap from options at these places and return the number behind it."""
        kind = leap.kind
        self.told.append(self._event(kind, places))
        if kind not in MAKES:
            if kind == "word":
                self.shown[places[0]] = places[0]
            return places[0]
        option = self.next_made + leap.place
        self.next_made += MAKES[kind]
        self.shown[option] = places[0]
        return option

    def _event(self, kind, places):
        """Return the event of this kind at these options."""
        if kind in LATE_DEEDS:
            return f"{kind} 0 {self.shown[places[0]]}"
        if kind in ("yes", "no", "cut"):
            return f"{kind} 0 {places[0]}"
        return " ".join([kind, *[str(place) for place in places]])


def story_of(origins, standings, leap):
    """Return how many options there are at first, and the events.

    They bring options to the standings, and then do the leap, if it is not None.
    """
    options = sum([_untouched(origins, standing) for standing in standings])
    teller = Teller(origins, options)
    places = []
    for standing in standings:
        places.append(teller.bring(standing))
    if leap is not None:
        teller.tell(leap, places)
    return options, tuple(teller.told)


def _untouched(origins, standing):
    """Return how many options at first the past of a standing takes."""
    leap = origins[standing]
    if leap is None:
        return 1
    return sum([_untouched(origins, source) for source in leap.sources])
