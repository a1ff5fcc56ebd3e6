"""The stands of pages."""

from signsleft.texts import named, parts_of, pieces


class Reading:
    """A text, read once: it is shown, led from and searched far more often than it is written."""

    def __init__(self, whole):
        self.whole = whole
        self.all_pieces = pieces(whole)
        self.all_parts = parts_of(whole)
        self.all_names = [(name, part or None) for name, part in named(whole)]


class Stand:
    """A page's name and text, since the time at which it got them. Sites share stands: none is ever changed."""

    def __init__(self, since, name, reading):
        self.since = since
        self.name = name
        self.reading = reading

    def as_tuple(self):
        """The tuple (time, name, text)."""
        return self.since, self.name, self.reading.whole
