"""The refusals, all of them right under SignError."""


class SignError(ValueError):
    """The base of all refusals."""


class NoName(SignError):
    """What was handed in is not written as a name, or not as a part's."""


class NoRule(SignError):
    """Names cannot be moved from the one stem to the other one."""


class NoPart(SignError):
    """The text has no part of this name."""


class NoText(SignError):
    """What was handed in is no text, or one that is too long."""


class NoPage(SignError):
    """The name is free."""


class Sign(SignError):
    """A sign stands at the name, not a page."""


class Away(SignError):
    """The page at the name was taken away."""


class Taken(SignError):
    """A page stands at the name."""


class Barred(SignError):
    """The name cannot be used anew, because of the page with the number `page`."""

    def __init__(self, page):
        super().__init__(f"page {page} bars the name")
        self.page = page


class Same(SignError):
    """All is so already."""


class Clash(SignError):
    """A part that one page has a sign of is a part of the other one, or has a sign there, too."""


class TooLong(SignError):
    """The text that a deed would make is too long."""


class NotAway(SignError):
    """No page was taken away at the name."""


class Ring(SignError):
    """Behind the deed a way would come to one name twice."""


class NoTime(SignError):
    """The site has no such time."""


class NoStand(SignError):
    """The page does not stand."""


class NoDeed(SignError):
    """What was handed in is not told as a deed."""


class NoRow(SignError):
    """What was handed in is not written as a row."""


class Stopped(SignError):
    """A row of deeds stopped at the deed with the number `at`."""

    def __init__(self, at):
        super().__init__(f"stopped at deed {at}")
        self.at = at
