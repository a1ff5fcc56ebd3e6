"""The table of a site: all that holds behind one of its deeds."""

from signsleft.stands import Reading, Stand


class Table:
    """Entries, signs of parts, and the stands of all pages. Once a deed has made it, it is changed no more."""

    def __init__(self):
        self.moment = 0
        self.entries = {}
        # By the tuple (number, part): the name that the sign leads on to.
        self.part_signs = {}
        # By number: the tuple of the page's stands.
        self.pages = []
        # Told by signsleft.backs, kept since they are asked often.
        self.kept_namers = None
        self.kept_backs = None

    def later(self):
        """A table of the next moment, still the same, for a deed to change."""
        table = Table()
        table.moment = self.moment + 1
        table.entries = dict(self.entries)
        table.part_signs = {key: self.part_signs[key] for key in self.part_signs}
        table.pages = list(self.pages)
        return table

    def last_stand(self, number):
        """The last stand of a page, or None where it was not made yet."""
        if number >= len(self.pages):
            return None
        return self.pages[number][-1]

    def name_now(self, number):
        """The name of a page."""
        return self.pages[number][-1].name

    def text_now(self, number):
        """The text of a page."""
        return self.pages[number][-1].reading.whole

    def has_part(self, number, part):
        """Whether a page's text has a part."""
        return part in self.pages[number][-1].reading.all_parts

    def is_standing(self, number):
        """Whether a page stands."""
        return self.entries.get(self.name_now(number)) == ("page", number)

    def standing_numbers(self):
        """The numbers of the pages that stand, rising."""
        return [number for number in range(len(self.pages)) if self.is_standing(number)]

    def parts_with_signs(self, number):
        """The parts of a page that have signs."""
        return [part for owner, part in self.part_signs if owner == number]

    def make_page(self, name, text):
        """Makes a page at a name."""
        self.pages.append((Stand(self.moment, name, Reading(text)),))
        self.entries[name] = ("page", len(self.pages) - 1)

    def give_name(self, number, name):
        """Gives a page another name; what stands at both names is not looked at."""
        reading = self.pages[number][-1].reading
        self.pages[number] += (Stand(self.moment, name, reading),)

    def give_text(self, number, text):
        """Gives a page another text. The signs of parts that it has are gone then."""
        reading = Reading(text)
        self.pages[number] += (Stand(self.moment, self.name_now(number), reading),)
        for part in reading.all_parts:
            if (number, part) in self.part_signs:
                del self.part_signs[(number, part)]
