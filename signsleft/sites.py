"""Sites: pages, the table of their names, and all that is asked of them."""

from signsleft.backs import backs_of, bar_of, loose_names, names_leading_to, namers_of, unnamed_numbers
from signsleft.changes import (
    after_away, after_back, after_family, after_join, after_part, after_rename, after_renew, after_sign,
    after_straight, after_write,
)
from signsleft.errors import NoStand, NoTime, Ring
from signsleft.names import name_of, part_of, target_of, target_row
from signsleft.tables import Table
from signsleft.texts import need_text
from signsleft.trees import tree_rows
from signsleft.ways import comes_round, lead_of, steps


def part_asked(part):
    """The name of a part that may be asked, or None."""
    if part is None:
        return None
    return part_of(part)


def is_time(at, last):
    """Whether anything is a time up to the last one."""
    return isinstance(at, int) and not isinstance(at, bool) and 0 <= at <= last


def shown(stand, table):
    """What a stand shows, its names led by a table."""
    told = []
    for piece in stand.reading.all_pieces:
        if piece[0] == "name":
            told.append(("name", piece[1], lead_of(table, piece[2], piece[3])))
        else:
            told.append(piece)
    return told


def all_stands(table):
    """The stands of all pages, as tuples."""
    return [[stand.as_tuple() for stand in stands] for stands in table.pages]


class Site:
    """Pages that name one another, as they are and as they were behind each deed."""

    def __init__(self):
        # One table for each time: a deed adds a new one, and so changes nothing that was.
        self.tables = [Table()]
        self.deeds_done = []

    def table_at(self, at):
        """The table of a time, of the present one where that is None."""
        if at is None:
            return self.tables[-1]
        if not is_time(at, self.time()):
            raise NoTime("the site has no such time")
        return self.tables[at]

    def keep(self, table, deed):
        """Takes a deed's table as the present one."""
        if comes_round(table):
            raise Ring("a way would come to one name twice")
        self.tables.append(table)
        self.deeds_done.append(deed)

    def time(self):
        """How many deeds were done."""
        return len(self.tables) - 1

    def made(self):
        """How many pages were made."""
        return len(self.tables[-1].pages)

    def entry(self, name, at=None):
        """What stands at a name: ("page", number), ("sign", name, part), ("away", number) or None."""
        asked = name_of(name)
        return self.table_at(at).entries.get(asked)

    def part_sign(self, number, part, at=None):
        """The name that the sign of a page's part leads on to, or None."""
        asked = part_of(part)
        return self.table_at(at).part_signs.get((number, asked))

    def lead(self, name, part=None, at=None):
        """What a name leads to: ("page", number, part, signs), ("away", ..) or ("nothing", name, part, signs)."""
        asked = name_of(name)
        asked_part = part_asked(part)
        return lead_of(self.table_at(at), asked, asked_part)

    def way(self, name, part=None, at=None):
        """The names that a name's way comes to, the first one with it."""
        asked = name_of(name)
        asked_part = part_asked(part)
        return [step[0] for step in steps(self.table_at(at), asked, asked_part)]

    def write(self, name, text):
        """Gives the page at a name a text, or makes a page there."""
        place = name_of(name)
        need_text(text)
        self.keep(after_write(self.tables[-1], place, text), ("write", place, text))

    def rename(self, name, new):
        """Renames the page at a name, and leaves a sign there."""
        place = name_of(name)
        new_place = name_of(new)
        self.keep(after_rename(self.tables[-1], place, new_place), ("rename", place, new_place))

    def part(self, name, part, new):
        """Makes a part of the page at a name a page of its own, and leaves a sign for the part."""
        place = name_of(name)
        cut_at = part_of(part)
        new_place = name_of(new)
        self.keep(after_part(self.tables[-1], place, cut_at, new_place), ("part", place, cut_at, new_place))

    def join(self, name, other):
        """Joins the page at a name into another one, and leaves a sign there."""
        place = name_of(name)
        other_place = name_of(other)
        self.keep(after_join(self.tables[-1], place, other_place), ("join", place, other_place))

    def take_away(self, name):
        """Takes the page at a name away."""
        place = name_of(name)
        self.keep(after_away(self.tables[-1], place), ("away", place))

    def bring_back(self, name):
        """Brings back the page that was taken away at a name."""
        place = name_of(name)
        self.keep(after_back(self.tables[-1], place), ("back", place))

    def put_sign(self, name, to):
        """Puts a sign at a name, to NAME or NAME#PART."""
        place = name_of(name)
        target, part = target_of(to)
        self.keep(after_sign(self.tables[-1], place, target, part), ("sign", place, target_row(target, part)))

    def rename_family(self, stem, new):
        """Renames all pages of a stem's family, in one deed."""
        old_stem = name_of(stem)
        new_stem = name_of(new)
        self.keep(after_family(self.tables[-1], old_stem, new_stem), ("family", old_stem, new_stem))

    def straighten(self):
        """Makes each sign lead at once to where it leads by signs alone."""
        self.keep(after_straight(self.tables[-1]), ("straight",))

    def renew(self, name):
        """Bears anew each name, in the text of the page at a name, that leads by signs to a page."""
        place = name_of(name)
        self.keep(after_renew(self.tables[-1], place), ("renew", place))

    def stands(self, number):
        """The times of a page's stands, rising."""
        return [stand.since for stand in self.tables[-1].pages[number]]

    def stand(self, number, at=None):
        """A page's stand at a time, (name, text), or None where it was not made yet."""
        last = self.table_at(at).last_stand(number)
        if last is None:
            return None
        return last.name, last.reading.whole

    def shows(self, number, at=None):
        """What a page showed at a time, with the names as they led then, or None where it was not made yet."""
        table = self.table_at(at)
        last = table.last_stand(number)
        if last is None:
            return None
        return shown(last, table)

    def shows_now(self, number, at=None):
        """What a page's stand at a time shows, with the names as they lead now, or None."""
        last = self.table_at(at).last_stand(number)
        if last is None:
            return None
        return shown(last, self.tables[-1])

    def standing(self):
        """The numbers of the pages that stand, rising."""
        return self.tables[-1].standing_numbers()

    def stands_now(self, number):
        """Whether a page stands."""
        return self.tables[-1].is_standing(number)

    def called(self, number):
        """The name of a page, its last one where it does not stand."""
        return self.tables[-1].name_now(number)

    def text(self, number):
        """The text of a page, its last one where it does not stand."""
        return self.tables[-1].text_now(number)

    def backs(self, number):
        """The back list of a page: the standing pages, rising, that name it."""
        if not self.stands_now(number):
            raise NoStand("the page does not stand")
        return backs_of(self.tables[-1], number)

    def unnamed(self):
        """The standing pages, rising, that no other page names."""
        return unnamed_numbers(self.tables[-1])

    def loose(self):
        """Tuples (name, part, numbers) of the names that lead to nothing or to a page that is away."""
        return loose_names(self.tables[-1])

    def namers(self, name):
        """All pages, rising, of which some stand bears a name whose way comes to this name."""
        return namers_of(self.tables[-1], name_of(name))

    def bar(self, name):
        """The number of the page that bars a name, or None."""
        return bar_of(self.tables[-1], name_of(name))

    def names_to(self, number):
        """The names, sorted, that lead to a page now; none where it does not stand."""
        return names_leading_to(self.tables[-1], number)

    def story(self, name):
        """The tuples (time, entry) of the times at which a name's entry became another one."""
        asked = name_of(name)
        told = []
        before = None
        for table in self.tables:
            entry = table.entries.get(asked)
            if entry != before:
                told.append((table.moment, entry))
            before = entry
        return told

    def tree(self):
        """The rows (depth, segment, number) of the tree of the standing pages' names."""
        return tree_rows({self.called(number): number for number in self.standing()})

    def deeds(self):
        """The deeds that were done, in order, as tuples."""
        return list(self.deeds_done)

    def was(self, at=None):
        """A new site, as this one was behind the deed of a time."""
        moment = self.table_at(at).moment
        elder = Site()
        # Tables are changed no more once they are kept, so both sites may have them.
        elder.tables = self.tables[:moment + 1]
        elder.deeds_done = self.deeds_done[:moment]
        return elder

    def names_known(self):
        """All names, sorted, that have an entry. (A name that had one has one for good.)"""
        return sorted(self.tables[-1].entries)

    def alike(self, other):
        """Whether another site has the same time, pages, stands, entries and signs of parts at each time."""
        if self.time() != other.time():
            return False
        for mine, others in zip(self.tables, other.tables):
            if mine.entries != others.entries or mine.part_signs != others.part_signs:
                return False
        # Stands bear their times, so the last table's tell those of all times.
        return all_stands(self.tables[-1]) == all_stands(other.tables[-1])
