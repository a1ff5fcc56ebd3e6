"""Who names whom in a table."""

from signsleft.ways import page_led_to, steps


def backs_of(table, number):
    """The standing pages, rising, whose texts bear a name that leads to a page."""
    if table.kept_backs is None:
        table.kept_backs = all_backs(table)
    return list(table.kept_backs.get(number, []))


def all_backs(table):
    """The back lists of all pages that have one, by number."""
    backs = {}
    for bearer in table.standing_numbers():
        led_to = {}
        for name, part in table.last_stand(bearer).reading.all_names:
            number = page_led_to(table, name, part)
            if number is not None:
                led_to[number] = True
        for number in led_to:
            backs.setdefault(number, []).append(bearer)
    return backs


def unnamed_numbers(table):
    """The standing pages, rising, that no other page names."""
    return [number for number in table.standing_numbers() if backs_of(table, number) in ([], [number])]


def loose_names(table):
    """Tuples (name, part, numbers) of what standing pages bear and what leads to no page that stands."""
    bearers = {}
    for bearer in table.standing_numbers():
        for name, part in table.last_stand(bearer).reading.all_names:
            if page_led_to(table, name, part) is None:
                bearers.setdefault((name, part or ""), []).append(bearer)
    return [(name, part, bearers[(name, part)]) for name, part in sorted(bearers)]


def namers_of(table, name):
    """All pages, rising, of which some stand bears a name whose way comes to this name."""
    if table.kept_namers is None:
        table.kept_namers = all_namers(table)
    return list(table.kept_namers.get(name, []))


def all_namers(table):
    """The namers of all names that have some, by name."""
    namers = {}
    for number in range(len(table.pages)):
        come_to = {}
        for name, part in ever_borne(table.pages[number]):
            for step in steps(table, name, part):
                come_to[step[0]] = True
        for name in come_to:
            namers.setdefault(name, []).append(number)
    return namers


def ever_borne(stands):
    """Each name and part, once, that the text of some of these stands bears."""
    borne = {}
    for stand in stands:
        for name_and_part in stand.reading.all_names:
            borne[name_and_part] = True
    return list(borne)


def bar_of(table, name):
    """The number of the page that bars a name, or None."""
    entry = table.entries.get(name)
    if entry is None or entry[0] == "page":
        return None
    return min(namers_of(table, name), default=None)


def names_leading_to(table, number):
    """The names, sorted, that lead to a page, asked without a part."""
    return sorted([name for name in table.entries if page_led_to(table, name, None) == number])
