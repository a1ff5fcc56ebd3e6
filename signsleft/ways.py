"""Where names lead in a table."""


def next_step(table, name, part):
    """The name and part that a sign at this name and part leads on to, or None where the way ends."""
    entry = table.entries.get(name)
    if entry is None or entry[0] == "away":
        return None
    if entry[0] == "sign":
        return entry[1], (entry[2] if part is None else part)
    onward = table.part_signs.get((entry[1], part))
    if onward is None:
        return None
    return onward, None


def steps(table, name, part):
    """All that the way of a name with a part comes to: tuples (name, part), the first one with it."""
    come_to = [(name, part)]
    step = next_step(table, name, part)
    while step is not None:
        come_to.append(step)
        step = next_step(table, step[0], step[1])
    return come_to


def lead_of(table, name, part):
    """What a name with a part (or None) leads to."""
    come_to = steps(table, name, part)
    last, asked = come_to[-1]
    signs = len(come_to) - 1
    entry = table.entries.get(last)
    if entry is None:
        return "nothing", last, asked, signs
    if entry[0] == "away":
        return "away", entry[1], asked, signs
    return "page", entry[1], part_left(table, entry[1], asked), signs


def part_left(table, number, asked):
    """What is left of the part that is asked of a page: None where none is, "" where its text has it not."""
    if asked is None or table.has_part(number, asked):
        return asked
    return ""


def page_led_to(table, name, part):
    """The number of the page that a name with a part leads to, or None where it leads to none."""
    lead = lead_of(table, name, part)
    if lead[0] != "page":
        return None
    return lead[1]


def comes_round(table):
    """Whether any way comes to one name with one part twice.

    Ways without a part are enough. A ring with a sign of a part in it comes to a name without a part there. A ring
    of entries alone is gone round whatever part is asked: a part that is found on it is kept from there on.
    """
    ended = {}
    for name in table.entries:
        trail = {}
        step = (name, None)
        while step is not None and step not in ended:
            if step in trail:
                return True
            trail[step] = True
            step = next_step(table, step[0], step[1])
        for known in trail:
            ended[known] = True
    return False
