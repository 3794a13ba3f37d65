"""Partners for must lines, on plain numbers.

Both gates play the same part here, so the functions speak of "this gate" and "the other gate". For each line of this
gate, `fit_lists` holds the lines of the other gate that fit, and `partners` holds its partner or None. For each line
of the other gate, `holders` holds its partner at this gate or None.
"""


def pair_musts(fit_lists, musts, partners, holders):
    """Give as many of the must lines of this gate a partner as can have one.

    Must lines that have a partner, and lines of the other gate that have one, keep having one. Returns new lists
    (partners, holders, left_over): the last one holds the must lines that have no partner, in ascending order.
    """
    must = {number: True for number in musts}
    left_over = []
    for number in musts:
        if partners[number] is None:
            sources, end, _ = search(fit_lists, must, holders, number)
            if end is None:
                left_over.append(number)
            else:
                partners, holders = exchange(sources, end, partners, holders)
    return list(partners), list(holders), left_over


def rivals(fit_lists, musts, holders, starts):
    """The ascending list of the starts and of the must lines that hold what they could take, and so on.

    The starts are some of the must lines that pair_musts has left over. The lines of the other gate that fit at least
    one of the rivals are fewer than the rivals, just by the number of the starts.
    """
    must = {number: True for number in musts}
    found = {}
    for start in starts:
        reached = search(fit_lists, must, holders, start)[2]
        for number in reached:
            found[number] = True
    return sorted(found)


def search(fit_lists, must, holders, start):
    """Look for a line of the other gate that can be given away, so that the line start gets a partner.

    A line of the other gate can be given away if it has no holder or if its holder is no must line. Else its holder
    needs another one, and the search goes on from there. Returns (sources, end, reached): for each line of the other
    gate that was met, the line of this gate that would take it; the line that can be given away, or None; and the
    lines of this gate that were reached.
    """
    # If there is no end, all reached lines are must lines, and the lines that fit them are just their own partners.
    # The start has none, so they are one more than these.
    sources = {}
    reached = [start]
    waiting = [start]
    while waiting:
        number = waiting.pop()
        for other in fit_lists[number]:
            if other in sources:
                continue
            sources[other] = number
            holder = holders[other]
            if holder is None or holder not in must:
                return sources, other, reached
            reached.append(holder)
            waiting.append(holder)
    return sources, None, reached


def exchange(sources, end, partners, holders):
    """Let each line on the way from the start to the end take the line of the other gate that it would take.

    Returns new lists (partners, holders).
    """
    partners = list(partners)
    holders = list(holders)
    if holders[end] is not None:
        partners[holders[end]] = None
    other = end
    while other is not None:
        number = sources[other]
        given_up = partners[number]
        partners[number] = other
        holders[other] = number
        other = given_up
    return partners, holders
