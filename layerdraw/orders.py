"""Orders of marks in rows: crossings of the lines between rows, sweeping, settling."""


def places_of(rows):
    """Tells each mark's place in its row; no mark stands twice, so one dict does for several rows."""
    places = {}
    for row in rows:
        for place, mark in enumerate(row):
            places[mark] = place
    return places


def crossings(upper, lower, lines):
    above = places_of([upper])
    below = places_of([lower])
    ends = [(above[one], below[other]) for one, other in lines if one in above and other in below]
    total = 0
    for high, low in ends:
        total += len([end for end in ends if high < end[0] and low > end[1]])
    return total


def all_crossings(rows, lines):
    return sum([crossings(upper, lower, lines) for upper, lower in zip(rows, rows[1:])])


def ends_across(lines):
    """Tells two dicts, from a mark to the upper ends of its lines upward, and to the lower ends of those downward."""
    above = {}
    below = {}
    for upper, lower in lines:
        above.setdefault(lower, []).append(upper)
        below.setdefault(upper, []).append(lower)
    return (above, below)


def by_middles(row, across, ends):
    own = places_of([row])
    far = places_of([across])
    found = {}
    common = 1
    for mark in row:
        found[mark] = [far[end] for end in ends.get(mark, [])] or [own[mark]]
        common *= len(found[mark])
    # Each middle times the common number is whole, so that no fraction is cut off.
    return sorted(row, key=lambda mark: sum(found[mark]) * common // len(found[mark]))


def sweep(rows, ends):
    """Sweeps the rows in the order in which they are handed in: to sweep up, the last one comes first."""
    done = rows[:1]
    for row in rows[1:]:
        done.append(by_middles(row, done[-1], ends))
    return done


def copied(rows):
    return [list(row) for row in rows]


def swept(rows, lines, often=4):
    sides = ends_across(lines)
    standing = copied(rows)
    best = standing
    least = all_crossings(best, lines)
    for time in range(often):
        if time % 2 == 0:
            standing = sweep(standing, sides[0])
        else:
            standing = sweep(standing[::-1], sides[1])[::-1]
        number = all_crossings(standing, lines)
        if number < least:
            best = standing
            least = number
    return best


def crossed(ahead, behind):
    """Tells the crossings of two marks' lines by the places of their ends across, the one mark standing ahead."""
    total = 0
    for place in ahead:
        total += len([other for other in behind if other < place])
    return total


def fewer_if_changed(places, sides, left, right):
    fewer = 0
    for ends in sides:
        ahead = [places[end] for end in ends.get(left, [])]
        behind = [places[end] for end in ends.get(right, [])]
        fewer += crossed(ahead, behind) - crossed(behind, ahead)
    return fewer


def next_change(rows, places, sides, start):
    """Tells the first change from a row on, as the log has it, or None where none is worth it."""
    for number in range(start, len(rows)):
        row = rows[number]
        for k, right in enumerate(row[1:]):
            fewer = fewer_if_changed(places, sides, row[k], right)
            if fewer > 0:
                return (number, k, fewer)
    return None


def change(row, places, k):
    left = row[k]
    row[k] = row[k + 1]
    row[k + 1] = left
    places[row[k]] = k
    places[left] = k + 1


def settled(rows, lines):
    standing = copied(rows)
    places = places_of(standing)
    sides = ends_across(lines)
    log = []
    found = next_change(standing, places, sides, 0)
    while found is not None:
        log.append(found)
        change(standing[found[0]], places, found[1])
        # What a change is worth hangs on the rows next to it: those further up stay settled.
        found = next_change(standing, places, sides, max(found[0] - 1, 0))
    return (standing, log)
