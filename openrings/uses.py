"""Which lines, sides of tests and stations come up in plays, and cases in whose plays they do."""

from openrings.errors import NoLine
from openrings.rings import is_whole
from openrings.search import all_cases


def cases_of(code, kind):
    """Cases for all events of a kind that come up, a dict."""
    return all_cases(code, False, (kind,), None, False)


def case_for(code, event):
    """A case in whose play an event comes up, or None."""
    found = list(all_cases(code, False, (event[0],), [event], False).values())
    return found[0] if len(found) > 0 else None


def used_lines(code):
    """The lines that are used, ascending."""
    return tuple(sorted([event[1] for event in cases_of(code, "line")]))


def used_sides(code):
    """The sides of tests that are used, pairs (line, side), ascending."""
    return tuple(sorted([(event[1], event[2]) for event in cases_of(code, "side")]))


def check_line(code, line):
    """Raises NoLine for a value that is no number of a line."""
    if not is_whole(line) or not 1 <= line <= len(code):
        raise NoLine(line)


def case_for_line(code, line):
    """A case in whose play a line is used, or None."""
    check_line(code, line)
    return case_for(code, ("line", line))


def case_for_side(code, line, side):
    """A case in whose play the test of a line comes out so, or None."""
    check_line(code, line)
    return case_for(code, ("side", line, side))


def all_stations(code):
    """The stations that occur in some play."""
    return [event[1] for event in cases_of(code, "station")]


def case_for_station(code, station):
    """A case in whose play a station occurs, or None."""
    return case_for(code, ("station", station))
