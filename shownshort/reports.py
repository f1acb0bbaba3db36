"""Reports of plans and of views, as texts to be read."""

from shownshort.errors import InvalidLength
from shownshort.kinds import is_integer
from shownshort.shorteners import check_row, planned
from shownshort.views import least_text, lengths, only_text

MOST_TABLED = 100
NOTHING = "-"


def written_plan(sources):
    """Return the parts of a plan one behind the other, places in angle brackets."""
    return "".join([f"<{source}>" if isinstance(source, int) else source for source in sources])


def written_lengths(some, beyond):
    """Return the lengths, separated by commas, with a `+` behind the one from which on all are possible."""
    told = [str(length) for length in some]
    if beyond is not None:
        told.append(f"{beyond}+")
    return ",".join(told) if told else NOTHING


def plan_table(row, most):
    """Return a line with the plan for each length from 0 to `most`."""
    check_row(row)
    if not is_integer(most, 0, MOST_TABLED):
        raise InvalidLength(most)
    return "\n".join([f"{length}: {written_plan(planned(row, length))}" for length in range(most + 1)])


def view_report(views):
    """Return three lines: the lengths of all texts that fit the views, the least one, and whether it is alone."""
    some, beyond = lengths(views)
    least = least_text(views)
    written_least = NOTHING if least is None else f'"{least}"'
    only = "no" if only_text(views) is None else "yes"
    return "\n".join([f"lengths: {written_lengths(some, beyond)}", f"least: {written_least}", f"only: {only}"])
