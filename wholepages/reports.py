"""Reports: what a scan found and tested on each page, beside the pages of hints, as lines of text."""

from wholepages.predicates import describe
from wholepages.shapes import check_alike

SIGNS = {"blank": ".", "whole": "#", "exact": "x"}


def kinds_on(hints, page):
    """Return the text with a sign for each hint, for the kind of the page in it."""
    if not hints:
        return "-"
    return "".join([SIGNS[hint.bitmap.kind(page)] for hint in hints])


def on_page(addresses, page):
    """Return how many of the addresses are on the page."""
    return len([address for address in addresses if address[0] == page])


def page_line(hints, page, counted):
    """Return the line of a page, where counted are the lists of addresses that are counted in it."""
    rows, hits, tests = [on_page(addresses, page) for addresses in counted]
    return f"{page:>4} {rows:>4} {hits:>4} {tests:>4}  {kinds_on(hints, page)}"


def report(table, hints, scan):
    """Return the list of the lines that tell of the hints, and of the scan page by page."""
    for hint in hints:
        check_alike(table.shape, hint.bitmap.shape)
    used = [address for address, _ in table.walk()]
    counted = [used, scan.answers, scan.tested]
    rows, hits, tests = [len(addresses) for addresses in counted]
    size = sum([hint.size for hint in hints])
    lines = [f"h{number} {describe(hint.predicate)}" for number, hint in enumerate(hints)]
    lines.append("page rows  hit test  kinds")
    lines.extend([page_line(hints, page, counted) for page in range(table.shape.pages)])
    lines.append(f" all {rows:>4} {hits:>4} {tests:>4}  {size}")
    return lines
