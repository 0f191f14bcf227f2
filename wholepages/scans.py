"""Scans: the answers to a query over a table, and the rows that had to be tested for them."""

from wholepages.judges import Judge
from wholepages.limits import check_many
from wholepages.marks import IN, MAYBE
from wholepages.predicates import holds
from wholepages.shapes import check_alike


class Scan:
    """The answers of a scan, the tested addresses, and for each of these a pair of rows that shows why."""

    def __init__(self, answers, tested, pairs):
        self.answers = answers
        self.tested = tested
        self.pairs = pairs

    @property
    def tested_pages(self):
        """The ascending list of the pages with a tested address."""
        return sorted({address[0] for address in self.tested})

    def __iter__(self):
        return iter(self.answers)


def judge_of(table, hints, query):
    """Return the judge of the hints of a table and a query; raise what scan raises."""
    check_many(len(hints))
    for hint in hints:
        check_alike(table.shape, hint.bitmap.shape)
    return Judge([hint.predicate for hint in hints], query, columns=table.shape.columns)


def scan(table, hints, query):
    """Answer the query over the table by hints that are true of it."""
    judge = judge_of(table, hints, query)
    answers = []
    tested = []
    pairs = []
    for address, row in table.walk():
        marks = [hint.bitmap.mark(address) for hint in hints]
        verdict = judge(marks)
        if verdict == MAYBE:
            tested.append(address)
            pairs.append(judge.pair(marks))
        if verdict == IN or (verdict == MAYBE and holds(query, row)):
            answers.append(address)
    return Scan(answers, tested, pairs)
