"""The errors that the program raises: one class for each kind of refusal.

Their messages do not show what was handed in: that may be anything, of any size.
"""


class ComeError(ValueError):
    """What is handed in is not what it should be."""


class NoWeb(ComeError):
    """No web."""


class NoTerm(ComeError):
    """No term: neither a first nor a next."""


class NoPlan(ComeError):
    """No plan."""


class NoPlans(ComeError):
    """No plans."""


class NoWords(ComeError):
    """No words of the web, or no heap of worths."""


class NoGoes(ComeError):
    """No goes of the web and the plans."""


class NoScene(ComeError):
    """No scene."""


class NoDeed(ComeError):
    """No deed of the scene."""


class NotRight(ComeError):
    """A scene that should be right, and isn't."""


class NoPile(ComeError):
    """No pile."""


class NoTable(ComeError):
    """No table."""


class NoStanding(ComeError):
    """No standing of the table."""


class NoMovers(ComeError):
    """No movers."""


class NoRules(ComeError):
    """No rules."""


class NoWish(ComeError):
    """No wish."""


class NoCase(ComeError):
    """No case."""


class NoLot(ComeError):
    """No lot of the case."""


class NoBase(ComeError):
    """No base."""


class NoLine(ComeError):
    """No row that a desk takes."""


class NoRun(ComeError):
    """No run: bears the number of the first deed that is none of the scene that it meets."""

    def __init__(self, at):
        super().__init__("no run of this scene")
        self.at = at


class NoText(ComeError):
    """No such text: bears the number of the first word that no such text has there."""

    def __init__(self, at):
        super().__init__("no such text")
        self.at = at


class NoSeat(IndexError):
    """No such seat, or seats: bears what was handed in."""

    def __init__(self, seat):
        super().__init__("no such seat, or no such seats")
        self.seat = seat


class NoNumber(LookupError):
    """No such number: bears what was handed in."""

    def __init__(self, number):
        super().__init__("no such number")
        self.number = number


class TooWide(OverflowError):
    """More than can be gone through: bears the most."""

    def __init__(self, most):
        super().__init__("more than can be gone through")
        self.most = most


class TooLong(RuntimeError):
    """Too many in a row: bears how many there would be."""

    def __init__(self, many):
        super().__init__("too many in one row")
        self.many = many


class NoBack(KeyError):
    """More deeds to be taken back than stand: bears how many."""

    def __init__(self, many):
        super().__init__("not so many to take back")
        self.many = many
