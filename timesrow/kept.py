"""A kept row: numbers seen one by one, and what is told back of them."""

from timesrow.errors import NoFit
from timesrow.rests import check_number
from timesrow.told.fits import number_behind, times_that_fit


class KeptRow:
    """A bound and the numbers seen; at each time some rule of the bound fits them."""

    def __init__(self, bound):
        self.bound = bound
        self.numbers = []

    def see(self, number):
        """One more number is seen."""
        check_number(number, self.bound)
        if times_that_fit(self.row_now() + (number,), self.bound) is None:
            raise NoFit("no rule of this bound fits the row with this number")
        self.numbers.append(number)

    def take_back(self):
        """The last number is taken back."""
        if len(self.numbers) == 0:
            raise NoFit("no number is left to take back")
        self.numbers.pop()

    def row_now(self):
        """The numbers seen."""
        return tuple(self.numbers)

    def fit_now(self):
        """The least times and the step of the rules that fit, or None of fewer than two numbers."""
        if len(self.numbers) < 2:
            return None
        return times_that_fit(self.row_now(), self.bound)

    def guess_now(self):
        """The number behind the row where it is settled, or None."""
        if len(self.numbers) < 2:
            return None
        return number_behind(self.row_now(), self.bound)
