"""Verdicts on books (point [26])."""


class House:
    """A book without rings of three and of four rooms."""

    def __init__(self, book):
        self.book = book
