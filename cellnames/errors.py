"""The error that stops the reading of a text."""


class NotGood(Exception):
    pass
