"""What the program refuses."""


class SignError(ValueError):
    """Every refusal of the program stands straight under this one."""


class OnNought(SignError):
    """A polynomial's value is nought at a row where its sign is asked for."""

    def __init__(self, row):
        self.row = row


class NoText(SignError):
    """What is to be read is not written as a function, a rule or a polynomial is."""


class NoLine(SignError):
    """What is said to a desk is none of its lines."""
