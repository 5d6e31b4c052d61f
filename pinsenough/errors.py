"""The errors of the package."""


class PinError(ValueError):
    """What all errors of the package are; it is raised nowhere itself."""


class Broken(PinError):
    def __init__(self, duty):
        self.duty = duty


class Doubling(PinError):
    def __init__(self, found):
        self.found = found


class NoCommand(PinError):
    def __init__(self):
        pass


class NoIndex(PinError):
    def __init__(self, index):
        self.index = index


class NoReading(PinError):
    def __init__(self, node):
        self.node = node


class NoText(PinError):
    def __init__(self, at):
        self.at = at


class NotEnough(PinError):
    def __init__(self, other):
        self.other = other


class Nothing(PinError):
    def __init__(self):
        pass


class TooMany(PinError):
    def __init__(self, most):
        self.most = most


class Unbounded(PinError):
    def __init__(self, found):
        self.found = found


class Wrong(PinError):
    def __init__(self, place):
        self.place = place
