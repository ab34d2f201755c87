"""The refusals: one class each, all of them under VolumeError and none under another one."""


class VolumeError(ValueError):
    pass


class NoLayout(VolumeError):
    pass


class NoVolume(VolumeError):
    def __init__(self, at):
        VolumeError.__init__(self, f"no volume of the layout (row {at}; -1: too few or too many rows)")
        self.at = at


class NoText(VolumeError):
    def __init__(self, at):
        VolumeError.__init__(self, f"no text of a volume (row {at})")
        self.at = at


class NoPath(VolumeError):
    pass


class NotFile(VolumeError):
    pass


class NotFolder(VolumeError):
    pass


class BadName(VolumeError):
    pass


class BadNumber(VolumeError):
    pass


class Taken(VolumeError):
    pass


class IntoItself(VolumeError):
    pass


class NotEmpty(VolumeError):
    pass


class TooFar(VolumeError):
    pass


class Full(VolumeError):
    pass
