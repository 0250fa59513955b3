"""The refusals."""


# Any refusal.
class RoomError(ValueError):
    pass


# There is no such asker.
class NoAsker(RoomError):
    pass


# There is no such voter.
class NoVoter(RoomError):
    pass


# There is no such letter.
class NoLetter(RoomError):
    pass
