"""Errors: every failure of the store is a ShardError, which is a ValueError."""


class ShardError(ValueError):
    """The base of all errors of this package."""


class WireError(ShardError):
    """Bytes form no value, or a value cannot be sent."""


class StoreError(ShardError):
    """A machine's kept records are invalid, or used in a way that does not fit."""


class LogError(ShardError):
    """A log has no such entry."""


class MachineError(ShardError):
    """A machine does not exist, is down, or is asked for what it cannot do."""


class MapError(ShardError):
    """A map of shards cannot be changed so."""


class AskError(ShardError):
    """An operation is invalid."""


class CheckError(ShardError):
    """Machines do not agree as they should."""


class TextError(ShardError):
    """A line is invalid."""


class TableError(ShardError):
    """A table, a deal, a key, an index or a backup is invalid."""


class LockError(ShardError):
    """A lock is not held, or asked for in vain."""


class QueueError(ShardError):
    """A queue, a share or a workflow is invalid."""


class PlaceError(ShardError):
    """A machine or a part is invalid."""
