"""All errors of the program: what was wrong stands in their attributes."""


class QueueError(Exception):
    """The base of all errors of the program."""


class InvalidAct(QueueError):
    """What was handed in is no act of this world."""

    def __init__(self, given):
        self.given = given


class InvalidActs(QueueError):
    """What was handed in is no list of acts of this world."""

    def __init__(self, given):
        self.given = given


class InvalidBrokers(QueueError):
    """What was handed in is no number of brokers."""

    def __init__(self, given):
        self.given = given


class InvalidCommand(QueueError):
    """What was handed in is no command."""

    def __init__(self, given):
        self.given = given


class InvalidCommands(QueueError):
    """What was handed in is no list of commands."""

    def __init__(self, given):
        self.given = given


class InvalidCount(QueueError):
    """What was handed in is no count, or none that may stand here."""

    def __init__(self, given):
        self.given = given


class InvalidDisk(QueueError):
    """What was handed in is no disk, or no list of disks."""

    def __init__(self, given):
        self.given = given


class InvalidItems(QueueError):
    """What was handed in is no tuple of items for one sending."""

    def __init__(self, given):
        self.given = given


class InvalidKeeps(QueueError):
    """What was handed in is no list of counts."""

    def __init__(self, given):
        self.given = given


class InvalidLetter(QueueError):
    """What was handed in is no letter, or none that may come here."""

    def __init__(self, given):
        self.given = given


class InvalidLine(QueueError):
    """What was handed in is no line of such a value."""

    def __init__(self, given):
        self.given = given


class InvalidName(QueueError):
    """What was handed in is no name, or none of those that are known here."""

    def __init__(self, given):
        self.given = given


class InvalidNumber(QueueError):
    """What was handed in is no number that may stand here."""

    def __init__(self, given):
        self.given = given


class InvalidPicture(QueueError):
    """What was handed in is no picture of a state."""

    def __init__(self, given):
        self.given = given


class InvalidState(QueueError):
    """What was handed in is no state."""

    def __init__(self, given):
        self.given = given


class InvalidTerm(QueueError):
    """What was handed in is no term that may stand here."""

    def __init__(self, given):
        self.given = given


class InvalidText(QueueError):
    """What was handed in is no text that may stand here."""

    def __init__(self, given):
        self.given = given


class InvalidValue(QueueError):
    """What was handed in is no value, or none that may stand here."""

    def __init__(self, given):
        self.given = given


class InvalidWorld(QueueError):
    """What was handed in is no world, or nothing that one is made of."""

    def __init__(self, given):
        self.given = given


class PowerCut(QueueError):
    """The power of the disk is away."""


class Held(QueueError):
    """The message with this number is held for the group."""

    def __init__(self, group, number):
        self.group = group
        self.number = number


class TooLong(QueueError):
    """The line of the value would have so many signs."""

    def __init__(self, signs):
        self.signs = signs


class NoFile(QueueError):
    """No file of this name is on the disk."""

    def __init__(self, name):
        self.name = name


class NoRow(QueueError):
    """No row stands at this index."""

    def __init__(self, index):
        self.index = index


class NoTopic(QueueError):
    """The state has no such topic."""

    def __init__(self, topic):
        self.topic = topic


class NoGroup(QueueError):
    """The state has no such group."""

    def __init__(self, group):
        self.group = group


class NotLeading(QueueError):
    """This node does not lead; it knows of this leader, or of None."""

    def __init__(self, leader):
        self.leader = leader


class Fallen(QueueError):
    """The broker or client is fallen."""

    def __init__(self, who):
        self.who = who
