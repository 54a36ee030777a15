"""The desk: deeds as lines of words, and what comes of them as lines."""

from inorderonce.actlines import read_act
from inorderonce.calm import calm
from inorderonce.clients import Producer
from inorderonce.errors import InvalidText
from inorderonce.histories import step
from inorderonce.lines import GREATEST_INTEGER, is_signs, line
from inorderonce.meaning import KEY, TOPIC, State
from inorderonce.worlds import World

BEGIN_OF_CALM = "calm "
MARK_OF_NONE = "-"


class Desk:
    """A world of its own, in which scripts are done."""

    def __init__(self, brokers, producers, members):
        self._world = World(brokers, producers, members)
        # The lines of all deeds that were done.
        self._lines = []
        # The state behind the rows that were told, and how many these are.
        self._state = State()
        self._rows = 0

    def do(self, text):
        """Do the deeds of a script in order, and list the news of them."""
        if not isinstance(text, str):
            raise InvalidText(text)
        lines = text.split("\n") if text else []
        # All are judged ahead of doing any: a script that is refused has nothing done.
        for words in lines:
            if not self._is_deed(words):
                raise InvalidText(words)
        news = []
        for words in lines:
            news.extend(self._do(words))
        return news

    def script(self):
        """Give the script of all deeds that were done."""
        return "\n".join(self._lines)

    def show(self):
        """List what there is in the world, as lines."""
        world = self._world
        rows = [_show_broker(world, number) for number in range(world.brokers())]
        ways = f"letters {len(world.letters())} answers {len(world.answers())}"
        rows.append(f"time {self._state.now} next {self._state.next} rows {len(world.log())} {ways}")
        for topic, last in self._state.topics():
            keeps = "last" if last else "all"
            rows.append(f"topic {topic} {keeps} kept {len(self._state.kept(topic))}")
        for group, topic, dead in self._state.groups():
            done, buried = self._state.counts(group)
            waits = len(self._state.waiting(group))
            rows.append(f"group {group} {topic} {_or_mark(dead)} waits {waits} done {done} dead {buried}")
        rows.extend([_show_producer(world, name) for name in world.producers()])
        rows.extend([_show_member(world, member) for member in world.members()])
        return rows

    def _is_deed(self, words):
        """Judge whether this is the line of a deed of this world."""
        if words.startswith(BEGIN_OF_CALM):
            return _is_figures(words.removeprefix(BEGIN_OF_CALM))
        try:
            act = read_act(words)
        except InvalidText:
            return False
        return self._world.has_act(act)

    def _do(self, words):
        """Do the deed with this line, and list the news of it."""
        world = self._world
        stood, led, answers = _standing(world), _leading(world), len(world.answers())
        if words.startswith(BEGIN_OF_CALM):
            calm(world, int(words.removeprefix(BEGIN_OF_CALM)))
        else:
            world.act(read_act(words))
        self._lines.append(words)
        leading = _leading(world)
        news = _news_of_standing(stood, _standing(world)) + _news_of_leading(led, leading)
        for term, command in world.log()[self._rows:]:
            news.extend(self._news_of_row(term, command))
        news.extend(_news_of_leases(led, leading))
        news.extend([f"answer {line(letter)}" for letter in world.answers()[answers:]])
        return news

    def _news_of_row(self, term, command):
        """List the news of a further row, which is told from now on."""
        self._rows = self._rows + 1
        counted, made, settled, went = step(self._state, command)
        news = [f"row {self._rows} {term} {line(command)}"]
        news.extend([f"made {message[0]} {message[TOPIC]} {message[KEY]}" for message in made])
        word = command[0]
        if word == "failed" and counted:
            tries = self._state.tries(command[1], command[2])
            if tries is not None:
                news.append(f"failed {command[1]} {command[2]} {tries}")
        for number, group in settled:
            end = "done" if word == "done" and command[1:3] == (group, number) else "dead"
            news.append(f"{end} {group} {number}")
        news.extend([f"gone {number}" for number in went])
        return news


def _is_figures(text):
    """Judge whether these are the figures of a count that a line may have."""
    if not is_signs(text) or not text.isdigit() or len(text) > len(str(GREATEST_INTEGER)):
        return False
    return str(int(text)) == text


def _everyone(world):
    """List all who may stand: brokers ascending, then clients by name."""
    clients = sorted(world.producers() + [name for name, _, _ in world.members()])
    return list(range(world.brokers())) + clients


def _standing(world):
    """Tell for each one whether it stands, in the order of their lines."""
    return {who: world.stands(who) for who in _everyone(world)}


def _leading(world):
    """Give for each broker that stands and leads its term, and its leases without their ends."""
    found = {}
    for number in range(world.brokers()):
        if world.stands(number) and world.broker(number).role == "leads":
            leases = [lease[:4] for lease in world.broker(number).leases()]
            found[number] = (world.broker(number).term, leases)
    return found


def _news_of_standing(before, behind):
    """List who fell and who rose."""
    news = [f"fallen {who}" for who, stands in behind.items() if before[who] and not stands]
    return news + [f"risen {who}" for who, stands in behind.items() if stands and not before[who]]


def _news_of_leading(before, behind):
    """List who leads anew."""
    news = []
    for number, (term, _) in behind.items():
        if number not in before or before[number][0] != term:
            news.append(f"leads {number} {term}")
    return news


def _news_of_leases(before, behind):
    """List who holds what anew."""
    news = []
    for number, (_, leases) in behind.items():
        _, held = before.get(number, (0, []))
        for lease in leases:
            if lease not in held:
                group, message, member, (term, count) = lease
                news.append(f"holds {member} {group} {message} {term} {count}")
    return news


def _or_mark(name):
    """Give a name, or the mark where there is none."""
    return MARK_OF_NONE if name is None else name


def _show_broker(world, number):
    """Write the line of a broker."""
    if not world.stands(number):
        return f"broker {number} fallen"
    broker = world.broker(number)
    last, _ = broker.last()
    leader = MARK_OF_NONE if broker.leader is None else broker.leader
    parts = f"term {broker.term} taken {broker.taken} base {broker.base} last {last} leader {leader}"
    return f"broker {number} {broker.role} {parts}"


def _show_producer(world, name):
    """Write the line of a producer, by what lies on its disk."""
    producer = Producer(name, world.disk(name), world.brokers())
    acked = producer.last() - len(producer.unacked())
    end = "" if world.stands(name) else " fallen"
    return f"producer {name} put {producer.last()} acked {acked}{end}"


def _show_member(world, member):
    """Write the line of a member."""
    name, group, made = member
    begin = f"member {name} {group} {_or_mark(made)}"
    if not world.stands(name):
        return f"{begin} fallen"
    holds = world.member(name).holds()
    number = MARK_OF_NONE if holds is None else holds[1]
    return f"{begin} holds {number}"
