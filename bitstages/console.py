"""The console: commands in words for a hall."""

from bitstages.errors import InvalidCommand
from bitstages.fewest import fewest_stages
from bitstages.halls import Hall, LineHall
from bitstages.oneruns import one_run
from bitstages.orders import goes_always
from bitstages.words import mapping_text, number_in, run_text, stage_in

# How many words follow the first one, at least; some commands take any more.
FOLLOWING = {
    "bits": 1, "order": 1, "run": 1, "undo": 0, "where": 1, "whence": 1, "mapping": 0, "log": 0, "one": 1, "always": 0,
    "fewest": 0, "left": 2, "state": 0,
}
LONGER = ("order", "run", "one", "left")
CHANGING = ("bits", "order", "run", "undo")


class Console:
    """A console with a hall."""

    def __init__(self):
        self._hall = Hall(1)

    def execute(self, command):
        """Run a command and return its answer."""
        name, given = _read(command)
        if name in CHANGING:
            self._change(name, given)
            return "ok"
        answer = _answer(self._hall, name, given)
        return "none" if answer == "" else answer

    def _change(self, name, given):
        if name == "bits":
            self._hall = Hall(given[0])
        elif name == "order":
            self._hall = LineHall(given)
        elif name == "run":
            self._hall.run(given)
        else:
            self._hall.undo()


def _read(command):
    """Return the name of a command and the list of the numbers or the stages that follow it."""
    if not isinstance(command, str):
        raise InvalidCommand("no string")
    name, *words = command.split(" ")
    if name not in FOLLOWING:
        raise InvalidCommand("no such command")
    given = [stage_in(word) if name == "run" else number_in(word) for word in words]
    if None in given:
        raise InvalidCommand("a word that cannot stand there")
    many = FOLLOWING[name]
    if len(given) < many or (len(given) > many and name not in LONGER):
        raise InvalidCommand("too few or too many words")
    return name, given


def _answer(hall, name, given):
    """Return the answer of a command that changes nothing, the empty text where it is none."""
    if name == "where":
        return str(hall.where(given[0]))
    if name == "whence":
        return str(hall.whence(given[0]))
    if name == "mapping":
        return mapping_text(hall.mapping)
    if name == "log":
        return run_text(hall.log)
    if name == "one":
        run = one_run(hall.mapping, given)
        return "" if run is None else run_text(run)
    if name == "always":
        return "yes" if goes_always(hall.mapping) else "no"
    if name == "fewest":
        return str(fewest_stages(hall.mapping))
    if name == "left":
        return mapping_text(hall.left_for((given[:-1], given[-1])))
    return "; ".join(hall.described())
