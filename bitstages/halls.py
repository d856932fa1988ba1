"""Halls: values that are moved stage by stage, freely, in turn or within a budget."""

from bitstages.affine import joined, reverted
from bitstages.checks import check_bits, check_index, check_mapping, check_own_order, check_place, check_run
from bitstages.checks import is_stage_for
from bitstages.errors import InvalidStage, NothingToUndo, OutOfTurn, Refused, UnlikeBits
from bitstages.fewest import fewest_stages
from bitstages.running import busy_in, made_by, place_behind


class Hall:
    """Values that are moved stage by stage, at first each at its own place."""

    def __init__(self, bits):
        check_bits(bits)
        self._bits = bits
        self._log = []
        # How many stages each call did that is not reverted.
        self._sizes = []

    @property
    def bits(self):
        """The number of bits."""
        return self._bits

    @property
    def mapping(self):
        """The mapping that the hall has made."""
        return made_by(self._bits, self._log)

    @property
    def log(self):
        """The run of all stages that were done and not reverted."""
        return list(self._log)

    def __len__(self):
        return len(self._log)

    def __eq__(self, other):
        # What is described, besides the number of stages, is all that tells halls with equal logs apart.
        return type(self) is type(other) and self._log == other._log and self.described() == other.described()

    def stage(self, bit, mask, flip):
        """Do a stage."""
        if not is_stage_for(self._bits, (bit, mask, flip)):
            raise InvalidStage("no stage for the bits of the hall")
        self._do([(bit, mask, flip)])

    def run(self, run):
        """Do all stages of a run, or none if one raises an error."""
        check_run(self._bits, run)
        self._do(run)

    def undo(self):
        """Revert the last call of stage or run that is not reverted."""
        if len(self._sizes) == 0:
            raise NothingToUndo("no call is left to be reverted")
        size = self._sizes.pop()
        self._log = self._log[:len(self._log) - size]

    def where(self, place):
        """Return where the value from a place is now."""
        check_place(self._bits, place)
        return _moved(self._log, place)

    def whence(self, place):
        """Return from where the value at a place came."""
        check_place(self._bits, place)
        # Each stage reverts itself.
        return _moved(self._log[::-1], place)

    def left_for(self, mapping):
        """Return the mapping that is left to do to make a mapping in all."""
        check_mapping(mapping)
        if len(mapping[0]) != self._bits:
            raise UnlikeBits("the hall and the mapping have not as many bits")
        return joined(reverted(self.mapping), mapping)

    def fewest_left(self, mapping):
        """Return the least number of stages that are left to do to make a mapping in all."""
        return fewest_stages(self.left_for(mapping))

    def twin(self):
        """Return a hall of the same class in the same state that can revert the same calls."""
        other = self._beginning()
        other._log = list(self._log)
        other._sizes = list(self._sizes)
        return other

    def described(self):
        """Return the list of strings that describe the hall."""
        return _plain_lines(self)

    def _beginning(self):
        """Return a hall of the same class in which nothing was done."""
        return Hall(self._bits)

    def _check_next(self, ahead, stage):
        """Raise an error if a stage must not come behind those ahead: in a plain hall each may."""

    def _do(self, stages):
        log = list(self._log)
        for stage in stages:
            self._check_next(log, stage)
            log.append(stage)
        self._log = log
        self._sizes.append(len(stages))


class LineHall(Hall):
    """A hall in which the stages come at the bits of an order, again and again."""

    def __init__(self, order):
        check_own_order(order)
        Hall.__init__(self, len(order))
        self._order = list(order)

    @property
    def order(self):
        """The order in which the stages come."""
        return list(self._order)

    def described(self):
        """Return the list of strings that describe the hall."""
        return _plain_lines(self) + [_order_line(self._order)]

    def _beginning(self):
        return LineHall(self._order)

    def _check_next(self, ahead, stage):
        turn = self._order[len(ahead) % self._bits]
        if stage[0] != turn:
            raise OutOfTurn(turn)
        super()._check_next(ahead, stage)


class BudgetHall(Hall):
    """A hall in which only so many stages that are not idle can be done."""

    def __init__(self, bits, most):
        Hall.__init__(self, bits)
        check_index(most)
        self._most = most

    @property
    def most(self):
        """The greatest number of stages that are not idle."""
        return self._most

    def described(self):
        """Return the list of strings that describe the hall."""
        return _plain_lines(self) + [_most_line(self._most)]

    def _beginning(self):
        return BudgetHall(self._bits, self._most)

    def _check_next(self, ahead, stage):
        count = busy_in(ahead + [stage])
        if count > self._most:
            raise Refused(count)
        super()._check_next(ahead, stage)


class LineBudgetHall(LineHall, BudgetHall):
    """A hall with an order and a budget."""

    def __init__(self, order, most):
        LineHall.__init__(self, order)
        BudgetHall.__init__(self, len(order), most)

    def described(self):
        """Return the list of strings that describe the hall."""
        return _plain_lines(self) + [_order_line(self._order), _most_line(self._most)]

    def _beginning(self):
        return LineBudgetHall(self._order, self._most)


def _plain_lines(hall):
    return [f"bits {hall.bits}", f"stages {len(hall)}"]


def _order_line(order):
    return "order " + ",".join([str(bit) for bit in order])


def _most_line(most):
    return f"most {most}"


def _moved(stages, place):
    now = place
    for stage in stages:
        now = place_behind(stage, now)
    return now
