"""Texts of runs and of mappings."""

from bitstages.checks import MOST_BITS, MOST_STAGES, check_bits, check_mapping, check_run
from bitstages.checks import is_place, is_stage_for, wrong_row
from bitstages.errors import InvalidText
from bitstages.words import mapping_text, number_in, numbers_in, run_text, stage_in, words_in


def format_run(run):
    """Return the text of a run for 60 bits."""
    check_run(MOST_BITS, run)
    return run_text(run)


def format_mapping(mapping):
    """Return the text of a mapping."""
    check_mapping(mapping)
    return mapping_text(mapping)


def parse_run(bits, text):
    """Return the run with a text."""
    check_bits(bits)
    _check_string(text)
    run = []
    for at, word in enumerate(words_in(text)):
        stage = stage_in(word)
        if at == MOST_STAGES or not is_stage_for(bits, stage):
            raise InvalidText(at)
        run.append(stage)
    return run


def parse_mapping(text):
    """Return the mapping with a text."""
    _check_string(text)
    words = words_in(text)
    rows = None if len(words) == 0 else numbers_in(words[0], ",")
    if rows is None or len(rows) > MOST_BITS or wrong_row(rows) is not None:
        raise InvalidText(0)
    offset = None if len(words) == 1 else number_in(words[1])
    if not is_place(len(rows), offset):
        raise InvalidText(1)
    if len(words) > 2:
        raise InvalidText(2)
    return rows, offset


def _check_string(text):
    if not isinstance(text, str):
        raise InvalidText(None)
