"""Facts: the conditions that hold for a line at a moment, as the bits of one integer."""

from holdhouse.checks import STAND_CONDITION_OPENING, condition_parts
from holdhouse.standings import PLACE_A, PLACE_B, has_stranger, has_voice

FACTS = {
    "caller": 1,
    "joined": 2,
    "a": 4,
    "b": 8,
    "ear a": 16,
    "ear b": 32,
    "voice": 64,
    "stranger": 128,
    "me a": 256,
    "me b": 512,
    "busy": 1024,
}
# The facts of the stands follow, one for each of them.
FIRST_STAND_FACT = 2048


def facts_of_stands(stands):
    """A dict of the fact for each stand."""
    return {pair[0]: FIRST_STAND_FACT << at for at, pair in enumerate(stands)}


def fact_masks(conditions, stand_facts):
    """The facts that these conditions need, and those that they bar."""
    needed = 0
    barred = 0
    for text in conditions:
        plain, wanted = condition_parts(text)
        if plain.startswith(STAND_CONDITION_OPENING):
            fact = stand_facts[plain[len(STAND_CONDITION_OPENING):]]
        else:
            fact = FACTS[plain]
        if wanted:
            needed = needed | fact
        else:
            barred = barred | fact
    return needed, barred


def line_facts(standing, at, stand_facts):
    """What holds for a line, whoever makes an event."""
    lines, ears = standing
    stand, caller, a, b, mate = lines[at]
    facts = stand_facts[stand]
    if caller:
        facts = facts | FACTS["caller"]
    if a is not None:
        facts = facts | FACTS["a"]
        if ears[a] == at:
            facts = facts | FACTS["ear a"]
    if b is not None:
        facts = facts | FACTS["b"]
        if ears[b] == at:
            facts = facts | FACTS["ear b"]
    if has_voice(standing, at):
        facts = facts | FACTS["voice"]
    if mate is not None:
        facts = facts | FACTS["joined"]
        if has_stranger(standing, at):
            facts = facts | FACTS["stranger"]
    return facts


def presser_facts(standing, at, presser):
    """What holds for the phone that makes an event of this line."""
    lines, ears = standing
    facts = 0
    if lines[at][PLACE_A] == presser:
        facts = FACTS["me a"]
    elif lines[at][PLACE_B] == presser:
        facts = FACTS["me b"]
    if ears[presser] is not None and ears[presser] != at:
        facts = facts | FACTS["busy"]
    return facts


def holds(masks, facts):
    """Whether the facts have all that the masks need, and nothing that they bar."""
    needed, barred = masks
    return facts & needed == needed and facts & barred == 0


def heard_word(facts, sound):
    """What the caller of a line with these facts hears at a stand with this sound; None if there is no caller."""
    if not facts & FACTS["caller"]:
        return None
    if facts & FACTS["voice"]:
        return "both" if facts & FACTS["stranger"] else "voice"
    return "stranger" if facts & FACTS["stranger"] else sound
