"""Stories as texts: a line for each event."""

from fifthhost.errors import WrongLine
from fifthhost.events import EVENT_PARTS, MOST_EVENTS, made_story
from fifthhost.words import Words, all_figures, check_text, figures, signed_word


def story_text(story):
    """The text of a story."""
    made_story(story)
    return "\n".join([" ".join(words_of(event)) for event in story])


def words_of(event):
    """The words of the line of an event."""
    words = [event[0]]
    for sign, part in zip(EVENT_PARTS[event[0]], event[1:]):
        if sign == "v":
            words.append(all_figures(part) if part else "none")
        elif sign == "n":
            words.append(figures(part))
        elif part is not None:
            words.extend(["letters", figures(part)])
    return words


def read_story(text):
    """The story of a text."""
    check_text(text)
    if text == "":
        return ()
    events = []
    for index, line in enumerate(text.split("\n")):
        if index == MOST_EVENTS:
            raise WrongLine((index, 0))
        events.append(read_event(Words(line, index)))
    return tuple(events)


def read_event(words):
    """The event of a line."""
    word = words.take(words.look() in EVENT_PARTS)
    event = [word]
    for sign in EVENT_PARTS[word]:
        if sign == "v":
            event.append(read_votes(words))
        elif sign == "l":
            event.append(read_letters_of(words))
        else:
            event.append(words.signed())
    words.end()
    return tuple(event)


def read_votes(words):
    """The next word as votes."""
    parts = words.look().split(",")
    if words.take(parts == ["none"] or all([signed_word(part) for part in parts])) == "none":
        return ()
    return tuple([int(part) for part in parts])


def read_letters_of(words):
    """How many letters come, by the last two words; None if these are not there."""
    if words.ended():
        return None
    words.word("letters")
    return words.signed()
