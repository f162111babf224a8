"""A shell: commands about a project, each a line of text."""

from loanpairs.base.functions import Function
from loanpairs.base.words import is_name, is_number_text
from loanpairs.decide.papers import certificate
from loanpairs.decide.shortest import Fewest
from loanpairs.errors import InvalidContract, InvalidFunction, InvalidNumber, LoanError, NothingToUndo, ParseError
from loanpairs.errors import Refused, TooMany, UnknownName
from loanpairs.project.project import Project
from loanpairs.text.texts import read_contract, write_certificate, write_state
from loanpairs.use.advice import can_be_look, marks
from loanpairs.use.alarms import alarms
from loanpairs.use.contracts import write_promise
from loanpairs.use.copies import cheapest_copies

NOTHING = "nothing"
NO_COMMAND = "what"


def _write_list(words):
    """Words with a comma and a blank between two."""
    return NOTHING if words == [] else ", ".join(words)


def _write_news(news):
    return _write_list([f"{name} {word}" for name, word in news])


def _write_pairs(pairs):
    """The text of pairs of a function and a variable, or an empty string for its result."""
    return _write_list([name if variable == "" else f"{name}.{variable}" for name, variable in pairs])


def _write_own(contract):
    """The text of a contract without its fields."""
    return write_promise(contract.kinds, contract.result, contract.outcomes)


def _write_pin(pin):
    told = [pin[0], pin[1]]
    if pin[0] == "within":
        told.append(_write_own(pin[2]))
    return " ".join(told)


def _read_promise(fields, text):
    """The contract with this text, which lacks the fields."""
    told = " ".join(fields)
    return read_contract(f"{told}; {text}")


def _read_named(text):
    """The name and what stands behind it and a blank, or None."""
    name, blank, rest = text.partition(" ")
    return (name, rest) if is_name(name) and blank != "" else None


def _read_pin(fields, text):
    """The pin with this text, or None if there is none, whatever stands in the place of a contract."""
    word, _, rest = text.partition(" ")
    if word in ("sound", "unmarked") and is_name(rest):
        return (word, rest)
    named = _read_named(rest) if word == "within" else None
    return None if named is None else (word, named[0], _read_promise(fields, named[1]))


def _read_price(text):
    """The pair of a reference, which is a pair of names, and its price, or None."""
    place, _, price = text.partition(" ")
    name, _, variable = place.partition(".")
    if not is_name(name) or not is_name(variable) or not is_number_text(price):
        return None
    return ((name, variable), int(price))


def _read_prices(text):
    """A dict from references to prices, or None."""
    told = [_read_price(word) for word in text.split(", ")]
    if None in told:
        return None
    prices = {reference: price for reference, price in told}
    return prices if len(prices) == len(told) else None


def _change(project, word, rest):
    """The news of a command that changes the project and has something behind its word, or None if it is none."""
    if word == "put":
        lines = rest.split("; ")
        return project.put(Function.from_lines(*lines))
    if word == "remove" and is_name(rest):
        return project.remove(rest)
    if word == "assume":
        named = _read_named(rest)
        return None if named is None else project.assume(named[0], _read_promise(project.fields, named[1]))
    if word in ("pin", "unpin"):
        pin = _read_pin(project.fields, rest)
        if pin is not None:
            return project.pin(pin) if word == "pin" else project.unpin(pin)
    return None


def _show(project, name):
    """The text of a function, or of an assumed contract without its fields."""
    if name in project:
        return "; ".join(project[name].text)
    return _write_own(project.contract(name))


def _answer_alone(project, word):
    """The answer of a command that is one word, or None if it is none."""
    if word == "undo":
        return _write_news(project.undo())
    if word == "redo":
        return _write_news(project.redo())
    if word == "names":
        names = list(project.functions) + list(project.assumed)
        return NOTHING if names == [] else " ".join(names)
    if word == "check":
        told = certificate(project.whole())
        return "sound" if told[0] == "table" else write_certificate(told)
    if word == "look":
        return _write_pairs(can_be_look(project.whole()))
    return _write_copies(project, {}) if word == "copies" else None


def _write_copies(project, prices):
    chosen = cheapest_copies(project.whole(), prices)
    return "none" if chosen is None else _write_pairs(chosen)


def _answer_of_name(project, word, name):
    """The answer of a command that has a name behind its word, or None if it is none."""
    if word == "show":
        return _show(project, name)
    if word == "contract":
        return str(project.contract(name))
    if word == "sound":
        faults = project.faults_of(name)
        return "sound" if faults == () else _write_list([f"{line} {fault[0]} {fault[1]}" for line, fault in faults])
    if word == "marks":
        return _write_list([f"{line} {owner}" for line, owner in marks(project.whole(), name)])
    if word == "fewest":
        return _write_steps(Fewest(project.whole()).to_fault(name))
    if word == "alarms":
        return _write_list([f"{line} {at} {place}" for line, (at, place) in alarms(project.whole(), name)])
    return None


def _write_steps(steps):
    return "never" if steps is None else str(steps)


def _answer_of_line(project, word, name, index):
    """The answer of a command that has a name and an index behind its word, or None if it is none."""
    if word == "state":
        states = project.states_of(name)
        if index >= len(states):
            raise InvalidNumber(index)
        return write_state(states[index])
    return _write_steps(Fewest(project.whole()).to(name, index)) if word == "fewest" else None


def _answer(project, line):
    """The answer of a command, or None if the text is none."""
    word, blank, rest = line.partition(" ")
    if blank == "":
        return _answer_alone(project, word)
    if word in ("put", "remove", "assume", "pin", "unpin"):
        news = _change(project, word, rest)
        return None if news is None else _write_news(news)
    if word == "copies":
        prices = _read_prices(rest)
        return None if prices is None else _write_copies(project, prices)
    name, blank, number = rest.partition(" ")
    if not is_name(name):
        return None
    if blank == "":
        return _answer_of_name(project, word, name)
    return _answer_of_line(project, word, name, int(number)) if is_number_text(number) else None


class Shell:
    """Does commands about a project."""

    def __init__(self, *fields):
        self._project = Project(*fields)
        self._answered = []

    def run(self, line):
        """The answer of a command."""
        try:
            told = _answer(self._project, line) if isinstance(line, str) else None
        except UnknownName as unknown:
            return f"unknown {unknown.wanted}"
        except ParseError as spoilt:
            return "parse" if spoilt.line is None else f"parse {spoilt.line}"
        except TooMany as more:
            return f"many {more.limit}"
        except Refused as broken:
            return f"refused {_write_pin(broken.claim)}"
        except NothingToUndo:
            return "undo"
        except InvalidFunction:
            return "function"
        except InvalidContract:
            return "contract"
        except InvalidNumber as number:
            return f"number {number.given}"
        except LoanError:
            return "operation"
        if told is None:
            return NO_COMMAND
        self._answered.append(line)
        return told

    def project(self):
        """A twin of the project."""
        return self._project.twin()

    def __call__(self, line):
        return self.run(line)

    def __len__(self):
        return len(self._answered)

    def __str__(self):
        return f"shell with {self._project}"
