"""Each name of the interface exists where the document lists it, with the arguments that it tells."""

import importlib
import inspect
import unittest

CONSTANTS = {
    "base.words": {
        "MAX_LETTERS": 8, "MAX_FIELDS": 4, "KINDS": ("full", "look", "own"),
        "KEYWORDS": ("call", "copy", "def", "drop", "fields", "full", "lend", "look", "move", "new", "own", "put", "return",
                     "skip", "take", "touch"),
    },
    "base.functions": {"MAX_PARAMETERS": 3, "MAX_VARIABLES": 8, "MAX_LINES": 40, "MAX_NEXTS": 3},
    "base.programs": {"MAX_FUNCTIONS": 12},
    "core.walks": {"MAX_PAIRS": 2000, "MAX_WAY": 2000},
    "core.places": {"MAX_UNFOLDED": 20000},
    "use.copies": {"MAX_PRICED": 6},
    "project.project": {"MAX_PINS": 10},
}
FUNCTIONS = {
    "base.words": "is_integer(value) is_name(value) is_fields(value) is_part(fields,value) do_overlap(one,other)",
    "base.functions": "is_step(value) write_step(step) read_step(text)",
    "base.programs": "renamed(program,*,fields,functions) inlined(program,name,index)",
    "core.facts": "is_fact(program,name,value) is_state(program,name,value) is_outcome(program,name,value) "
                  "start_state(program,name) uses_at(program,name,index) faults_at(program,name,index,state) "
                  "outcomes_at(program,name,index,state) state_behind(program,name,index,state,outcome=None)",
    "core.walks": "is_walk(program,value)",
    "decide.tables": "is_table(program,value) is_closed(program,value) is_contained(program,one,other)",
    "decide.papers": "certificate(program) is_certificate(program,value) is_sound(program) sound_functions(program) "
                     "faulting_walk(program,name,index,fault)",
    "decide.shortest": "is_length_paper(program,value)",
    "use.contracts": "contracts_of(program) does_keep(function,contracts) outcomes_by(function,contracts) "
                     "parting(one,other) is_parting(one,other,value)",
    "use.advice": "can_be_look(program) is_lowering(program,value) lowered(program,pairs) marks(program,name) "
                  "mark_walks(program,name,index,owner) without_touches(program,*names)",
    "use.copies": "can_copy(program) copied(program,pairs) cheapest_copies(program,prices) "
                  "copies_certificate(program,prices) is_copies_certificate(program,prices,value)",
    "use.alarms": "may_hold(program,name) wanted(program,name) alarms(program,name) each_alarm(program)",
    "text.texts": "write_state(state) read_state(text) write_table(rows) read_table(text) write_walk(lines) read_walk(text) "
                  "write_certificate(certificate) read_certificate(text) write_contract(contract) read_contract(text)",
}
CLASSES = {
    ("base.functions", "Function"): (
        "called parameters result variables lines names calls text",
        "__init__(self,called,parameters,result,variables,lines) from_lines(*lines) kind(self,name) ahead(self,index) "
        "with_line(self,index,step,*nexts) renamed(self,names) __getitem__ __contains__ __len__ __eq__ __str__"),
    ("base.programs", "Program"): (
        "fields functions names text",
        "__init__(self,fields,functions) from_lines(*lines) callers(self,name) needed(self,name) with_function(self,function) "
        "without(self,name) __or__ __and__ __getitem__ __contains__ __len__ __eq__ __str__"),
    ("core.walks", "Walk"): (
        "program lines name way states faults outcome is_run steps nexts",
        "__init__(self,program,lines) inner(self,position) longer(self,index,inner=None) begin(program,name) __len__ __eq__ "
        "__str__"),
    ("core.places", "Places"): (
        "program lines fault held ended",
        "__init__(self,program,lines) place(self,name) age(self,name) meets(self,one,other) __len__ __eq__ __str__"),
    ("decide.tables", "Table"): (
        "program rows is_sound faults",
        "__init__(self,program) state(self,name,index) is_reached(self,name,index) outcomes_of(self,name) "
        "has(self,name,index,fact) each(self) __getitem__ __len__ __eq__ __str__"),
    ("decide.shortest", "Fewest"): (
        "program fault",
        "__init__(self,program) to(self,name,index,*,fact=None) out(self,name,outcome) to_fault(self,name) "
        "walk_to(self,name,index,*,fact=None) walk_out(self,name,outcome) faulty_walk(self,name) faulty_run(self) paper(self) "
        "__len__ __eq__ __str__"),
    ("use.contracts", "Contract"): (
        "fields kinds result outcomes closed",
        "__init__(self,fields,kinds,result,outcomes) of(program,name) fits(self,other) function(self,called) __or__ __and__ "
        "__eq__ __contains__ __len__ __bool__ __str__"),
    ("project.project", "Project"): (
        "fields functions assumed pins",
        "__init__(self,*fields) put(self,function) remove(self,name) assume(self,name,contract) pin(self,pin) unpin(self,pin) "
        "trial(self,*changes) undo(self,*,many=1) redo(self,*,many=1) contract(self,name) states_of(self,name) "
        "faults_of(self,name) whole(self) twin(self) __getitem__ __iter__ __contains__ __len__ __eq__ __str__"),
    ("text.shell", "Shell"): (
        "", "__init__(self,*fields) run(self,line) project(self) __call__(self,line) __len__ __str__"),
}
ERRORS = {
    ValueError: ["LoanError"],
    KeyError: ["UnknownName"], IndexError: ["NothingToUndo"], LookupError: ["NotReached"], OverflowError: ["TooMany"],
    ArithmeticError: ["Refused"], RuntimeError: ["InvalidNumber"],
}


def module(name):
    return importlib.import_module(f"loanpairs.{name}")


def written(function):
    """The parameters of a function like `self,name,*,fact=None`."""
    return str(inspect.signature(function))[1:-1].replace(" ", "")


class Interface(unittest.TestCase):
    def test_constants(self):
        for name, constants in CONSTANTS.items():
            for constant, value in constants.items():
                self.assertEqual(getattr(module(name), constant), value)

    def test_functions(self):
        for name, listed in FUNCTIONS.items():
            for told in listed.split():
                called, _, parameters = told[:-1].partition("(")
                function = vars(module(name))[called]
                self.assertEqual([function.__module__, function.__name__], [f"loanpairs.{name}", called])
                self.assertEqual(written(function), parameters, called)

    def test_classes(self):
        for (name, called), (properties, methods) in CLASSES.items():
            found = vars(module(name))[called]
            self.assertEqual(found.__module__, f"loanpairs.{name}")
            for told in properties.split():
                self.assertIsInstance(vars(found)[told], property, (called, told))
            for told in methods.split():
                method, _, parameters = told.partition("(")
                self.assertIn(method, vars(found), called)
                if parameters:
                    self.assertEqual(written(getattr(found, method)), parameters[:-1], (called, method))

    def test_class_methods(self):
        for name, called, method in (("base.functions", "Function", "from_lines"), ("base.programs", "Program", "from_lines"),
                                     ("core.walks", "Walk", "begin"), ("use.contracts", "Contract", "of")):
            self.assertIsInstance(vars(vars(module(name))[called])[method], classmethod)

    def test_errors(self):
        errors = vars(module("errors"))
        for base, names in ERRORS.items():
            for name in names:
                self.assertEqual(errors[name].__bases__, (base,))
        for name in ("Word", "Function", "Program", "State", "Walk", "Table", "Contract", "Operation"):
            self.assertEqual(errors[f"Invalid{name}"].__bases__, (errors["LoanError"],))
        self.assertEqual(errors["ParseError"].__bases__, (errors["LoanError"],))


if __name__ == "__main__":
    unittest.main()
