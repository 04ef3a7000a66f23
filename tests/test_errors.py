"""[2.2] and the interface: the errors, and where each function and class is defined."""

import importlib
import inspect
import unittest

from anywithin import errors
from tests.helpers import GREAT, Sour

ERRORS = """
BadRows(index), BadKinds(kinds), BadKind(kind), BadNames(names), BadStand(index), BadMate(index), BadPath(path),
BadMark(mark), BadRecord(record), BadGoal(goal), BadFlat(index), BadMany(many), BadLess(index), BadMore(index),
BadStands(index), BadDeeds(index), BadPlan(plan), BadName(name), BadOther(other), BadNameList(index),
BadIndex(index), BadAsk(ask), BadNumber(number), NoRecord(number), Lasts(number), BadNumbers(numbers),
Twice(number), NotThere(index), Asked(index), BadPlace(place), BadBeginning(index), BadPlay(play),
BadAsked(index), BadSteps(index), NotBrought(asked), BadFirst(index), NotMore(first), BadLater(later),
NotLocal(name)
"""

INTERFACE = {
    "kinds": "Kinds(rows) is_row(thing) kinds_called(kinds,names)",
    "deeds": "deed_fault(kinds,thing) is_deed(kinds,thing)",
    "plans": "Plan(kinds,deeds) is_less(plan,other) without_deeds(plan,names) without_ask(plan,name,index) "
             "with_ask(plan,name,ask) plan_called(plan,names)",
    "stands": "is_record(kinds,thing) is_stand(kinds,thing) stand_fault(kinds,thing) told_stand(kinds,stand) "
              "are_alike(kinds,stand,mate) size_of(kinds,stand) stand_called(kinds,stand,names)",
    "paths": "paths_of(kinds,stand) record_at(kinds,stand,path) without_path(kinds,stand,path) "
             "set_mark(kinds,stand,path,mark) put_in(kinds,stand,path,record) moved_to(kinds,stand,path,goal) "
             "flat_rows(kinds,stand) stand_of_flat(kinds,flat)",
    "sizes": "all_stands(kinds,many) count_stands(kinds,many)",
    "placings": "lies_in(kinds,less,more) placing(kinds,less,more) placing_fault(kinds,less,more,thing)",
    "bars": "bar(kinds,less,more) bar_fault(kinds,less,more,thing)",
    "least": "least_ones(kinds,stands) is_above(kinds,stands,stand)",
    "overlays": "overlays(kinds,stand,mate)",
    "grounds": "Ground(plan,stand)",
    "beginnings": "is_beginning(kinds,thing) told_beginning(kinds,beginning) begins(kinds,beginning,stand) "
                  "sowing(kinds,beginning,stand) sowing_fault(kinds,beginning,stand,thing) "
                  "lack(kinds,beginning,stand) lack_fault(kinds,beginning,stand,thing)",
    "sprouts": "sprouted(kinds,beginning,number) is_within(kinds,beginning,mate) "
               "stand_outside(kinds,beginning,mate) seeds_of(kinds,stand) more_seeds(kinds,beginning,mate)",
    "plays": "play_fault(plan,beginning,thing) is_play(plan,beginning,thing) told_play(plan,beginning,play) "
             "played(plan,beginning,play) ends(plan,beginning,play) stands_of(plan,beginning,play) "
             "news_of(plan,beginning,play) deeds_of(plan,beginning,play) brings(plan,beginning,asked,play) "
             "is_bringing(plan,beginning,asked,thing) stood(plan,beginning,asked,play)",
}

METHODS = {
    ("kinds", "Kinds"): "all_rows() all_kinds() above(kind) marks(kind) lasts(kind) level(kind) parts(kind) "
                        "within(kind) __eq__(other)",
    ("plans", "Plan"): "kinds() all_deeds() deed(name) __eq__(other)",
    ("grounds", "Ground"): "plan() numbers() given() record(number) parts(number) stand() copy() delete(number) "
                           "do(name,numbers) others(name,numbers,place,kind) __eq__(other)",
}


def split(call):
    """Tell the name and the list of the parameters of such a word."""
    name, inner = call.rstrip(")").split("(")
    return name, [part for part in inner.split(",") if part]


class Errors(unittest.TestCase):

    def classes(self):
        for word in ERRORS.replace("\n", " ").replace("), ", ") ").split():
            name, names = split(word)
            yield getattr(errors, name), names[0]

    def test_there_are_so_many(self):
        self.assertEqual(len(list(self.classes())), 39)

    def test_within_error(self):
        self.assertEqual(errors.WithinError.__bases__, (ValueError,))
        self.assertEqual(vars(errors.WithinError()), {})
        self.assertRaises(TypeError, errors.WithinError, "x")

    def test_each_lies_right_beneath(self):
        for error, _ in self.classes():
            self.assertEqual(error.__bases__, (errors.WithinError,))
            self.assertEqual(error.__module__, "anywithin.errors")

    def test_each_keeps_the_very_object(self):
        for error, name in self.classes():
            for thing in (3, GREAT, None, True, [], {}, "x", object(), Sour()):
                self.assertIs(vars(error(thing))[name], thing)
                self.assertIs(getattr(error(**{name: thing}), name), thing)
                self.assertEqual(len(vars(error(thing))), 1)
            self.assertRaises(TypeError, error)
            self.assertRaises(TypeError, error, 1, 2)

    def test_each_can_be_shown_whatever_it_keeps(self):
        for error, _ in self.classes():
            for thing in (GREAT, Sour()):
                self.assertIsInstance(str(error(thing)), str)
                self.assertIsInstance(repr(error(thing)), str)

    def test_each_is_caught_as_a_value_error(self):
        for error, _ in self.classes():
            with self.assertRaises(ValueError):
                raise error(1)


class Interface(unittest.TestCase):

    def test_functions_and_classes(self):
        for module, words in INTERFACE.items():
            there = importlib.import_module("anywithin." + module)
            for word in words.split():
                name, names = split(word)
                thing = getattr(there, name)
                self.assertEqual(thing.__module__, "anywithin." + module)
                self.assertEqual(list(inspect.signature(thing).parameters), names, name)

    def test_methods(self):
        for (module, name), words in METHODS.items():
            thing = getattr(importlib.import_module("anywithin." + module), name)
            for word in words.split():
                method, names = split(word)
                self.assertIn(method, vars(thing))
                self.assertEqual(list(inspect.signature(vars(thing)[method]).parameters)[1:], names)
