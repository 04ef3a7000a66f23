"""[2.2] and the interface: the errors, and where each function and class is defined."""

import importlib
import inspect
import unittest

from anywithin import errors, refusals
from tests.helpers import GREAT, Sour

ERRORS = """
BadRows(index), BadKinds(kinds), BadKind(kind), BadNames(names), BadStand(index), BadMate(index), BadPath(path),
BadMark(mark), BadRecord(record), BadGoal(goal), BadFlat(index), BadMany(many), BadLess(index), BadMore(index),
BadStands(index), BadDeeds(index), BadPlan(plan), BadName(name), BadOther(other), BadNameList(index),
BadIndex(index), BadAsk(ask), BadNumber(number), NoRecord(number), Lasts(number), BadNumbers(numbers),
Twice(number), NotThere(index), Asked(index), BadPlace(place), BadBeginning(index), BadPlay(play),
BadAsked(index), BadSteps(index), NotBrought(asked), BadFirst(index), NotMore(first), BadLater(later),
NotLocal(name)
"""

REFUSALS = """
BadWalls(index), BadWall(wall), BadPatterns(index), BadOtherAsked(index), BadHolder(holder), BadPart(part),
BadLimit(limit), BadOne(one), BadHow(how), NotKept(asked), BadMenu(index), BadLot(lot), BadLots(index),
BadPrices(prices), BadWatcher(watcher), NotBare(kind), BadTop(top), BadNewer(newer), Clash(name), BadBed(bed),
BadCover(cover), BadBeds(index), BadDeed(deed), IsThere(name), LetsIn(asked), IsKept(asked),
BadKindsText(line,sign), BadStandText(line,sign), BadStandsText(line,sign), BadBeginningText(line,sign),
BadPlanText(line,sign), BadPlayText(line,sign)
"""

INTERFACE = {
    "kinds": "Kinds(rows) is_row(thing) kinds_called(kinds,names)",
    "deeds": "deed_fault(kinds,thing) is_deed(kinds,thing)",
    "plans": "Plan(kinds,deeds) is_less(plan,other) without_deeds(plan,names) without_ask(plan,name,index) "
             "with_ask(plan,name,ask) plan_called(plan,names)",
    "stands": "is_record(kinds,thing) is_stand(kinds,thing) stand_fault(kinds,thing) told_stand(kinds,stand) "
              "are_alike(kinds,stand,mate) size_of(kinds,stand) stand_called(kinds,stand,names)",
    "paths": "paths_of(kinds,stand) record_at(kinds,stand,path) without_path(kinds,stand,path) "
             "set_mark(kinds,stand,path,mark) put_in(kinds,stand,path,record) moved_to(kinds,stand,path,goal) "
             "flat_rows(kinds,stand) stand_of_flat(kinds,flat)",
    "sizes": "all_stands(kinds,many) count_stands(kinds,many)",
    "placings": "lies_in(kinds,less,more) placing(kinds,less,more) placing_fault(kinds,less,more,thing)",
    "bars": "bar(kinds,less,more) bar_fault(kinds,less,more,thing)",
    "least": "least_ones(kinds,stands) is_above(kinds,stands,stand)",
    "overlays": "overlays(kinds,stand,mate)",
    "grounds": "Ground(plan,stand)",
    "beginnings": "is_beginning(kinds,thing) told_beginning(kinds,beginning) begins(kinds,beginning,stand) "
                  "sowing(kinds,beginning,stand) sowing_fault(kinds,beginning,stand,thing) "
                  "lack(kinds,beginning,stand) lack_fault(kinds,beginning,stand,thing)",
    "sprouts": "sprouted(kinds,beginning,number) is_within(kinds,beginning,mate) "
               "stand_outside(kinds,beginning,mate) seeds_of(kinds,stand) more_seeds(kinds,beginning,mate)",
    "plays": "play_fault(plan,beginning,thing) is_play(plan,beginning,thing) told_play(plan,beginning,play) "
             "played(plan,beginning,play) ends(plan,beginning,play) stands_of(plan,beginning,play) "
             "news_of(plan,beginning,play) deeds_of(plan,beginning,play) brings(plan,beginning,asked,play) "
             "is_bringing(plan,beginning,asked,thing) stood(plan,beginning,asked,play)",
    "lives": "life_of(plan,beginning,play,number) named_at(plan,beginning,play,number) "
             "play_behind(plan,beginning,play,steps) play_ahead(plan,beginning,play,many)",
    "leftout": "left_out(plan,beginning,play,index) thinned(plan,beginning,asked,play) "
               "without_deletions(plan,beginning,play) deletions_needed(plan,beginning,asked,play)",
    "frommore": "from_more(plan,beginning,play,first) is_local(plan,name) both_played(plan,beginning,play,later)",
    "before": "leads(plan,name,first,stand) numbers_to(plan,name,first,stand) least_before(plan,name,stand) "
              "before_all(plan,stand) before_fault(plan,name,stand,thing)",
    "walls": "wall_fault(plan,beginning,asked,thing) is_barrier(plan,beginning,asked,thing) walls_laid(plan,walls) "
             "needless(plan,beginning,asked,wall) wall_thinned(plan,beginning,asked,wall) "
             "walls_hold(plan,beginning,asked,wall,other)",
    "verdicts": "verdict(plan,beginning,asked) judged(plan,beginning,asked,thing) "
                "verdicts(plan,beginning,patterns) settled(plan,beginning,patterns)",
    "rounds": "round_of(plan,asked,many) rounds(plan,asked) least_leading(plan,asked) soonest(plan,asked,stand) "
              "fewest_deeds(plan,beginning,asked) shortest_play(plan,beginning,asked) "
              "rounds_fault(plan,asked,thing) same_leading(plan,asked,other_asked) leads_too(plan,asked,other_asked)",
    "anyof": "any_verdict(plan,beginning,stands) any_judged(plan,beginning,stands,thing) "
             "both_verdict(plan,beginning,asked,mate)",
    "most": "crowds(kinds,holder,part,number) crowd_verdict(plan,beginning,holder,part,number) "
            "most_of(plan,beginning,holder,part,limit)",
    "together": "meetings(kinds,one,other,how) together(plan,beginning,one,other,how)",
    "asks": "asks_of(plan) ask_verdict(plan,beginning,asked,name,index) needed_asks(plan,beginning,asked) "
            "without_idle(plan,beginning,asked)",
    "guards": "guarded(plan,menu,lot) guard_verdict(plan,beginning,asked,menu,lot) "
              "least_guards(plan,beginning,asked,menu) is_least_guard(plan,beginning,asked,menu,thing) "
              "least_openings(plan,beginning,asked,menu) guards_fault(plan,beginning,asked,menu,thing)",
    "lots": "lot_verdict(plan,beginning,asked,lot) bringing_lots(plan,beginning,asked) "
            "barring_lots(plan,beginning,asked) is_bringing_lot(plan,beginning,asked,thing) "
            "is_barring_lot(plan,beginning,asked,thing) lots_fault(plan,beginning,asked,thing) "
            "needed_deeds(plan,beginning,asked) idle_deeds(plan,beginning,asked)",
    "meeting": "least_meeting(lots)",
    "prices": "cheapest_bar(plan,beginning,asked,prices) cheapest_way(plan,beginning,asked,prices) "
              "barred_by(plan,beginning,asked,names)",
    "watchers": "is_watcher(plan,kind,thing) watched(plan,kind,watcher) "
                "watched_beginning(plan,kind,watcher,beginning) joined_watcher(plan,kind,watcher,other)",
    "watchedplays": "watched_play(plan,beginning,kind,watcher,play) unwatched_play(plan,beginning,kind,watcher,play) "
                    "state_behind(plan,beginning,kind,watcher,play,number)",
    "watchedstands": "unwatched(plan,kind,watcher,stand) watched_stands(plan,kind,watcher,stand)",
    "levels": "without_kind(plan,kind) stand_without_kind(plan,stand,kind) "
              "beginning_without_kind(plan,beginning,kind) play_without_kind(plan,beginning,play,kind)",
    "between": "plan_under(plan,top,mark) stand_under(plan,stand,top,mark) beginning_under(plan,beginning,top,mark) "
               "play_under(plan,beginning,play,top,mark) play_within(plan,beginning,top,mark,play,number)",
    "twoplans": "both_plans(plan,newer) is_narrower(plan,newer) first_wider(plan,newer)",
    "handovers": "handover(plan,newer,beginning,asked) handover_judged(plan,newer,beginning,asked,thing)",
    "upgrades": "upgrade(plan,newer,beginning,asked) only_mixed(plan,newer,beginning,many) "
                "only_together(plan,newer,beginning,many)",
    "beds": "is_bed(kinds,thing) in_bed(kinds,bed,stand) bed_within(kinds,bed,cover) told_bed(kinds,bed) "
            "greatest_beds(kinds,beds) beds_met(kinds,bed,cover)",
    "gardens": "garden_of(kinds,stands) wall_of(kinds,beds) garden_fault(kinds,stands,thing)",
    "safe": "bed_of(kinds,beginning) beginning_of(kinds,bed) safe_beginnings(plan,asked)",
    "kindtexts": "kinds_text(kinds) read_kinds(text) kinds_text_fault(text)",
    "standtexts": "stand_text(kinds,stand) read_stand(kinds,text) stand_text_fault(kinds,text) stands_text(kinds,stands) "
                  "read_stands(kinds,text) stands_text_fault(kinds,text) beginning_text(kinds,beginning) "
                  "read_beginning(kinds,text) beginning_text_fault(kinds,text)",
    "plantexts": "plan_text(plan) read_plan(kinds,text) plan_text_fault(kinds,text)",
    "playtexts": "play_text(plan,play) read_play(plan,text) play_text_fault(plan,text)",
    "desks": "Desk(kinds,beginning)",
}

METHODS = {
    ("kinds", "Kinds"): "all_rows() all_kinds() above(kind) marks(kind) lasts(kind) level(kind) parts(kind) "
                        "within(kind) __eq__(other)",
    ("plans", "Plan"): "kinds() all_deeds() deed(name) __eq__(other)",
    ("grounds", "Ground"): "plan() numbers() given() record(number) parts(number) stand() copy() delete(number) "
                           "do(name,numbers) others(name,numbers,place,kind) __eq__(other)",
    ("desks", "Desk"): "add(deed) drop(name) put_ask(name,ask) take_ask(name,index) keep(asked) free(asked) plan() "
                       "beginning() kept() would(deed) undo() redo() copy() __eq__(other)",
}


def split(call):
    """Tell the name and the list of the parameters of such a word."""
    name, inner = call.rstrip(")").split("(")
    return name, [part for part in inner.split(",") if part]


class Errors(unittest.TestCase):

    def classes(self):
        """All error classes, each with the names of its parameters."""
        for module, words in ((errors, ERRORS), (refusals, REFUSALS)):
            for word in words.replace("\n", " ").replace("), ", ") ").split():
                name, names = split(word)
                yield getattr(module, name), names

    def test_there_are_so_many(self):
        self.assertEqual(len(list(self.classes())), 39 + 32)
        for module, many in ((errors, 40), (refusals, 32)):
            own = [thing for thing in vars(module).values()
                   if inspect.isclass(thing) and thing.__module__ == module.__name__]
            self.assertEqual(len(own), many)

    def test_within_error(self):
        self.assertEqual(errors.WithinError.__bases__, (ValueError,))
        self.assertEqual(vars(errors.WithinError()), {})
        self.assertRaises(TypeError, errors.WithinError, "x")

    def test_each_lies_right_beneath(self):
        for error, _ in self.classes():
            self.assertEqual(error.__bases__, (errors.WithinError,))
            self.assertIn(error.__module__, ("anywithin.errors", "anywithin.refusals"))

    def test_each_keeps_the_very_object(self):
        for error, names in self.classes():
            self.assertEqual(list(inspect.signature(error).parameters), names)
            for thing in (3, GREAT, None, True, [], {}, "x", object(), Sour()):
                things = [thing, object()][:len(names)]
                for caught in (error(*things), error(**dict(zip(names, things)))):
                    self.assertEqual(list(vars(caught)), names)
                    for name, one in zip(names, things):
                        self.assertIs(getattr(caught, name), one)
            self.assertRaises(TypeError, error)
            self.assertRaises(TypeError, error, 1, 2, 3)

    def test_each_can_be_shown_whatever_it_keeps(self):
        for error, names in self.classes():
            for thing in (GREAT, Sour()):
                self.assertIsInstance(str(error(*[thing] * len(names))), str)
                self.assertIsInstance(repr(error(*[thing] * len(names))), str)

    def test_each_is_caught_as_a_value_error(self):
        for error, names in self.classes():
            with self.assertRaises(ValueError):
                raise error(*names)


class Interface(unittest.TestCase):

    def test_functions_and_classes(self):
        for module, words in INTERFACE.items():
            there = importlib.import_module("anywithin." + module)
            for word in words.split():
                name, names = split(word)
                thing = getattr(there, name)
                self.assertEqual(thing.__module__, "anywithin." + module)
                self.assertEqual(list(inspect.signature(thing).parameters), names, name)

    def test_methods(self):
        for (module, name), words in METHODS.items():
            thing = getattr(importlib.import_module("anywithin." + module), name)
            for word in words.split():
                method, names = split(word)
                self.assertIn(method, vars(thing))
                self.assertEqual(list(inspect.signature(vars(thing)[method]).parameters)[1:], names)
