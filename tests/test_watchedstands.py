"""[18.4]: what has been, as stands of the watched kinds."""

from anywithin.anyof import any_verdict
from anywithin.errors import BadPlan, BadStand
from anywithin.rounds import fewest_deeds
from anywithin.verdicts import judged, verdict
from anywithin.walls import is_barrier
from anywithin.watchedplays import state_behind, unwatched_play
from anywithin.watchedstands import unwatched, watched_stands
from anywithin.watchers import watched, watched_beginning
from tests.helpers import (
    Case, all_heaps, chance_of, no_plans, no_stands, random_beginning, random_stand, shuffled, size, told,
)
from tests.test_watchers import KINDS, PLAN, SENT, WATCHER, no_kinds, no_watchers, random_watcher
from tests.trials import BIG_KINDS, SOME_KINDS, leading_within, random_plan

N0, N1, P0 = ("order", "new0", ()), ("order", "new1", ()), ("order", "paid0", ())
STAND = [("shop", "open", [("order", "new", []), ("order", "new", [])])]


class WatchedStands(Case):

    def test_unwatched(self):
        stand = [("shop", "open", [P0, N1]), ("shop", "open", [N0])]
        self.assertEqual(unwatched(PLAN, "order", WATCHER, stand), (
            ("shop", "open", (("order", "new", ()),)), ("shop", "open", (("order", "new", ()), ("order", "paid", ())))))
        self.assertEqual(unwatched(PLAN, "shop", ({"open": 1}, {}), [("shop", "open1", [("order", "sent", [])])]), (
            ("shop", "open", (("order", "sent", ()),)),))
        self.assertEqual(unwatched(PLAN, "order", WATCHER, []), ())

    def test_all_of_one(self):
        self.assertEqual(watched_stands(PLAN, "order", WATCHER, STAND), [
            (("shop", "open", (N0, N0)),), (("shop", "open", (N0, N1)),), (("shop", "open", (N1, N1)),)])
        self.assertEqual(watched_stands(PLAN, "order", WATCHER, []), [()])
        self.assertEqual(watched_stands(PLAN, "shop", ({"open": 2}, {}), [("shop", "open", [])]), [
            (("shop", f"open{state}", ()),) for state in range(3)])
        self.assertEqual(watched_stands(PLAN, "order", WATCHER, [("shop", "open", [])]), [(("shop", "open", ()),)])

    def test_wrong(self):
        good = {"plan": PLAN, "kind": "order", "watcher": WATCHER}
        head = [*no_plans(BadPlan), *no_kinds(), *no_watchers()]
        plain = [("stand", STAND, BadStand, 0), ("stand", [*SENT, *STAND], BadStand, 1)]
        self.refuses(unwatched, {**good, "stand": SENT}, [*head, *no_stands(BadStand, "stand", SENT), *plain])
        self.refuses(watched_stands, {**good, "stand": STAND},
                     [*head, *no_stands(BadStand, "stand", STAND), ("stand", [*STAND, *SENT], BadStand, 1)])
        more = [("shop", "open", [("order", "new2", [])])]
        self.raised(BadStand, 0, unwatched, PLAN, "order", WATCHER, more)
        self.assertEqual(unwatched(PLAN, "order", (WATCHER[0], {(2, "new"): 0}), more), told(STAND)[:0] + (
            ("shop", "open", (("order", "new", ()),)),))

    def test_forms(self):
        chance = chance_of(188)
        stand = [("shop", "open", [P0, N1]), ("shop", "open", [N0])]
        wanted = self.same_in_all_forms(unwatched, PLAN, "order", WATCHER, stand)
        self.assertEqual(unwatched(plan=PLAN, kind="order", watcher=WATCHER, stand=shuffled(chance, stand)), wanted)
        stand = [("shop", "open", [("order", "paid", []), ("order", "new", [])]), ("shop", "open", [])]
        wanted = self.same_in_all_forms(watched_stands, PLAN, "order", WATCHER, stand)
        self.assertEqual(watched_stands(plan=PLAN, kind="order", watcher=WATCHER, stand=shuffled(chance, stand)), wanted)
        self.new_each_time(watched_stands, PLAN, "order", WATCHER, stand)

    def test_as_the_words_say(self):
        """Of all stands of as many records just those that are led to it, each once, ascending."""
        chance = chance_of(189)
        heaps = {}
        for index, kinds in enumerate([KINDS, *SOME_KINDS]):
            plan = random_plan(chance, kinds, 1)
            for kind in kinds.all_kinds():
                watcher = ({mark: 0 for mark in kinds.marks(kind)}, {(1, kinds.marks(kind)[0]): 0})
                more = watched(plan, kind, watcher).kinds()
                heaps[kind] = [(heap, unwatched(plan, kind, watcher, heap)) for heap in all_heaps(more, 3)]
                for stand in all_heaps(kinds, 3):
                    wanted = sorted(heap for heap, plain in heaps[kind] if plain == stand)
                    self.assertEqual(watched_stands(plan, kind, watcher, stand), wanted)

    def test_comes_just_if_it_does(self):
        """A stand comes just if one of its watched ones does, by as few deeds; told plays have been what they tell."""
        chance = chance_of(190)
        words = {"told": 0, "never": 0}
        while min(words.values()) < 40:
            kinds = chance.choice(SOME_KINDS)
            plan = random_plan(chance, kinds, chance.randint(2, 4), asks=1, turns=1, news=2, most=2)
            stand = told(random_stand(chance, kinds, 3))
            if leading_within(plan, stand) is None:
                continue
            kind = chance.choice(kinds.all_kinds())
            watcher = random_watcher(chance, kinds, kind)
            begun = random_beginning(chance, kinds, 2)
            more, seeds = watched(plan, kind, watcher), watched_beginning(plan, kind, watcher, begun)
            stands = watched_stands(plan, kind, watcher, stand)
            word, shown = any_verdict(more, seeds, stands)
            words[word] += 1
            self.assertEqual(word, verdict(plan, begun, stand)[0])
            few = [one for one in (fewest_deeds(more, seeds, heap) for heap in stands) if one is not None]
            self.assertEqual(fewest_deeds(plan, begun, stand), min(few) if few else None)
            if word == "never":
                self.assertTrue(all(is_barrier(more, seeds, heap, shown) for heap in stands))
            else:
                back = unwatched_play(plan, begun, kind, watcher, shown)
                self.assertEqual(judged(plan, begun, stand, ("told", back)), "told")

    def test_states_that_plays_tell(self):
        """A play by which a watched stand of one record comes ends with a record in just this state."""
        watcher = ({"new": 0, "paid": 0, "sent": 0}, {(0, "paid"): 1, (1, "sent"): 2})
        begun = [("shop", "open", [("order", "new", [], True)], True)]
        more, seeds = watched(PLAN, "order", watcher), watched_beginning(PLAN, "order", watcher, begun)
        came = []
        for mark in ("new", "paid", "sent"):
            for state in range(3):
                word, shown = verdict(more, seeds, [("shop", "open", [("order", f"{mark}{state}", [])])])
                if word == "told":
                    came.append((mark, state))
                    play = unwatched_play(PLAN, begun, "order", watcher, shown)
                    numbers = range(1, 1 + len(play[0][0][2]))
                    self.assertIn(state, [state_behind(PLAN, begun, "order", watcher, play, number) for number in numbers])
        self.assertEqual(came, [("new", 0), ("paid", 1), ("sent", 0), ("sent", 2)])

    def test_limits(self):
        chance = chance_of(191)
        tried = 0
        while tried < 12:
            kinds = chance.choice(BIG_KINDS)
            plan = random_plan(chance, kinds, 5, asks=2, turns=2, pours=1, moves=2, news=2, most=3)
            stand = told(random_stand(chance, kinds, 4))
            kind = chance.choice(kinds.all_kinds())
            watcher = random_watcher(chance, kinds, kind)
            more = watched(plan, kind, watcher)
            stands = self.soon(watched_stands, plan, kind, watcher, stand)
            if len(stands) > 6 or None in [leading_within(more, heap) for heap in stands]:
                continue
            tried += 1
            begun = random_beginning(chance, kinds, 4)
            seeds = watched_beginning(plan, kind, watcher, begun)
            self.assertEqual(self.soon(any_verdict, more, seeds, stands)[0], verdict(plan, begun, stand)[0])
        for heap in self.soon(watched_stands, PLAN, "order", (WATCHER[0], {(3, "new"): 3}), STAND * 2):
            self.assertEqual(size(heap), 6)
