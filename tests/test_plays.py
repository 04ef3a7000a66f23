"""[9.1], [9.2], [9.3], [9.6]: plays, what they tell, what they bring."""

import copy

from anywithin.errors import Asked, BadAsked, BadBeginning, BadPlan, BadPlay
from anywithin.grounds import Ground
from anywithin.placings import lies_in
from anywithin.plans import Plan
from anywithin.plays import (
    brings, deeds_of, ends, is_bringing, is_play, news_of, play_fault, played, stands_of, stood, told_play,
)
from tests.helpers import (
    GREAT, KINDS, SHOPS, Case, Sour, all_heaps, as_lists, as_tuples, at, chance_of, mutables, odd_things, paths,
    plain_lies, shuffled, size, told,
)

CLOSE = ("close", [("shop", None, {"open": "shut"})], [(0, "order", ["sent"])], [], [], [], [])
SEND = ("send", [("shop", None, {"open": "open"}), ("order", 0, {"new": "sent"})], [], [], [], [], [])
PUT = ("put", [("shop", None, {"open": "open"})], [], [], [], [], [("order", "new", ("who", 0))])
PLAN = Plan(SHOPS, [CLOSE, SEND, PUT])
BEGINNING = [("shop", "open", [], True)]
FIRST = [("shop", "open", [])]
STEPS = [("do", "put", [0]), ("do", "put", [0]), ("do", "send", [0, 1]), ("delete", 2), ("do", "close", [0])]
PLAY = (FIRST, STEPS)
N, S = ("order", "new", ()), ("order", "sent", ())
ASKED = [("shop", "shut", [S])]
LASTING = Plan(KINDS, [("pay", [("shop", None, {"open": "open"}), ("order", 0, {"new": "paid"})], [], [], [], [], [])])


def fault(*steps, first=FIRST):
    return play_fault(PLAN, BEGINNING, (first, list(steps)))


def shop(mark, *parts):
    return ("shop", mark, tuple(parts))


class Judged(Case):

    def test_example(self):
        self.assertIsNone(play_fault(PLAN, BEGINNING, PLAY))
        self.assertIs(is_play(PLAN, BEGINNING, PLAY), True)
        self.assertEqual(news_of(PLAN, BEGINNING, PLAY), [[1], [2], [], [], []])
        self.assertIs(brings(PLAN, BEGINNING, ASKED, PLAY), True)
        self.assertEqual(stood(PLAN, BEGINNING, ASKED, PLAY), {(0,): 0, (0, 0): 1})
        self.assertEqual(fault(*STEPS[:3], STEPS[4]), ("asked", 3))
        self.assertEqual(play_fault(PLAN, BEGINNING, ([("shop", "shut", [])], [])), ("begins", 0))

    def test_forms(self):
        for thing in (PLAY, as_lists(PLAY), as_tuples(PLAY), ((), ()), [[], []], (FIRST, ())):
            self.assertIsNone(play_fault(plan=PLAN, beginning=BEGINNING, thing=thing))
            self.assertIs(is_play(plan=PLAN, beginning=as_lists(BEGINNING), thing=thing), True)

    def test_form(self):
        for thing in (None, "ab", 5, {}, (), [[]], ([], [], []), (None, []), ([], None), ("", []), ([], ""), ({}, []),
                      ([], {}), {0: [], 1: []}, Sour(), [Sour(), Sour()], (FIRST, "do"), (5, [5]), ("x", [5])):
            self.assertEqual(play_fault(PLAN, BEGINNING, thing), ("form", 0))
            self.assertIs(is_play(PLAN, BEGINNING, thing), False)
        for thing in odd_things():
            wanted = isinstance(thing, (list, tuple)) and len(thing) == 2 and all(
                isinstance(part, (list, tuple)) for part in thing)
            found = play_fault(PLAN, BEGINNING, thing)
            self.assertEqual(found != ("form", 0), wanted)
            self.assertIs(is_play(PLAN, BEGINNING, thing), found is None)
            self.assertIn(play_fault(PLAN, BEGINNING, (thing, [])), (None, ("form", 0), ("first", 0), ("begins", 0)))
            self.assertIn(play_fault(PLAN, BEGINNING, (FIRST, thing)), (None, ("form", 0), ("step", 0)))

    def test_first(self):
        for first, index in (([5], 0), ([*FIRST, 5], 1), ([*FIRST, ("order", "new", [])], 1), ([*FIRST, ("shop",
                "open", [5])], 1),
                             ([*FIRST, *FIRST, None, 5], 2)):
            self.assertEqual(fault(5, first=first), ("first", index))
        for first in ([("shop", "shut", [])], [("shop", "open", [N])], [*FIRST, ("shop", "shut", [])]):
            self.assertEqual(fault(5, first=first), ("begins", 0))
        self.assertIsNone(fault(first=FIRST * 3))
        self.assertEqual(play_fault(PLAN, [], ([], [])), None)
        self.assertEqual(play_fault(PLAN, [], (FIRST, [])), ("begins", 0))

    def test_step(self):
        for step in (None, 5, "do", "", [], (), ["do"], ("do", "put"), ("do", "put", [0], 1), ("do", 5, [0]), ("do",
                None, [0]),
                     ("do", "put", 0), ("do", "put", "0"), ("do", "put", {0: 0}), ("do", "put", None), ("delete",),
                     ("delete", -1), ("delete", True), ("delete", False), ("delete", None), ("delete", 0.0), ("delete",
                     0, 0),
                     ("delete", [0]), ("undo", 0), ("Do", "put", [0]), (["do"], "put", [0]), (b"do", "put", [0]),
                     ("do", ["put"], [0]), {0: "do", 1: "put", 2: [0]}, (Sour(), "put", [0]), ("do", Sour(), [0]),
                     ("delete", Sour()), ("do", "put", Sour()), Sour()):
            self.assertEqual(fault(step), ("step", 0))
            self.assertEqual(fault(STEPS[0], step, None), ("step", 1))

    def test_refusals(self):
        for step, why in (
            (("do", "nix", []), "deed"), (("do", "", []), "deed"), (("do", "Not a name!", [9, 9]), "deed"),
            (("do", "put", []), "numbers"), (("do", "put", [0, 1]), "numbers"), (("do", "put", [None]), "numbers"),
            (("do", "put", [True]), "numbers"), (("do", "put", [Sour()]), "numbers"), (("do", "put", [-1]), "numbers"),
            (("do", "put", [2]), "record"), (("do", "send", [5, 5]), "record"), (("delete", 9), "record"),
            (("delete", GREAT), "record"), (("do", "put", [GREAT]), "record"), (("do", "send", [0, 0]), "twice"),
            (("do", "send", [1, 0]), "there"), (("do", "put", [1]), "there"), (("do", "close", [0]), "asked"),
        ):
            self.assertEqual(fault(STEPS[0], step), (why, 1))
            self.assertEqual(fault(STEPS[0], as_lists(step), 5), (why, 1))
        self.assertEqual(fault(("delete", 0), ("delete", 0)), ("record", 1))
        self.assertEqual(fault(("delete", 0), ("do", "put", [0])), ("record", 1))
        first = [("shop", "open", [("order", "new", [])])]
        beginning = [("shop", "open", [("order", "new", [], True)], True)]
        self.assertEqual(play_fault(LASTING, beginning, (first, [("delete", 1), ("delete", 0)])), ("lasts", 1))
        self.assertIsNone(play_fault(LASTING, beginning, (first, [("do", "pay", [0, 1]), ("delete", 1)])))

    def test_errors(self):
        for thing in (None, SHOPS, Sour(), {}):
            for call, rest in ((play_fault, 1), (is_play, 1), (told_play, 1), (played, 1), (ends, 1), (stands_of, 1),
                               (news_of, 1), (deeds_of, 1), (brings, 2), (is_bringing, 2), (stood, 2)):
                self.raised(BadPlan, thing, call, thing, None, *[None] * rest)
                self.raised(BadBeginning, 0, call, PLAN, thing, *[None] * rest)
                self.raised(BadBeginning, 1, call, PLAN, [*BEGINNING, 5], *[None] * rest)
        for call in (brings, is_bringing, stood):
            for asked, index in ((None, 0), ([*ASKED, 5], 1), ([("order", "new", [])], 0), ("", 0)):
                self.raised(BadAsked, index, call, PLAN, BEGINNING, asked, None)
        for thing in (None, (FIRST, [5]), ([("shop", "shut", [])], []), (FIRST, STEPS[:3] + STEPS[4:]), Sour(), ([],
                [[]])):
            for call in (told_play, played, ends, stands_of, news_of, deeds_of):
                self.raised(BadPlay, thing, call, PLAN, BEGINNING, thing)
            for call in (brings, stood):
                self.raised(BadPlay, thing, call, PLAN, BEGINNING, ASKED, thing)
            self.assertIs(is_bringing(PLAN, BEGINNING, ASKED, thing), False)


class Tells(Case):

    def test_told(self):
        for form in (PLAY, as_lists(PLAY), as_tuples(PLAY)):
            found = told_play(plan=PLAN, beginning=BEGINNING, play=form)
            self.assertEqual(found, ((("shop", "open", ()),), STEPS))
            self.assertEqual(repr(found), repr((told(FIRST), STEPS)))
        first = [("shop", "open", []), ["shop", "open", []]]
        self.assertEqual(repr(told_play(PLAN, BEGINNING, [first, [["delete", 1]]])), repr((told(first), [("delete",
            1)])))

    def test_each(self):
        ground = played(plan=PLAN, beginning=BEGINNING, play=PLAY)
        self.assertIsInstance(ground, Ground)
        self.assertEqual(ground.stand(), (shop("shut", S),))
        self.assertEqual((ground.given(), ground.numbers()), (3, [0, 1]))
        self.assertTrue(ground.plan() == PLAN)
        self.assertEqual(ends(plan=PLAN, beginning=BEGINNING, play=PLAY), (shop("shut", S),))
        self.assertEqual(stands_of(plan=PLAN, beginning=BEGINNING, play=PLAY), [
            (shop("open"),), (shop("open", N),), (shop("open", N, N),), (shop("open", N, S),), (shop("open", S),),
            (shop("shut", S),)])
        self.assertEqual(deeds_of(plan=PLAN, beginning=BEGINNING, play=PLAY), ["put", "put", "send", "close"])
        self.assertEqual(news_of(plan=PLAN, beginning=BEGINNING, play=as_tuples(PLAY)), [[1], [2], [], [], []])

    def test_no_steps(self):
        nothing = ([], [])
        self.assertEqual(told_play(PLAN, BEGINNING, nothing), ((), []))
        self.assertEqual(ends(PLAN, [], nothing), ())
        self.assertEqual(stands_of(PLAN, BEGINNING, nothing), [()])
        self.assertEqual(news_of(PLAN, BEGINNING, nothing), [])
        self.assertEqual(deeds_of(PLAN, BEGINNING, nothing), [])
        self.assertEqual(stood(PLAN, BEGINNING, [], nothing), {})

    def test_new_each_time(self):
        play = as_lists(PLAY)
        for call in (told_play, stands_of, news_of, deeds_of, ends):
            self.new_each_time(call, PLAN, BEGINNING, play)
        self.new_each_time(stood, PLAN, as_lists(BEGINNING), as_lists(ASKED), play)
        ground = played(PLAN, BEGINNING, play)
        ground.delete(0)
        self.assertEqual(played(PLAN, BEGINNING, play).numbers(), [0, 1])
        before = copy.deepcopy(play)
        told_play(PLAN, BEGINNING, play)[1][0][2].append(9)
        self.assertEqual(play, before)
        self.assertEqual(len({id(part) for part in mutables(told_play(PLAN, BEGINNING, play))}), 5)

    def test_news_of_unmade_ones(self):
        # A deed whose new record goes at once tells its number all the same.
        plan = Plan(SHOPS, [("gone", [("shop", None, {"open": None})], [], [], [], [],
                             [("order", "new", ("who", 0)), ("shop", "open", None)])])
        play = (FIRST, [("do", "gone", [0]), ("do", "gone", [2])])
        self.assertEqual(news_of(plan, BEGINNING, play), [[1, 2], [3, 4]])
        self.assertEqual(ends(plan, BEGINNING, play), (shop("open"),))
        self.assertEqual(stood(plan, BEGINNING, [shop("open")], play), {(0,): 4})

    def test_first_has_numbers_by_its_told_form(self):
        first = [("shop", "open", [("order", "sent", []), ("order", "new", [])]), ("shop", "open", [])]
        beginning = [("shop", "open", [("order", "new", [], True), ("order", "sent", [], True)], True)]
        play = (first, [("do", "send", [1, 2]), ("delete", 3)])
        self.assertEqual(ends(PLAN, beginning, play), (shop("open"), shop("open", S)))
        self.assertEqual(stood(PLAN, beginning, [shop("open", S)], play), {(0,): 1, (0, 0): 2})


class Brings(Case):

    def random_play(self, chance, steps):
        """A play of at most so many steps."""
        first = FIRST * chance.randrange(1, 3)
        ground = Ground(PLAN, first)
        found = []
        for _ in range(steps):
            shops = [number for number in ground.numbers() if ground.record(number)[:2] == ("shop", "open")]
            news = [number for number in ground.numbers() if ground.record(number)[:2] == ("order", "new")]
            step = ("delete", chance.choice(ground.numbers() or [0]))
            if shops and chance.random() < 0.5 and len(ground.numbers()) < 30:
                step = ("do", "put", [chance.choice(shops)])
            elif news and chance.random() < 0.6:
                number = chance.choice(news)
                step = ("do", "send", [ground.record(number)[2], number])
            elif shops and chance.random() < 0.5:
                step = ("do", "close", [chance.choice(shops)])
            elif size(ground.stand()) < 4:
                continue
            try:
                ground.do(*step[1:]) if step[0] == "do" else ground.delete(step[1])
            except Asked:
                continue
            found.append(step)
        return (first, found), ground

    def test_at_random(self):
        chance = chance_of(81)
        heaps = all_heaps(SHOPS, 3)
        brought = 0
        for _ in range(60):
            play, ground = self.random_play(chance, 12)
            self.assertIs(is_play(PLAN, BEGINNING, play), True)
            self.assertTrue(played(PLAN, BEGINNING, play) == ground)
            end = ends(PLAN, BEGINNING, play)
            self.assertEqual(end, ground.stand())
            stands = stands_of(PLAN, BEGINNING, play)
            self.assertEqual((len(stands), stands[0], stands[-1]), (len(play[1]) + 1, told(play[0]), end))
            for asked in chance.sample(heaps, 8) + [(), end]:
                wanted = plain_lies(asked, end)
                self.assertIs(brings(PLAN, BEGINNING, shuffled(chance, asked), play), wanted)
                self.assertIs(is_bringing(PLAN, BEGINNING, asked, as_lists(play)), wanted)
                found = stood(PLAN, BEGINNING, shuffled(chance, asked), play)
                self.assertEqual(found is not None, wanted)
                if wanted:
                    self.right(asked, found, ground)
                    brought += len(asked) > 0
                    # What lies in what is brought is brought, too.
                    for less in heaps[:20]:
                        if plain_lies(less, asked):
                            self.assertIs(brings(PLAN, BEGINNING, less, play), True)
        self.assertGreater(brought, 60)

    def right(self, asked, found, ground):
        self.assertEqual(list(found), paths(asked))
        self.assertEqual(len(set(found.values())), len(found))
        for path, number in found.items():
            kind, mark, above = ground.record(number)
            self.assertEqual((kind, mark), at(asked, path)[:2])
            self.assertEqual(above, None if len(path) == 1 else found[path[:-1]])

    def test_told_alike(self):
        chance = chance_of(82)
        for _ in range(20):
            play, ground = self.random_play(chance, 15)
            asked = chance.choice([heap for heap in all_heaps(SHOPS, 3) if plain_lies(heap, ground.stand())])
            found = stood(PLAN, BEGINNING, asked, play)
            self.assertEqual(stood(PLAN, BEGINNING, shuffled(chance, asked), as_tuples(play)), found)
            self.assertEqual(stood(PLAN, BEGINNING, as_lists(asked), as_lists(play)), found)

    def test_of_alike_records(self):
        play = (FIRST * 2, [("do", "put", [0]), ("do", "put", [1]), ("delete", 2), ("do", "put", [0])])
        found = stood(PLAN, BEGINNING, [shop("open", N), shop("open", N)], play)
        self.assertEqual(sorted(found.values()), [0, 1, 3, 4])
        self.assertEqual({found[(0,)]: found[(0, 0)], found[(1,)]: found[(1, 0)]}, {0: 4, 1: 3})

    def test_not_brought(self):
        for asked in ([shop("open")], [shop("shut", N)], [shop("shut", S), shop("shut")], [shop("shut", S, S)]):
            self.assertIs(brings(PLAN, BEGINNING, asked, PLAY), False)
            self.assertIs(is_bringing(PLAN, BEGINNING, asked, PLAY), False)
            self.assertIsNone(stood(PLAN, BEGINNING, asked, PLAY))
        # What it brings ahead of its end it need not bring at its end.
        self.assertIs(brings(PLAN, BEGINNING, [shop("open", N, N)], (FIRST, STEPS[:2])), True)
        self.assertIs(brings(plan=PLAN, beginning=BEGINNING, asked=[shop("open", N, N)], play=PLAY), False)
        self.assertIs(brings(PLAN, BEGINNING, [], PLAY), True)

    def test_any_object(self):
        for thing in odd_things():
            self.assertIs(is_bringing(plan=PLAN, beginning=BEGINNING, asked=[], thing=thing),
                          play_fault(PLAN, BEGINNING, thing) is None)
            self.assertIs(is_bringing(PLAN, BEGINNING, ASKED, thing), False)

    def test_great_plays(self):
        chance = chance_of(83)
        first = [shop("open")] * 2
        steps = []
        for _ in range(28):
            steps.append(("do", "put", [chance.randrange(2)]))
        ground = Ground(PLAN, first)
        for step in steps:
            ground.do(*step[1:])
        for number in list(ground.numbers())[2:]:
            steps.append(("do", "send", [ground.record(number)[2], number]))
        steps.extend([("do", "close", [0]), ("do", "close", [1]), ("delete", 5), ("delete", 6)])
        self.assertEqual(len(steps), 60)
        play = (first, steps)
        for call in (play_fault, told_play, played, ends, stands_of, news_of, deeds_of):
            self.soon(call, PLAN, BEGINNING, play)
        end = ends(PLAN, BEGINNING, play)
        self.assertEqual(size(end), 28)
        for asked, wanted in ((end, True), ([shop("shut", *[S] * 29)] * 2, False), ([shop("open", *[N] * 59)], False),
                              ([shop("shut")] * 2, True), ([shop("shut")] * 60, False)):
            self.assertIs(self.soon(brings, PLAN, BEGINNING, asked, play), wanted)
            self.assertEqual(self.soon(stood, PLAN, BEGINNING, asked, play) is not None, wanted)
            self.assertEqual(lies_in(SHOPS, asked, end), wanted)

    def test_a_long_thing(self):
        self.assertEqual(self.soon(fault, *STEPS[:3], *[("do", "send", [0, 1])] * 10000), ("there", 3))
        self.assertIsNone(self.soon(fault, *STEPS[:1] * 60))
