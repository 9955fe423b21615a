"""The checker and the certificates beside the second account in model_checker.py, for houses made by chance."""

import random
import unittest

import bending
import model
import model_checker
from cases import Case
from examples import LOST_TEXT, SAMPLE_TEXT
from holdhouse.certificates import certify_can, certify_kept, certify_never
from holdhouse.checker import accepts
from holdhouse.houses import House
from holdhouse.questions import called_away, first, stuck

FEW_SHAPES = 22


def small_houses(seeds):
    """Houses of which few shapes come, with their webs."""
    for seed in seeds:
        chance = random.Random(f"house {seed}")
        house = model.random_house(seed, chance.choice((1, 1, 2)), chance.randint(1, 7), chance.randint(0, 2),
                                   chance.randint(2, 3))
        webs = model.small_webs(house, FEW_SHAPES)
        if webs is not None:
            yield seed, house, webs


class Checked(Case):
    def judged(self, claim, certificate):
        """What the checker and the second account both say."""
        expected = model_checker.accepts(claim, certificate)
        self.assertIs(accepts(claim, certificate), expected, (claim, certificate))
        return expected

    def certified(self, house, picture, goal):
        return certify_never(house, picture), certify_kept(house), certify_can(house, picture, goal)


class Certificates(Checked):
    def test_houses_by_chance(self):
        kinds = {}
        for seed, house, webs in small_houses(range(60)):
            chance = random.Random(seed)
            picture, goal = [model.random_picture(chance, house) for which in range(2)]
            for claim, certificate in self.certified(house, picture, goal):
                with self.subTest(seed=seed, claim=claim):
                    self.assertTrue(self.judged(claim, certificate))
                    self.look(claim, certificate, webs)
                    self.assertEqual(claim[1:], (str(house), picture, goal)[:len(claim) - 1])
                    kinds[claim[0]] = kinds.get(claim[0], 0) + 1
            self.answers_agree(house, picture, goal)
        self.assertEqual(sorted(kinds), sorted(model_checker.PICTURE_COUNTS))
        self.assertGreater(sum(kinds.values()), 100)

    def look(self, claim, certificate, webs):
        """Tables have just the shapes that come; weavings have the fewest phones."""
        if claim[0] in ("never", "kept", "can"):
            for table, web in zip(certificate, webs):
                shapes = [shape for shape, numbers in table] if claim[0] == "can" else list(table)
                self.assertEqual((set(shapes), len(shapes)), (web.shapes(), len(web.shapes())))
        else:
            ask = {"comes": model.Web.first, "away": model.Web.away, "stuck": model.Web.stuck}[claim[0]]
            weaving = certificate[0] if claim[0] == "stuck" else certificate
            self.assertEqual(weaving[0], model.fewest(webs, lambda web: ask(web, *claim[2:]))[0])

    def answers_agree(self, house, picture, goal):
        never, kept, can = self.certified(house, picture, goal)
        self.assertEqual(never[0][0] == "never", first(house, picture) is None)
        self.assertEqual(kept[0][0] == "kept", called_away(house) is None)
        self.assertEqual(can[0][0] == "can", stuck(house, picture, goal) is None)


class Bent(Checked):
    def count(self, counts, claim, said):
        counts[claim[0], said] = counts.get((claim[0], said), 0) + 1

    def test_bent_certificates(self):
        counts = {}
        for seed, house, webs in small_houses(range(200, 245)):
            chance = random.Random(seed)
            picture, goal = [model.random_picture(chance, house) for which in range(2)]
            for claim, certificate in self.certified(house, picture, goal):
                for turn in range(20):
                    bent = certificate
                    for again in range(chance.choice((1, 1, 2))):
                        bent = bending.bent(chance, bent, house)
                    self.count(counts, claim, self.judged(claim, bent))
        self.assertGreater(min(counts[kind, False] for kind in model_checker.PICTURE_COUNTS), 10)
        self.assertGreater(len([key for key in counts if key[1]]), 3)

    def test_certificates_of_other_claims(self):
        counts = {}
        for seed, house, webs in small_houses(range(300, 330)):
            chance = random.Random(seed)
            pictures = [model.random_picture(chance, house) for which in range(6)]
            certificates = [one for pair in zip(pictures, pictures[1:]) for one in self.certified(house, *pair)]
            for turn in range(60):
                kind = chance.choice(list(model_checker.PICTURE_COUNTS))
                claim = (kind, str(house), *chance.sample(pictures, model_checker.PICTURE_COUNTS[kind]))
                self.count(counts, claim, self.judged(claim, chance.choice(certificates)[1]))
        self.assertGreater(len(counts), 9)

    def test_certificates_of_other_houses(self):
        texts = [SAMPLE_TEXT, LOST_TEXT, SAMPLE_TEXT.replace("talk and not joined: stand free", "talk: deaf"),
                 SAMPLE_TEXT.replace("not joined", "joined"), SAMPLE_TEXT.replace("held: a me", "held: b me")]
        counts = {}
        for picture, goal in (("in held", "voice"), ("b", "in ring"), ("caller", "voice"), ("voice", "in free")):
            for text in texts:
                for claim, certificate in self.certified(House.read(text), picture, goal):
                    for other in texts:
                        self.count(counts, claim, self.judged((claim[0], other, *claim[2:]), certificate))
        self.assertGreater(len(counts), 7)


class Wide(Checked):
    """Closed tables with shapes that never come, and dead ends that are wider than they need to be, or not closed."""

    def test_tables(self):
        counts = {}
        for seed in range(40):
            chance = random.Random(f"wide {seed}")
            house = model.random_house(seed, chance.choice((1, 1, 1, 2)), chance.randint(1, 8), chance.randint(0, 2),
                                       chance.randint(2, 3))
            judge = model_checker.Judge(str(house))
            tables = bending.wide_tables(chance, judge, FEW_SHAPES)
            if tables is not None:
                picture, goal = [model.random_picture(chance, house) for which in range(2)]
                for claim, certificate in ((("never", str(house), picture), tables), (("kept", str(house)), tables),
                                           (("can", str(house), picture, goal),
                                            bending.numbered(chance, judge, tables, goal))):
                    said = self.judged(claim, certificate)
                    counts[claim[0], said] = counts.get((claim[0], said), 0) + 1
        self.assertEqual(len(counts), 6)
        self.assertGreater(sum(counts.values()), 60)

    def test_dead_ends(self):
        counts = {True: 0, False: 0}
        for seed in range(60):
            chance = random.Random(f"end {seed}")
            house = model.random_house(seed, chance.choice((1, 1, 2)), chance.randint(1, 8), chance.randint(0, 2),
                                       chance.randint(2, 3))
            judge = model_checker.Judge(str(house))
            phones = chance.choice((1, 2, 3, 7, 20))
            now, events = model.start(house, phones), ()
            for turn in range(chance.randint(0, 3)):
                behind = model_checker.events_of(str(house), now)
                events += (chance.choice(sorted(behind, key=repr)),)
                now = behind[events[-1]]
            table = bending.closed_table(judge, [model.shape(now)], min(phones, 8), FEW_SHAPES, calm=True)
            for turn in range(4 if table else 0):
                claim = ("stuck", str(house), *[model.random_picture(chance, house) for which in range(2)])
                kept = tuple(shape for at, shape in enumerate(table) if at == 0 or chance.random() < 0.9)
                counts[self.judged(claim, ((phones, events), chance.randrange(house.lines), kept))] += 1
        self.assertGreater(min(counts.values()), 15)


if __name__ == "__main__":
    unittest.main()
