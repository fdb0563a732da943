"""The heap (points 117 to 121)."""

import random
import unittest

from guanaco.heap import Heap
from heap_model import HeapModel

ONE = ("int", 1)
NO = ("tag", 0)


def at(address):
    return ("at", address)


class Heaps(unittest.TestCase):
    def test_an_empty_heap(self):
        heap = Heap(2)
        self.assertEqual((heap.counts(), heap.is_full()), ((0, 0, 0), False))
        self.assertEqual(heap.minor(()), ())
        self.assertEqual(heap.major((ONE, NO)), (ONE, NO))
        self.assertEqual((heap.counts(), heap.is_full()), ((0, 0, 0), False))

    def test_making_each_kind(self):
        heap = Heap(7)
        things = (("string", "a", ()), ("tuple", 0, (ONE, NO, at(-1))), ("make", 3, (at(-2),)), ("pack", 5, ()), ("pack", 0, (at(-1),)),
                  ("close", 2, (NO,)), ("ref", 0, (at(-3),)))
        for k, thing in enumerate(things):
            self.assertFalse(heap.is_full())
            self.assertEqual(heap.make(*thing), at(-1 - k))
            self.assertEqual(heap.look(at(-1 - k)), thing)
            self.assertEqual(heap.counts(), (k + 1, 0, 0))
        self.assertTrue(heap.is_full())
        self.assertEqual([heap.look(at(-1 - k)) for k in range(7)], list(things))
        self.assertEqual(heap.minor((at(-7), at(-5))), (at(0), at(1)))
        self.assertEqual(heap.counts(), (0, 5, 0))
        self.assertEqual([heap.look(at(k)) for k in range(5)], [
            ("ref", 0, (at(2),)), ("pack", 0, (at(3),)), ("make", 3, (at(4),)), ("string", "a", ()), ("tuple", 0, (ONE, NO, at(3)))])
        self.assertFalse(heap.is_full())
        self.assertEqual(heap.make("string", "b", ()), at(-1))

    def test_one_object(self):
        heap = Heap(1)
        self.assertEqual(heap.make("string", "a", ()), at(-1))
        self.assertTrue(heap.is_full())
        self.assertEqual(heap.minor((at(-1), at(-1), ONE)), (at(0), at(0), ONE))
        self.assertEqual(heap.make("ref", 0, (at(0),)), at(-1))
        self.assertEqual(heap.minor((at(-1), at(0))), (at(1), at(0)))
        self.assertEqual(heap.look(at(1)), ("ref", 0, (at(0),)))
        self.assertEqual(heap.counts(), (0, 2, 0))

    def test_the_order_of_moving(self):
        """Roots in order, then what remembered objects refer to by address, then the fields of moved objects."""
        heap = Heap(9)
        heap.make("ref", 0, (ONE,))
        heap.make("ref", 0, (ONE,))
        self.assertEqual(heap.minor((at(-2), at(-1))), (at(0), at(1)))
        for text in "abcde":
            heap.make("string", text, ())
        heap.make("tuple", 0, (at(-5), at(-1)))
        heap.store(at(1), at(-2))
        heap.store(at(0), at(-3))
        self.assertEqual(heap.counts(), (6, 2, 2))
        self.assertEqual(heap.minor((ONE, at(-6), at(0), at(-4), at(-6))), (ONE, at(2), at(0), at(3), at(2)))
        self.assertEqual([heap.look(at(k)) for k in range(8)], [
            ("ref", 0, (at(4),)), ("ref", 0, (at(5),)), ("tuple", 0, (at(6), at(7))), ("string", "d", ()), ("string", "c", ()), ("string", "b", ()),
            ("string", "e", ()), ("string", "a", ())])
        self.assertEqual(heap.counts(), (0, 8, 0))

    def test_breadth_first(self):
        heap = Heap(8)
        heap.make("string", "x", ())
        heap.make("make", 1, (at(-1),))
        heap.make("string", "y", ())
        heap.make("tuple", 0, (at(-2), at(-3)))
        heap.make("tuple", 0, (at(-4), at(-3), at(-2)))
        self.assertEqual(heap.minor((at(-5),)), (at(0),))
        self.assertEqual([heap.look(at(k)) for k in range(5)], [
            ("tuple", 0, (at(1), at(2), at(3))), ("tuple", 0, (at(3), at(2))), ("string", "y", ()), ("make", 1, (at(4),)), ("string", "x", ())])

    def test_remembered_objects(self):
        heap = Heap(5)
        for _ in range(3):
            heap.make("ref", 0, (ONE,))
        heap.minor((at(-1), at(-2), at(-3)))
        heap.make("string", "a", ())
        heap.make("ref", 0, (NO,))
        heap.store(at(0), at(1))
        heap.store(at(-2), at(-1))
        self.assertEqual(heap.counts(), (2, 3, 0))
        heap.store(at(1), at(-1))
        heap.store(at(1), at(-1))
        heap.store(at(2), at(-2))
        self.assertEqual(heap.counts(), (2, 3, 2))
        heap.store(at(1), ONE)
        heap.store(at(2), at(0))
        self.assertEqual(heap.counts(), (2, 3, 2))
        self.assertEqual(heap.look(at(1)), ("ref", 0, (ONE,)))
        self.assertEqual(heap.minor((at(1),)), (at(1),))
        self.assertEqual(heap.counts(), (0, 3, 0))
        self.assertEqual([heap.look(at(k)) for k in range(3)], [("ref", 0, (at(1),)), ("ref", 0, (ONE,)), ("ref", 0, (at(0),))])

    def test_negative_integers_are_no_references(self):
        heap = Heap(4)
        heap.make("ref", 0, (("int", -1),))
        self.assertEqual(heap.minor((at(-1), ("int", -1), ("int", -9))), (at(0), ("int", -1), ("int", -9)))
        heap.make("tuple", 0, (("int", -1), ("int", -2), at(0)))
        heap.store(at(0), ("int", -1))
        self.assertEqual(heap.counts(), (1, 1, 0))
        self.assertEqual(heap.major((at(-1), ("int", -1))), (at(1), ("int", -1)))
        self.assertEqual((heap.look(at(0)), heap.look(at(1))), (("ref", 0, (("int", -1),)), ("tuple", 0, (("int", -1), ("int", -2), at(0)))))

    def test_what_an_overwritten_reference_held_is_not_kept(self):
        heap = Heap(3)
        heap.make("ref", 0, (ONE,))
        heap.minor((at(-1),))
        heap.make("string", "a", ())
        heap.make("string", "b", ())
        heap.store(at(0), at(-1))
        heap.store(at(0), at(-2))
        self.assertEqual(heap.counts(), (2, 1, 1))
        heap.minor(())
        self.assertEqual((heap.counts(), heap.look(at(0)), heap.look(at(1))), ((0, 2, 0), ("ref", 0, (at(1),)), ("string", "b", ())))

    def test_references_to_themselves(self):
        heap = Heap(3)
        heap.make("ref", 0, (ONE,))
        heap.store(at(-1), at(-1))
        self.assertEqual(heap.counts(), (1, 0, 0))
        heap.make("make", 0, (at(-1),))
        self.assertEqual(heap.minor((at(-2),)), (at(0),))
        self.assertEqual((heap.look(at(0)), heap.look(at(1))), (("make", 0, (at(1),)), ("ref", 0, (at(1),))))
        heap.make("tuple", 0, (at(1), at(1)))
        heap.store(at(1), at(-1))
        self.assertEqual(heap.major((at(-1),)), (at(1),))
        self.assertEqual((heap.look(at(0)), heap.look(at(1))), (("ref", 0, (at(1),)), ("tuple", 0, (at(0), at(0)))))
        self.assertEqual(heap.major(()), ())
        self.assertEqual(heap.counts(), (0, 0, 0))

    def test_major_collections(self):
        heap = Heap(4)
        for text in "abcd":
            heap.make("string", text, ())
        heap.minor((at(-4), at(-3), at(-2), at(-1)))
        heap.make("tuple", 0, (at(1), at(-2), at(3)))
        heap.make("string", "e", ())
        heap.make("string", "f", ())
        self.assertEqual(heap.major((at(-1), at(2), ONE, at(-1))), (at(3), at(1), ONE, at(3)))
        self.assertEqual([heap.look(at(k)) for k in range(5)], [
            ("string", "c", ()), ("string", "b", ()), ("string", "a", ()), ("tuple", 0, (at(0), at(4), at(2))), ("string", "e", ())])
        self.assertEqual(heap.counts(), (0, 5, 0))

    def test_old_objects_stay_until_a_major_collection(self):
        """What an unreachable remembered object refers to is moved, too."""
        heap = Heap(2)
        heap.make("ref", 0, (ONE,))
        heap.minor((at(-1),))
        heap.make("string", "a", ())
        heap.store(at(0), at(-1))
        self.assertEqual(heap.minor(()), ())
        self.assertEqual(heap.counts(), (0, 2, 0))
        self.assertEqual(heap.major((at(1),)), (at(0),))
        self.assertEqual((heap.counts(), heap.look(at(0))), ((0, 1, 0), ("string", "a", ())))

    def test_what_was_returned_stays(self):
        heap = Heap(2)
        heap.make("ref", 0, (ONE,))
        found = heap.look(at(-1))
        heap.store(at(-1), NO)
        self.assertEqual((found, heap.look(at(-1))), (("ref", 0, (ONE,)), ("ref", 0, (NO,))))
        other = Heap(2)
        self.assertEqual(other.counts(), (0, 0, 0))

    def test_random_deeds(self):
        for seed in range(300):
            chance = random.Random(seed)
            size = chance.randint(1, 8)
            heap, model = Heap(size), HeapModel(size)
            roots = [ONE, NO, ("int", -1)]
            for _ in range(80):
                kind = chance.randint(0, 9)
                if kind == 0 or heap.is_full():
                    found = [thing.minor(tuple(roots)) for thing in (heap, model)]
                elif kind == 1:
                    found = [thing.major(tuple(roots)) for thing in (heap, model)]
                elif kind < 4:
                    held = [value for value in roots if value[0] == "at" and heap.look(value)[0] == "ref"]
                    if held:
                        place, content = chance.choice(held), chance.choice(roots)
                        heap.store(place, content)
                        model.store(place, content)
                    found = [tuple(roots)] * 2
                elif kind == 4 and len(roots) > 2:
                    roots.pop(chance.randrange(len(roots)))
                    found = [tuple(roots)] * 2
                else:
                    kind = chance.choice(("string", "tuple", "make", "pack", "close", "ref", "ref"))
                    count = {"string": 0, "tuple": chance.randint(1, 3), "pack": chance.randint(0, 1)}.get(kind, 1)
                    fields = tuple(chance.choice(roots) for _ in range(count))
                    made = [thing.make(kind, "s" if kind == "string" else 0, fields) for thing in (heap, model)]
                    self.assertEqual(made[0], made[1])
                    roots.append(made[0])
                    found = [tuple(roots)] * 2
                self.assertEqual(found[0], found[1], seed)
                roots = list(found[0])
                self.assertEqual(heap.counts(), model.counts(), seed)
                self.assertEqual(heap.is_full(), model.is_full())
                young, old, _ = heap.counts()
                for address in range(-young, old):
                    self.assertEqual(heap.look(at(address)), model.look(at(address)), seed)


if __name__ == "__main__":
    unittest.main()
