import PyProof.Rows.All
import Wide.All
import OpenK.AllK
import Wide.FinOn
import HandS.ForMost
import HandS.Evl
import HandS.StrMore
import HandS.Steps
import HandS.Walk
import HandS.IsInst
import HandS.More
import HandS.ExcInit
import HandS.ExcIs
import HandS.ExcField
import HandS.ExcOwn
import HandS.FStr
import HandS.TryMany
import HandS.WordsExc
import HandS.ClsMeth
import HandS.HeadHook2
import HandS.Wide
import KE.KExcIs
import KE.KDictZip
import HandS.Zip0
import HandS.Conv
import HandS.Flow
import HandS.Small
import HandS.Rev
import HandS.Nested
import HandS.EndTab
import PyProof.TupleOfStr
import HandS.Words
import HandS.Base
import KE.DatumOrd
import HandS.SortKw
import HandS.Exc
import HandS.ExcCtx
import HandS.Hot
import PyProof.WalkInts
import HandS.HotCalls
import HandS.Comp
import KE.KNestM
import PySem.Challenge.RW_guanaco_k15_schemes_as_syntax
set_option Elab.async false
set_option linter.all false
set_option maxRecDepth 100000
set_option maxHeartbeats 4000000
/-! dict(zip(xs, ys)), each of the two a list or a tuple, of one length -/
namespace ZQ
open PySem
open PySem.Sem (wp)
/-- an iterator over a tuple (true) or a list (false) -/
def SI (b : Bool) (h : Heap) (it l : Addr) (k : Nat) : Prop := match b with
  | true => h.IsTupleIter it l k
  | false => h.IsListIter it l k
def SQ (b : Bool) (h : Heap) (l : Addr) (xs : Array Value) : Prop := match b with
  | true => h.IsTuple l xs
  | false => h.IsList l xs
section
variable {b b1 b2 : Bool} {h h' : Heap} {it l z TI TO i1 i2 l1 l2 T : Addr} {k n : Nat} {xs ys : Array Value}
theorem SI.at (x : SI b h it l k) (e : ∀ o, h.get? it = some o → h'.get? it = some o) : SI b h' it l k := by
  cases b with
  | true => exact Heap.IsTupleIter.at x e
  | false => exact Heap.IsListIter.at x e
theorem SQ.at (x : SQ b h l xs) (e : ∀ o, h.get? l = some o → h'.get? l = some o) : SQ b h' l xs := by
  cases b with
  | true => exact Heap.IsTuple.at x e
  | false => exact Heap.IsList.at x e
theorem SI.there (x : SI b h it l k) : ∃ o, h.get? it = some o := by
  cases b with
  | true => exact ⟨_, x.choose_spec.1⟩
  | false => exact ⟨_, x.choose_spec.1⟩
theorem SQ.there (x : SQ b h l xs) : ∃ o, h.get? l = some o := by
  cases b with
  | true => exact ⟨_, x.choose_spec.1⟩
  | false => exact ⟨_, x.choose_spec.1⟩
end
section
variable {prog : Program} {w : World} {A : Around} {E : Value → Shared → Prop} {s : Shared} {b b1 b2 : Bool} {it l z TI TO i1 i2 l1 l2 T : Addr} {k n : Nat} {xs ys : Array Value} {x y : Value}
theorem nx_item {Q : Value → Shared → Prop} (hit : SI b s.heap it l k) (hl : SQ b s.heap l xs) (hx : xs[k]? = some x) (hQ : ∀ h', SI b h' it l (k + 1) → Heap.SameBut it s.heap h' → Q x { s with heap := h' }) : wpAny (model prog w) A (Builtin.SmallTypes.nextOf (.ref it)) Q E s := by
  cases b with
  | true => exact RZ.nextOf_tuple_item hit hl hx hQ
  | false => exact wpAny_nextOf_list_item hit hl hx hQ
theorem nx_end {Q : Value → Shared → Prop} (hh : A.handled = none) (hit : SI b s.heap it l k) (hl : SQ b s.heap l xs) (hx : xs[k]? = none) (hE : ∀ h' e, Heap.ExtBut it s.heap h' → (∃ o, h'.get? e = some o ∧ o.cls = .type "StopIteration") → E (.ref e) { s with heap := h' }) : wpAny (model prog w) A (Builtin.SmallTypes.nextOf (.ref it)) Q E s := by
  cases b with
  | true => exact RZ.nextOf_tuple_end hh hit hl hx hE
  | false => exact wpAny_nextOf_list_end hh hit hl hx hE
/-- what a zip's turn leaves -/
structure Turned (b1 b2 : Bool) (h h' : Heap) (z TO i1 i2 l1 l2 : Addr) (k : Nat) : Prop where
  a : SI b1 h' i1 l1 (k + 1)
  b : SI b2 h' i2 l2 (k + 1)
  keep : ∀ c o, c ≠ z → c ≠ TO → c ≠ i1 → c ≠ i2 → h.get? c = some o → h'.get? c = some o
/-- the first turn: the zip's own tuple is handed out -/
theorem first_item {Q : Value → Shared → Prop} {u v : Value} (D : ZipApart z TI TO i1 i2 l1 l2) (hz : IsZip s.heap z TI TO .none) (hTI : IsPair s.heap TI (.ref i1) (.ref i2)) (hTO : IsPair s.heap TO u v)
    (h1 : SI b1 s.heap i1 l1 k) (h2 : SI b2 s.heap i2 l2 k) (q1 : SQ b1 s.heap l1 xs) (q2 : SQ b2 s.heap l2 ys) (hx : xs[k]? = some x) (hy : ys[k]? = some y)
    (hQ : ∀ h', Turned b1 b2 s.heap h' z TO i1 i2 l1 l2 k → IsZip h' z TI TO (rawInt s.heap.objs.size) → IsPair h' s.heap.objs.size x y → Q (.ref s.heap.objs.size) { s with heap := h' }) :
    wpAny (model prog w) A (Builtin.«zip.__next__» ⟨[.ref z], []⟩) (fun fin s' => ∃ v, fin = .done (.ret v) ∧ Q v s') E s := by
  show wpAny _ _ (field (.ref z) 2 >>= _) _ _ _
  refine wpAny_bind (wpAny_field hz rfl (x := .bool false) rfl ?_)
  show wpAny _ _ (field (.ref z) 3 >>= _) _ _ _
  refine wpAny_bind (wpAny_field hz rfl (x := .ref TI) rfl ?_)
  refine wpAny_bind (wpAny_seqItems hTI rfl ?_)
  show wpAny _ _ (Builtin.SmallTypes.ownedTupleIsFree (.ref z) >>= _) _ _ _
  refine wpAny_bind ?_
  unfold Builtin.SmallTypes.ownedTupleIsFree
  refine wpAny_bind (wpAny_field hz rfl (x := .none) rfl (wpAny_pure ?_))
  simp only [if_true]
  refine wpAny_bind (wpAny_rule ?_)
  refine wpAny_bind (wpAny_field hz rfl (x := .ref TO) rfl ?_)
  refine wpAny_bind (wpAny_setField_rec hz (by simp) fun g1 hz1 s1 => ?_)
  have hz1 : IsZip g1 z TI TO .ellipsis := hz1
  refine wpAny_bind ?_
  simp only [List.zipIdx_cons, List.zipIdx_nil, List.forIn_cons, List.forIn_nil]
  refine wpAny_bind (wpAny_bind (wpAny_onRaise ?_))
  show wpAny _ _ (Builtin.SmallTypes.nextOf (.ref i1) >>= _) _ _ _
  have k1 : ∀ c o, c ≠ z → s.heap.get? c = some o → g1.get? c = some o := fun c o n e => s1.extBut _ _ n e
  refine wpAny_bind (nx_item (s := { s with heap := g1 }) (h1.at fun o => k1 _ o D.i1z) (q1.at fun o => k1 _ o D.l1z) hx fun g2 h12 s2 => wpAny_pure ?_)
  have hTO2 : IsPair g2 TO u v := s2.extBut _ _ D.TOi1 (k1 _ _ D.TOz hTO)
  refine wpAny_bind (wpAny_seqItems hTO2 rfl ?_)
  refine wpAny_bind (wpAny_updateSeq_pair hTO2 fun g3 hTO3 s3 => ?_)
  have hTO3 : IsPair g3 TO x v := hTO3
  refine wpAny_bind (wpAny_letGo (wpAny_pure ?_))
  refine wpAny_bind (wpAny_bind (wpAny_onRaise ?_))
  show wpAny _ _ (Builtin.SmallTypes.nextOf (.ref i2) >>= _) _ _ _
  have k3 : ∀ c o, c ≠ z → c ≠ i1 → c ≠ TO → s.heap.get? c = some o → g3.get? c = some o := fun c o n m r e => s3.extBut _ _ r (s2.extBut _ _ m (k1 c o n e))
  refine wpAny_bind (nx_item (s := { s with heap := g3 }) (h2.at fun o => k3 _ o D.i2z D.i12.symm D.TOi2.symm) (q2.at fun o => k3 _ o D.l2z D.l2i1 D.l2TO) hy fun g4 h24 s4 => wpAny_pure ?_)
  have hTO4 : IsPair g4 TO x v := s4.extBut _ _ D.TOi2 hTO3
  refine wpAny_bind (wpAny_seqItems hTO4 rfl ?_)
  refine wpAny_bind (wpAny_updateSeq_pair hTO4 fun g5 hTO5 s5 => ?_)
  have hTO5 : IsPair g5 TO x y := hTO5
  refine wpAny_bind (wpAny_letGo (wpAny_pure (wpAny_pure ?_)))
  refine wpAny_bind (wpAny_seqItems hTO5 rfl ?_)
  refine wpAny_bind (wpAny_newTuple ?_)
  have sz5 : g5.objs.size = s.heap.objs.size := by rw [s5.1, s4.1, s3.1, s2.1, s1.1]
  have hz5 : IsZip g5 z TI TO .ellipsis := s5.extBut _ _ D.TOz.symm (s4.extBut _ _ D.i2z.symm (s3.extBut _ _ D.TOz.symm (s2.extBut _ _ D.i1z.symm hz1)))
  have k5 : ∀ c o, c ≠ z → c ≠ TO → c ≠ i1 → c ≠ i2 → s.heap.get? c = some o → g5.get? c = some o := fun c o n1 n2 n3 n4 e => s5.extBut _ _ n2 (s4.extBut _ _ n4 (k3 c o n1 n3 n2 e))
  have h15 : SI b1 g5 i1 l1 (k + 1) := h12.at fun o e => s5.extBut _ _ D.TOi1.symm (s4.extBut _ _ D.i12 (s3.extBut _ _ D.TOi1.symm e))
  have h25 : SI b2 g5 i2 l2 (k + 1) := h24.at fun o e => s5.extBut _ _ D.TOi2.symm e
  have lz := Heap.lt_size hz5
  show wpAny _ _ (Builtin.SmallTypes.ownedTupleHandOut (.ref z) (.ref g5.objs.size) >>= _) _ _ _
  refine wpAny_bind ?_
  unfold Builtin.SmallTypes.ownedTupleHandOut
  have hz6 : IsZip (g5.push { cls := .type "tuple", data := .seq #[x, y] }) z TI TO .ellipsis := Heap.get?_push_of_some _ hz5
  refine wpAny_bind (wpAny_setField_rec hz6 (by simp) fun g7 hz7 s7 => ?_)
  have hz7 : IsZip g7 z TI TO (rawInt g5.objs.size) := hz7
  refine wpAny_setField_rec hz7 (by simp) fun g8 hz8 s8 => ?_
  have hz8 : IsZip g8 z TI TO (rawInt g5.objs.size) := hz8
  have up : ∀ c o, c ≠ z → g5.get? c = some o → g8.get? c = some o := fun c o n e => s8.extBut _ _ n (s7.extBut _ _ n (Heap.get?_push_of_some _ e))
  have hT8 : IsPair g8 g5.objs.size x y := s8.extBut _ _ (Nat.ne_of_gt lz) (s7.extBut _ _ (Nat.ne_of_gt lz) (Heap.get?_push_size _ rfl))
  rw [sz5] at hz8 hT8
  refine wpAny_pure ⟨_, rfl, ?_⟩
  show Q (.ref g5.objs.size) _
  rw [sz5]
  exact hQ g8 ⟨h15.at fun o => up _ o D.i1z, h25.at fun o => up _ o D.i2z, fun c o n1 n2 n3 n4 e => up c o n1 (k5 c o n1 n2 n3 n4 e)⟩ hz8 hT8
/-- a later turn: the tuple is still out -/
theorem held_item {Q : Value → Shared → Prop} {f : Bool} {oT : Obj} (D : ZipApart z TI TO i1 i2 l1 l2) (hz : IsZipHeld s.heap z TI TO T f) (hT : s.heap.get? T = some oT) (hTI : IsPair s.heap TI (.ref i1) (.ref i2))
    (h1 : SI b1 s.heap i1 l1 k) (h2 : SI b2 s.heap i2 l2 k) (q1 : SQ b1 s.heap l1 xs) (q2 : SQ b2 s.heap l2 ys) (hx : xs[k]? = some x) (hy : ys[k]? = some y)
    (hQ : ∀ h', Turned b1 b2 s.heap h' z TO i1 i2 l1 l2 k → IsZipHeld h' z TI TO T true → (T ≠ z → T ≠ i1 → T ≠ i2 → h'.get? T = some oT) → IsPair h' s.heap.objs.size x y → Q (.ref s.heap.objs.size) { s with heap := h' }) :
    wpAny (model prog w) A (Builtin.«zip.__next__» ⟨[.ref z], []⟩) (fun fin s' => ∃ v, fin = .done (.ret v) ∧ Q v s') E s := by
  show wpAny _ _ (field (.ref z) 2 >>= _) _ _ _
  refine wpAny_bind (wpAny_field hz rfl (x := .bool false) rfl ?_)
  show wpAny _ _ (field (.ref z) 3 >>= _) _ _ _
  refine wpAny_bind (wpAny_field hz rfl (x := .ref TI) rfl ?_)
  refine wpAny_bind (wpAny_seqItems hTI rfl ?_)
  show wpAny _ _ (Builtin.SmallTypes.ownedTupleIsFree (.ref z) >>= _) _ _ _
  refine wpAny_bind (wpAny_tupleHeld_zip hz hT fun g1 hz1 s1 => ?_)
  simp only [Bool.false_eq_true, if_false]
  refine wpAny_bind ?_
  rw [← Array.forIn_toList]
  simp only [List.forIn_cons, List.forIn_nil]
  refine wpAny_bind (wpAny_bind (wpAny_holding ?_))
  show wpAny _ _ (Builtin.SmallTypes.nextOf (.ref i1) >>= _) _ _ _
  have k1 : ∀ c o, c ≠ z → s.heap.get? c = some o → g1.get? c = some o := fun c o n e => s1.extBut _ _ n e
  refine wpAny_bind (nx_item (s := { s with heap := g1 }) (h1.at fun o => k1 _ o D.i1z) (q1.at fun o => k1 _ o D.l1z) hx fun g2 h12 s2 => wpAny_pure ?_)
  refine wpAny_pure ?_
  refine wpAny_bind (wpAny_bind (wpAny_holding ?_))
  show wpAny _ _ (Builtin.SmallTypes.nextOf (.ref i2) >>= _) _ _ _
  have k2 : ∀ c o, c ≠ z → c ≠ i1 → s.heap.get? c = some o → g2.get? c = some o := fun c o n m e => s2.extBut _ _ m (k1 c o n e)
  refine wpAny_bind (nx_item (s := { s with heap := g2 }) (h2.at fun o => k2 _ o D.i2z D.i12.symm) (q2.at fun o => k2 _ o D.l2z D.l2i1) hy fun g3 h23 s3 => wpAny_pure ?_)
  refine wpAny_pure (wpAny_pure ?_)
  show wpAny _ _ (newTuple [x, y] >>= _) _ _ _
  refine wpAny_bind (wpAny_newTuple ?_)
  have sz3 : g3.objs.size = s.heap.objs.size := by rw [s3.1, s2.1, s1.1]
  have hz3 : IsZipHeld g3 z TI TO T true := s3.extBut _ _ D.i2z.symm (s2.extBut _ _ D.i1z.symm hz1)
  have k3 : ∀ c o, c ≠ z → c ≠ i1 → c ≠ i2 → s.heap.get? c = some o → g3.get? c = some o := fun c o n1 n2 n3 e => s3.extBut _ _ n3 (k2 c o n1 n2 e)
  refine wpAny_pure ⟨_, rfl, ?_⟩
  show Q (.ref g3.objs.size) _
  have hp : IsPair (g3.push { cls := .type "tuple", data := .seq #[x, y] }) g3.objs.size x y := Heap.get?_push_size _ rfl
  rw [sz3] at hp ⊢
  exact hQ _ ⟨h12.at fun o e => Heap.get?_push_of_some _ (s3.extBut _ _ D.i12 e), h23.at fun o e => Heap.get?_push_of_some _ e, fun c o n1 _ n3 n4 e => Heap.get?_push_of_some _ (k3 c o n1 n3 n4 e)⟩ (Heap.get?_push_of_some _ hz3) (fun n1 n2 n3 => Heap.get?_push_of_some _ (k3 _ _ n1 n2 n3 hT)) hp
/-- the end: the first of the two has no more items -/
theorem first_end {Q : Fin → Shared → Prop} (hh : A.handled = none) (D : ZipApart z TI TO i1 i2 l1 l2) (hz : IsZip s.heap z TI TO .none) (hTI : IsPair s.heap TI (.ref i1) (.ref i2)) (h1 : SI b1 s.heap i1 l1 k) (q1 : SQ b1 s.heap l1 xs) (hx : xs[k]? = none)
    (hE : ∀ h' e, (∀ c o, c ≠ z → c ≠ i1 → s.heap.get? c = some o → h'.get? c = some o) → (∃ o, h'.get? e = some o ∧ o.cls = .type "StopIteration") → E (.ref e) { s with heap := h' }) : wpAny (model prog w) A (Builtin.«zip.__next__» ⟨[.ref z], []⟩) Q E s := by
  show wpAny _ _ (field (.ref z) 2 >>= _) _ _ _
  refine wpAny_bind (wpAny_field hz rfl (x := .bool false) rfl ?_)
  show wpAny _ _ (field (.ref z) 3 >>= _) _ _ _
  refine wpAny_bind (wpAny_field hz rfl (x := .ref TI) rfl ?_)
  refine wpAny_bind (wpAny_seqItems hTI rfl ?_)
  show wpAny _ _ (Builtin.SmallTypes.ownedTupleIsFree (.ref z) >>= _) _ _ _
  refine wpAny_bind ?_
  unfold Builtin.SmallTypes.ownedTupleIsFree
  refine wpAny_bind (wpAny_field hz rfl (x := .none) rfl (wpAny_pure ?_))
  simp only [if_true]
  refine wpAny_bind (wpAny_rule ?_)
  refine wpAny_bind (wpAny_field hz rfl (x := .ref TO) rfl ?_)
  refine wpAny_bind (wpAny_setField_rec hz (by simp) fun g1 hz1 s1 => ?_)
  have hz1 : IsZip g1 z TI TO .ellipsis := hz1
  refine wpAny_bind ?_
  simp only [List.zipIdx_cons, List.zipIdx_nil, List.forIn_cons, List.forIn_nil]
  refine wpAny_bind (wpAny_bind (wpAny_onRaise ?_))
  show wpAny _ _ (Builtin.SmallTypes.nextOf (.ref i1) >>= _) _ _ _
  have k1 : ∀ c o, c ≠ z → s.heap.get? c = some o → g1.get? c = some o := fun c o n e => s1.extBut _ _ n e
  refine wpAny_bind (nx_end (s := { s with heap := g1 }) hh (h1.at fun o => k1 _ o D.i1z) (q1.at fun o => k1 _ o D.l1z) hx fun g2 e s2 he => ?_)
  obtain ⟨oe, hoe, hce⟩ := he
  have hz2 : IsZip g2 z TI TO .ellipsis := s2 _ _ D.i1z.symm hz1
  have hez : e ≠ z := fun q => by
    subst q
    rw [hz2] at hoe
    cases hoe
    simp at hce
  exact wpAny_setField_rec hz2 (by simp) fun g3 _ s3 => hE g3 e (fun c o n1 n2 q => s3.extBut _ _ n1 (s2 _ _ n2 (k1 c o n1 q))) ⟨oe, s3.extBut _ _ hez hoe, hce⟩
theorem held_end {Q : Fin → Shared → Prop} {f : Bool} {oT : Obj} (hh : A.handled = none) (D : ZipApart z TI TO i1 i2 l1 l2) (hz : IsZipHeld s.heap z TI TO T f) (hT : s.heap.get? T = some oT) (hTI : IsPair s.heap TI (.ref i1) (.ref i2)) (h1 : SI b1 s.heap i1 l1 k) (q1 : SQ b1 s.heap l1 xs) (hx : xs[k]? = none)
    (hE : ∀ h' e, (∀ c o, c ≠ z → c ≠ i1 → s.heap.get? c = some o → h'.get? c = some o) → (∃ o, h'.get? e = some o ∧ o.cls = .type "StopIteration") → E (.ref e) { s with heap := h' }) : wpAny (model prog w) A (Builtin.«zip.__next__» ⟨[.ref z], []⟩) Q E s := by
  show wpAny _ _ (field (.ref z) 2 >>= _) _ _ _
  refine wpAny_bind (wpAny_field hz rfl (x := .bool false) rfl ?_)
  show wpAny _ _ (field (.ref z) 3 >>= _) _ _ _
  refine wpAny_bind (wpAny_field hz rfl (x := .ref TI) rfl ?_)
  refine wpAny_bind (wpAny_seqItems hTI rfl ?_)
  show wpAny _ _ (Builtin.SmallTypes.ownedTupleIsFree (.ref z) >>= _) _ _ _
  refine wpAny_bind (wpAny_tupleHeld_zip hz hT fun g1 hz1 s1 => ?_)
  simp only [Bool.false_eq_true, if_false]
  refine wpAny_bind ?_
  rw [← Array.forIn_toList]
  simp only [List.forIn_cons, List.forIn_nil]
  refine wpAny_bind (wpAny_bind (wpAny_holding ?_))
  show wpAny _ _ (Builtin.SmallTypes.nextOf (.ref i1) >>= _) _ _ _
  have k1 : ∀ c o, c ≠ z → s.heap.get? c = some o → g1.get? c = some o := fun c o n e => s1.extBut _ _ n e
  refine wpAny_bind (nx_end (s := { s with heap := g1 }) hh (h1.at fun o => k1 _ o D.i1z) (q1.at fun o => k1 _ o D.l1z) hx fun g2 e s2 he => ?_)
  exact hE g2 e (fun c o n1 n2 q => s2 _ _ n2 (k1 c o n1 q)) he
theorem pn_item {Q : Option Value → Shared → Prop} (hT : s.TypeIs (.ref z) "zip") (h : wpAny (model prog w) A.in1 (Builtin.«zip.__next__» ⟨[.ref z], []⟩) (fun fin s' => ∃ v, fin = .done (.ret v) ∧ Q (some v) s') (fun _ _ => False) s) : wpAny (model prog w) A (pyNext (.ref z)) Q E s := by
  unfold pyNext
  refine wpAny_bind (wpAny_attempt (wpAny_callSpecial?_slot (name := Str.ofString "__next__") hT F.slot_zip_next (wpAny_call_entry F.slot_zip_next hT F.entry_zip_next (wpAny_mono h (fun fin s' h' => ?_) fun _ _ z => z.elim) (F.args_zip_next_1 _))))
  obtain ⟨v, e, q⟩ := h'
  exact ⟨v, e, wpAny_pure q⟩
theorem pn_end {Q : Option Value → Shared → Prop} (hT : s.TypeIs (.ref z) "zip") (h : wpAny (model prog w) A.in1 (Builtin.«zip.__next__» ⟨[.ref z], []⟩) (fun _ _ => False) (fun e s' => (∃ a o, e = .ref a ∧ s'.heap.get? a = some o ∧ o.cls = .type "StopIteration") ∧ Q none s') s) : wpAny (model prog w) A (pyNext (.ref z)) Q E s := by
  unfold pyNext
  refine wpAny_bind (wpAny_attempt (wpAny_callSpecial?_slot (name := Str.ofString "__next__") hT F.slot_zip_next (wpAny_call_entry F.slot_zip_next hT F.entry_zip_next (wpAny_mono h (fun _ _ z => z.elim) fun e s' h' => ?_) (F.args_zip_next_1 _))))
  obtain ⟨⟨a, o, rfl, ho, hc⟩, q⟩ := h'
  refine wpAny_bind (wpAny_isInstance (T := "StopIteration") (b := true) ⟨o, ho, hc⟩ isSubtype_stop ?_)
  exact wpAny_pure q
end
/-- the argument of dict(..) -/
theorem pairs {prog : Program} {w : World} (b1 b2 : Bool) (z TI TO i1 i2 l1 l2 : Addr) (D : ZipApart z TI TO i1 i2 l1 l2) (xs ys : Array Value) (hn : xs.size = ys.size) :
    PairArg prog w "zip" z [z, TI, TO, i1, i2, l1, l2] [z, TO, i1, i2] xs.size (fun i k v => xs[i]? = some k ∧ ys[i]? = some v)
      (fun h => IsZip h z TI TO .none ∧ IsPair h TI (.ref i1) (.ref i2) ∧ (∃ u v, IsPair h TO u v) ∧ (SI b1 h i1 l1 0 ∧ SI b2 h i2 l2 0) ∧ SQ b1 h l1 xs ∧ SQ b2 h l2 ys) where
  type := fun s ok => ⟨_, ok.1, rfl⟩
  notDict := by decide
  keep := fun h h' ⟨hz, hTI, ⟨u, v, hTO⟩, ⟨h1, h2⟩, q1, q2⟩ hk => ⟨hk _ _ hz, hk _ _ hTI, ⟨u, v, hk _ _ hTO⟩, ⟨h1.at (hk _), h2.at (hk _)⟩, q1.at (hk _), q2.at (hk _)⟩
  there := fun h ⟨hz, hTI, ⟨u, v, hTO⟩, ⟨h1, h2⟩, q1, q2⟩ c hc => by
    have hc : c = z ∨ c = TI ∨ c = TO ∨ c = i1 ∨ c = i2 ∨ c = l1 ∨ c = l2 := by simpa using hc
    rcases hc with rfl | rfl | rfl | rfl | rfl | rfl | rfl
    · exact ⟨_, hz⟩
    · exact ⟨_, hTI⟩
    · exact ⟨_, hTO⟩
    · exact h1.there
    · exact h2.there
    · exact q1.there
    · exact q2.there
  sub := fun c hc => by
    have hc : c = z ∨ c = TO ∨ c = i1 ∨ c = i2 := by simpa using hc
    rcases hc with rfl | rfl | rfl | rfl <;> simp
  noKeys := fun A s Q E hA ok h => getAttrOr_miss_zip ok.1 rfl rfl rfl zip_no_keys (by decide +kernel) hA h
  iter := fun A s d Q E hA ⟨hz, hTI, ⟨u, v, hTO⟩, ⟨h1, h2⟩, q1, q2⟩ hd hdf h => by
    have hdf : d ≠ z ∧ d ≠ TI ∧ d ≠ TO ∧ d ≠ i1 ∧ d ≠ i2 ∧ d ≠ l1 ∧ d ≠ l2 := by simpa using hdf
    obtain ⟨dz, dTI, dTO, di1, di2, dl1, dl2⟩ := hdf
    refine wpAny_pyIter_zip hz (h z [z, TO, i1, i2] (fun i h => IsPair h TI (.ref i1) (.ref i2) ∧ (SI b1 h i1 l1 i ∧ SI b2 h i2 l2 i) ∧ (SQ b1 h l1 xs ∧ SQ b2 h l2 ys) ∧
      ((IsZip h z TI TO .none ∧ ∃ u v, IsPair h TO u v) ∨ ∃ T f oT, IsZipHeld h z TI TO T f ∧ h.get? T = some oT ∧ T ≠ z ∧ T ≠ i1 ∧ T ≠ i2 ∧ T ≠ d)) s.heap s.toks ?_ ⟨hTI, ⟨h1, h2⟩, ⟨q1, q2⟩, .inl ⟨hz, u, v, hTO⟩⟩ (fun _ _ e => e) fun c hc => .inl hc)
    refine ⟨by simp [dz, dTO, di1, di2], fun i g g' ⟨hTI, ⟨h1, h2⟩, ⟨q1, q2⟩, hz⟩ hk => ?_, fun i s1 Q1 E1 hi ⟨hTI, ⟨h1, h2⟩, ⟨q1, q2⟩, hz⟩ hds hQ => ?_, fun s1 Q1 E1 ⟨hTI, ⟨h1, h2⟩, ⟨q1, q2⟩, hz⟩ hQ => ?_⟩
    · refine ⟨hk _ _ dTI.symm hTI, ⟨h1.at fun o => hk _ o di1.symm, h2.at fun o => hk _ o di2.symm⟩, ⟨q1.at fun o => hk _ o dl1.symm, q2.at fun o => hk _ o dl2.symm⟩, ?_⟩
      rcases hz with ⟨hz, u, v, hTO⟩ | ⟨T, f, oT, hz, hT, r1, r2, r3, r4⟩
      · exact .inl ⟨hk _ _ dz.symm hz, u, v, hk _ _ dTO.symm hTO⟩
      · exact .inr ⟨T, f, oT, hk _ _ dz.symm hz, hk _ _ r4 hT, r1, r2, r3, r4⟩
    · have ex := Array.getElem?_eq_getElem hi
      have ey := Array.getElem?_eq_getElem (show i < ys.size by omega)
      have lt : ∀ {c : Addr}, (∃ o, s1.heap.get? c = some o) → s1.heap.objs.size ≠ c := fun ⟨_, e⟩ => Nat.ne_of_gt (Heap.lt_size e)
      have n1 := lt h1.there
      have n2 := lt h2.there
      have up : ∀ {h' : Heap}, Turned b1 b2 s1.heap h' z TO i1 i2 l1 l2 i → ∀ c o, c ∉ [z, TO, i1, i2] → s1.heap.get? c = some o → h'.get? c = some o := fun t c o hc e => t.keep c o (fun q => hc (by simp [q])) (fun q => hc (by simp [q])) (fun q => hc (by simp [q])) (fun q => hc (by simp [q])) e
      have st : ∀ {h' : Heap}, Turned b1 b2 s1.heap h' z TO i1 i2 l1 l2 i → IsPair h' TI (.ref i1) (.ref i2) ∧ (SI b1 h' i1 l1 (i + 1) ∧ SI b2 h' i2 l2 (i + 1)) ∧ (SQ b1 h' l1 xs ∧ SQ b2 h' l2 ys) := fun t =>
        ⟨t.keep _ _ D.TIz D.TITO D.TIi1 D.TIi2 hTI, ⟨t.a, t.b⟩, q1.at fun o => t.keep _ o D.l1z D.l1TO D.l1i1 D.l1i2, q2.at fun o => t.keep _ o D.l2z D.l2TO D.l2i1 D.l2i2⟩
      rcases hz with ⟨hz, u, v, hTO⟩ | ⟨T, f, oT, hz, hT, r1, r2, r3, r4⟩
      · refine pn_item ⟨_, hz, rfl⟩ (first_item D hz hTI hTO h1 h2 q1 q2 ex ey fun h' t hz' hp => ?_)
        obtain ⟨a, b, c⟩ := st t
        exact hQ s1.heap.objs.size _ _ h' s1.toks ⟨ex, ey⟩ (.inl ⟨_, hp, rfl, _, rfl⟩) ⟨a, b, c, .inr ⟨s1.heap.objs.size, false, _, hz', hp, lt ⟨_, hz⟩, n1, n2, Nat.ne_of_gt hds⟩⟩ (up t)
      · refine pn_item ⟨_, hz, rfl⟩ (held_item D hz hT hTI h1 h2 q1 q2 ex ey fun h' t hz' hT' hp => ?_)
        obtain ⟨a, b, c⟩ := st t
        exact hQ s1.heap.objs.size _ _ h' s1.toks ⟨ex, ey⟩ (.inl ⟨_, hp, rfl, _, rfl⟩) ⟨a, b, c, .inr ⟨T, true, oT, hz', hT' r1 r2 r3, r1, r2, r3, r4⟩⟩ (up t)
    · have ex : xs[xs.size]? = none := Array.getElem?_eq_none (Nat.le_refl _)
      have up : ∀ {h' : Heap}, (∀ c o, c ≠ z → c ≠ i1 → s1.heap.get? c = some o → h'.get? c = some o) → ∀ c o, c ∉ [z, TO, i1, i2] → s1.heap.get? c = some o → h'.get? c = some o := fun t c o hc e => t c o (fun q => hc (by simp [q])) (fun q => hc (by simp [q])) e
      rcases hz with ⟨hz, u, v, hTO⟩ | ⟨T, f, oT, hz, hT, r1, r2, r3, r4⟩
      · exact pn_end ⟨_, hz, rfl⟩ (first_end hA D hz hTI h1 q1 ex fun h' e k ⟨o, ho, hc⟩ => ⟨⟨e, o, rfl, ho, hc⟩, hQ h' s1.toks (up k)⟩)
      · exact pn_end ⟨_, hz, rfl⟩ (held_end hA D hz hT hTI h1 q1 ex fun h' e k ⟨o, ho, hc⟩ => ⟨⟨e, o, rfl, ho, hc⟩, hQ h' s1.toks (up k)⟩)
/-- zip(a, b), made -/
def itO (b : Bool) (l : Addr) : Obj := match b with
  | true => { cls := .type "tuple_iterator", data := .fields #[.ref l, .int 0 0] }
  | false => { cls := .type "list_iterator", data := .fields #[.ref l, .int 0 0] }
abbrev made2 (b1 b2 : Bool) (h : Heap) (l1 l2 : Addr) : Heap := (h.push (itO b1 l1)).push (itO b2 l2)
abbrev made3 (b1 b2 : Bool) (h : Heap) (l1 l2 : Addr) : Heap := (made2 b1 b2 h l1 l2).push { cls := .type "tuple", data := .seq #[.ref h.objs.size, .ref (h.push (itO b1 l1)).objs.size] }
abbrev made4 (b1 b2 : Bool) (h : Heap) (l1 l2 : Addr) : Heap := (made3 b1 b2 h l1 l2).push { cls := .type "tuple", data := .seq #[.none, .none] }
abbrev made5 (b1 b2 : Bool) (h : Heap) (l1 l2 : Addr) : Heap := (made4 b1 b2 h l1 l2).push { cls := .type "zip", data := .fields #[.none, .bool false, .bool false, .ref (made2 b1 b2 h l1 l2).objs.size, .ref (made3 b1 b2 h l1 l2).objs.size] }
theorem pyIter_S {prog : Program} {w : World} {A : Around} {E : Value → Shared → Prop} {s : Shared} {b : Bool} {l : Addr} {xs : Array Value} {Q : Value → Shared → Prop} (q : SQ b s.heap l xs) (h : Q (.ref s.heap.objs.size) { s with heap := s.heap.push (itO b l) }) : wpAny (model prog w) A (pyIter (.ref l)) Q E s := by
  cases b with
  | true => exact wpAny_pyIter_tuple q h
  | false => exact wpAny_pyIter_list q h
theorem SQ.push {b : Bool} {h : Heap} {l : Addr} {xs : Array Value} (q : SQ b h l xs) (o : Obj) : SQ b (h.push o) l xs := q.at fun _ e => Heap.get?_push_of_some _ e
theorem meets_new (b1 b2 : Bool) (l1 l2 : Addr) (xs ys : Array Value) :
    Meets (Builtin.«zip.__new__» ⟨[.type "zip", .ref l1, .ref l2], []⟩) (fun _ R s => SQ b1 s.heap l1 xs ∧ SQ b2 s.heap l2 ys ∧ R (.ok (.ret (.ref (made4 b1 b2 s.heap l1 l2).objs.size))) { s with heap := made5 b1 b2 s.heap l1 l2 }) :=
  .of_wp fun prog w A R s h => by
    obtain ⟨hp, g, d, tk, os⟩ := s
    obtain ⟨hl1, hl2, h⟩ := h
    have hsub := sub_zip
    have hL1 : SQ b1 (Shared.heap ⟨hp, g, d, tk, os⟩) l1 xs := hl1
    have hL2 : SQ b2 (Shared.heap ⟨hp.push (itO b1 l1), g, d, tk, os⟩) l2 ys := hl2.push _
    wp_walk using pyIter_S hL1, pyIter_S hL2
    exact ⟨_, rfl, h⟩
section
variable {prog : Program} {w : World} {A : Around} {E : Value → Shared → Prop} {s : Shared}
theorem call_zq {b1 b2 : Bool} {l1 l2 : Addr} {xs ys : Array Value} {Q : Value → Shared → Prop} (q1 : SQ b1 s.heap l1 xs) (q2 : SQ b2 s.heap l2 ys)
    (h : ∀ h', IsZip h' (s.heap.objs.size + 4) (s.heap.objs.size + 2) (s.heap.objs.size + 3) .none → IsPair h' (s.heap.objs.size + 2) (.ref s.heap.objs.size) (.ref (s.heap.objs.size + 1)) → IsPair h' (s.heap.objs.size + 3) .none .none →
      SI b1 h' s.heap.objs.size l1 0 → SI b2 h' (s.heap.objs.size + 1) l2 0 → h'.objs.size = s.heap.objs.size + 5 → (∀ c o, s.heap.get? c = some o → h'.get? c = some o) → Q (.ref (s.heap.objs.size + 4)) { s with heap := h' }) :
    wpAny (model prog w) A (call (.type "zip") [.ref l1, .ref l2]) Q E s := by
  refine callType_new F.called_zip (by decide) (F.typeCall_zip_2 _ _) (F.newCall_zip_2 _ _) (fun obj => F.args_object_init_3 obj _ _) F.entry_zip_new (meets_new b1 b2 l1 l2 xs ys) ⟨q1, q2, ?_⟩
  have e1 : (s.heap.push (itO b1 l1)).objs.size = s.heap.objs.size + 1 := Heap.size_push ..
  have e2 : (made2 b1 b2 s.heap l1 l2).objs.size = s.heap.objs.size + 2 := by rw [Heap.size_push, e1]
  have e3 : (made3 b1 b2 s.heap l1 l2).objs.size = s.heap.objs.size + 3 := by rw [Heap.size_push, e2]
  have e4 : (made4 b1 b2 s.heap l1 l2).objs.size = s.heap.objs.size + 4 := by rw [Heap.size_push, e3]
  have up : ∀ {h : Heap} {c : Addr} {o r : Obj}, h.get? c = some o → (h.push r).get? c = some o := fun e => Heap.get?_push_of_some _ e
  have f5 : (made5 b1 b2 s.heap l1 l2).get? (made4 b1 b2 s.heap l1 l2).objs.size = some _ := Heap.get?_push_size _ rfl
  have f4 : (made5 b1 b2 s.heap l1 l2).get? (made3 b1 b2 s.heap l1 l2).objs.size = some _ := up (Heap.get?_push_size _ rfl)
  have f3 : (made5 b1 b2 s.heap l1 l2).get? (made2 b1 b2 s.heap l1 l2).objs.size = some _ := up (up (Heap.get?_push_size _ rfl))
  have f2 : (made5 b1 b2 s.heap l1 l2).get? (s.heap.push (itO b1 l1)).objs.size = some (itO b2 l2) := up (up (up (Heap.get?_push_size _ (by cases b2 <;> rfl))))
  have f1 : (made5 b1 b2 s.heap l1 l2).get? s.heap.objs.size = some (itO b1 l1) := up (up (up (up (Heap.get?_push_size _ (by cases b1 <;> rfl)))))
  have it : ∀ {h : Heap} {b : Bool} {a l : Addr}, h.get? a = some (itO b l) → SI b h a l 0 := fun {h b a l} e => by
    cases b with
    | true => exact ⟨_, e, rfl, rfl⟩
    | false => exact ⟨_, e, rfl, rfl⟩
  show _ ∧ _
  rw [e4] at f5 ⊢
  rw [e3] at f4
  rw [e2, e3] at f5
  rw [e1] at f2
  rw [e2, e1] at f3
  exact ⟨⟨_, f5, rfl⟩, h _ f5 f3 f4 (it f1) (it f2) (by rw [Heap.size_push, e4]) fun c o q => up (up (up (up (up q))))⟩
end
end ZQ
namespace L2
open PySem PySem.Spec PyProof.Rows
/-- dict(zip(a, b)), a a tuple of keys -/
def tDictZip (K : PySem.W.Frag) (t : TA) : TE := fun σ H Q => t σ H fun vs H2 => ∃ (a b : Addr) (ks : List Key) (ys : List V), vs = [.ref a, .ref b] ∧ SqT K H2 a (ks.map kV) ∧ (SqL K H2 b ys ∨ SqT K H2 b ys) ∧ ys.length = ks.length ∧ ∀ p, H2 p = none → Q (.ref p) (upd H2 p (.dK (mergeK [] (ks.zip ys))))
theorem keys_are (P : Program) (w : World) : ∀ {ks : List Key} {us : List Value}, Vals (ks.map kV) us → ∀ (i : Nat) (u : Value), us[i]? = some u → ∃ k, ks[i]? = some k ∧ keyIs k u = true
  | [], _, r, i, u, e => by
    rw [List.map_nil] at r
    cases r
    simp at e
  | k :: ks, _, r, i, u, e => by
    rw [List.map_cons] at r
    cases r with
    | cons h t =>
      cases i with
      | zero =>
        simp at e
        subst e
        exact ⟨k, rfl, kV_is (P := P) (w := w) h⟩
      | succ i =>
        obtain ⟨k', h1, h2⟩   := keys_are P w t i u (by simpa using e)
        exact ⟨k', by simpa using h1, h2⟩
theorem kv_zip : ∀ {ks : List Key} {ys : List V} {us : List Value}, Vals ys us → KV (ks.zip ys) (ks.zip us)
  | [], _, _, _ => by
    rw [List.zip_nil_left, List.zip_nil_left]
    exact .nil
  | k :: ks, _, _, .nil => by
    rw [List.zip_nil_right, List.zip_nil_right]
    exact .nil
  | k :: ks, _, _, .cons r t => by
    rw [List.zip_cons_cons, List.zip_cons_cons]
    exact .cons ⟨rfl, r⟩ (kv_zip t)
theorem Sq.is {X : Cx} {pins : List (Addr × Obj)} {σ : L2.St} {H : Hp} {s : Shared} {b : Addr} {ys : List V} (I : Inv X pins σ H s) (h : SqL X.K H b ys ∨ SqT X.K H b ys) : ∃ (f : Bool) (its : List Value), Vals ys its ∧ ZQ.SQ f s.heap b its.toArray := by
  rcases h with h | h
  · obtain ⟨its, r, p, _⟩ := I.list h
    exact ⟨false, its, r, p.isList⟩
  · obtain ⟨its, r, p, _⟩ := I.tuple h
    exact ⟨true, its, r, p⟩
section
variable {X : Cx}
theorem pe_dictzip {e e2 : Expr} {ta : TA} {p p2 pos pos2 : Pos} (hc : X.calm = true) (hg : Gl X "dict") (hm : X.mg "dict" = none) (hg2 : Gl X "zip") (hm2 : X.mg "zip" = none) (ha : PA X [e, e2] ta)
    (hs : starEach [e, e2] X.env = (false, eval e X.env) :: starEach [e2] X.env := by rfl) (hpl : (backTo pos2 (starEach [e2] X.env)).any (·.1) = false := by rfl)
    (hs2 : starEach [.Call (.Name "zip" p2) [e, e2] [] pos2] X.env = (false, eval (.Call (.Name "zip" p2) [e, e2] [] pos2) X.env) :: starEach [] X.env := by rfl) :
    PE X (.Call (.Name "dict" p) [.Call (.Name "zip" p2) [e, e2] [] pos2] [] pos) (tDictZip X.K ta) := by
  refine ⟨fun pins s σ H Q I h => ?_⟩
  refine Call_ (ld_blt I hg hm PyProof.Rows.boot_dict (PyProof.Rows.callWith_type1 (args_cons (Call_ (ld_blt I hg2 hm2 PyProof.Rows.boot_zip (PyProof.Rows.callWith_type1 (thn (ha.run pos2 pins s σ H _ I h) fun us s1 ⟨vs, H1, I1, r1, q1⟩ => ?_) hs hpl))) hs2) hs2 rfl))
  obtain ⟨a, b, ks, ys, ex, hq, hy, hl, q⟩ := q1
  subst ex
  cases r1 with
  | cons r rr =>
    cases rr with
    | cons r' rr =>
      cases rr
      cases r
      cases r'
      obtain ⟨its, rv, p1, hz⟩ := I1.tuple hq
      obtain ⟨f, its2, rv2, p2⟩ := Sq.is I1 hy
      obtain ⟨o1, ho1⟩ := ZQ.SQ.there (b := true) p1
      obtain ⟨o2, ho2⟩ := p2.there
      have n1 : its.length = ks.length := by rw [← rv.length, List.length_map]
      have n2 : its2.length = ys.length := rv2.length.symm
      refine ZQ.call_zq (b1 := true) (b2 := f) p1 p2 fun h' hzp hTI hTO i1 i2 sz hk => args_nil ?_
      have PP := ZQ.pairs (prog := X.prog) (w := X.w) true f _ _ _ _ _ a b (zipApart_new (Heap.lt_size ho1) (Heap.lt_size ho2)) its.toArray its2.toArray (by simp [n1, n2, hl])
      refine PySem.call_dict_pairs (knd := mixKind X.prog X.w) (kvs := ks.zip its2) PP (I1.ok.hd hc) ⟨hzp, hTI, ⟨_, _, hTO⟩, ⟨i1, i2⟩, ZQ.SQ.at (b := true) p1 (hk _), p2.at (hk _)⟩ ⟨by simp [List.length_zip, n1, n2, hl], fun i key v ⟨ek, ev⟩ => ?_⟩ (by simpa [n1] using hz) fun h2 tk hd hk2 => ?_
      · obtain ⟨k, hk1, hk2⟩ := keys_are X.prog X.w rv i key (by simpa using ek)
        exact ⟨k, List.getElem?_zip_eq_some.mpr ⟨hk1, by simpa using ev⟩, hk2⟩
      · have hD : h'.objs.size = s1.heap.objs.size + 5 := sz
        have kp : ∀ c o, s1.heap.get? c = some o → h2.get? c = some o := fun c o e => by
          have := Heap.lt_size e
          refine hk2 c o (fun z => ?_) (hk c o e)
          have z : c = s1.heap.objs.size + 4 ∨ c = s1.heap.objs.size + 3 ∨ c = s1.heap.objs.size ∨ c = s1.heap.objs.size + 1 := by simpa using z
          rcases z with rfl | rfl | rfl | rfl
          · exact absurd this (Nat.not_lt.mpr (Nat.le_add_right _ _))
          · exact absurd this (Nat.not_lt.mpr (Nat.le_add_right _ _))
          · exact absurd this (Nat.lt_irrefl _)
          · exact absurd this (Nat.not_lt.mpr (Nat.le_add_right _ _))
        have hm0 : (h'.objs.size == sysModules) = false := beq_eq_false_iff_ne.mpr (Nat.ne_of_gt (Nat.lt_of_lt_of_le I1.big (by rw [hD]; exact Nat.le_add_right _ _)))
        have hlen : (mergeK [] (ks.zip ys)).length ≤ sizeLine := by
          refine Nat.le_trans (length_mergeK _ []) ?_
          rw [List.length_nil, List.length_zip]
          rw [List.length_map] at hz
          omega
        exact ⟨.ref h'.objs.size, upd H1 h'.objs.size (.dK (mergeK [] (ks.zip ys))), I1.laid (t' := tk) kp (by rw [hD]; omega) (show ObjOk X.prog X.w _ _ _ (.dK (mergeK [] (ks.zip ys))) from ⟨hlen, hm0, merged [] (ks.zip its2), KV.merge (kv_zip rv2) .nil, hd⟩), rfl, q _ (I1.hok.fresh (by rw [hD]; omega))⟩
end
end L2

set_option Elab.async false
set_option linter.all false
set_option maxRecDepth 100000
set_option maxHeartbeats 4000000
namespace CLO
open PySem PySem.Spec PyProof.Rows L2 NdefX LamX
/-- a def's promise that asks something of the state at the call -/
structure FnOkS (P : Program) (w : World) (K : PySem.W.Frag) (mg : Str → Option Value) (base : Heap) (k : Nat) (f : Addr) (fd : FuncData) (ps : List Str) (pre : List V → List Env → Shared → Hp → Prop) (sp : Sp) : Prop where
  len : ∀ vs H Q E, sp vs H Q E → vs.length = ps.length
  run : ∀ (A : Around) (outer : List Env) (s : Shared) (H : Hp) (args : Args) (us : List Value) (vs : List V) (Q : VK) (E : XK), Room k A → Env0 P w K mg base A outer s H → BindsTo s fd args (ps.zip us) → Vals vs us → pre vs outer s H → sp vs H Q E →
    codeAny (model P w) A (.call (.ref f) args) (CR CX0 outer P w H s Q E) s
section
variable {P : Program} {w : World} {K : PySem.W.Frag} {mg : Str → Option Value} {base : Heap} {k j : Nat} {f : Addr} {fd : FuncData} {ps : List Str} {pre : List V → List Env → Shared → Hp → Prop} {sp : Sp}
theorem FnOkS.mono (F : FnOkS P w K mg base j f fd ps pre sp) (h : j ≤ k) : FnOkS P w K mg base k f fd ps pre sp := ⟨F.len, fun A outer s H args us vs Q E hr => F.run A outer s H args us vs Q E (hr.mono h)⟩
theorem fn_ofS {name qual : Str} {params : Arguments} {body : List Stmt} {scope : Scope} {dV kV doc pm cdv ct oc : Value} {an od : Option Addr} {osl : Array (Option Value)} {N : List Str}
    (lk : K.lookup f = some ⟨oc, od, .func (PySem.W.fnOf name qual params body scope dV kV doc pm an cdv ct), osl⟩) (hcd : PySem.W.codeIn K cdv qual = true) (S : FnScope N ps scope) (len : ∀ vs H Q E, sp vs H Q E → vs.length = ps.length)
    (hbody : ∀ (A : Around) (outer : List Env) (s : Shared) (H : Hp) (vs : List V) (Q : VK) (E : XK), Room k (A.deeper (envOfC qual scope s.heap.objs.size f cdv)) → s.heap.FunFrames base outer → pre vs outer s H → sp vs H Q E →
      ∃ t, PSs (cxOf CX0 P w K mg base N qual scope f cdv A outer s H E).nox body t ∧ t { nx := fun _ H' => Q .non H', rt := Q } (start N vs) H) :
    FnOkS P w K mg base (k + 1) f (PySem.W.fnOf name qual params body scope dV kV doc pm an cdv ct) ps pre sp := by
  refine ⟨len, fun A outer s H args us vs Q E hr e0 hb r hpre hsp => ?_⟩
  have stays := fun b o (e : base.get? b = some o) => (e0.bs b o e).1
  have KS : K.In s.heap := e0.mod.kin.keeps stays
  have kinds : ∀ y ∈ ps.zip us, scope.names.lookup y.1 = some .local ∨ (scope.names.lookup y.1 = some .cell ∧ ((cellsFrom (s.heap.objs.size + 1) scope.names []).lookup y.1).isSome = true) := fun y hy =>
    (S.par y.1 (List.of_mem_zip hy).1).imp id fun q => ⟨q, PySem.W.cellsFrom_some _ _ _ (.inl q)⟩
  refine codeAny_call_function hr.depth (KS _ _ lk) rfl S.co S.gen rfl (PySem.W.codeRec_of KS hcd) (hb _ _ _ _ (wpAny_newFunctionEnv_cells S.kind kinds fun env he s1 x => ?_))
  subst he
  refine ⟨(e0.mod.nolimit.keeps stays).keeps x.toInCall.keep, codeAny_func ?_⟩
  obtain ⟨t, ht, hq⟩ := hbody A outer s H vs Q E (hr.deeper _) e0.funs hpre hsp
  have I := inv_start (CX := CX0) (E := E) S hr.hd e0 (len _ _ _ _ hsp) r x
  refine wpAny_mono (ht.nox.run [] s1 (start N vs) H _ I hq) (fun fl s' hs => ?_) fun e s' hs => hs
  cases fl with
  | ret u =>
    obtain ⟨v, σ', H', J, rv, q⟩ := hs
    exact ⟨v, H', J.os, J.bare, J.base, J.hok, rv, q⟩
  | next =>
    obtain ⟨σ', H', J, q⟩ := hs
    exact ⟨.non, H', J.os, J.bare, J.base, J.hok, rfl, q⟩
  | brk =>
    obtain ⟨_, _, _, q⟩ := hs
    exact q.elim
  | cont =>
    obtain ⟨_, _, _, q⟩ := hs
    exact q.elim
end
section
variable {X : Cx} {pre : List V → List Env → Shared → Hp → Prop} {sp : Sp} {k j : Nat} {f : Addr} {fd : FuncData} {ps : List Str} {x : Str} {e : Expr} {es : List Expr} {t : TA} {p pos : Pos} {E : XK}
def tCallS (PreX : L2.St → List V → Hp → Prop) (sp : Sp) (E : XK) (t : TA) : TE := fun σ H Q => t σ H fun vs H1 => PreX σ vs H1 ∧ sp vs H1 Q E
theorem pe_callS (F : FnOkS X.prog X.w X.K X.mg X.base k f fd ps pre sp) (hr : Room k X.A) (hg : Gl X x) (hm : X.mg x = some (.ref f)) (hk : PySem.W.keepIn X.K (.ref f) = true) (hb : Binds X.K fd ps []) (PreX : L2.St → List V → Hp → Prop)
    (hp : ∀ pins σ H s vs, Inv X pins σ H s → PreX σ vs H → pre vs X.stack s H) (ha : PA X (e :: es) t) (hdb : (x == ("__debug__" : Str)) = false := by decide)
    (he : starEach (e :: es) X.env = (false, eval e X.env) :: starEach es X.env := by rfl) (hpl : (backTo pos (starEach es X.env)).any (·.1) = false := by rfl) : PE X (.Call (.Name x p) (e :: es) [] pos) (tCallS PreX sp E t) := by
  refine ⟨fun pins s σ H Q I h => wpAny_Call_Name_kw (ld_glob I hg hm ?_ hdb)⟩
  refine PySem.W.callWith_K (h₀ := X.base) I.ok.mod.kin hk (thn (ha.run pos pins s σ H _ I h) fun us s1 ⟨vs, H1, I1, r, q⟩ => ⟨I1.kIn, ?_⟩) he hpl
  have r2 : Vals (vs ++ []) (us ++ []) := r.append .nil
  have hl : (us ++ []).length = ps.length := by rw [List.append_nil, ← r.length]; exact F.len _ _ _ _ q.2
  have hbt := hb s1 us I1.kIn hl
  rw [List.append_nil] at hbt
  refine wpAny_call (codeAny_mono (F.run X.A X.stack s1 H1 ⟨us, []⟩ us vs Q E hr I1.env0 hbt r (hp _ _ _ _ _ I1 q.1) q.2) fun r s' hq => ?_)
  cases r with
  | error e => exact (show False from hq).elim
  | ok fl =>
    cases fl with
    | ret u => exact I1.after hq
    | next => exact (show False from hq).elim
    | brk => exact (show False from hq).elim
    | cont => exact (show False from hq).elim
/-- a call of a local name that holds a function with captured cells, which were told at the entry -/
def tCallC (F : NF) (f : Addr) (i : Nat) (sp : Sp) (t : TA) : TE := fun σ H Q => σ[i]? = some (some (.ref f)) ∧ H f = some (FnO f F) ∧ t σ H fun vs H1 => H1 f = some (FnO f F) ∧ H1 F.c = some (CodeO F.c F.qual) ∧ sp vs H1 Q (fun _ _ _ => False)
theorem pe_callC {F : NF} {i : Nat} {fr : List Str} {ws : List (Option V)} {sp : List (Option V) → Sp} (Fn : NOk X.prog X.w X.K X.mg X.base CX0 k f F ps fr sp) (C : CellsAt F.cl fr ws X.s_0.heap X.H_0) (nf : ∀ y c, F.cl.lookup y = some c → c ∉ X.fs) (hx : ∀ y c, F.cl.lookup y = some c → c ∉ X.ex)
    (hr : Room j X.A) (hk : k ≤ j) (hN : X.N[i]? = some x) (hv : Vis X.env.scope x) (ha : PA X (e :: es) t)
    (hd : (x == ("__debug__" : Str)) = false := by decide) (hcd : (x == ("__classdict__" : Str)) = false := by decide)
    (he : starEach (e :: es) X.env = (false, eval e X.env) :: starEach es X.env := by rfl) (hpl : (backTo pos (starEach es X.env)).any (·.1) = false := by rfl) :
    PE X (.Call (.Name x p) (e :: es) [] pos) (tCallC F f i (sp ws) t) := by
  refine ⟨fun pins s σ H Q I ⟨hs, hf, ht⟩ => ?_⟩
  refine wpAny_Call_Name_kw (thn ((pe_var (pos := p) hN hv hd hcd).run pins s σ H (fun v H1 => v = .ref f ∧ H1 = H) I ⟨.ref f, hs, rfl, rfl⟩) fun u s1 ⟨v, H1, I1, r1, ev, eH⟩ => ?_)
  subst ev
  rw [eH] at I1
  obtain rfl : u = Value.ref f := r1
  refine PySem.W.callWith_F (first := []) (fnAt_of I1 hf) (thn (ha.run pos pins s1 σ H _ I1 ht) fun us s2 ⟨vs, H2, I2, r, h1, h2, q⟩ => ⟨fnAt_of I2 h1, ?_⟩) he hpl
  refine wpAny_call (codeAny_mono (Fn.run X.A X.stack s2 H2 us vs ws Q _ (hr.mono hk) I2.env0 h1 h2 (C.later nf hx I2) r q) fun r s' hq => ?_)
  cases r with
  | error e => exact (show False from hq).elim
  | ok fl =>
    cases fl with
    | ret u => exact I2.after hq
    | next => exact (show False from hq).elim
    | brk => exact (show False from hq).elim
    | cont => exact (show False from hq).elim
/-- the cells of a def's own frame are no callers' frames -/
theorem cells_off {pins : List (Addr × Obj)} {σ : L2.St} {H : Hp} {s : Shared} (I : Inv X pins σ H s) (hfn : ∀ y, X.fn y = true) (hst : X.stack = X.env :: X.outer) (hfr : X.env.frame = some X.env.locals) {y : Str} {c : Addr} (hc : X.env.cells.lookup y = some c) : c ∉ frs X.stack := by
  have h1 : X.s_0.heap.objs.size ≤ c := I.ok.cab y c (hfn y) hc
  have h2 : c ≠ X.env.locals := by
    rintro rfl
    obtain ⟨m, hn, _⟩ := I.loc
    obtain ⟨v, o, ho, hd⟩ := I.cell y _ hc
    obtain ⟨o2, es, ep, ho2, hd2⟩ : ∃ o es ep, s.heap.get? X.env.locals = some o ∧ o.data = .dict es ep := by
      obtain ⟨o, es, ep, e, r⟩ := hn
      exact ⟨o, es, ep, e, by simp_all⟩
    rw [ho] at ho2
    cases ho2
    rw [hd] at hd2
    cases hd2
  have h3 : ∀ (l : List Env), X.s_0.heap.FunFrames X.base l → c ∉ frs l := by
    intro l
    induction l with
    | nil => intro _ z; cases z
    | cons env r ih =>
      rintro ⟨_, ⟨L, o, hL, _, ho, _⟩, hr⟩ z
      unfold frs at z
      rw [List.filterMap_cons, hL] at z
      rcases List.mem_cons.mp z with rfl | z
      · exact absurd (Heap.lt_size ho) (Nat.not_lt.mpr h1)
      · exact ih hr z
  intro z
  rw [hst] at z
  unfold frs at z
  rw [List.filterMap_cons, hfr] at z
  rcases List.mem_cons.mp z with z | z
  · exact h2 z
  · exact h3 X.outer I.ok.funs z
end
end CLO

set_option Elab.async false
set_option linter.all false
set_option maxRecDepth 100000
set_option maxHeartbeats 4000000
namespace L2
open PySem PySem.Spec PyProof.Rows
/-! ### del xs[a:] -/
def selA (start stop step : Int) (i : Nat) : Bool := if step > 0 then start ≤ i && i < stop && (i - start) % step == 0 else stop < i && i ≤ start && (start - i) % (-step) == 0
theorem selA_1 {a n i : Nat} (h : i < n) : selA a n 1 i = decide (a ≤ i) := by
  unfold selA
  rw [if_pos (by decide)]
  have h1 : decide ((i : Int) < (n : Int)) = true := decide_eq_true (by omega)
  have h2 : (((i : Int) - (a : Int)) % 1 == 0) = true := by
    rw [beq_iff_eq]
    omega
  rw [h1, h2, Bool.and_true, Bool.and_true, Bool.eq_iff_iff, decide_eq_true_iff, decide_eq_true_iff]
  omega
theorem cut_at : ∀ (its : List Value) (a n k : Nat), k + its.length = n → ((its.zipIdx k).filterMap fun (x, i) => if selA a n 1 i then none else some x) = its.take (a - k)
  | [], a, n, k, _ => by simp
  | x :: r, a, n, k, h => by
    rw [List.length_cons] at h
    rw [List.zipIdx_cons, List.filterMap_cons]
    have ih := cut_at r a n (k + 1) (by omega)
    dsimp only
    rw [selA_1 (show k < n by omega)]
    by_cases hk : a ≤ k
    · rw [decide_eq_true hk]
      rw [if_pos rfl, ih, show a - (k + 1) = 0 by omega, show a - k = 0 by omega, List.take_zero, List.take_zero]
    · rw [decide_eq_false hk]
      rw [if_neg Bool.false_ne_true, ih, show a - k = (a - (k + 1)) + 1 by omega, List.take_succ_cons]
theorem bounds_tail {a n : Nat} (h : a ≤ n) : sliceBounds (some (a : Int)) none none n = ((a : Int), (n : Int), 1) := by
  simp only [sliceBounds, Option.getD_none]
  have h1 : ¬ ((a : Int) < 0) := by omega
  simp only [h1, if_false, show (1 : Int) > 0 by decide, if_true]
  congr 1
  omega
section
variable {prog : Program} {w : World} {A : Around} {E : Value → Shared → Prop} {s : Shared}
theorem delItem_cut {l sl : Addr} {its : List Value} {n : Nat} {vl vu : Value} {a : Nat} {Q : Unit → Shared → Prop} (e : s.heap.get? l = some { cls := .type "list", data := .seq its.toArray n })
    (hs : s.heap.IsSliceOf sl vl vu .none) (pl : IsPart vl (some (a : Int))) (pu : IsPart vu none) (ha : a ≤ its.length) (hz : its.length ≤ sizeLine)
    (h : ∀ f : Array Value → Array Value, f its.toArray = (its.take a).toArray → Q () { s with heap := s.heap.update l (Obj.mapSeq f) }) : wpAny (model prog w) A (delItem (.ref l) (.ref sl)) Q E s := by
  have hl : s.heap.IsList l its.toArray := PySem.IsL.isList e
  obtain ⟨o, ho, hc, hd⟩ := id hs
  have hT : s.TypeIs (.ref sl) "slice" := ⟨o, ho, hc⟩
  refine wpAny_delItem_slot hl.typeIs (by decide) F.slot_list_delitem (wpAny_call_entry F.slot_list_delitem hl.typeIs F.entry_list_delitem ?_ (F.args_list_delitem_2 _ _))
  show wpAny _ _ (Builtin.List.listSubscript? (.ref sl) >>= _) _ _ s
  refine wpAny_bind ?_
  unfold Builtin.List.listSubscript?
  refine wpAny_bind (wpAny_specialOf hT slice_no_index ?_)
  simp only [Option.isNone_none, if_true]
  refine wpAny_pure ?_
  show wpAny _ _ (typeOf (.ref sl) >>= _) _ _ s
  refine wpAny_bind (wpAny_typeOf hT ?_)
  first
    | rw [if_neg (by decide)]
    | refine PySem.W.KFB.if_not (by decide) ?_
  rw [listSliceParts_eq]
  refine wpAny_bind (wpAny_bind (wpAny_field ho hd (x := .none) rfl (wpAny_bind (wpAny_listPart .none ?_))))
  rw [if_neg (show ¬ ((rawPart none == rawInt 0) = true) from Bool.false_ne_true)]
  refine wpAny_bind (wpAny_field ho hd (x := vl) rfl (wpAny_bind (wpAny_listPart pl ?_)))
  refine wpAny_bind (wpAny_field ho hd (x := vu) rfl (wpAny_bind (wpAny_listPart pu (wpAny_pure ?_))))
  unfold Builtin.List.listItems
  refine wpAny_bind (wpAny_bind (wpAny_seqItems e rfl (wpAny_pure ?_)))
  refine wpAny_bind (wpAny_of_eq ((sliceIndices_raw (some (a : Int)) none none its.toArray.size (by simp)).trans (congrArg (pure : Int × Int × Int → Sem (Int × Int × Int)) (bounds_tail (by simpa using ha)))) ?_)
  refine wpAny_bind (wpAny_rule ?_)
  have key : ∀ its' : List Value, its'.length = its.length → ((its'.zipIdx.filterMap fun (x, i) => if selA a its.toArray.size 1 i then none else some x)) = its'.take a := fun its' hl => by
    rw [cut_at its' a its.toArray.size 0 (by simp [hl]), Nat.sub_zero]
  refine wpAny_bind (wpAny_updateSeq (hz := by simpa using hz) (_hz' := ?_) e rfl ?_)
  · refine wpAny_bind (wpAny_letGo (wpAny_pure ⟨.none, rfl, h _ ?_⟩))
    exact congrArg List.toArray (key its rfl)
  · show (List.toArray _).size ≤ _
    refine Nat.le_trans (Nat.le_of_eq (congrArg (fun l : List Value => l.toArray.size) (key its rfl))) ?_
    simp
    omega
end
section
variable {X : Cx}
def tDelCut (te : TE) (tl : TO) : TS := fun D σ H => te σ H fun x H1 => tl σ H1 fun y H2 => ∃ (l : Addr) (xs : List V) (a : Nat), x = .ref l ∧ y = some (a : Int) ∧ H2 l = some (.lst xs) ∧ a ≤ xs.length ∧ D.nx σ (upd H2 l (.lst (xs.take a)))
theorem ps_delCut {o : Expr} {lo : Option Expr} {te : TE} {tl : TO} {tpos p2 pos : Pos} (he : PE X o te) (hl : PO X lo tl) : PS X (.Delete [.Subscript o (.Slice lo none none p2) tpos] pos) (tDelCut te tl) := by
  refine ⟨fun pins s σ H D I h => wpAny_Delete (wpAny_deleteEach_cons (wpAny_delete_Subscript (thn (he.run pins s σ H _ I h) fun u s1 ⟨x, H1, I1, rx, q1⟩ => ?_)))⟩
  refine wpAny_Slice (thn (hl.run pins s1 σ H1 _ I1 q1) fun vl s2 ⟨y, H2, I2, pl, q2⟩ => thn (po_none.run pins s2 σ H2 (fun o H3 => o = none ∧ H3 = H2) I2 ⟨rfl, rfl⟩) fun vu s3 ⟨y2, H3, I3, pu, e1, e2⟩ => ?_)
  subst e1 e2
  rw [evalPart_none]
  refine wpAny_pure ?_
  obtain ⟨l, xs, a, ex, ey, hH, ha, q⟩ := q2
  subst ex ey
  cases (show u = Value.ref l from rx)
  have I4 : Inv X pins σ H3 { s3 with heap := s3.heap.push { cls := .type "slice", data := .fields #[vl, vu, .none] } } := I3.kept (t' := s3.toks) fun b ob q => Heap.get?_push_of_some _ q
  obtain ⟨z, its, n, r, hlen, e⟩ := I4.lstM hH
  refine delItem_cut e (Heap.IsSliceOf.new ..) pl pu (by omega) (by omega) fun f hf => wpAny_deleteEach_nil ⟨σ, _, ?_, q⟩
  exact I4.lset (its' := its.take a) (t' := s3.toks) hH e hf (r.take _) (by rw [List.length_take]; omega)
end
end L2

set_option Elab.async false
set_option linter.all false
namespace G
open PySem PySem.Spec PyProof.Rows L2
/-! ### trees -/
instance memKey (k : Key) (f : List Key) : Decidable (k ∈ f) := @List.instDecidableMemOfLawfulBEq _ instBEqOfDecidableEq inferInstance k f
inductive Hd where
  | fn | tup | con (n : Str)
  deriving DecidableEq
inductive Ty where
  | var (k : Key)
  | node (h : Hd) (ps : List Ty)
theorem Ty.ind {P : Ty → Prop} (hv : ∀ k, P (.var k)) (hn : ∀ h ps, (∀ t ∈ ps, P t) → P (.node h ps)) : ∀ t, P t
  | .var k => hv k
  | .node h ps => hn h ps fun t ht => Ty.ind hv hn t
def Ty.parts : Ty → List Ty
  | .var _ => []
  | .node _ ps => ps
def Ty.bind (f : Key → Ty) : Ty → Ty
  | .var k => f k
  | .node h ps => .node h (ps.map fun t => t.bind f)
def Ty.sz : Ty → Nat
  | .var _ => 1
  | .node _ ps => 1 + (ps.map fun t => t.sz).sum
def Ty.vs : Ty → List Key → List Key
  | .var k, f => if k ∈ f then f else f ++ [k]
  | .node _ ps, f => ps.attach.foldl (fun f t => t.1.vs f) f
termination_by t => sizeOf t
decreasing_by
  have := List.sizeOf_lt_of_mem t.2
  simp
  omega
/-- at most so deep -/
def Ty.dep : Nat → Ty → Prop
  | _, .var _ => True
  | 0, .node _ ps => ps = []
  | n + 1, .node _ ps => ∀ t ∈ ps, t.dep n
theorem Ty.bind_var {f : Key → Ty} {k : Key} : (Ty.var k).bind f = f k := by rw [Ty.bind]
theorem Ty.bind_node {f : Key → Ty} {h : Hd} {ps : List Ty} : (Ty.node h ps).bind f = .node h (ps.map fun t => t.bind f) := by rw [Ty.bind]
theorem Ty.sz_node {h : Hd} {ps : List Ty} : (Ty.node h ps).sz = 1 + (ps.map fun t => t.sz).sum := by rw [Ty.sz]
theorem Ty.sz_var {k : Key} : (Ty.var k).sz = 1 := by rw [Ty.sz]
theorem foldl_attach {α β : Type} (g : β → α → β) : ∀ (l : List α) (b : β), l.attach.foldl (fun b x => g b x.1) b = l.foldl g b := by
  intro l b
  simp [List.foldl_attach]
theorem Ty.vs_node {h : Hd} {ps : List Ty} {f : List Key} : (Ty.node h ps).vs f = ps.foldl (fun f t => t.vs f) f := by
  rw [Ty.vs]
  exact foldl_attach (fun f t => Ty.vs t f) ps f
theorem Ty.vs_var {k : Key} {f : List Key} : (Ty.var k).vs f = if k ∈ f then f else f ++ [k] := by rw [Ty.vs]
theorem Ty.sz_pos (t : Ty) : 0 < t.sz := by
  cases t with
  | var k => rw [Ty.sz_var]; decide
  | node h ps => rw [Ty.sz_node]; omega
theorem Ty.bind_bind {f g : Key → Ty} : ∀ t : Ty, (t.bind f).bind g = t.bind fun k => (f k).bind g := by
  intro t
  induction t using Ty.ind with
  | hv k => rw [Ty.bind_var, Ty.bind_var]
  | hn h ps ih =>
    rw [Ty.bind_node, Ty.bind_node, Ty.bind_node, List.map_map]
    congr 1
    exact List.map_congr_left fun t ht => ih t ht
/-- the variables, each as often as it stands there -/
inductive Ty.has (k : Key) : Ty → Prop
  | v : Ty.has k (.var k)
  | n {h : Hd} {ps : List Ty} {t : Ty} : t ∈ ps → Ty.has k t → Ty.has k (.node h ps)
theorem Ty.has_var {k j : Key} : Ty.has k (Ty.var j) ↔ j = k := ⟨fun h => by cases h; rfl, fun h => h ▸ .v⟩
theorem Ty.has_node {k : Key} {h : Hd} {ps : List Ty} : Ty.has k (Ty.node h ps) ↔ ∃ t ∈ ps, Ty.has k t := ⟨fun h => by
  cases h with
  | n h1 h2 => exact ⟨_, h1, h2⟩, fun ⟨t, h1, h2⟩ => .n h1 h2⟩
theorem Ty.bind_congr {f g : Key → Ty} : ∀ t : Ty, (∀ k, Ty.has k t → f k = g k) → t.bind f = t.bind g := by
  intro t
  induction t using Ty.ind with
  | hv k =>
    intro h
    rw [Ty.bind_var, Ty.bind_var]
    exact h k (Ty.has_var.mpr rfl)
  | hn h ps ih =>
    intro hh
    rw [Ty.bind_node, Ty.bind_node]
    congr 1
    exact List.map_congr_left fun t ht => ih t ht fun k hk => hh k (Ty.has_node.mpr ⟨t, ht, hk⟩)
/-- what vs finds -/
theorem Ty.vs_mem : ∀ (t : Ty) (f : List Key) (k : Key), k ∈ t.vs f ↔ k ∈ f ∨ Ty.has k t := by
  intro t
  induction t using Ty.ind with
  | hv j =>
    intro f k
    rw [Ty.vs_var, Ty.has_var]
    split
    · rename_i h
      exact ⟨.inl, fun z => z.elim id fun e => e ▸ h⟩
    · rw [List.mem_append, List.mem_singleton]
      exact ⟨fun z => z.elim .inl fun e => .inr e.symm, fun z => z.elim .inl fun e => .inr e.symm⟩
  | hn h ps ih =>
    intro f k
    rw [Ty.vs_node, Ty.has_node]
    clear h
    induction ps generalizing f with
    | nil => simp
    | cons t r ihr =>
      rw [List.foldl_cons, ihr (fun t ht => ih t (List.mem_cons_of_mem _ ht)), ih t (List.mem_cons_self ..)]
      simp only [List.mem_cons, or_assoc]
      constructor
      · rintro (a | b | ⟨t', h1, h2⟩)
        · exact .inl a
        · exact .inr ⟨t, .inl rfl, b⟩
        · exact .inr ⟨t', .inr h1, h2⟩
      · rintro (a | ⟨t', rfl | h1, h2⟩)
        · exact .inl a
        · exact .inr (.inl h2)
        · exact .inr (.inr ⟨t', h1, h2⟩)
theorem Ty.vs_nodup : ∀ (t : Ty) (f : List Key), f.Nodup → (t.vs f).Nodup := by
  intro t
  induction t using Ty.ind with
  | hv j =>
    intro f hf
    rw [Ty.vs_var]
    split
    · exact hf
    · rename_i h
      exact List.nodup_append.mpr ⟨hf, by simp, fun a ha b hb e => h (by rw [List.mem_singleton] at hb; rw [← hb, ← e]; exact ha)⟩
  | hn h ps ih =>
    intro f hf
    rw [Ty.vs_node]
    clear h
    induction ps generalizing f with
    | nil => exact hf
    | cons t r ihr => exact ihr (fun t ht => ih t (List.mem_cons_of_mem _ ht)) _ (ih t (List.mem_cons_self ..) f hf)
/-- one by one: the variables of a tree whose variables are renamed by g, unlike names staying unlike -/
theorem Ty.vs_map {g : Key → Key} (S : Key → Prop) (hg : ∀ a b, S a → S b → g a = g b → a = b) : ∀ (t : Ty) (f : List Key), (∀ k, Ty.has k t → S k) → (∀ k ∈ f, S k) → (t.bind fun k => .var (g k)).vs (f.map g) = (t.vs f).map g := by
  intro t
  induction t using Ty.ind with
  | hv j =>
    intro f h1 h2
    rw [Ty.bind_var, Ty.vs_var, Ty.vs_var]
    by_cases h : j ∈ f
    · rw [if_pos h, if_pos (List.mem_map_of_mem h)]
    · rw [if_neg h, if_neg, List.map_append]
      · rfl
      · intro z
        obtain ⟨a, ha, e⟩ := List.mem_map.mp z
        exact h (hg a j (h2 a ha) (h1 j (Ty.has_var.mpr rfl)) e ▸ ha)
  | hn h ps ih =>
    intro f h0 h2
    have h1 : ∀ t, t ∈ ps → ∀ k, Ty.has k t → S k := fun t ht k hk => h0 k (Ty.has_node.mpr ⟨t, ht, hk⟩)
    rw [Ty.bind_node, Ty.vs_node, Ty.vs_node]
    clear h0 h
    induction ps generalizing f with
    | nil => rfl
    | cons t r ihr =>
      rw [List.map_cons, List.foldl_cons, List.foldl_cons, ih t (List.mem_cons_self ..) f (h1 t (List.mem_cons_self ..)) h2]
      refine ihr (fun t ht => ih t (List.mem_cons_of_mem _ ht)) _ (fun k hk => ?_) fun t ht => h1 t (List.mem_cons_of_mem _ ht)
      rcases (Ty.vs_mem t f k).mp hk with z | z
      · exact h2 k z
      · exact h1 t (List.mem_cons_self ..) k z
theorem Ty.has_bind {f : Key → Ty} {j : Key} : ∀ t : Ty, Ty.has j (t.bind f) → ∃ k, Ty.has k t ∧ Ty.has j (f k) := by
  intro t
  induction t using Ty.ind with
  | hv k =>
    intro h
    rw [Ty.bind_var] at h
    exact ⟨k, Ty.has_var.mpr rfl, h⟩
  | hn h ps ih =>
    intro hh
    rw [Ty.bind_node, Ty.has_node] at hh
    obtain ⟨t, ht, h2⟩ := hh
    obtain ⟨t0, ht0, rfl⟩ := List.mem_map.mp ht
    obtain ⟨k, h3, h4⟩ := ih t0 ht0 h2
    exact ⟨k, Ty.has_node.mpr ⟨t0, ht0, h3⟩, h4⟩
theorem sum_le {α : Type} (f g : α → Nat) : ∀ l : List α, (∀ a ∈ l, f a ≤ g a) → (l.map f).sum ≤ (l.map g).sum
  | [], _ => Nat.le_refl _
  | a :: r, h => by
    rw [List.map_cons, List.map_cons, List.sum_cons, List.sum_cons]
    have := h a (List.mem_cons_self ..)
    have := sum_le f g r fun a ha => h a (List.mem_cons_of_mem _ ha)
    omega
theorem sum_mul {α : Type} (f : α → Nat) (c : Nat) : ∀ l : List α, (l.map fun a => c * f a).sum = c * (l.map f).sum
  | [] => rfl
  | a :: r => by
    rw [List.map_cons, List.map_cons, List.sum_cons, List.sum_cons, sum_mul f c r, Nat.mul_add]
/-- the size of a tree whose variables are replaced -/
theorem Ty.sz_bind {f : Key → Ty} {c : Nat} (hc : 0 < c) : ∀ t : Ty, (∀ k, Ty.has k t → (f k).sz ≤ c) → (t.bind f).sz ≤ c * t.sz := by
  intro t
  induction t using Ty.ind with
  | hv k =>
    intro h
    rw [Ty.bind_var, Ty.sz_var]
    have := h k (Ty.has_var.mpr rfl)
    omega
  | hn h ps ih =>
    intro hh
    rw [Ty.bind_node, Ty.sz_node, Ty.sz_node, List.map_map, Nat.mul_add, ← sum_mul]
    have := sum_le ((fun t => Ty.sz t) ∘ fun t => t.bind f) (fun t => c * t.sz) ps fun t ht => ih t ht fun k hk => hh k (Ty.has_node.mpr ⟨t, ht, hk⟩)
    omega
theorem Ty.dep_mono : ∀ (n : Nat) (t : Ty), t.dep n → t.dep (n + 1)
  | _, .var _, _ => by simp [Ty.dep]
  | 0, .node h ps, z => by
    have z : ps = [] := z
    subst z
    exact fun t ht => by cases ht
  | n + 1, .node h ps, z => fun t ht => Ty.dep_mono n t (z t ht)
/-- a tree whose nodes have at most three parts -/
def Ty.slim : Nat → Ty → Prop
  | _, .var _ => True
  | 0, .node _ ps => ps = []
  | n + 1, .node _ ps => ps.length ≤ 3 ∧ ∀ t ∈ ps, t.slim n
def cap : Nat → Nat
  | 0 => 1
  | n + 1 => 1 + 3 * cap n
theorem sum_cap {α : Type} (f : α → Nat) (c : Nat) : ∀ l : List α, (∀ a ∈ l, f a ≤ c) → (l.map f).sum ≤ l.length * c
  | [], _ => Nat.zero_le _
  | a :: r, h => by
    rw [List.map_cons, List.sum_cons, List.length_cons, Nat.succ_mul]
    have := h a (List.mem_cons_self ..)
    have := sum_cap f c r fun a ha => h a (List.mem_cons_of_mem _ ha)
    omega
theorem cap_pos : ∀ n, 0 < cap n
  | 0 => by decide
  | n + 1 => by unfold cap; omega
theorem Ty.slim_sz : ∀ (n : Nat) (t : Ty), t.slim n → t.sz ≤ cap n
  | n, .var k, _ => by
    rw [Ty.sz_var]
    exact cap_pos n
  | 0, .node h ps, z => by
    have z : ps = [] := z
    subst z
    rw [Ty.sz_node]
    exact Nat.le_refl _
  | n + 1, .node h ps, z => by
    rw [Ty.sz_node]
    have h1 := sum_cap (fun t => Ty.sz t) (cap n) ps fun t ht => Ty.slim_sz n t (z.2 t ht)
    have h2 : ps.length * cap n ≤ 3 * cap n := Nat.mul_le_mul_right _ z.1
    unfold cap
    omega
theorem Ty.slim_dep : ∀ (n : Nat) (t : Ty), t.slim n → t.dep n
  | n, .var k, _ => by cases n <;> trivial
  | 0, .node h ps, z => z
  | n + 1, .node h ps, z => fun t ht => Ty.slim_dep n t (z.2 t ht)
/-- how deep a tree is whose variables are replaced -/
theorem Ty.dep_bind {f : Key → Ty} {m : Nat} : ∀ (n : Nat) (t : Ty), t.dep n → (∀ k, Ty.has k t → (f k).dep m) → (t.bind f).dep (n + m)
  | n, .var k, _, h => by
    rw [Ty.bind_var]
    have h0 := h k (Ty.has_var.mpr rfl)
    clear h
    induction n with
    | zero => rw [Nat.zero_add]; exact h0
    | succ n ih =>
      rw [show n + 1 + m = (n + m) + 1 by omega]
      exact Ty.dep_mono _ _ (ih (by cases n <;> trivial))
  | 0, .node h ps, z, hh => by
    have z : ps = [] := z
    subst z
    rw [Ty.bind_node]
    cases m with
    | zero => exact rfl
    | succ m => exact fun t ht => by cases ht
  | n + 1, .node h ps, z, hh => by
    rw [Ty.bind_node, show n + 1 + m = (n + m) + 1 by omega]
    intro t ht
    obtain ⟨t0, ht0, rfl⟩ := List.mem_map.mp ht
    exact Ty.dep_bind n t0 (z t0 ht0) fun k hk => hh k (Ty.has_node.mpr ⟨t0, ht0, hk⟩)
end G

set_option Elab.async false
set_option linter.all false
set_option maxRecDepth 100000
set_option maxHeartbeats 4000000
namespace L2
open PySem PySem.Spec PyProof.Rows
/-! ### max(xs, default=d) -/
theorem maxOf_is : ∀ (ys : List Int) (y : Int), PySem.W.maxOf y ys ∈ y :: ys ∧ ∀ z ∈ y :: ys, z ≤ PySem.W.maxOf y ys
  | [], y => ⟨List.mem_cons_self .., fun z h => by rw [List.mem_singleton.mp h]; exact Int.le_refl _⟩
  | a :: ys, y => by
    have e : PySem.W.maxOf y (a :: ys) = PySem.W.maxOf (if PySem.W.DatumOrd.lt y a = true then a else y) ys := rfl
    rw [e]
    have hlt : PySem.W.DatumOrd.lt y a = true ↔ y < a := by
      show decide (y < a) = true ↔ _
      rw [decide_eq_true_eq]
    by_cases c : PySem.W.DatumOrd.lt y a = true
    · rw [if_pos c]
      have hc := hlt.mp c
      obtain ⟨h1, h2⟩ := maxOf_is ys a
      refine ⟨List.mem_cons_of_mem _ h1, fun z hz => ?_⟩
      rcases List.mem_cons.mp hz with q | q
      · have := h2 a (List.mem_cons_self ..)
        omega
      · exact h2 z q
    · rw [if_neg c]
      have hc : ¬ y < a := fun q => c (hlt.mpr q)
      obtain ⟨h1, h2⟩ := maxOf_is ys y
      have h3 := h2 y (List.mem_cons_self ..)
      refine ⟨?_, fun z hz => ?_⟩
      · rcases List.mem_cons.mp h1 with q | q
        · rw [q]
          exact List.mem_cons_self ..
        · exact List.mem_cons_of_mem _ (List.mem_cons_of_mem _ q)
      · rcases List.mem_cons.mp hz with q | q
        · omega
        · rcases List.mem_cons.mp q with q | q
          · omega
          · exact h2 z (List.mem_cons_of_mem _ q)
theorem hold_ints {h : Heap} : ∀ {vs : List Value} {ns : List Int}, Vals (ns.map V.int) vs → PySem.W.HoldAll h vs ns
  | _, [], r => by
    cases r
    exact .nil
  | _, n :: ns, r => by
    cases r with
    | cons a t =>
      obtain ⟨k, rfl⟩ := a
      exact .cons ⟨_, .int n k⟩ (hold_ints t)
def rMaxDef (K : PySem.W.Frag) : List V → List V → Hp → VK → Prop := fun xs zs H Q => ∃ (a : Addr) (ns : List Int) (d : Int), xs = [.ref a] ∧ zs = [.int d] ∧ SqL K H a (ns.map V.int) ∧ (ns = [] → Q (.int d) H) ∧ ∀ m, m ∈ ns → (∀ y, y ∈ ns → y ≤ m) → Q (.int m) H
theorem call_maxDef {X : Cx} (hc : X.calm = true) (hu : X.A.units + 1 < cLine) : CallRK X (.builtin "max") ["default"] (rMaxDef X.K) := by
  intro pins s σ H xs zs us ws Q I r1 r2 h
  obtain ⟨a, ns, d, rfl, rfl, hs, h0, h1⟩ := h
  obtain ⟨its, rv, hl, _⟩ := I.list hs
  rw [Vals.ref1 r1]
  obtain ⟨u, rfl, k, rfl⟩ := vals1 r2
  refine PySem.W.max_list_datum_default (α := Int) (xs := ns) (I.ok.hd hc) hl.isList (by simpa using hold_ints rv) (by show _ + 1 + 0 < _; omega) (fun e h' tk hk => ⟨.int d, H, I.kept hk, ⟨_, rfl⟩, h0 e⟩) fun y ys i v h' tk e hi hh hk => ?_
  obtain ⟨as, hr⟩ := hh
  obtain ⟨h2, h3⟩ := maxOf_is ys y
  have hv : ∃ t, v = .int (PySem.W.maxOf y ys) t := by
    generalize PySem.W.maxOf y ys = m at hr
    cases hr
    exact ⟨_, rfl⟩
  subst e
  exact ⟨.int _, H, I.kept hk, hv, h1 _ h2 h3⟩
end L2

set_option Elab.async false
set_option linter.all false
set_option maxRecDepth 100000
set_option maxHeartbeats 4000000
namespace CLO
open PySem PySem.Spec PyProof.Rows L2 NdefX LamX
/-- as FnOkS, and what may leave -/
structure FnOkV (CX : CXT) (P : Program) (w : World) (K : PySem.W.Frag) (mg : Str → Option Value) (base : Heap) (k : Nat) (f : Addr) (fd : FuncData) (ps : List Str) (pre : List V → List Env → Shared → Hp → Prop) (sp : Sp) : Prop where
  len : ∀ vs H Q E, sp vs H Q E → vs.length = ps.length
  run : ∀ (A : Around) (outer : List Env) (s : Shared) (H : Hp) (args : Args) (us : List Value) (vs : List V) (Q : VK) (E : XK), Room k A → Env0 P w K mg base A outer s H → BindsTo s fd args (ps.zip us) → Vals vs us → pre vs outer s H → sp vs H Q E →
    codeAny (model P w) A (.call (.ref f) args) (CR CX outer P w H s Q E) s
section
variable {CX : CXT} {P : Program} {w : World} {K : PySem.W.Frag} {mg : Str → Option Value} {base : Heap} {k j : Nat} {f : Addr} {fd : FuncData} {ps : List Str} {pre : List V → List Env → Shared → Hp → Prop} {sp : Sp}
theorem fn_ofV {name qual : Str} {params : Arguments} {body : List Stmt} {scope : Scope} {dV kV doc pm cdv ct oc : Value} {an od : Option Addr} {osl : Array (Option Value)} {N : List Str}
    (lk : K.lookup f = some ⟨oc, od, .func (PySem.W.fnOf name qual params body scope dV kV doc pm an cdv ct), osl⟩) (hcd : PySem.W.codeIn K cdv qual = true) (S : FnScope N ps scope) (len : ∀ vs H Q E, sp vs H Q E → vs.length = ps.length)
    (hbody : ∀ (A : Around) (outer : List Env) (s : Shared) (H : Hp) (vs : List V) (Q : VK) (E : XK), Room k (A.deeper (envOfC qual scope s.heap.objs.size f cdv)) → pre vs outer s H → sp vs H Q E →
      ∃ t, PSs (cxOf CX P w K mg base N qual scope f cdv A outer s H E) body t ∧ t { nx := fun _ H' => Q .non H', rt := Q } (start N vs) H) :
    FnOkV CX P w K mg base (k + 1) f (PySem.W.fnOf name qual params body scope dV kV doc pm an cdv ct) ps pre sp := by
  refine ⟨len, fun A outer s H args us vs Q E hr e0 hb r hpre hsp => ?_⟩
  have stays := fun b o (e : base.get? b = some o) => (e0.bs b o e).1
  have KS : K.In s.heap := e0.mod.kin.keeps stays
  have kinds : ∀ y ∈ ps.zip us, scope.names.lookup y.1 = some .local ∨ (scope.names.lookup y.1 = some .cell ∧ ((cellsFrom (s.heap.objs.size + 1) scope.names []).lookup y.1).isSome = true) := fun y hy =>
    (S.par y.1 (List.of_mem_zip hy).1).imp id fun q => ⟨q, PySem.W.cellsFrom_some _ _ _ (.inl q)⟩
  refine codeAny_call_function hr.depth (KS _ _ lk) rfl S.co S.gen rfl (PySem.W.codeRec_of KS hcd) (hb _ _ _ _ (wpAny_newFunctionEnv_cells S.kind kinds fun env he s1 x => ?_))
  subst he
  refine ⟨(e0.mod.nolimit.keeps stays).keeps x.toInCall.keep, codeAny_func ?_⟩
  obtain ⟨t, ht, hq⟩ := hbody A outer s H vs Q E (hr.deeper _) hpre hsp
  have I : Inv (cxOf CX P w K mg base N qual scope f cdv A outer s H E) [] (start N vs) H s1 := inv_start S hr.hd e0 (len _ _ _ _ hsp) r x
  refine wpAny_mono (ht.run [] s1 (start N vs) H _ I hq) (fun fl s' hs => ?_) fun e s' hs => hs
  cases fl with
  | ret u =>
    obtain ⟨v, σ', H', J, rv, q⟩ := hs
    exact ⟨v, H', J.os, J.bare, J.base, J.hok, rv, q⟩
  | next =>
    obtain ⟨σ', H', J, q⟩ := hs
    exact ⟨.non, H', J.os, J.bare, J.base, J.hok, rfl, q⟩
  | brk =>
    obtain ⟨_, _, _, q⟩ := hs
    exact q.elim
  | cont =>
    obtain ⟨_, _, _, q⟩ := hs
    exact q.elim
end
section
variable {CX : CXT} {X : Cx} {pre : List V → List Env → Shared → Hp → Prop} {sp : Sp} {k j : Nat} {f : Addr} {fd : FuncData} {ps : List Str} {x : Str} {e : Expr} {es : List Expr} {t : TA} {p pos : Pos} {E : XK}
theorem pe_callSV (F : FnOkV CX X.prog X.w X.K X.mg X.base k f fd ps pre sp) (hr : Room k X.A) (hg : Gl X x) (hm : X.mg x = some (.ref f)) (hk : PySem.W.keepIn X.K (.ref f) = true) (hb : Binds X.K fd ps []) (hx : Passes CX X E) (PreX : L2.St → List V → Hp → Prop)
    (hp : ∀ pins σ H s vs, Inv X pins σ H s → PreX σ vs H → pre vs X.stack s H) (ha : PA X (e :: es) t) (hdb : (x == ("__debug__" : Str)) = false := by decide)
    (he : starEach (e :: es) X.env = (false, eval e X.env) :: starEach es X.env := by rfl) (hpl : (backTo pos (starEach es X.env)).any (·.1) = false := by rfl) : PE X (.Call (.Name x p) (e :: es) [] pos) (tCallS PreX sp E t) := by
  refine ⟨fun pins s σ H Q I h => wpAny_Call_Name_kw (ld_glob I hg hm ?_ hdb)⟩
  refine PySem.W.callWith_K (h₀ := X.base) I.ok.mod.kin hk (thn (ha.run pos pins s σ H _ I h) fun us s1 ⟨vs, H1, I1, r, q⟩ => ⟨I1.kIn, ?_⟩) he hpl
  have hl : (us ++ []).length = ps.length := by rw [List.append_nil, ← r.length]; exact F.len _ _ _ _ q.2
  have hbt := hb s1 us I1.kIn hl
  rw [List.append_nil] at hbt
  refine wpAny_call (codeAny_mono (F.run X.A X.stack s1 H1 ⟨us, []⟩ us vs Q E hr I1.env0 hbt r (hp _ _ _ _ _ I1 q.1) q.2) fun r s' hq => ?_)
  cases r with
  | error e => exact hx pins σ H1 s1 e s' I1 hq
  | ok fl =>
    cases fl with
    | ret u => exact I1.after hq
    | next => exact (show False from hq).elim
    | brk => exact (show False from hq).elim
    | cont => exact (show False from hq).elim
/-- a call of a local name that holds a function with captured cells, which may let something out -/
def tCallV (F : NF) (f : Addr) (i : Nat) (sp : Sp) (E : XK) (t : TA) : TE := fun σ H Q => σ[i]? = some (some (.ref f)) ∧ H f = some (FnO f F) ∧ t σ H fun vs H1 => H1 f = some (FnO f F) ∧ H1 F.c = some (CodeO F.c F.qual) ∧ sp vs H1 Q E
theorem pe_callV {F : NF} {i : Nat} {fr : List Str} {ws : List (Option V)} {sp : List (Option V) → Sp} (Fn : NOk X.prog X.w X.K X.mg X.base CX k f F ps fr sp) (C : CellsAt F.cl fr ws X.s_0.heap X.H_0) (nf : ∀ y c, F.cl.lookup y = some c → c ∉ X.fs) (hc : ∀ y c, F.cl.lookup y = some c → c ∉ X.ex)
    (hr : Room j X.A) (hk : k ≤ j) (hN : X.N[i]? = some x) (hv : Vis X.env.scope x) (hx : Passes CX X E) (ha : PA X (e :: es) t)
    (hd : (x == ("__debug__" : Str)) = false := by decide) (hcd : (x == ("__classdict__" : Str)) = false := by decide)
    (he : starEach (e :: es) X.env = (false, eval e X.env) :: starEach es X.env := by rfl) (hpl : (backTo pos (starEach es X.env)).any (·.1) = false := by rfl) :
    PE X (.Call (.Name x p) (e :: es) [] pos) (tCallV F f i (sp ws) E t) := by
  refine ⟨fun pins s σ H Q I ⟨hs, hf, ht⟩ => ?_⟩
  refine wpAny_Call_Name_kw (thn ((pe_var (pos := p) hN hv hd hcd).run pins s σ H (fun v H1 => v = .ref f ∧ H1 = H) I ⟨.ref f, hs, rfl, rfl⟩) fun u s1 ⟨v, H1, I1, r1, ev, eH⟩ => ?_)
  subst ev
  rw [eH] at I1
  obtain rfl : u = Value.ref f := r1
  refine PySem.W.callWith_F (first := []) (fnAt_of I1 hf) (thn (ha.run pos pins s1 σ H _ I1 ht) fun us s2 ⟨vs, H2, I2, r, h1, h2, q⟩ => ⟨fnAt_of I2 h1, ?_⟩) he hpl
  refine wpAny_call (codeAny_mono (Fn.run X.A X.stack s2 H2 us vs ws Q _ (hr.mono hk) I2.env0 h1 h2 (C.later nf hc I2) r q) fun r s' hq => ?_)
  cases r with
  | error e => exact hx pins σ H2 s2 e s' I2 hq
  | ok fl =>
    cases fl with
    | ret u => exact I2.after hq
    | next => exact (show False from hq).elim
    | brk => exact (show False from hq).elim
    | cont => exact (show False from hq).elim
end
end CLO

set_option Elab.async false
set_option linter.all false
set_option maxRecDepth 100000
set_option maxHeartbeats 4000000
namespace HW
open PySem PySem.Spec PyProof.Rows HotX
section
variable {prog : Program} {w : World} {A : Around} {E : Value → Shared → Prop} {s : Shared} {x1 : Addr}
theorem HotAt.up {h h' : Heap} (t : HotAt A x1 h) (k : ∀ o, h.get? x1 = some o → h'.get? x1 = some o) : HotAt A x1 h' := by
  obtain ⟨hh, o1, vs1, h1, d1, c1⟩ := t
  exact ⟨hh, o1, vs1, k _ h1, d1, c1⟩
/-- the end of a walk of a sequence, an exception being handled -/
theorem end_tup {it t : Addr} {i : Nat} {items : Array Value} {Q : Option Value → Shared → Prop} (hot : HotAt A x1 s.heap) (ne : x1 ≠ it) (hit : s.heap.IsTupleIter it t i) (ht : s.heap.IsTuple t items) (hx : items[i]? = none)
    (hQ : ∀ h', Heap.ExtBut it s.heap h' → Q none { s with heap := h' }) : wpAny (model prog w) A (pyNext (.ref it)) Q E s := by
  obtain ⟨o, ho, hc, hd⟩ := id hit
  obtain ⟨ol, hol, _, nl, hdl⟩ := ht
  obtain ⟨hh, o1, vs1, h1, d1, c1⟩ := hot
  unfold pyNext
  refine wpAny_bind (wpAny_attempt (wpAny_callSpecial?_slot (name := Str.ofString "__next__") hit.typeIs F.slot_tuple_iterator_next
    (wpAny_call_entry F.slot_tuple_iterator_next hit.typeIs F.entry_tuple_iterator_next ?_ (F.args_tuple_iterator_next_1 _))))
  show wpAny _ _ (field (.ref it) 0 >>= _) _ _ s
  refine wpAny_bind (wpAny_field ho hd (x := .ref t) rfl ?_)
  show wpAny _ _ (if (Value.ref t == Value.none) = true then _ else _) _ _ s
  rw [if_neg (show ¬ ((Value.ref t == Value.none) = true) from Bool.false_ne_true)]
  show wpAny _ _ (field (.ref it) 1 >>= _) _ _ s
  refine wpAny_bind (wpAny_field ho hd (x := .int i 0) rfl ?_)
  show wpAny _ _ (seqItems? (.ref t) >>= _) _ _ s
  refine wpAny_bind (wpAny_seqItems hol hdl ?_)
  simp only [Int.toNat_natCast, hx]
  refine wpAny_bind (wpAny_rule (wpAny_bind (wpAny_setField ho hd (by simp) ?_)))
  show wpAny _ _ (newExc (.type "StopIteration") [] >>= _) _ _ _
  refine wpAny_bind ?_
  simp only [newExc, newTuple]
  refine wpAny_bind (wpAny_newObj_type ?_ (by size_fits))
  refine wpAny_bind (m := firstArgMember _ _) (wpAny_of_eq (a := Value.none) (by first | rfl | (simp only [firstArgMember]; rfl)) ?_)
  refine wpAny_newObj_type ?_ (by size_fits)
  have k1 : ((s.heap.update it (Obj.mapFields (·.setIfInBounds 0 .none))).push { cls := .type "tuple", data := .seq #[] }).get? x1 = some o1 := Heap.get?_push_of_some _ (by rw [Heap.get?_update_other _ _ (Ne.symm ne)]; exact h1)
  refine raiseNew_hot ⟨hh, o1, vs1, Heap.get?_push_of_some _ k1, d1, c1⟩ (Nat.ne_of_lt (Heap.lt_size k1)) (Heap.get?_push_size _ rfl) rfl (by first | (simp; done) | (simp; omega) | (simp only [Array.size_append]; simp; omega)) ?_
  refine wpAny_bind (wpAny_isInstance (T := "StopIteration") (b := true) ⟨_, Heap.get?_update_self _ (Heap.get?_push_size _ rfl) rfl, rfl⟩ isSubtype_stop ?_)
  refine wpAny_pure (hQ _ fun b o nb e => ?_)
  have e1 : ((s.heap.update it (Obj.mapFields (·.setIfInBounds 0 .none))).push { cls := .type "tuple", data := .seq #[] }).get? b = some o := Heap.get?_push_of_some _ (by rw [Heap.get?_update_other _ _ (Ne.symm nb)]; exact e)
  rw [Heap.get?_update_other _ _ (Nat.ne_of_gt (Heap.lt_size e1))]
  exact Heap.get?_push_of_some _ e1
theorem end_lst {it t : Addr} {i : Nat} {items : Array Value} {Q : Option Value → Shared → Prop} (hot : HotAt A x1 s.heap) (ne : x1 ≠ it) (hit : s.heap.IsListIter it t i) (ht : s.heap.IsList t items) (hx : items[i]? = none)
    (hQ : ∀ h', Heap.ExtBut it s.heap h' → Q none { s with heap := h' }) : wpAny (model prog w) A (pyNext (.ref it)) Q E s := by
  obtain ⟨o, ho, hc, hd⟩ := id hit
  obtain ⟨ol, hol, _, nl, hdl⟩ := ht
  obtain ⟨hh, o1, vs1, h1, d1, c1⟩ := hot
  unfold pyNext
  refine wpAny_bind (wpAny_attempt (wpAny_callSpecial?_slot (name := Str.ofString "__next__") hit.typeIs slot_listiter_next
    (wpAny_call_entry slot_listiter_next hit.typeIs entry_listiter_next ?_ (args_listiter_next _))))
  show wpAny _ _ (field (.ref it) 0 >>= _) _ _ s
  refine wpAny_bind (wpAny_field ho hd (x := .ref t) rfl ?_)
  show wpAny _ _ (if (Value.ref t == Value.none) = true then _ else _) _ _ s
  rw [if_neg (show ¬ ((Value.ref t == Value.none) = true) from Bool.false_ne_true)]
  show wpAny _ _ (field (.ref it) 1 >>= _) _ _ s
  refine wpAny_bind (wpAny_field ho hd (x := .int i 0) rfl ?_)
  show wpAny _ _ (seqItems? (.ref t) >>= _) _ _ s
  refine wpAny_bind (wpAny_seqItems hol hdl ?_)
  simp only [Int.toNat_natCast, hx]
  refine wpAny_bind (wpAny_rule (wpAny_bind (wpAny_setField ho hd (by simp) ?_)))
  show wpAny _ _ (newExc (.type "StopIteration") [] >>= _) _ _ _
  refine wpAny_bind ?_
  simp only [newExc, newTuple]
  refine wpAny_bind (wpAny_newObj_type ?_ (by size_fits))
  refine wpAny_bind (m := firstArgMember _ _) (wpAny_of_eq (a := Value.none) (by first | rfl | (simp only [firstArgMember]; rfl)) ?_)
  refine wpAny_newObj_type ?_ (by size_fits)
  have k1 : ((s.heap.update it (Obj.mapFields (·.setIfInBounds 0 .none))).push { cls := .type "tuple", data := .seq #[] }).get? x1 = some o1 := Heap.get?_push_of_some _ (by rw [Heap.get?_update_other _ _ (Ne.symm ne)]; exact h1)
  refine raiseNew_hot ⟨hh, o1, vs1, Heap.get?_push_of_some _ k1, d1, c1⟩ (Nat.ne_of_lt (Heap.lt_size k1)) (Heap.get?_push_size _ rfl) rfl (by first | (simp; done) | (simp; omega) | (simp only [Array.size_append]; simp; omega)) ?_
  refine wpAny_bind (wpAny_isInstance (T := "StopIteration") (b := true) ⟨_, Heap.get?_update_self _ (Heap.get?_push_size _ rfl) rfl, rfl⟩ isSubtype_stop ?_)
  refine wpAny_pure (hQ _ fun b o nb e => ?_)
  have e1 : ((s.heap.update it (Obj.mapFields (·.setIfInBounds 0 .none))).push { cls := .type "tuple", data := .seq #[] }).get? b = some o := Heap.get?_push_of_some _ (by rw [Heap.get?_update_other _ _ (Ne.symm nb)]; exact e)
  rw [Heap.get?_update_other _ _ (Nat.ne_of_gt (Heap.lt_size e1))]
  exact Heap.get?_push_of_some _ e1
end
theorem wlk_tup {prog : Program} {w : World} {A : Around} {x1 : Addr} (I ax : Addr) (hne : ax ≠ I) (nx : x1 ≠ I) (items : Array Value) :
    Walks prog w A I [I, ax, x1] [I] items.size (fun i v => items[i]? = some v) (fun i h => h.IsTupleIter I ax i ∧ h.IsTuple ax items ∧ HotAt A x1 h) where
  sub := fun b hb => by simp at hb; simp [hb]
  frame := fun _ _ _ st hk => ⟨st.1.at fun o e => hk I (by simp) o e, st.2.1.at fun o e => hk ax (by simp) o e, HotAt.up st.2.2 fun o e => hk x1 (by simp) o e⟩
  item := fun i s Q E hi st hQ => by
    refine wpAny_pyNext_tuple_item st.1 st.2.1 (x := items[i]) (by simp [hi]) fun h' hit' hs' => ?_
    exact hQ _ h' s.toks (by simp [hi]) ⟨hit', st.2.1.extBut hs'.extBut hne, HotAt.up st.2.2 fun o e => hs'.extBut x1 o nx e⟩ fun b o hb e => hs'.extBut b o (fun h => hb (by simp [h])) e
  done := fun s Q E st hQ => end_tup st.2.2 nx st.1 st.2.1 (by simp) fun h' he' => hQ h' s.toks fun b o hb e => he' b o (fun h => hb (by simp [h])) e
  self := fun _ _ _ _ st hQ => wpAny_pyIter_tupleiter st.1 hQ
theorem wlk_lst {prog : Program} {w : World} {A : Around} {x1 : Addr} (I ax : Addr) (hne : ax ≠ I) (nx : x1 ≠ I) (items : Array Value) :
    Walks prog w A I [I, ax, x1] [I] items.size (fun i v => items[i]? = some v) (fun i h => h.IsListIter I ax i ∧ h.IsList ax items ∧ HotAt A x1 h) where
  sub := fun b hb => by simp at hb; simp [hb]
  frame := fun _ _ _ st hk => ⟨st.1.at fun o e => hk I (by simp) o e, st.2.1.at fun o e => hk ax (by simp) o e, HotAt.up st.2.2 fun o e => hk x1 (by simp) o e⟩
  item := fun i s Q E hi st hQ => by
    refine wpAny_pyNext_list_item st.1 st.2.1 (x := items[i]) (by simp [hi]) fun h' hit' hs' => ?_
    exact hQ _ h' s.toks (by simp [hi]) ⟨hit', st.2.1.extBut hs'.extBut hne, HotAt.up st.2.2 fun o e => hs'.extBut x1 o nx e⟩ fun b o hb e => hs'.extBut b o (fun h => hb (by simp [h])) e
  done := fun s Q E st hQ => end_lst st.2.2 nx st.1 st.2.1 (by simp) fun h' he' => hQ h' s.toks fun b o hb e => he' b o (fun h => hb (by simp [h])) e
  self := fun _ _ _ _ st hQ => wpAny_pyIter_listiter st.1 hQ
section
variable {prog : Program} {w : World} {A : Around} {E : Value → Shared → Prop} {s : Shared} {x1 : Addr}
theorem hot_in1 {h : Heap} (t : HotAt A x1 h) : HotAt A.in1 x1 h := t
theorem max2_hot {a b : Int} {t u : Tok} {Q : Value → Shared → Prop} (hot : HotAt A x1 s.heap)
    (h : ∀ h' tk, (∀ c o, s.heap.get? c = some o → h'.get? c = some o) → Q (if b > a then .int b u else .int a t) { s with heap := h', toks := tk }) :
    wpAny (model prog w) A (call (.builtin "max") [.int a t, .int b u]) Q E s := by
  have hx1 : x1 < s.heap.objs.size := by
    obtain ⟨_, o1, _, h1, _⟩ := hot
    exact Heap.lt_size h1
  have hT : (s.heap.push { cls := .type "tuple", data := .seq #[.int a t, .int b u] }).IsTuple s.heap.objs.size (intItems #[(a, t), (b, u)]) := ⟨_, Heap.get?_push_size _ rfl, rfl, 0, by simp [intItems]⟩
  refine call_max_two (wpAny_pyIter_tuple hT ?_)
  have hsz : (s.heap.push { cls := .type "tuple", data := .seq #[.int a t, .int b u] }).objs.size = s.heap.objs.size + 1 := Heap.size_push ..
  refine ⟨_, [_, s.heap.objs.size, x1], [_], _, _, _, _, rfl, wlk_tup (A := A.in1) (x1 := x1) _ s.heap.objs.size (by rw [hsz]; exact Nat.ne_of_lt (Nat.lt_succ_self _)) (by rw [hsz]; exact Nat.ne_of_lt (Nat.lt_succ_of_lt hx1)) (intItems #[(a, t), (b, u)]),
    ⟨⟨_, Heap.get?_push_size _ rfl, rfl, rfl⟩, hT.push _, HotAt.up (hot_in1 hot) fun o e => Heap.get?_push_of_some _ (Heap.get?_push_of_some _ e)⟩, fun c hc => ?_, by simp [intItems], CmpOf.ints_gt (numAt #[(a, t), (b, u)]) (fun _ _ => intItems_at), fun v h' tk hP hk => ?_⟩
  · show c < ((s.heap.push _).push _).objs.size
    rw [Heap.size_push, hsz]
    rcases List.mem_cons.mp hc with rfl | hc
    · rw [hsz]; exact Nat.lt_succ_self _
    · rcases List.mem_cons.mp hc with rfl | hc
      · exact Nat.lt_succ_of_lt (Nat.lt_succ_self _)
      · rw [List.mem_singleton.mp hc]
        exact Nat.lt_succ_of_lt (Nat.lt_succ_of_lt hx1)
  · have hold : ∀ c o, s.heap.get? c = some o → h'.get? c = some o := fun c o e => by
      refine hk c o (fun hm => ?_) (Heap.get?_push_of_some _ (Heap.get?_push_of_some _ e))
      have := Heap.lt_size e
      rw [List.mem_singleton.mp hm, hsz] at this
      exact Nat.lt_irrefl _ (Nat.lt_of_succ_lt this)
    have hq := h h' tk hold
    have two : (intItems #[(a, t), (b, u)]).size - 1 = 1 := by simp [intItems]
    rw [two] at hP
    have hv : v = if b > a then Value.int b u else Value.int a t := by
      by_cases hba : b > a
      · rw [show argBest (fun i j => decide (numAt #[(a, t), (b, u)] i > numAt #[(a, t), (b, u)] j)) 1 = 1 by simp [argBest, numAt, hba]] at hP
        simpa [intItems, hba] using hP.symm
      · rw [show argBest (fun i j => decide (numAt #[(a, t), (b, u)] i > numAt #[(a, t), (b, u)] j)) 1 = 0 by simp [argBest, numAt, hba]] at hP
        simpa [intItems, hba] using hP.symm
    rw [hv]
    exact hq
section
open PySem.W PySem.SeqAt
theorem maxD_hot {l : Addr} {vs : Array Value} {xs : List PyData} {as : List Addr} {d : Value} {Q : Value → Shared → Prop} (hot : HotAt A x1 s.heap) (hl : s.heap.IsList l vs) (hr : ReadsAll s.heap vs.toList xs as) (ha : AlikeAll xs) (hu : A.units + 1 + PyData.depthAll xs < cLine)
    (h0 : xs = [] → ∀ h' tk, (∀ b o, s.heap.get? b = some o → h'.get? b = some o) → Q d { s with heap := h', toks := tk })
    (h : ∀ (y : PyData) (ys : List PyData) (i : Nat) v h' tk bs, xs = y :: ys → vs[i]? = some v → Reads h' v (maxD y ys) bs → (∀ b o, s.heap.get? b = some o → h'.get? b = some o) → Q v { s with heap := h', toks := tk }) :
    wpAny (model prog w) A (call (.builtin "max") [.ref l] [(Str.ofString "default", d)]) Q E s := by
  have hn : vs.size = xs.length := readsAll_len hr
  have hlt : l < s.heap.objs.size := by obtain ⟨_, e, _⟩ := hl; exact Heap.lt_size e
  have hx1 : x1 < s.heap.objs.size := by
    obtain ⟨_, o1, _, h1, _⟩ := hot
    exact Heap.lt_size h1
  refine call_max_walkD (wpAny_pyIter_list hl ?_)
  refine ⟨_, [s.heap.objs.size, l, x1], [s.heap.objs.size], _, _, _, _, s.heap, (fun i j => dataLt (xs.getD j .none) (xs.getD i .none)), rfl, (wlk_lst (A := A.in1) (x1 := x1) s.heap.objs.size l (Nat.ne_of_lt hlt) (Nat.ne_of_lt hx1) vs).toS,
    ⟨⟨_, Heap.get?_push_size _ rfl, rfl, rfl⟩, hl.push _, HotAt.up (hot_in1 hot) fun o e => Heap.get?_push_of_some _ e⟩, fun b hb => ?_, fun b o e hb => ?_, fun b o e => Heap.get?_push_of_some _ e, fun hz s' m => ?_, fun hp => ⟨cmpIn_gt (A := A.in1) hr ha (by show A.units + 1 + _ < _; exact hu), fun v s' hP m => ?_⟩⟩
  · show b < (s.heap.push _).objs.size
    rw [Heap.size_push]
    rcases List.mem_cons.mp hb with rfl | hb
    · exact Nat.lt_succ_self _
    · rcases List.mem_cons.mp hb with rfl | hb
      · exact Nat.lt_succ_of_lt hlt
      · rw [List.mem_singleton.mp hb]
        exact Nat.lt_succ_of_lt hx1
  · exact absurd (Heap.lt_size e) ((List.mem_singleton.mp hb) ▸ Nat.lt_irrefl _)
  · obtain ⟨h', tk, rfl, hk'⟩ := moved_old rfl rfl m
    exact h0 (List.eq_nil_of_length_eq_zero (by omega)) h' tk hk'
  · obtain ⟨h', tk, rfl, hk'⟩ := moved_old rfl rfl m
    obtain ⟨bs, r, _, _, _⟩ := readsAll_atA hr _ v hP
    cases xs with
    | nil => exact absurd hp (by rw [hn]; exact Nat.lt_irrefl 0)
    | cons y ys =>
      have e1 : vs.size - 1 = ys.length := by rw [hn]; rfl
      have e2 := (argBest_fold (fun a b => dataLt b a) PyData.none y ys ys.length (Nat.le_refl _)).2
      rw [List.take_length] at e2
      rw [e1] at r
      exact h y ys _ v h' tk bs rfl hP (reads_keeps hk' (by unfold maxD; rw [← e2]; exact r)) hk'
end
section
variable {X : L2.Cx}
open L2 L2H
theorem call_max2H (c : HotC X) : CallR X (.builtin "max") (fun xs H Q => ∃ i j, xs = [.int i, .int j] ∧ Q (.int (if j > i then j else i)) H) := by
  intro pins s σ H xs us Q I r h
  obtain ⟨i, j, rfl, q⟩ := h
  obtain ⟨u, w', rfl, ⟨t, rfl⟩, ⟨t', rfl⟩⟩ := vals2 r
  obtain ⟨x1, hot⟩ := c.at I
  refine max2_hot hot fun h' tk k => ⟨_, H, I.kept k, ?_, q⟩
  by_cases hj : j > i
  · rw [if_pos hj, if_pos hj]; exact ⟨_, rfl⟩
  · rw [if_neg hj, if_neg hj]; exact ⟨_, rfl⟩
theorem call_maxDefH (c : HotC X) (hu : X.A.units + 1 < cLine) : CallRK X (.builtin "max") ["default"] (rMaxDef X.K) := by
  intro pins s σ H xs zs us ws Q I r1 r2 h
  obtain ⟨a, ns, d, rfl, rfl, hs, h0, h1⟩ := h
  obtain ⟨its, rv, hl, _⟩ := I.list hs
  rw [Vals.ref1 r1]
  obtain ⟨u, rfl, k, rfl⟩ := vals1 r2
  obtain ⟨x1, hot⟩ := c.at I
  have hold : PySem.W.HoldAll s.heap its.toArray.toList ns := by simpa using hold_ints rv
  obtain ⟨as, rs⟩ := hold
  refine maxD_hot hot hl.isList rs (PySem.W.alikeAll_datum ns) (by have := PySem.W.depthAll_map ns; have e : PySem.W.Datum.depth Int = 0 := rfl; omega) (fun e h' tk hk => ⟨.int d, H, I.kept hk, ⟨_, rfl⟩, h0 (List.map_eq_nil_iff.mp e)⟩) fun z zs i v h' tk bs e hi hr hk => ?_
  cases ns with
  | nil => cases e
  | cons y ys =>
    rw [List.map_cons] at e
    injection e with e1 e2
    subst e1
    subst e2
    rw [PySem.W.maxD_map] at hr
    obtain ⟨h2, h3⟩ := maxOf_is ys y
    have hv : ∃ t, v = .int (PySem.W.maxOf y ys) t := by
      generalize PySem.W.maxOf y ys = m at hr
      cases hr
      exact ⟨_, rfl⟩
    exact ⟨.int _, H, I.kept hk, hv, h1 _ h2 h3⟩
end
end
end HW

set_option Elab.async false
set_option linter.all false
set_option maxRecDepth 100000
set_option maxHeartbeats 4000000
namespace HW
open PySem PySem.Spec PyProof.Rows HotX L2 L2H
/-- a block's context that keeps the pins of the def around it -/
abbrev blkP (X : Cx) (s : Shared) (H : Hp) (scope : Scope) (e : Env) (fp : List Addr) : Cx := { X.blk s H scope e fp with pn := X.pn }
theorem hot_blk {X : Cx} {s : Shared} {H : Hp} {scope : Scope} {e : Env} {fp : List Addr} (c : HotC X) : HotC (blkP X s H scope e fp) := by
  obtain ⟨p, h1, h2⟩ := c
  exact ⟨p, h1, h2⟩
theorem turn_tupH {P : Program} {w : World} {K : PySem.W.Frag} {tg : Expr} (a it : Addr) : TurnH P w K tg (Itt K a) [it] it (fun i h => h.IsTupleIter it a i) where
  mem := (turn_tuple (P := P) (w := w) (K := K) (tg := tg) a it).mem
  obj := (turn_tuple (P := P) (w := w) (K := K) (tg := tg) a it).obj
  keep := (turn_tuple (P := P) (w := w) (K := K) (tg := tg) a it).keep
  item := by
    rintro X rfl rfl rfl hot i pins s σ H E I hf st ⟨xs, x, hq, hx⟩
    have z := hf it (List.mem_singleton.mpr rfl)
    obtain ⟨its, rv, p, hz⟩ := I.tuple hq
    obtain ⟨u, hu, ru⟩ := rv.get hx
    refine wpAny_pyNext_tuple_item st (show s.heap.IsTuple a its.toArray from p) (x := u) (by simpa using hu) fun g sg bg => ?_
    have J : Inv X pins σ H { s with heap := g } := I.turned (t' := s.toks) (fun b o nb e => (bg.2 b nb).trans e) z.1 z.2.1 z.2.2.2.1 z.2.2.2.2.1 z.2.2.2.2.2
    obtain ⟨o, e1, e2, e3⟩ := id sg
    exact ⟨u, rfl, go_of (s := { s with heap := g }) e1 e2 e3 (by decide) ⟨x, H, J, ru, ⟨rfl, fun ys hy => by rw [I.tuple_inj hy hq]; exact hx⟩, sg, fun b hb => (hf b hb).1⟩⟩
  done := by
    rintro X rfl rfl rfl hot i pins s σ H E I hf st ⟨xs, hq, hx⟩
    have z := hf it (List.mem_singleton.mpr rfl)
    obtain ⟨its, rv, p, hz⟩ := I.tuple hq
    have hl := rv.length
    obtain ⟨q, hh, hp⟩ := hot
    have hne : q.1 ≠ it := z.2.2.2.2.2 q (List.mem_append_left _ hp)
    obtain ⟨hh1, vs1, d1, c1⟩ := hh
    exact end_tup ⟨hh1, q.2, vs1, (I.pin q (List.mem_append_left _ hp)).1, d1, c1⟩ hne st (show s.heap.IsTuple a its.toArray from p) (by simp; omega) fun g eg => ⟨rfl, I.turned (t' := s.toks) (fun b o nb e => eg b o nb e) z.1 z.2.1 z.2.2.2.1 z.2.2.2.2.1 z.2.2.2.2.2⟩
  self := (turn_tuple (P := P) (w := w) (K := K) (tg := tg) a it).self
theorem pi_tupH {X : Cx} {tg l : Expr} {tl : TE} (hl : PE X l tl) : PIH X tg l (iTup X.K tl) := ⟨fun pins s σ H R I h => thn (hl.run pins s σ H _ I h) fun v s1 ⟨x, H1, I1, r1, a, e, ⟨xs, hq⟩, q⟩ => by
  subst e
  cases r1
  obtain ⟨its, rv, p, hz⟩ := I1.tuple hq
  refine wpAny_pyIter_tuple (show s1.heap.IsTuple a its.toArray from p) ⟨s1.heap.objs.size, [s1.heap.objs.size], _, _, H1, rfl, I1.kept (t' := s1.toks) fun b o e => Heap.get?_push_of_some _ e, turn_tupH a _, ⟨_, Heap.get?_push_size _ rfl, rfl, rfl⟩, fun b hb => ?_, q⟩
  rw [List.mem_singleton.mp hb]
  exact I1.fpOk (Nat.le_refl _) (I1.hok.fresh (Nat.le_refl _))⟩
section
variable {X : Cx} {elt tg iter : Expr} {scope : Scope} {own : List (Str × Nat)} {pos : Pos} {wi : TI} {g : TG} {te : TE}
/-- [.. for x in t] while an exception is handled -/
theorem pe_lcH (hot : HotC X) (hN : X.N.Nodup) (hi : PIH X tg iter wi) (ok : BlkOk X.N X.env.scope scope own) (hg : ∀ (s : Shared) (H : Hp) (C : Addr) (cl : List (Str × Addr)) (fp : List Addr), PG (blkP X s H scope (compEnvC scope cl C X.env) fp) tg g)
    (he : ∀ (s : Shared) (H : Hp) (C : Addr) (cl : List (Str × Addr)) (fp : List Addr), PE (blkP X s H scope (compEnvC scope cl C X.env) fp) elt te) (hs : ∀ x, foldedSetIterable iter X.env x = pure x := by intro _; rfl) :
    PE X (.ListComp elt [⟨tg, iter, [], 0⟩] scope pos) (tLc wi g tYes te (own.map (·.2))) := by
  refine ⟨fun pins s σ H Q I h => ?_⟩
  rw [eval_ListComp]
  have cap : ∀ y ∈ scope.names, y.2 = .free → ∃ c, X.env.cells.lookup y.1 = some c := fun y hy e => (ok.free y hy e).elim (fun k => I.ok.has _ (.inl k)) fun k => I.ok.has _ (.inr k)
  refine wpAny_comprehension_free rfl hs (closure_ok cap) ok.kind (fun y hy e => by rw [ok.uniq y hy, e]) (thn (hi.run pins s σ H _ I h) fun xv s1 hx => thn hx fun itv s2 ⟨it, fp, tn, J, H2, ei, I2, T, st2, f2, q⟩ => ?_)
  subst ei
  refine wpAny_newObj_type (newEnv_comp ?_) (by show 0 ≤ sizeLine; decide)
  obtain ⟨W, ⟨m0, w0⟩, turn⟩ := q s2.heap.objs.size (I2.hok.fresh (Nat.le_refl _))
  have lo : ∀ b ∈ fp, b < s2.heap.objs.size := fun b hb => (T.obj _ _ st2 b hb).elim fun o e => Heap.lt_size e.1
  generalize eD : s2.heap.objs.size = D at w0 turn lo ⊢
  -- with the new list
  obtain ⟨s3, e3⟩ : ∃ s3 : Shared, s3 = { s2 with heap := s2.heap.push { cls := .type "list", data := .seq ([] : List Value).toArray } } := ⟨_, rfl⟩
  have g3 : ∀ b o, s2.heap.get? b = some o → s3.heap.get? b = some o := fun b o e => by rw [e3]; exact Heap.get?_push_of_some _ e
  have z3 : s3.heap.objs.size = D + 1 := by rw [e3, ← eD]; exact Heap.size_push ..
  have I3 : Inv X pins σ (upd H2 D (.lst [])) s3 := by
    rw [e3]
    refine I2.laid (t' := s2.toks) (fun b o e => Heap.get?_push_of_some _ e) (Nat.le_of_eq eD) ⟨Nat.zero_le _, [], 0, .nil, ?_⟩
    rw [← eD]
    exact Heap.get?_push_size _ rfl
  have f3 : ∀ b ∈ fp, FpOk X pins (upd H2 D (.lst [])) b ∧ b < s3.heap.objs.size := fun b hb => by
    have l := lo b hb
    exact ⟨⟨by rw [upd_ne (Nat.ne_of_lt l)]; exact (f2 b hb).1, (f2 b hb).2⟩, by rw [z3]; exact Nat.lt_succ_of_lt l⟩
  have st3 : tn 0 s3.heap := T.keep _ _ _ st2 fun b _ o e => g3 b o e
  have B := block_start I3 ok hN f3
  rw [← e3]
  generalize eC : s3.heap.objs.size = C at B f3
  generalize eH : upd H2 D (.lst []) = H3 at I3 B w0 f3
  generalize ec : compEnvC scope (cellsFrom (C + 1) scope.names (cloFrom X.env.cells scope.names [])) C X.env = ce at B
  have pg := hg s3 H3 C (cellsFrom (C + 1) scope.names (cloFrom X.env.cells scope.names [])) fp
  have pe := he s3 H3 C (cellsFrom (C + 1) scope.names (cloFrom X.env.cells scope.names [])) fp
  rw [ec] at pg pe
  have cL : ce.locals = C := by rw [← ec]; rfl
  obtain ⟨s4, e4⟩ : ∃ s4 : Shared, s4 = { s3 with heap := pushCells (s3.heap.push { cls := .type "dict", data := .dict #[] }) scope.names } := ⟨_, rfl⟩
  rw [← e4] at B
  have g4 : ∀ b o, s3.heap.get? b = some o → s4.heap.get? b = some o := fun b o e => by rw [e4]; exact pushCells_keeps _ _ _ _ (Heap.get?_push_of_some _ e)
  have st4 : tn 0 s4.heap := T.keep _ _ _ st3 fun b _ o e => g4 b o e
  -- the pins stay in the block
  have I4 : Inv (blkP X s3 H3 scope ce fp) [] (wipe σ (own.map (·.2))) H3 s4 := by
    refine ⟨⟨B.ok.mod, B.ok.kind, B.ok.glob, B.ok.blt, B.ok.above, B.ok.inj, B.ok.has, B.ok.cab, B.ok.hd, B.ok.frames, B.ok.stk, B.ok.exf, B.ok.bs, B.ok.bsz, B.ok.noex, B.ok.exfs, B.ok.funs, B.ok.frf⟩, B.os, B.bare, B.base, B.loc, B.cell, B.free, B.freeC, fun p hp => ?_, B.hok, B.len⟩
    have hp : p ∈ X.pn := by simpa using hp
    have k := I3.pin p (List.mem_append_left _ hp)
    refine ⟨g4 _ _ k.1, k.2.1, ?_, fun hm => (List.mem_cons.mp (I3.stkSub p.1 hm)).elim k.2.2.1 k.2.2.2.1, k.2.2.2.2⟩
    show p.1 ≠ ce.locals
    rw [cL, ← eC]
    exact Nat.ne_of_lt (Heap.lt_size k.1)
  have stat : ∀ {σ' : L2.St} {G : Hp} {s' : Shared}, Inv (blkP X s3 H3 scope ce fp) [] σ' G s' → (∀ b ∈ fp, G b = none) → ∀ b ∈ fp, FpOk (blkP X s3 H3 scope ce fp) [] G b := fun I' hn b hb =>
    ⟨hn b hb, (I'.ok.exf b hb).1, I'.ok.exfs b hb, .inl hb, fun x c e => (I'.ok.exf b hb).2 x c e, fun p hp => (f3 b hb).1.2.2.2.2.2 p (List.mem_append_left _ (by simpa using hp))⟩
  have hotB : HotC (blkP X s3 H3 scope ce fp) := hot_blk hot
  show codeAny _ _ (.compStart (.ListComp elt [⟨tg, iter, [], 0⟩] scope pos) 0 (.ref it) (.ref D) (compEnvC scope (cellsFrom (C + 1) scope.names (cloFrom X.env.cells scope.names [])) C X.env)) (compPost (model X.prog X.w) X.A X.xe none (EP X pins σ Q) (.ref D) C) { s3 with heap := pushCells (s3.heap.push { cls := .type "dict", data := .dict #[] }) scope.names }
  rw [ec, ← e4]
  have loop : codeAny (model X.prog X.w) X.A (.compLoop (.ListComp elt [⟨tg, iter, [], 0⟩] scope pos) 0 (.ref it) (.ref D) ce) (compPost (model X.prog X.w) X.A X.xe none (EP X pins σ Q) (.ref D) C) s4 := by
    refine compLoop_any (fun n s' => ∃ i G, Inv (blkP X s3 H3 scope ce fp) [] (wipe σ (own.map (·.2))) G s' ∧ tn i s'.heap ∧ (∀ b ∈ fp, G b = none) ∧ W i n G) ?_ m0 ⟨0, H3, I4, st4, fun b hb => (f3 b hb).1.1, w0⟩
    rintro n s5 ⟨i, H5, I5, st5, n5, w5⟩
    rcases turn i n H5 w5 with ⟨stop, qq⟩ | ⟨go, Nx, hNx, step⟩
    · refine thnF (T.done (blkP X s3 H3 scope ce fp) rfl rfl rfl hotB i [] s5 _ H5 (fun _ _ => False) I5 (stat I5 n5) st5 stop) fun r s6 ⟨hr, I6⟩ => ?_
      subst hr
      have I7 : Inv X pins σ H5 s6 := I3.call' (ch := fp) I6.os I6.base I6.hok I6.bare fun b hb => ⟨(f3 b hb).1.2.2.2.1, (f3 b hb).1.2.1, (f3 b hb).1.2.2.2.2.1, (f3 b hb).1.2.2.2.2.2⟩
      obtain ⟨m, hn, _⟩ := I6.loc
      have nC : H5 ce.locals = none := I6.free
      have hn : s6.heap.Ns ce.locals m := hn
      rw [cL] at nC hn
      have f := I3.fpOk (Nat.le_of_eq eC) nC
      exact ⟨m, hn, fun h'' sb => ⟨.ref D, H5, I7.turned (t' := s6.toks) (fun b o hb e => (sb.2 b hb).trans e) f.1 f.2.1 f.2.2.2.1 f.2.2.2.2.1 f.2.2.2.2.2, rfl, qq⟩⟩
    · refine thnF (T.item (blkP X s3 H3 scope ce fp) rfl rfl rfl hotB i [] s5 _ H5 (fun _ _ => False) I5 (stat I5 n5) st5 go) fun r s6 ⟨u, hr, h6⟩ => ?_
      subst hr
      refine thnF h6 fun _ s7 ⟨x, H7, I7, r7, y7, st7, n7⟩ => ?_
      have J7 := I7.pinned (stat I7 n7) (T.obj _ _ st7)
      refine thnF (pg.run _ s7 _ H7 x u _ J7 r7 (step x H7 y7)) fun _ s8 ⟨σ8, H8, I8, hw8, q8⟩ => ?_
      refine thnF ((pts_nil (X := blkP X s3 H3 scope ce fp)).run _ s8 σ8 H8 _ I8 q8) fun b s9 ⟨H9, I9, q9⟩ => ?_
      have fin : ∀ {s' : Shared} {G : Hp}, Inv (blkP X s3 H3 scope ce fp) ([] ++ pinsAt fp s7.heap) σ8 G s' → Nx G → ∃ m, m < n ∧ ∃ i G, Inv (blkP X s3 H3 scope ce fp) [] (wipe σ (own.map (·.2))) G s' ∧ tn i s'.heap ∧ (∀ b ∈ fp, G b = none) ∧ W i m G := fun {s' G} I' nx => by
        obtain ⟨m', hm, w'⟩ := hNx G nx
        have pin : ∀ b ∈ fp, ∀ o, s7.heap.get? b = some o → s'.heap.get? b = some o ∧ G b = none := fun b hb o e =>
          ⟨(I'.pin (b, o) (List.mem_append_right _ (List.mem_append_right _ (mem_pinsAt hb e)))).1, (I'.pin (b, o) (List.mem_append_right _ (List.mem_append_right _ (mem_pinsAt hb e)))).2.1⟩
        refine ⟨m', hm, i + 1, G, (I'.unpinned (pins := [])).weak (by rw [← hw8, wipe_length]) (fun j v e => ?_), T.keep _ _ _ st7 fun b hb o e => (pin b hb o e).1, fun b hb => ?_, w'⟩
        · rw [← hw8] at e
          exact (wipe_some e).1
        · obtain ⟨o, e, _⟩ := T.obj _ _ st7 b hb
          exact (pin b hb o e).2
      cases b with
      | false =>
        simp only [Bool.false_eq_true, if_false] at q9 ⊢
        exact fin I9 q9
      | true =>
        simp only [if_true] at q9 ⊢
        refine thnF (pe.run _ s9 σ8 H9 _ I9 q9) fun z s10 ⟨yv, H10, I10, r10, acc, hD10, hz10, nx⟩ => ?_
        exact app_ok (X := blkP X s3 H3 scope ce fp) I10 hD10 hz10 r10 fun s11 I11 => fin I11 nx
  exact codeAny_compStart_list loop (T.self X.A 0 _ _ _ st4 loop)
end
end HW

set_option Elab.async false
set_option linter.all false
set_option maxRecDepth 100000
set_option maxHeartbeats 4000000
namespace G
open PySem PySem.Spec PyProof.Rows L2 Evl
/-! ### what a def of the top is, and its call -/
def top (i : Nat) : Stmt := PySem.Challenge.pw_guanaco_k15_schemes_as_syntax.main.body.getD i (.Pass ⟨0, 0, 0, 0⟩)
/-- the def x as the top leaves it -/
structure At (K : PySem.W.Frag) (mg : Str → Option Value) (x : Str) (st : Stmt) (ps : List Str) : Prop where
  ex : ∃ (f : Addr) (fd : FuncData), Fun K x x st f fd ∧ mg x = some (.ref f) ∧ Binds K fd ps []
/-- the def x keeps the promise sp -/
structure Can (P : Program) (w : World) (K : PySem.W.Frag) (mg : Str → Option Value) (base : Heap) (CX : CXT) (k : Nat) (x : Str) (ps : List Str) (sp : Sp) : Prop where
  ex : ∃ (f : Addr) (fd : FuncData), FnOk P w K mg base CX k f fd ps sp ∧ mg x = some (.ref f) ∧ PySem.W.keepIn K (.ref f) = true ∧ Binds K fd ps []
theorem Can.up {P : Program} {w : World} {K : PySem.W.Frag} {mg : Str → Option Value} {base : Heap} {CX : CXT} {k m : Nat} {x : Str} {ps : List Str} {sp : Sp} (C : Can P w K mg base CX k x ps sp) (h : k ≤ m) : Can P w K mg base CX m x ps sp := by
  obtain ⟨f, fd, F, a, b, c⟩ := C.ex
  exact ⟨f, fd, F.mono h, a, b, c⟩
theorem pe_can {X : Cx} {CX : CXT} {k : Nat} {x : Str} {ps : List Str} {sp : Sp} {E : XK} {e : Expr} {es : List Expr} {t : TA} {p pos : Pos} (C : Can X.prog X.w X.K X.mg X.base CX k x ps sp) (hr : Room k X.A) (hg : Gl X x) (hx : Passes CX X E) (ha : PA X (e :: es) t)
    (hdb : (x == ("__debug__" : Str)) = false := by decide) (he : starEach (e :: es) X.env = (false, eval e X.env) :: starEach es X.env := by rfl) (hpl : (backTo pos (starEach es X.env)).any (·.1) = false := by rfl) :
    PE X (.Call (.Name x p) (e :: es) [] pos) (tCall sp [] E t) := by
  obtain ⟨f, fd, F, a, b, c⟩ := C.ex
  exact pe_call F hr hg a b c .nil hx ha hdb he hpl
theorem pe_can0 {X : Cx} {CX : CXT} {k : Nat} {x : Str} {ps : List Str} {sp : Sp} {E : XK} {p pos : Pos} (C : Can X.prog X.w X.K X.mg X.base CX k x ps sp) (hr : Room k X.A) (hg : Gl X x) (hx : Passes CX X E)
    (hdb : (x == ("__debug__" : Str)) = false := by decide) :
    PE X (.Call (.Name x p) [] [] pos) (tCall sp [] E tNil) := by
  obtain ⟨f, fd, F, a, b, c⟩ := C.ex
  exact pe_call0 F hr hg a b c .nil hx hdb
/-- a def that lets nothing out: its promise from its body's reading -/
theorem At.can {P : Program} {w : World} {K : PySem.W.Frag} {mg : Str → Option Value} {base : Heap} {x : Str} {st : Stmt} {N ps : List Str} {k : Nat} {sp : Sp} (D : At K mg x st ps) (S : FnScope N ps (defScope st)) (len : ∀ vs H Q E, sp vs H Q E → vs.length = ps.length)
    (hbody : ∀ (f : Addr) (cdv : Value) (A : Around) (outer : List Env) (s : Shared) (H : Hp) (vs : List V) (Q : VK) (E : XK), Room k (A.deeper (envOfC x (defScope st) s.heap.objs.size f cdv)) → sp vs H Q E →
      ∃ t, PSs (cxOf CX0 P w K mg base N x (defScope st) f cdv A outer s H E).nox (defBody st) t ∧ t { nx := fun _ H' => Q .non H', rt := Q } (start N vs) H) : Can P w K mg base CX0 (k + 1) x ps sp := by
  obtain ⟨f, fd, F, a, b⟩ := D.ex
  exact ⟨f, fd, F.ok S len (fun cdv A outer s H vs Q E hr h => hbody f cdv A outer s H vs Q E hr h), a, F.kp, b⟩
/-! ### heaps -/
def Bul (d : Addr) (H H' : Hp) : Prop := ∀ a o, a ≠ d → H a = some o → H' a = some o
theorem Bul.refl {d : Addr} {H : Hp} : Bul d H H := fun _ _ _ h => h
theorem Bul.trans {d : Addr} {H H1 H2 : Hp} (a : Bul d H H1) (b : Bul d H1 H2) : Bul d H H2 := fun x o n h => b x o n (a x o n h)
theorem Bul.set {d : Addr} {H : Hp} {o : HO} : Bul d H (upd H d o) := fun a u n h => by
  rw [upd_ne n]
  exact h
theorem Bul.of {d : Addr} {H H' : Hp} (e : Ex H H') : Bul d H H' := fun a u _ h => e a u h
theorem sql_ne {K : PySem.W.Frag} {H : Hp} {a d : Addr} {xs : List V} {o : HO} (h : SqL K H a xs) (n : a ≠ d) : SqL K (upd H d o) a xs := by
  rcases h with (h | ⟨u, h⟩) | h
  · exact .inl (.inl (by rw [upd_ne n]; exact h))
  · exact .inl (.inr ⟨u, by rw [upd_ne n]; exact h⟩)
  · exact .inr h
theorem Bul.sql {K : PySem.W.Frag} {H H' : Hp} {a d : Addr} {xs : List V} (e : Bul d H H') (n : a ≠ d) (h : SqL K H a xs) : SqL K H' a xs := by
  rcases h with (h | ⟨u, h⟩) | h
  · exact .inl (.inl (e _ _ n h))
  · exact .inl (.inr ⟨u, e _ _ n h⟩)
  · exact .inr h
/-! ### the drawing of numbers: a list of the cells, a place, a rest, a count -/
def DSt (K : PySem.W.Frag) (H : Hp) (d : Addr) : Prop := ∃ (c : Addr) (ns : List Int) (i r k : Int), H d = some (.lst [.ref c, .int i, .int r, .int k]) ∧ H c = some (.lst (ns.map V.int)) ∧ c ≠ d ∧ 0 ≤ i
theorem DSt.ex {K : PySem.W.Frag} {H H' : Hp} {d : Addr} (e : Ex H H') (h : DSt K H d) : DSt K H' d := by
  obtain ⟨c, ns, i, r, k, h1, h2, h3, h4⟩ := h
  exact ⟨c, ns, i, r, k, e _ _ h1, e _ _ h2, h3, h4⟩
/-- a draw: all else is kept, the cells stay where they are -/
structure But (d : Addr) (H H' : Hp) : Prop where
  keep : Bul d H H'
  first : ∀ (c : Addr) (i r k : Int), H d = some (.lst [.ref c, .int i, .int r, .int k]) → ∃ i' r' k' : Int, H' d = some (.lst [.ref c, .int i', .int r', .int k'])
instance {d : Addr} {H H' : Hp} : CoeFun (But d H H') fun _ => ∀ a o, a ≠ d → H a = some o → H' a = some o := ⟨fun b => b.keep⟩
theorem But.refl {d : Addr} {H : Hp} : But d H H := ⟨.refl, fun _ i r k h => ⟨i, r, k, h⟩⟩
theorem But.trans {d : Addr} {H H1 H2 : Hp} (a : But d H H1) (b : But d H1 H2) : But d H H2 := ⟨a.keep.trans b.keep, fun c i r k h => by
  obtain ⟨i1, r1, k1, h1⟩ := a.first c i r k h
  exact b.first c i1 r1 k1 h1⟩
theorem But.of {d : Addr} {H H' : Hp} (e : Ex H H') : But d H H' := ⟨.of e, fun _ i r k h => ⟨i, r, k, e _ _ h⟩⟩
theorem But.mk1 {d c : Addr} {H H' : Hp} {i r k i' r' k' : Int} (b : Bul d H H') (h : H d = some (.lst [.ref c, .int i, .int r, .int k])) (h' : H' d = some (.lst [.ref c, .int i', .int r', .int k'])) : But d H H' := ⟨b, fun c2 i2 r2 k2 h2 => by
  rw [h] at h2
  cases h2
  exact ⟨_, _, _, h'⟩⟩
def spFill (K : PySem.W.Frag) : Sp := fun vs H Q _ => ∃ d : Addr, vs = [.ref d] ∧ DSt K H d ∧ ∀ (v : Int) (H' : Hp), But d H H' → DSt K H' d → Q (.int v) H'
def spTake (K : PySem.W.Frag) : Sp := fun vs H Q _ => ∃ (d : Addr) (many : Int), vs = [.ref d, .int many] ∧ DSt K H d ∧ 0 < many ∧ many < 4611686018427387904 ∧
  ∀ (v : Int) (H' : Hp), But d H H' → DSt K H' d → 0 ≤ v → v < many → Q (.int v) H'
/-! ### texts as lists of signs -/
def S (t : List Nat) : Str := ⟨t.toArray⟩
theorem S_list (t : List Nat) : (S t).cps.toList = t := rfl
theorem S_len (t : List Nat) : (S t).length = t.length := by
  show t.toArray.size = t.length
  simp
theorem S_of (z : Str) : S z.cps.toList = z := by
  obtain ⟨c⟩ := z
  show (⟨c.toList.toArray⟩ : Str) = ⟨c⟩
  simp
theorem S_app (a b : List Nat) : S a ++ S b = S (a ++ b) := by
  show (⟨a.toArray ++ b.toArray⟩ : Str) = ⟨(a ++ b).toArray⟩
  simp
theorem S_inj {a b : List Nat} (h : S a = S b) : a = b := by
  have : (S a).cps.toList = (S b).cps.toList := by rw [h]
  exact this
theorem size_line {n : Nat} (h : n ≤ 100000) : n ≤ sizeLine := Nat.le_trans h (by decide)
section
variable {X : Cx} {x : Str} {pos : Pos} {tk : Tok}
theorem pe_gs {s : Str} (hg : Gl X x) (hm : X.mg x = some (.str s tk)) (hd : (x == ("__debug__" : Str)) = false := by decide) : PE X (.Name x pos) (tC (.str s)) := pe_glob (v := .str s) hg hm ⟨_, rfl⟩ hd
theorem pe_gi {i : Int} (hg : Gl X x) (hm : X.mg x = some (.int i tk)) (hd : (x == ("__debug__" : Str)) = false := by decide) : PE X (.Name x pos) (tC (.int i)) := pe_glob (v := .int i) hg hm ⟨_, rfl⟩ hd
theorem pe_gr {a : Addr} (hg : Gl X x) (hm : X.mg x = some (.ref a)) (hd : (x == ("__debug__" : Str)) = false := by decide) : PE X (.Name x pos) (tC (.ref a)) := pe_glob (v := .ref a) hg hm rfl hd
end
/-! ### values, the heap as it is -/
section
variable {K : PySem.W.Frag} {σ : L2.St} {H : Hp} {ta tb te tc : TE} {x y z v : V} {D : Ends} {t u : TT} {t1 t2 tz : TS}
theorem val_I0 {g : Int → Int → V} {i j : Int} (ha : Val ta σ H (.int i)) (hb : Val tb σ H (.int j)) : Val (tOp (rI0 g) ta tb) σ H (g i j) := fun Q q => ha _ (hb _ ⟨i, j, rfl, rfl, q⟩)
theorem val_I {C : Int → Int → Prop} {g : Int → Int → V} {i j : Int} (ha : Val ta σ H (.int i)) (hb : Val tb σ H (.int j)) (hc : C i j) : Val (tOp (rI C g) ta tb) σ H (g i j) := fun Q q => ha _ (hb _ ⟨i, j, rfl, rfl, hc, q⟩)
theorem val_eq (ha : Val ta σ H x) (hb : Val tb σ H y) (hs : scal x y = true) : Val (tOp rEq ta tb) σ H (.bl (decide (x = y))) := fun Q q => ha _ (hb _ ⟨hs, q⟩)
theorem val_ne (ha : Val ta σ H x) (hb : Val tb σ H y) (hs : scal x y = true) : Val (tOp rNe ta tb) σ H (.bl (!decide (x = y))) := fun Q q => ha _ (hb _ ⟨hs, q⟩)
theorem val_ixL {p : Addr} {xs : List V} {i : Int} (ha : Val ta σ H (.ref p)) (hb : Val tb σ H (.int i)) (h : SqL K H p xs) (hi : atI xs i = some v) : Val (tOp (rIxL K) ta tb) σ H v := fun Q q => ha _ (hb _ ⟨p, xs, i, v, rfl, rfl, h, hi, q⟩)
theorem val_ixT {p : Addr} {xs : List V} {i : Int} (ha : Val ta σ H (.ref p)) (hb : Val tb σ H (.int i)) (h : SqT K H p xs) (hi : atI xs i = some v) : Val (tOp (rIxT K) ta tb) σ H v := fun Q q => ha _ (hb _ ⟨p, xs, i, v, rfl, rfl, h, hi, q⟩)
theorem val_ixS {s : Str} {i : Int} {c : Nat} (ha : Val ta σ H (.str s)) (hb : Val tb σ H (.int i)) (h : s.length ≤ sizeLine) (hi : atI s.cps.toList i = some c) : Val (tOp rIxS ta tb) σ H (.str ⟨#[c]⟩) := fun Q q => ha _ (hb _ ⟨s, i, c, rfl, rfl, h, hi, q⟩)
theorem val_neg {i : Int} (ha : Val ta σ H (.int i)) : Val (tUn (rU fun i => .int (-i)) ta) σ H (.int (-i)) := fun Q q => ha _ ⟨i, rfl, q⟩
theorem val_lenS {s : Str} (ha : Val ta σ H (.str s)) (h : s.length ≤ sizeLine) : Val (tCB (fun xs H Q => ∃ z, xs = [.str z] ∧ z.length ≤ sizeLine ∧ Q (.int z.length) H) (tCons ta tNil)) σ H (.int (s.length : Int)) := fun Q q => ha _ ⟨s, rfl, h, q⟩
theorem val_lenL {p : Addr} {xs : List V} (ha : Val ta σ H (.ref p)) (h : SqL K H p xs) : Val (tCB (fun xs H Q => ∃ p ys, xs = [.ref p] ∧ (SqL K H p ys ∨ SqT K H p ys) ∧ Q (.int ys.length) H) (tCons ta tNil)) σ H (.int (xs.length : Int)) := fun Q q => ha _ ⟨p, xs, rfl, .inl h, q⟩
theorem val_lenT {p : Addr} {xs : List V} (ha : Val ta σ H (.ref p)) (h : SqT K H p xs) : Val (tCB (fun xs H Q => ∃ p ys, xs = [.ref p] ∧ (SqL K H p ys ∨ SqT K H p ys) ∧ Q (.int ys.length) H) (tCons ta tNil)) σ H (.int (xs.length : Int)) := fun Q q => ha _ ⟨p, xs, rfl, .inr h, q⟩
theorem val_int1 {i : Int} (ha : Val ta σ H (.int i)) : Val (tCB (fun xs H Q => (∃ i, xs = [.int i] ∧ Q (.int i) H) ∨ ∃ k, xs = [.bl k] ∧ Q (.int (if k then 1 else 0)) H) (tCons ta tNil)) σ H (.int i) := fun Q q => ha _ (.inl ⟨i, rfl, q⟩)
theorem val_strI {i : Int} (ha : Val ta σ H (.int i)) (h : i.natAbs.log2 < 1920) : Val (tCB (fun xs H Q => ∃ i, xs = [.int i] ∧ i.natAbs.log2 < 1920 ∧ Q (.str (toString i)) H) (tCons ta tNil)) σ H (.str (toString i)) := fun Q q => ha _ ⟨i, rfl, h, q⟩
theorem val_addS {a b : Str} (ha : Val ta σ H (.str a)) (hb : Val tb σ H (.str b)) (h : a.length + b.length ≤ sizeLine) : Val (tOp (fun x y H Q => ∃ i j, x = .str i ∧ y = .str j ∧ i.length + j.length ≤ sizeLine ∧ Q (.str (i ++ j)) H) ta tb) σ H (.str (a ++ b)) := fun Q q => ha _ (hb _ ⟨a, b, rfl, rfl, h, q⟩)
theorem val_inC {c : Nat} {s : Str} (ha : Val ta σ H (.str ⟨#[c]⟩)) (hb : Val tb σ H (.str s)) : Val (tOp (fun x y H Q => ∃ (c : Nat) (z : Str), x = .str ⟨#[c]⟩ ∧ y = .str z ∧ Q (.bl (decide (c ∈ z.cps.toList))) H) ta tb) σ H (.bl (decide (c ∈ s.cps.toList))) := fun Q q => ha _ (hb _ ⟨c, s, rfl, rfl, q⟩)
theorem val_notInC {c : Nat} {s : Str} (ha : Val ta σ H (.str ⟨#[c]⟩)) (hb : Val tb σ H (.str s)) : Val (tOp (fun x y H Q => ∃ (c : Nat) (z : Str), x = .str ⟨#[c]⟩ ∧ y = .str z ∧ Q (.bl (!decide (c ∈ z.cps.toList))) H) ta tb) σ H (.bl (!decide (c ∈ s.cps.toList))) := fun Q q => ha _ (hb _ ⟨c, s, rfl, rfl, q⟩)
theorem val_inT {p : Addr} {xs : List V} (ha : Val ta σ H x) (hb : Val tb σ H (.ref p)) (h : SqL K H p xs ∨ SqT K H p xs) (hx : flatV x = true) (hf : xs.all flatV = true) : Val (tOp (rIn K false) ta tb) σ H (.bl (inV x xs)) := fun Q q => ha _ (hb _ ⟨p, xs, rfl, h, hx, hf, q⟩)
theorem val_andV {a b : Bool} (ha : Val ta σ H (.bl a)) (hb : a = true → Val tb σ H (.bl b)) : Val (tAndV ta tb) σ H (.bl (a && b)) := fun Q q => ha _ ⟨a, rfl, by
  cases a with
  | true => exact hb rfl Q q
  | false => exact q⟩
theorem val_orV {a b : Bool} (ha : Val ta σ H (.bl a)) (hb : a = false → Val tb σ H (.bl b)) : Val (tOrV ta tb) σ H (.bl (a || b)) := fun Q q => ha _ ⟨a, rfl, by
  cases a with
  | true => exact q
  | false => exact hb rfl Q q⟩
theorem val_notV {a : Bool} (ha : Val ta σ H (.bl a)) : Val (tNotV ta) σ H (.bl (!a)) := fun Q q => ha _ ⟨a, rfl, q⟩
theorem val_if {b : Bool} (hc : Ans t σ H b) (h1 : b = true → Val ta σ H v) (h2 : b = false → Val tb σ H v) : Val (tIf t ta tb) σ H v := fun Q q => hc _ (by
  cases b with
  | true => exact h1 rfl Q q
  | false => exact h2 rfl Q q)
theorem Val.is {w : V} (h : Val te σ H v) (e : v = w) : Val te σ H w := e ▸ h
/-! ### tests -/
theorem ans_t {b : Bool} (ha : Val ta σ H (.bl b)) : Ans (tTest ta) σ H b := fun Q q => ha _ ⟨b, rfl, q⟩
theorem ans_or2 {a b : Bool} (h1 : Ans t σ H a) (h2 : a = false → Ans u σ H b) : Ans (tOr t u) σ H (a || b) := fun Q q => h1 _ (by
  cases a with
  | true => exact q
  | false => exact h2 rfl Q q)
theorem ans_and3 {a b : Bool} (h1 : Ans t σ H a) (h2 : a = true → Ans u σ H b) : Ans (tAnd t u) σ H (a && b) := fun Q q => h1 _ (by
  cases a with
  | true => exact h2 rfl Q q
  | false => exact q)
theorem ans_truL {p : Addr} {xs : List V} (ha : Val ta σ H (.ref p)) (h : SqL K H p xs) : Ans (fun σ H Q => ta σ H fun x H' => ∃ k, TruV K x H' k ∧ Q k H') σ H (!xs.isEmpty) := fun Q q => ha _ ⟨_, .inl ⟨xs, h, rfl⟩, q⟩
/-! ### statements -/
theorem st_if {b : Bool} (h : Ans t σ H b) (h1 : b = true → t1 D σ H) (h2 : b = false → t2 D σ H) : tIfS t t1 t2 D σ H := h _ (by
  cases b with
  | true => exact h1 rfl
  | false => exact h2 rfl)
theorem st_setL {l : Addr} {xs : List V} {j : Int} {n : Nat} (h : Val te σ H v) (ho : Val ta σ H (.ref l)) (hi : Val tb σ H (.int j)) (hl : H l = some (.lst xs)) (hj : ixN xs.length j = some n) (k : ∀ H', Bul l H H' → H' l = some (.lst (xs.set n v)) → D.nx σ H') : tAsg te (gSub ta tb rSetL) D σ H :=
  h _ (ho _ (hi _ ⟨l, xs, j, n, rfl, rfl, hl, hj, k _ Bul.set upd_same⟩))
/-- .. where the value comes by a call that changes the heap -/
theorem st_setLH {PV : V → Hp → Prop} {l : Addr} {j : Int} {n : Nat} (h : ValH te σ H PV) (k : ∀ v H1, PV v H1 → ∃ xs, Val ta σ H1 (.ref l) ∧ Val tb σ H1 (.int j) ∧ H1 l = some (.lst xs) ∧ ixN xs.length j = some n ∧ ∀ H', Bul l H1 H' → H' l = some (.lst (xs.set n v)) → D.nx σ H') : tAsg te (gSub ta tb rSetL) D σ H :=
  h _ fun v H1 p => by
    obtain ⟨xs, ho, hi, hl, hj, k⟩ := k v H1 p
    exact ho _ (hi _ ⟨l, xs, j, n, rfl, rfl, hl, hj, k _ Bul.set upd_same⟩)
theorem st_augI {i : Nat} {f : Int → Int → Int} {a b : Int} (hx : σ[i]? = some (some (.int a))) (h : Val te σ H (.int b)) (q : D.nx (σ.set i (some (.int (f a b)))) H) : tAug i te (ipI f) D σ H := ⟨_, hx, h _ ⟨a, b, rfl, rfl, q⟩⟩
/-! ### the same, something behind -/
theorem n_setL {l : Addr} {xs : List V} {j : Int} {n : Nat} (h : Val te σ H v) (ho : Val ta σ H (.ref l)) (hi : Val tb σ H (.int j)) (hl : H l = some (.lst xs)) (hj : ixN xs.length j = some n) (k : ∀ H', Bul l H H' → H' l = some (.lst (xs.set n v)) → tz D σ H') : tSeq (tAsg te (gSub ta tb rSetL)) tz D σ H :=
  st_setL (D := { D with nx := tz D }) h ho hi hl hj k
theorem n_setLH {PV : V → Hp → Prop} {l : Addr} {j : Int} {n : Nat} (h : ValH te σ H PV) (k : ∀ v H1, PV v H1 → ∃ xs, Val ta σ H1 (.ref l) ∧ Val tb σ H1 (.int j) ∧ H1 l = some (.lst xs) ∧ ixN xs.length j = some n ∧ ∀ H', Bul l H1 H' → H' l = some (.lst (xs.set n v)) → tz D σ H') : tSeq (tAsg te (gSub ta tb rSetL)) tz D σ H :=
  st_setLH (D := { D with nx := tz D }) h k
theorem n_set {i : Nat} (h : Val te σ H v) (q : tz D (σ.set i (some v)) H) : tSeq (tAsg te (gName i)) tz D σ H := h _ q
theorem n_setH {i : Nat} {PV : V → Hp → Prop} (h : ValH te σ H PV) (q : ∀ v H', PV v H' → tz D (σ.set i (some v)) H') : tSeq (tAsg te (gName i)) tz D σ H := h _ q
theorem n_call2 {sp : Sp} {i : Nat} {E : XK} (ha : Val ta σ H x) (hb : Val tb σ H y) (h : sp [x, y] H (fun v H' => tz D (σ.set i (some v)) H') E) : tSeq (tAsg (tCall sp [] E (tCons ta (tCons tb tNil))) (gName i)) tz D σ H := ha _ (hb _ h)
theorem n_augI {i : Nat} {f : Int → Int → Int} {a b : Int} (hx : σ[i]? = some (some (.int a))) (h : Val te σ H (.int b)) (q : tz D (σ.set i (some (.int (f a b)))) H) : tSeq (tAug i te (ipI f)) tz D σ H := ⟨_, hx, h _ ⟨a, b, rfl, rfl, q⟩⟩
theorem n_if {b : Bool} (h : Ans t σ H b) (h1 : b = true → t1 { D with nx := tz D } σ H) (h2 : b = false → t2 { D with nx := tz D } σ H) : tSeq (tIfS t t1 t2) tz D σ H := st_if (D := { D with nx := tz D }) h h1 h2
/-- an if without else -/
theorem n_when {b : Bool} (h : Ans t σ H b) (h1 : b = true → t1 { D with nx := tz D } σ H) (h2 : b = false → tz D σ H) : tSeq (tIfS t t1 tNext) tz D σ H := st_if (D := { D with nx := tz D }) h h1 h2
theorem n_while (W : Nat → L2.St → Hp → Prop) (m0 : Nat) (h0 : W m0 σ H) (hs : ∀ m σ' H', W m σ' H' → ∃ b, Ans t σ' H' b ∧ (b = true → t1 ⟨fun σ2 H2 => ∃ m', m' < m ∧ W m' σ2 H2, D.rt, tz D, fun σ2 H2 => ∃ m', m' < m ∧ W m' σ2 H2⟩ σ' H') ∧ (b = false → tz D σ' H')) : tSeq (tWhile t t1) tz D σ H :=
  ⟨W, ⟨m0, h0⟩, fun m σ' H' w => by
    obtain ⟨b, ha, h1, h2⟩ := hs m σ' H' w
    refine ha _ ?_
    cases b with
    | true => exact ⟨_, fun _ _ n => n, h1 rfl⟩
    | false => exact h2 rfl⟩
theorem n_ret (h : Val te σ H v) (q : D.rt v H) : tRet te D σ H := h _ q
/-! ### .. the last one of a block -/
section
variable {F B C : L2.St → Hp → Prop} {R : VK}
theorem e_set {i : Nat} (h : Val te σ H v) (q : F (σ.set i (some v)) H) : tAsg te (gName i) ⟨F, R, B, C⟩ σ H := h _ q
theorem e_setH {i : Nat} {PV : V → Hp → Prop} (h : ValH te σ H PV) (q : ∀ v H', PV v H' → F (σ.set i (some v)) H') : tAsg te (gName i) ⟨F, R, B, C⟩ σ H := h _ q
theorem e_setL {l : Addr} {xs : List V} {j : Int} {n : Nat} (h : Val te σ H v) (ho : Val ta σ H (.ref l)) (hi : Val tb σ H (.int j)) (hl : H l = some (.lst xs)) (hj : ixN xs.length j = some n) (k : ∀ H', Bul l H H' → H' l = some (.lst (xs.set n v)) → F σ H') : tAsg te (gSub ta tb rSetL) ⟨F, R, B, C⟩ σ H := st_setL h ho hi hl hj k
theorem e_setLH {PV : V → Hp → Prop} {l : Addr} {j : Int} {n : Nat} (h : ValH te σ H PV) (k : ∀ v H1, PV v H1 → ∃ xs, Val ta σ H1 (.ref l) ∧ Val tb σ H1 (.int j) ∧ H1 l = some (.lst xs) ∧ ixN xs.length j = some n ∧ ∀ H', Bul l H1 H' → H' l = some (.lst (xs.set n v)) → F σ H') : tAsg te (gSub ta tb rSetL) ⟨F, R, B, C⟩ σ H := st_setLH h k
theorem e_augI {i : Nat} {f : Int → Int → Int} {a b : Int} (hx : σ[i]? = some (some (.int a))) (h : Val te σ H (.int b)) (q : F (σ.set i (some (.int (f a b)))) H) : tAug i te (ipI f) ⟨F, R, B, C⟩ σ H := st_augI hx h q
theorem e_call2 {sp : Sp} {i : Nat} {E : XK} (ha : Val ta σ H x) (hb : Val tb σ H y) (h : sp [x, y] H (fun v H' => F (σ.set i (some v)) H') E) : tAsg (tCall sp [] E (tCons ta (tCons tb tNil))) (gName i) ⟨F, R, B, C⟩ σ H := ha _ (hb _ h)
theorem e_retC2 {sp : Sp} {E : XK} (ha : Val ta σ H x) (hb : Val tb σ H y) (h : sp [x, y] H R E) : tRet (tCall sp [] E (tCons ta (tCons tb tNil))) ⟨F, R, B, C⟩ σ H := ha _ (hb _ h)
theorem e_when {b : Bool} (h : Ans t σ H b) (h1 : b = true → t1 ⟨F, R, B, C⟩ σ H) (h2 : b = false → F σ H) : tIfS t t1 tNext ⟨F, R, B, C⟩ σ H := st_if h h1 h2
theorem e_next (h : F σ H) : tNext ⟨F, R, B, C⟩ σ H := h
theorem e_brk (h : B σ H) : tBreak ⟨F, R, B, C⟩ σ H := h
theorem e_ret (h : Val te σ H v) (q : R v H) : tRet te ⟨F, R, B, C⟩ σ H := h _ q
theorem e_retH {PV : V → Hp → Prop} (h : ValH te σ H PV) (q : ∀ v H', PV v H' → R v H') : tRet te ⟨F, R, B, C⟩ σ H := h _ q
theorem e_drop (h : Val te σ H v) (q : F σ H) : tDrop te ⟨F, R, B, C⟩ σ H := h _ q
theorem e_dropH {PV : V → Hp → Prop} (h : ValH te σ H PV) (q : ∀ v H', PV v H' → F σ H') : tDrop te ⟨F, R, B, C⟩ σ H := h _ q
end
end
theorem cmul_r {i j : Int} (h1 : -18446744073709551616 < j) (h2 : j < 18446744073709551616) : CMul i j := Or.inr ⟨h1, h2⟩
theorem cmul_l {i j : Int} (h1 : -18446744073709551616 < i) (h2 : i < 18446744073709551616) : CMul i j := Or.inl ⟨h1, h2⟩
theorem cdiv_w {i j : Int} (h1 : 0 < j) (h2 : j < 4611686018427387904) : CDivW i j := ⟨h1, by
  have hz : j.natAbs ≠ 0 := by omega
  have := (Nat.log2_lt (n := j.natAbs) (k := 62) hz).mpr (by omega)
  omega⟩
theorem cdiv_l {i j : Int} (h1 : 0 < j) (h2 : j < 1073741824) : CDiv i j := ⟨h1, h2⟩
theorem cpow_l {i j : Int} (h1 : 0 ≤ j) (h2 : j ≤ 1000000) (h3 : i.natAbs < 18446744073709551616) : CPow i j := ⟨h1, h2, h3⟩
/-- a value, by its make; what is left open is asked -/
local macro_rules | `(tactic| walk_at "sql") => `(tactic| first
  | with_reducible assumption
  | exact SqL.of upd_same
  | exact SqL.of (by assumption)
  | assumption)
local macro_rules | `(tactic| walk_at "line") => `(tactic| ((with_reducible show _ ≤ sizeLine); refine size_line ?_; (try rw [S_len]); omega))
local macro_rules | `(tactic| walk_at "cond") => `(tactic| first
  | (with_reducible show CMul _ _; first | exact cmul_r (by omega) (by omega) | exact cmul_l (by omega) (by omega))
  | (with_reducible show CPow _ _; exact cpow_l (by decide) (by decide) (by decide))
  | (with_reducible show CDivW _ _; exact cdiv_w (by first | decide | assumption) (by first | decide | assumption))
  | (with_reducible show CDiv _ _; exact cdiv_l (by first | decide | assumption) (by first | decide | assumption))
  | (with_reducible show (0 : Int) < _; first | decide | assumption))
local macro_rules | `(tactic| walk_at "val") => `(tactic| first
  | with_reducible assumption
  | exact val_var rfl
  | exact val_c
  | ((with_reducible apply val_I0) <;> walk_at "val")
  | ((with_reducible apply val_I) <;> (first | walk_at "cond" | walk_at "val"))
  | ((with_reducible apply val_eq) <;> (first | rfl | walk_at "val"))
  | ((with_reducible apply val_ne) <;> (first | rfl | walk_at "val"))
  | ((with_reducible apply val_int1) <;> walk_at "val")
  | ((with_reducible apply val_neg) <;> walk_at "val")
  | ((with_reducible apply val_ixL) <;> (first | walk_at "val" | walk_at "sql" | rfl))
  | ((with_reducible apply val_lenL) <;> (first | walk_at "val" | walk_at "sql"))
  | ((with_reducible apply val_lenS) <;> (first | walk_at "val" | walk_at "line"))
  | ((with_reducible apply val_ixS) <;> (first | walk_at "val" | walk_at "line" | assumption))
  | ((with_reducible apply val_inC) <;> walk_at "val")
  | ((with_reducible apply val_notInC) <;> walk_at "val")
  | ((with_reducible apply ans_val) <;> walk_at "val")
  | ((with_reducible apply ans_not) <;> walk_at "val")
  | ((with_reducible apply ans_t) <;> walk_at "val"))
abbrev s_fill : Stmt := top 22
theorem sc_fill : FnScope ["d", "number"] ["d"] (defScope s_fill) := ⟨rfl, rfl, rfl, by decide +kernel, rfl, by decide +kernel, by decide +kernel⟩
theorem atI_int {ns : List Int} {i : Int} (h0 : 0 ≤ i) (h : i < (ns.length : Int)) : atI (ns.map V.int) i = some (.int (ns.getD i.toNat 0)) := by
  obtain ⟨n, rfl⟩ : ∃ n : Nat, i = (n : Int) := ⟨i.toNat, by omega⟩
  have hi : n < ns.length := by omega
  refine atI_nat ?_
  rw [List.getElem?_map, List.getElem?_eq_getElem hi]
  simp [List.getD, hi]
theorem atI_end {ns : List Int} (h : ns ≠ []) : atI (ns.map V.int) (-1) = some (.int (ns.getLast h)) := by
  rw [show ns.map V.int = (ns.dropLast.map V.int) ++ [V.int (ns.getLast h)] by
    rw [← List.map_singleton, ← List.map_append, List.dropLast_concat_getLast]]
  exact atI_last _ _
structure BoD (mg : Str → Option Value) : Prop where
  n_len : mg "len" = none
  n_int : mg "int" = none
section
variable {P : Program} {w : World} {K : PySem.W.Frag} {mg : Str → Option Value} {base : Heap}
theorem can_fill (D : At K mg "_law_fill" s_fill ["d"]) (T : BoD mg) : Can P w K mg base CX0 1 "_law_fill" ["d"] (spFill K) := by
  have sc := sc_fill
  refine D.can sc (fun vs H Q E h => ?_) (fun f cdv A outer s H vs Q E hr h => ?_)
  · obtain ⟨d, rfl, _⟩ := h
    rfl
  · obtain ⟨d, rfl, ⟨c, ns, i, r, k, hd, hc, hcd, hi⟩, q⟩ := h
    refine ⟨_, (pss_cons (ps_asg (pe_op op_add (pe_ix ix_list (pv 0) pe_int (fun _ _ => rfl)) pe_int) (pg_sub (pv 0) pe_int set_list))
    (pss_cons (ps_set (i := 1) sc.nd rfl (.inl rfl) (pe_op op_add (pe_op op_mul (pe_ix ix_list (pv 0) pe_int (fun _ _ => rfl)) pe_int) pe_int))
    (pss_cut (ps_if (pt_cmpR op_lt (pe_ix ix_list (pv 0) pe_int (fun _ _ => rfl)) (pe_callB call_len_seq (by rfl) T.n_len PySem.boot_len (pa_cons (pe_ix ix_list (pv 0) pe_int (fun _ _ => rfl)) pa_nil)) (nomark _)) (pss_cons (ps_set (i := 1) sc.nd rfl (.inl rfl) (pe_ix ix_list (pe_ix ix_list (pv 0) pe_int (fun _ _ => rfl)) (pe_ix ix_list (pv 0) pe_int (fun _ _ => rfl)) (fun _ _ => rfl)))
    (pss_cons (ps_asg (pe_op op_add (pe_ix ix_list (pv 0) pe_int (fun _ _ => rfl)) pe_int) (pg_sub (pv 0) pe_int set_list))
    (pss_cons (ps_if (pt_cmpR op_lt (pv 1) pe_int (nomark _)) (pss_one (ps_set (i := 1) sc.nd rfl (.inl rfl) (pe_op op_sub (pe_un un_neg pe_int) (pv 1)))) pss_nil)
    (pss_one (ps_if (pt_cmpR op_ge (pv 1) (pe_op op_pow pe_int pe_int) (nomark _)) (pss_one (ps_ret (pv 1))) pss_nil))))) pss_nil)
    (pss_cut (ps_if (PW.pt (pw_and (pt_truth (pe_ix ix_list (pv 0) pe_int (fun _ _ => rfl)) (by intro _; rfl)) (pw_and1 (pt_cmpR op_ge (pe_ix ix_list (pv 0) pe_int (fun _ _ => rfl)) (pe_callB call_len_seq (by rfl) T.n_len PySem.boot_len (pa_cons (pe_ix ix_list (pv 0) pe_int (fun _ _ => rfl)) pa_nil)) (nomark _))))) (pss_one (ps_set (i := 1) sc.nd rfl (.inl rfl) (pe_op op_add (pv 1) (pe_op op_mod (pe_callTy call_int1 (by rfl) T.n_int (by decide +kernel) (pa_cons (pe_ix ix_list (pe_ix ix_list (pv 0) pe_int (fun _ _ => rfl)) (pe_un un_neg pe_int) (fun _ _ => rfl)) pa_nil)) pe_int)))) pss_nil)
    (pss_cons (ps_set (i := 1) sc.nd rfl (.inl rfl) (pe_op op_mod (pe_callTy call_int1 (by rfl) T.n_int (by decide +kernel) (pa_cons (pe_op op_add (pe_op op_mul (pv 1) pe_int) (pe_op op_mul (pe_ix ix_list (pv 0) pe_int (fun _ _ => rfl)) pe_int)) pa_nil)) pe_int))
    (pss_one (ps_ret (pe_op op_add (pe_op op_mod (pe_callTy call_int1 (by rfl) T.n_int (by decide +kernel) (pa_cons (pe_op op_add (pe_op op_add (pe_op op_mul (pv 1) (pv 1)) (pe_op op_mul (pe_ix ix_list (pv 0) pe_int (fun _ _ => rfl)) pe_int)) pe_int) pa_nil)) pe_int) pe_int)))))))), ?_⟩
    have hd0 := hd
    -- d[3] = d[3] + 1
    refine (n_setL (l := d) (by walk_at "val") (by walk_at "val") (by walk_at "val") hd rfl fun H1 b1 hd => ?_)
    have hc := b1 _ _ hcd hc
    -- number = d[3] * 69621 + 12345
    refine (n_set (by walk_at "val") ?_)
    -- if d[1] < len(d[0])
    refine q_cut (M := fun σ' H' => ∃ (n i r k : Int), σ' = [some (.ref d), some (.int n)] ∧ Bul d H1 H' ∧ H' d = some (.lst [.ref c, .int i, .int r, .int k]) ∧ 0 ≤ i) ?_ ?_
    · refine e_when (by walk_at "val") (fun hb => ?_) (fun hb => ?_)
      · have hb : i < (ns.length : Int) := by
          have := of_decide_eq_true hb
          rw [List.length_map] at this
          exact this
        refine n_set (val_ixL (p := c) (i := i) (by walk_at "val") (by walk_at "val") (SqL.of hc) (atI_int hi hb)) ?_
        refine (n_setL (l := d) (by walk_at "val") (by walk_at "val") (by walk_at "val") hd rfl fun H2 b2 hd => ?_)
        refine n_when (by walk_at "val") (fun _ => ?_) (fun _ => ?_)
        · refine e_set (by walk_at "val") ?_
          refine e_when (by walk_at "val") (fun _ => ?_) (fun _ => ?_)
          · exact e_ret (by walk_at "val") (q _ _ (.mk1 (b1.trans b2) hd0 hd) ⟨c, ns, _, _, _, hd, b2 _ _ hcd hc, hcd, by omega⟩)
          · exact ⟨_, _, _, _, rfl, b2, hd, by omega⟩
        · refine e_when (by walk_at "val") (fun _ => ?_) (fun _ => ?_)
          · exact e_ret (by walk_at "val") (q _ _ (.mk1 (b1.trans b2) hd0 hd) ⟨c, ns, _, _, _, hd, b2 _ _ hcd hc, hcd, by omega⟩)
          · exact ⟨_, _, _, _, rfl, b2, hd, by omega⟩
      · exact ⟨_, i, r, _, rfl, .refl, hd, hi⟩
    · rintro σ' H2 ⟨n, i, r, k, rfl, b2, hd, hi⟩
      have hc := b2 _ _ hcd hc
      refine q_cut (M := fun σ' H' => ∃ (n : Int), σ' = [some (.ref d), some (.int n)] ∧ H' = H2) ?_ ?_
      · have key : Ans (tTest (tOp (rI0 fun i j => V.bl (decide (j ≤ i))) (tOp (rIxL K) (tVar 0) (tC (V.int 1))) (tCB (fun xs H Q => ∃ p ys, xs = [.ref p] ∧ (SqL K H p ys ∨ SqT K H p ys) ∧ Q (.int ys.length) H) (tCons (tOp (rIxL K) (tVar 0) (tC (V.int 0))) tNil)))) [some (.ref d), some (.int n)] H2 (decide ((ns.map V.int).length ≤ i)) := by walk_at "val"
        refine e_when (ans_and3 (ans_truL (p := c) (by walk_at "val") (SqL.of hc)) fun _ => key) (fun hb => ?_) (fun _ => ?_)
        · have hne : ns ≠ [] := by
            rintro rfl
            simp at hb
          exact e_set (val_I0 (by walk_at "val") (val_I (val_int1 (val_ixL (p := c) (by walk_at "val") (by walk_at "val") (SqL.of hc) (atI_end hne))) val_c (by walk_at "cond"))) ⟨_, rfl, rfl⟩
        · exact ⟨_, rfl, rfl⟩
      · rintro σ' H3 ⟨n, rfl, rfl⟩
        refine n_set (by walk_at "val") ?_
        refine e_ret (val_I0 (val_I (val_int1 (val_I0 (val_I0 (val_I (val_var rfl) (val_var rfl) (cmul_l ?_ ?_)) (by walk_at "val")) (by walk_at "val"))) val_c (by walk_at "cond")) val_c) (q _ _ (.mk1 (b1.trans b2) hd0 hd) ⟨c, ns, _, _, _, hd, hc, hcd, hi⟩)
        · omega
        · omega
end
abbrev s_take : Stmt := top 23
theorem sc_take : FnScope ["d", "many", "answer"] ["d", "many"] (defScope s_take) := ⟨rfl, rfl, rfl, by decide +kernel, rfl, by decide +kernel, by decide +kernel⟩
abbrev s_start : Stmt := top 21
theorem sc_start : FnScope ["script", "cell"] ["script"] (defScope s_start) := ⟨rfl, rfl, rfl, by decide +kernel, rfl, by decide +kernel, by decide +kernel⟩
/-- a call by a promise -/
theorem valH_can1 {sp : Sp} {ta : TE} {σ : L2.St} {H : Hp} {x : V} {PV : V → Hp → Prop} {E : XK} (ha : Val ta σ H x) (h : ∀ Q : VK, (∀ v H', PV v H' → Q v H') → sp [x] H Q E) : ValH (tCall sp [] E (tCons ta tNil)) σ H PV := fun Q q => ha _ (h Q q)
theorem valH_can2 {sp : Sp} {ta tb : TE} {σ : L2.St} {H : Hp} {x y : V} {PV : V → Hp → Prop} {E : XK} (ha : Val ta σ H x) (hb : Val tb σ H y) (h : ∀ Q : VK, (∀ v H', PV v H' → Q v H') → sp [x, y] H Q E) : ValH (tCall sp [] E (tCons ta (tCons tb tNil))) σ H PV := fun Q q => ha _ (hb _ (h Q q))
theorem val_can1 {sp : Sp} {ta : TE} {σ : L2.St} {H : Hp} {x v : V} {E : XK} (ha : Val ta σ H x) (h : ∀ Q : VK, Q v H → sp [x] H Q E) : Val (tCall sp [] E (tCons ta tNil)) σ H v := fun Q q => ha _ (h Q q)
theorem val_can2 {sp : Sp} {ta tb : TE} {σ : L2.St} {H : Hp} {x y v : V} {E : XK} (ha : Val ta σ H x) (hb : Val tb σ H y) (h : ∀ Q : VK, Q v H → sp [x, y] H Q E) : Val (tCall sp [] E (tCons ta (tCons tb tNil))) σ H v := fun Q q => ha _ (hb _ (h Q q))
/-- what a draw leaves -/
def Drawn1 (K : PySem.W.Frag) (d : Addr) (H : Hp) (many : Int) (v : V) (H' : Hp) : Prop := ∃ i : Int, v = .int i ∧ 0 ≤ i ∧ i < many ∧ But d H H' ∧ DSt K H' d
theorem valH_take {K : PySem.W.Frag} {ta tb : TE} {σ : L2.St} {H : Hp} {d : Addr} {many : Int} {E : XK} (ha : Val ta σ H (.ref d)) (hb : Val tb σ H (.int many)) (S : DSt K H d) (h0 : 0 < many) (h1 : many < 4611686018427387904) :
    ValH (tCall (spTake K) [] E (tCons ta (tCons tb tNil))) σ H (Drawn1 K d H many) :=
  valH_can2 ha hb fun Q q => ⟨d, many, rfl, S, h0, h1, fun v H' b s l1 l2 => q _ _ ⟨v, rfl, l1, l2, b, s⟩⟩
section
variable {P : Program} {w : World} {K : PySem.W.Frag} {mg : Str → Option Value} {base : Heap}
theorem can_take (D : At K mg "_law_take" s_take ["d", "many"]) (T : BoD mg) (C__law_fill : Can P w K mg base CX0 1 "_law_fill" ["d"] (spFill K)) : Can P w K mg base CX0 2 "_law_take" ["d", "many"] (spTake K) := by
  have sc := sc_take
  refine D.can sc (fun vs H Q E h => ?_) (fun f cdv A outer s H vs Q E hr h => ?_)
  · obtain ⟨d, m, rfl, _⟩ := h
    rfl
  · obtain ⟨d, m, rfl, ⟨c, ns, i, r, k, hd, hc, hcd, hi⟩, m0, m1, q⟩ := h
    have hr1 := hr
    refine ⟨_, (pss_cut (ps_if (pt_cmpR op_lt (pe_ix ix_list (pv 0) pe_int (fun _ _ => rfl)) (pv 1) (nomark _)) (pss_one (ps_asg (pe_can C__law_fill (hr.mono (by omega)) rfl pass0 (pa_cons (pv 0) pa_nil)) (pg_sub (pv 0) pe_int set_list))) pss_nil)
    (pss_cons (ps_set (i := 2) sc.nd rfl (.inl rfl) (pe_op op_mod (pe_callTy call_int1 (by rfl) T.n_int (by decide +kernel) (pa_cons (pe_ix ix_list (pv 0) pe_int (fun _ _ => rfl)) pa_nil)) (pv 1)))
    (pss_cons (ps_asg (pe_op op_fdivW (pe_ix ix_list (pv 0) pe_int (fun _ _ => rfl)) (pv 1)) (pg_sub (pv 0) pe_int set_list))
    (pss_one (ps_ret (pv 2)))))), ?_⟩
    -- if d[2] < many: d[2] = _law_fill(d)
    refine q_cut (M := fun σ' H' => ∃ (c : Addr) (ns : List Int) (i r k : Int), σ' = [some (.ref d), some (.int m), none] ∧ But d H H' ∧ H' d = some (.lst [.ref c, .int i, .int r, .int k]) ∧ H' c = some (.lst (ns.map V.int)) ∧ c ≠ d ∧ 0 ≤ i) ?_ ?_
    · refine e_when (by walk_at "val") (fun _ => ?_) (fun _ => ⟨c, ns, i, r, k, rfl, .refl, hd, hc, hcd, hi⟩)
      refine e_setLH (j := 2) (n := 2) (PV := fun v H' => ∃ n : Int, v = .int n ∧ But d H H' ∧ DSt K H' d) (l := d) (valH_can1 (by walk_at "val") fun Q q => ⟨d, rfl, ⟨c, ns, i, r, k, hd, hc, hcd, hi⟩, fun v H' b S => q _ _ ⟨v, rfl, b, S⟩⟩) ?_
      rintro v H1 ⟨n, rfl, b1, c, ns, i, r, k, hd, hc, hcd, hi⟩
      have hd0 := hd
      refine ⟨_, by walk_at "val", by walk_at "val", hd, rfl, fun H2 b2 hd => ?_⟩
      exact ⟨c, ns, i, n, k, rfl, b1.trans (.mk1 b2 hd0 hd), hd, b2 _ _ hcd hc, hcd, hi⟩
    · rintro σ' H1 ⟨c, ns, i, r, k, rfl, b1, hd, hc, hcd, hi⟩
      refine n_set (by walk_at "val") ?_
      have hd0 := hd
      refine n_setL (l := d) (by walk_at "val") (by walk_at "val") (by walk_at "val") hd rfl fun H2 b2 hd => ?_
      refine e_ret (by walk_at "val") (q _ _ (b1.trans (.mk1 b2 hd0 hd)) ⟨c, ns, _, _, _, hd, b2 _ _ hcd hc, hcd, hi⟩ (Int.emod_nonneg _ (by omega)) (Int.emod_lt_of_pos _ m0))
/-- _law_start(script): the drawing of the script's numbers -/
def spStart (K : PySem.W.Frag) : Sp := fun vs H Q _ => ∃ (a : Addr) (ns : List Int), vs = [.ref a] ∧ SqL K H a (ns.map V.int) ∧ ns.length ≤ 63 ∧ ∀ (d : Addr) (H' : Hp), H d = none → Ex H H' → DSt K H' d → Q (.ref d) H'
theorem can_start (D : At K mg "_law_start" s_start ["script"]) (T : BoD mg) : Can P w K mg base CX0 1 "_law_start" ["script"] (spStart K) := by
  have sc := sc_start
  refine D.can sc (fun vs H Q E h => ?_) (fun f cdv A outer s H vs Q E hr h => ?_)
  · obtain ⟨a, ns, rfl, _⟩ := h
    rfl
  · obtain ⟨a, ns, rfl, ha, hl, q⟩ := h
    refine ⟨_, pss_one (ps_ret (pe_lst (pa_cons (pe_lc (own := [("cell", 1)]) (g := gName 1) (tt := tYes) rfl sc.nd (pi_list (pe_slice sl_list (pv 0) po_none (po_some pe_int))) (blkOk_by (N := ["script", "cell"]) (sc := defScope s_start) (by decide +kernel)) (fun _ _ _ _ _ => pg_name (i := 1) sc.nd rfl (Or.inl rfl)) (fun _ _ _ _ _ => pts_nil)
      (fun _ _ _ _ _ => (pe_callTy call_int1 (by rfl) T.n_int (by decide +kernel) (pa_cons (pv 1) pa_nil)))) (pa_cons pe_int (pa_cons pe_int (pa_cons pe_int pa_nil)))))), ?_⟩
    refine ⟨.ref a, rfl, 63, rfl, a, _, rfl, ha, fun p hp => ?_⟩
    have hcut : cutV (ns.map V.int) none (some 63) = ns.map V.int := by
      unfold cutV
      rw [HT.sIx_none, show HT.sIx (ns.map V.int).length (ns.map V.int).length (some 63) = min 63 (ns.map V.int).length from HT.sIx_nat _ _ 63]
      rw [Nat.min_eq_right (by rw [List.length_map]; exact hl), List.drop_zero, Nat.sub_zero, List.take_length]
    rw [hcut]
    refine ⟨p, rfl, ⟨_, SqL.of upd_same⟩, fun D hD => ?_⟩
    have nDp : D ≠ p := fun e => by
      rw [e, upd_same] at hD
      cases hD
    have hDH : H D = Option.none := by
      rw [upd_ne nDp] at hD
      exact hD
    refine lc_list (xs := ns.map V.int) (fun i H' => Ex H H' ∧ H' p = some (.lst (ns.map V.int)) ∧ H' D = some (.lst ((ns.take i).map V.int))) ⟨?_, ?_, upd_same⟩ (fun i H' _ ⟨_, h, _⟩ => SqL.of h) ?_ ?_
    · intro b o e
      rw [upd_ne (ne_of_none e hDH), upd_ne (ne_of_none e hp)]
      exact e
    · rw [upd_ne nDp.symm, upd_same]
    · rintro i x H' hx ⟨hE, h1, h2⟩
      obtain ⟨n, hn, rfl⟩ : ∃ n, ns[i]? = some n ∧ x = V.int n := by
        rw [List.getElem?_map] at hx
        cases e : ns[i]? with
        | none => rw [e] at hx; cases hx
        | some n => rw [e] at hx; exact ⟨n, rfl, (Option.some.inj hx).symm⟩
      refine ⟨rfl, ?_⟩
      refine ⟨_, rfl, .inl ⟨n, rfl, ?_⟩⟩
      refine ⟨_, h2, ?_, ?_, ?_, ?_⟩
      · rw [List.length_map, List.length_take]
        exact Nat.lt_of_le_of_lt (Nat.min_le_right _ _) (Nat.lt_of_le_of_lt hl (by decide))
      · intro b o e
        rw [upd_ne (ne_of_none e hDH)]
        exact hE _ _ e
      · rw [upd_ne nDp.symm]
        exact h1
      · rw [upd_same, List.take_add_one, hn, List.map_append]
        rfl
    · rintro H' ⟨hE, h1, h2⟩
      rw [List.length_map, List.take_length] at h2
      refine ⟨by show 4 ≤ sizeLine; decide, fun d hd => ?_⟩
      have ndD : D ≠ d := ne_of_none h2 hd
      refine q d _ (fresh_back hE hd) (hE.trans (Ex.new hd)) ⟨D, ns, 0, 0, 0, upd_same, by rw [upd_ne ndD]; exact h2, ndD, by omega⟩
end
theorem cut_S (t : List Nat) (a b : Nat) : cutS (S t) (some (a : Int)) (some (b : Int)) = S ((t.drop a).take (b - a)) := by
  unfold cutS
  rw [S_list, S_len, HT.sIx_nat, HT.sIx_nat]
  show S _ = S _
  congr 1
  by_cases ha : a ≤ t.length
  · have e1 : min a t.length = a := Nat.min_eq_left ha
    rw [e1]
    by_cases hb : b ≤ t.length
    · have e2 : min b t.length = b := Nat.min_eq_left hb
      rw [e2]
    · have e2 : min b t.length = t.length := Nat.min_eq_right (by omega)
      rw [e2, List.take_of_length_le (by rw [List.length_drop]; omega), List.take_of_length_le (by rw [List.length_drop]; omega)]
  · have e1 : min a t.length = t.length := Nat.min_eq_right (by omega)
    rw [e1, List.drop_eq_nil_of_le (Nat.le_refl _), List.drop_eq_nil_of_le (by omega)]
    simp
theorem at_S {t : List Nat} {k : Nat} {c : Nat} {r : List Nat} (h : t.drop k = c :: r) : atI (S t).cps.toList (k : Int) = some c := by
  rw [S_list]
  refine atI_nat ?_
  have := congrArg List.head? h
  rw [List.head?_drop] at this
  exact this
theorem drop_next {t : List Nat} {k c : Nat} {r : List Nat} (h : t.drop k = c :: r) : t.drop (k + 1) = r := by
  rw [← List.tail_drop, h]
  rfl
theorem drop_lt {t : List Nat} {k c : Nat} {r : List Nat} (h : t.drop k = c :: r) : k < t.length := by
  have := congrArg List.length h
  rw [List.length_drop, List.length_cons] at this
  omega
theorem drop_some {t : List Nat} {k : Nat} (h : k < t.length) : ∃ c r, t.drop k = c :: r := by
  cases e : t.drop k with
  | nil =>
    have := congrArg List.length e
    rw [List.length_drop, List.length_nil] at this
    omega
  | cons c r => exact ⟨c, r, rfl⟩
theorem drop_none {t : List Nat} {k : Nat} (h : ¬ k < t.length) : t.drop k = [] := List.drop_eq_nil_of_le (by omega)
/-- the place at which a rest begins -/
def pl (t r : List Nat) : Nat := t.length - r.length
theorem pl_drop {t : List Nat} {k : Nat} (h : k ≤ t.length) : pl t (t.drop k) = k := by
  unfold pl
  rw [List.length_drop]
  omega
def starts2 (a b : Nat) (l : List Nat) : Bool := decide (l.head? = some a ∧ l.tail.head? = some b)
theorem sw_S (t : List Nat) (a b k : Nat) : Txt.startswith3 (S t) (S [a, b]) (k : Int) = starts2 a b (t.drop k) := by
  unfold Txt.startswith3
  have e : fromIndex (S t).length (k : Int) = k := by
    unfold fromIndex
    rw [if_neg (by omega)]
    omega
  rw [e, S_len, S_len]
  unfold Builtin.Str.subAt
  rw [S_len]
  show (decide (k + 2 ≤ t.length) && (t.toArray.extract k (k + 2) == [a, b].toArray)) = _
  rw [List.extract_toArray]
  have hx : ((List.extract t k (k + 2)).toArray == [a, b].toArray) = (List.extract t k (k + 2) == [a, b]) := by
    rw [Bool.eq_iff_iff]
    simp
  rw [hx]
  have hy : List.extract t k (k + 2) = (t.drop k).take 2 := by
    simp [List.extract]
  rw [hy]
  unfold starts2
  cases e1 : t.drop k with
  | nil =>
    have : t.length ≤ k := by
      have := congrArg List.length e1
      rw [List.length_drop, List.length_nil] at this
      omega
    rw [Bool.eq_iff_iff]
    simp
  | cons c r =>
    have hl := congrArg List.length e1
    rw [List.length_drop, List.length_cons] at hl
    cases r with
    | nil =>
      rw [Bool.eq_iff_iff]
      simp
    | cons c2 r2 =>
      rw [List.length_cons] at hl
      rw [Bool.eq_iff_iff]
      simp
      omega
/-! ### what the program reads -/
def sLOWER : Str := "abcdefghijklmnopqrstuvwxyz"
def sUPPER : Str := "ABCDEFGHIJKLMNOPQRSTUVWXYZ"
def sLETTERS : Str := "abcdefghijklmnopqrstuvwxyzABCDEFGHIJKLMNOPQRSTUVWXYZ"
def sDIGITS : Str := "0123456789"
def sTAIL : Str := "abcdefghijklmnopqrstuvwxyzABCDEFGHIJKLMNOPQRSTUVWXYZ0123456789_'"
def sSHORT : Str := "()[],;:=|_.*+-^<>!~"
def lWORDS : List Str := ["and", "andalso", "case", "datatype", "div", "else", "end", "exception", "fn", "fun", "functor", "handle", "if", "in", "let", "mod", "of", "open", "orelse", "raise", "sig", "signature", "struct", "structure", "then", "type", "val", "where"]
def lLONG : List Str := [":>", "=>", "->", "::", "<=", ">=", "<>", ":="]
def inS (c : Nat) (z : Str) : Bool := decide (c ∈ z.cps.toList)
def tailN : List Nat → Nat
  | [] => 0
  | c :: r => if inS c sTAIL = true then tailN r + 1 else 0
theorem tailN_le : ∀ l, tailN l ≤ l.length
  | [] => Nat.le_refl _
  | c :: r => by
    unfold tailN
    split
    · rw [List.length_cons]
      exact Nat.succ_le_succ (tailN_le r)
    · exact Nat.zero_le _
/-- the rest behind blanks and comments: st is where the outermost comment begins, d how many are open; true: the next sign belongs to the one ahead -/
def blanks : List Nat → Nat → Bool → List Nat → Except (List Nat) (List Nat)
  | st, _, true, [] => .error st
  | st, d, true, _ :: r => blanks st d false r
  | _, 0, false, [] => .ok []
  | st, 0, false, c :: r => if c = 32 ∨ c = 10 then blanks st 0 false r else if starts2 40 42 (c :: r) = true then blanks (c :: r) 1 true r else .ok (c :: r)
  | st, _ + 1, false, [] => .error st
  | st, d + 1, false, c :: r => if starts2 40 42 (c :: r) = true then blanks st (d + 2) true r else if starts2 42 41 (c :: r) = true then blanks st d true r else blanks st (d + 1) false r
/-- the rest behind a comment of which d are open -/
def comm : Nat → Bool → List Nat → Option (List Nat)
  | _, true, [] => none
  | d, true, _ :: r => comm d false r
  | 0, false, l => some l
  | _ + 1, false, [] => none
  | d + 1, false, c :: r => if starts2 40 42 (c :: r) = true then comm (d + 2) true r else if starts2 42 41 (c :: r) = true then comm d true r else comm (d + 1) false r
theorem comm0 (l : List Nat) : comm 0 false l = some l := by
  cases l <;> rfl
theorem blanks_comm (st : List Nat) : ∀ (l : List Nat) (d : Nat) (b : Bool), blanks st d b l = (match comm d b l with | some r => blanks st 0 false r | none => .error st)
  | [], d, true => rfl
  | c :: r, d, true => by
    show blanks st d false r = match comm d false r with | some r => blanks st 0 false r | none => .error st
    exact blanks_comm st r d false
  | l, 0, false => by rw [comm0]
  | [], d + 1, false => rfl
  | c :: r, d + 1, false => by
    have i1 := blanks_comm st r (d + 2) true
    have i2 := blanks_comm st r d true
    have i3 := blanks_comm st r (d + 1) false
    by_cases h1 : starts2 40 42 (c :: r) = true
    · have e1 : blanks st (d + 1) false (c :: r) = blanks st (d + 2) true r := if_pos h1
      have e2 : comm (d + 1) false (c :: r) = comm (d + 2) true r := if_pos h1
      rw [e1, e2, i1]
    · by_cases h2 : starts2 42 41 (c :: r) = true
      · have e1 : blanks st (d + 1) false (c :: r) = blanks st d true r := (if_neg h1).trans (if_pos h2)
        have e2 : comm (d + 1) false (c :: r) = comm d true r := (if_neg h1).trans (if_pos h2)
        rw [e1, e2, i2]
      · have e1 : blanks st (d + 1) false (c :: r) = blanks st (d + 1) false r := (if_neg h1).trans (if_neg h2)
        have e2 : comm (d + 1) false (c :: r) = comm (d + 1) false r := (if_neg h1).trans (if_neg h2)
        rw [e1, e2, i3]
theorem blanks_st (st st' : List Nat) : ∀ (l : List Nat), blanks st 0 false l = blanks st' 0 false l
  | [] => rfl
  | c :: r => by
    show (if c = 32 ∨ c = 10 then blanks st 0 false r else _) = (if c = 32 ∨ c = 10 then blanks st' 0 false r else _)
    rw [blanks_st st st' r]
/-! ### draws within expressions -/
theorem atI_at {α : Type} {xs : List α} {i : Int} (h0 : 0 ≤ i) (h : i.toNat < xs.length) : atI xs i = some xs[i.toNat] := by
  obtain ⟨n, rfl⟩ : ∃ n : Nat, i = (n : Int) := ⟨i.toNat, by omega⟩
  exact atI_nat (j := n) (List.getElem?_eq_getElem h)
section
variable {K : PySem.W.Frag} {σ : L2.St} {H : Hp} {ta tb td tn te : TE} {x y v : V} {d : Addr} {n : Int} {E : XK} {D : Ends} {tz t1 : TS} {F B C : L2.St → Hp → Prop} {R : VK}
/-- a sign of a text, drawn -/
theorem valH_pickS {l : List Nat} (ha : Val ta σ H (.str (S l))) (hd : Val td σ H (.ref d)) (hn : Val tn σ H (.int n)) (SD : DSt K H d) (hl : (l.length : Int) = n) (h0 : 0 < n) (h1 : n < 4611686018427387904) (hz : l.length ≤ 50000) :
    ValH (tOp rIxS ta (tCall (spTake K) [] E (tCons td (tCons tn tNil)))) σ H (fun v H' => ∃ c ∈ l, v = .str (S [c]) ∧ But d H H' ∧ DSt K H' d) := fun Q q =>
  ha _ (valH_take hd hn SD h0 h1 _ fun v H' ⟨i, e, i0, i1, b, S1⟩ => by
    subst e
    have hi : i.toNat < l.length := by omega
    have hg : l[i.toNat]? = some l[i.toNat] := List.getElem?_eq_getElem hi
    refine ⟨S l, i, l[i.toNat], rfl, rfl, size_line (by rw [S_len]; omega), ?_, q _ _ ⟨_, List.getElem_mem hi, rfl, b, S1⟩⟩
    exact atI_at i0 hi)
/-- .. put behind a text -/
theorem valH_addS {PV : V → Hp → Prop} {a : Str} (ha : Val ta σ H (.str a)) (hb : ValH tb σ H PV) (hv : ∀ v H', PV v H' → ∃ b : Str, v = .str b ∧ a.length + b.length ≤ sizeLine) :
    ValH (tOp (fun x y H Q => ∃ i j, x = .str i ∧ y = .str j ∧ i.length + j.length ≤ sizeLine ∧ Q (.str (i ++ j)) H) ta tb) σ H (fun v H' => ∃ b, PV (.str b) H' ∧ v = .str (a ++ b)) := fun Q q =>
  ha _ (hb _ fun v H' p => by
    obtain ⟨b, rfl, hl⟩ := hv v H' p
    exact ⟨a, b, rfl, rfl, hl, q _ _ ⟨b, p, rfl⟩⟩)
/-- an item of a written list of texts, drawn -/
def ValA (ta : TA) (σ : L2.St) (vs : List V) : Prop := ∀ (H : Hp) (Q : List V → Hp → Prop), Q vs H → ta σ H Q
theorem va_nil : ValA tNil σ [] := fun _ _ q => q
theorem va_c {tr : TA} {vs : List V} (h : ValA tr σ vs) : ValA (tCons (tC v) tr) σ (v :: vs) := fun H _ q => h H _ q
theorem va_v {tr : TA} {vs : List V} {i : Nat} (e : σ[i]? = some (some v)) (h : ValA tr σ vs) : ValA (tCons (tVar i) tr) σ (v :: vs) := fun H _ q => ⟨v, e, h H _ q⟩
theorem valH_pickL {ta : TA} {vs : List V} (ha : ValA ta σ vs) (hd : ∀ H, Val td σ H (.ref d)) (hn : ∀ H, Val tn σ H (.int n)) (SD : DSt K H d) (hl : (vs.length : Int) = n) (h0 : 0 < n) (h1 : n < 1000) :
    ValH (tOp (rIxL K) (tLst ta) (tCall (spTake K) [] E (tCons td (tCons tn tNil)))) σ H (fun v H' => v ∈ vs ∧ But d H H' ∧ DSt K H' d) := fun Q q =>
  ha H _ ⟨size_line (by omega), fun p hp => valH_take (hd _) (hn _) (SD.ex (Ex.new hp)) h0 (by omega) _ fun v H' ⟨i, e, i0, i1, b, S1⟩ => by
    subst e
    have hi : i.toNat < vs.length := by omega
    have hg : vs[i.toNat]? = some vs[i.toNat] := List.getElem?_eq_getElem hi
    obtain ⟨c, ns, i2, r, k, hd2, _⟩ := SD
    have npd : p ≠ d := (ne_of_none hd2 hp).symm
    refine ⟨p, vs, i, vs[i.toNat], rfl, rfl, SqL.of (b _ _ npd upd_same), ?_, q _ _ ⟨List.getElem_mem hi, (But.of (Ex.new hp)).trans b, S1⟩⟩
    exact atI_at i0 hi⟩
/-- an item of a list that stands, drawn -/
theorem valH_pickV {a : Addr} {vs : List V} (ha : Val ta σ H (.ref a)) (hL : H a = some (.lst vs)) (nad : a ≠ d) (hd : Val td σ H (.ref d)) (hn : Val tn σ H (.int n)) (SD : DSt K H d) (hl : (vs.length : Int) = n) (h0 : 0 < n) (h1 : n < 4611686018427387904) :
    ValH (tOp (rIxL K) ta (tCall (spTake K) [] E (tCons td (tCons tn tNil)))) σ H (fun v H' => v ∈ vs ∧ But d H H' ∧ DSt K H' d) := fun Q q =>
  ha _ (valH_take hd hn SD h0 h1 _ fun v H' ⟨i, e, i0, i1, b, S1⟩ => by
    subst e
    have hi : i.toNat < vs.length := by omega
    have hg : vs[i.toNat]? = some vs[i.toNat] := List.getElem?_eq_getElem hi
    refine ⟨a, vs, i, vs[i.toNat], rfl, rfl, SqL.of (b _ _ nad hL), ?_, q _ _ ⟨List.getElem_mem hi, b, S1⟩⟩
    exact atI_at i0 hi)
theorem digit_str (i : Int) (h0 : 0 ≤ i) (h1 : i < 10) : ∃ c, (Str.ofString (toString i)) = S [c] ∧ inS c sDIGITS = true ∧ (c = 48 ↔ i = 0) := by
  have h : i = 0 ∨ i = 1 ∨ i = 2 ∨ i = 3 ∨ i = 4 ∨ i = 5 ∨ i = 6 ∨ i = 7 ∨ i = 8 ∨ i = 9 := by omega
  rcases h with rfl | rfl | rfl | rfl | rfl | rfl | rfl | rfl | rfl | rfl
  · exact ⟨48, by decide +kernel, by decide +kernel, by decide⟩
  · exact ⟨49, by decide +kernel, by decide +kernel, by decide⟩
  · exact ⟨50, by decide +kernel, by decide +kernel, by decide⟩
  · exact ⟨51, by decide +kernel, by decide +kernel, by decide⟩
  · exact ⟨52, by decide +kernel, by decide +kernel, by decide⟩
  · exact ⟨53, by decide +kernel, by decide +kernel, by decide⟩
  · exact ⟨54, by decide +kernel, by decide +kernel, by decide⟩
  · exact ⟨55, by decide +kernel, by decide +kernel, by decide⟩
  · exact ⟨56, by decide +kernel, by decide +kernel, by decide⟩
  · exact ⟨57, by decide +kernel, by decide +kernel, by decide⟩
theorem log_small {i : Int} (h0 : 0 ≤ i) (h1 : i < 100000) : i.natAbs.log2 < 1920 := by
  have h : i.natAbs < 2 ^ 17 := by omega
  have := (Nat.log2_lt (n := i.natAbs) (k := 17))
  by_cases hz : i.natAbs = 0
  · rw [hz]
    decide
  · have := (Nat.log2_lt hz).mpr h
    omega
/-- str of a drawn digit -/
theorem valH_strD (hd : Val td σ H (.ref d)) (hn : Val tn σ H (.int 10)) (SD : DSt K H d) :
    ValH (tCB (fun xs H Q => ∃ i, xs = [.int i] ∧ i.natAbs.log2 < 1920 ∧ Q (.str (toString i)) H) (tCons (tCall (spTake K) [] E (tCons td (tCons tn tNil))) tNil)) σ H (fun v H' => ∃ c, v = .str (S [c]) ∧ inS c sDIGITS = true ∧ But d H H' ∧ DSt K H' d) := fun Q q =>
  valH_take hd hn SD (by decide) (by decide) _ fun v H' ⟨i, e, i0, i1, b, S1⟩ => by
    subst e
    obtain ⟨c, hc, h2, _⟩ := digit_str i i0 i1
    exact ⟨i, rfl, log_small i0 (by omega), q _ _ ⟨c, by rw [← hc], h2, b, S1⟩⟩
/-- for k in range(n) -/
theorem n_forR {j : Nat} (h : Val te σ H (.int n)) (h0 : 0 ≤ n) (h1 : n ≤ 100000) (Pv : Nat → L2.St → Hp → Prop) (hs0 : Pv 0 σ H) (hs : ∀ (i : Nat) σ' H', (i : Int) < n → Pv i σ' H' → t1 ⟨Pv (i + 1), D.rt, tz D, Pv (i + 1)⟩ (σ'.set j (some (.int (i : Int)))) H')
    (hd : ∀ σ' H', Pv n.toNat σ' H' → tz D σ' H') : tSeq (tFor (iRng1 (tCons te tNil)) (gName j) t1) tz D σ H :=
  h _ ⟨n, rfl, by omega, by omega, for_range (lo := 0) (n := n.toNat) Pv hs0 (fun i σ' H' hi p => by
    have e0 : (0 : Int) + (i : Int) = (i : Int) := Int.zero_add _
    show t1 _ (σ'.set j (some (.int ((0 : Int) + (i : Int))))) H'
    rw [e0]
    exact hs i σ' H' (by omega) p) hd⟩
theorem n_forRH {j : Nat} {PV : V → Hp → Prop} (h : ValH te σ H PV) (k : ∀ v H1, PV v H1 → ∃ n : Int, v = .int n ∧ 0 ≤ n ∧ n ≤ 100000 ∧ ∃ Pv : Nat → L2.St → Hp → Prop, Pv 0 σ H1 ∧ (∀ (i : Nat) σ' H', (i : Int) < n → Pv i σ' H' → t1 ⟨Pv (i + 1), D.rt, tz D, Pv (i + 1)⟩ (σ'.set j (some (.int (i : Int)))) H') ∧ ∀ σ' H', Pv n.toNat σ' H' → tz D σ' H') : tSeq (tFor (iRng1 (tCons te tNil)) (gName j) t1) tz D σ H :=
  h _ fun v H1 p => by
    obtain ⟨n, rfl, h0, h1, Pv, hs0, hs, hd⟩ := k v H1 p
    refine ⟨n, rfl, by omega, by omega, for_range (lo := 0) (n := n.toNat) Pv hs0 (fun i σ' H' hi p => ?_) hd⟩
    have e0 : (0 : Int) + (i : Int) = (i : Int) := Int.zero_add _
    show t1 _ (σ'.set j (some (.int ((0 : Int) + (i : Int))))) H'
    rw [e0]
    exact hs i σ' H' (by omega) p
theorem n_whenH {b : Bool} {t : TT} {PH : Bool → Hp → Prop} (h : ∀ Q : Bool → Hp → Prop, (∀ b H', PH b H' → Q b H') → t σ H Q) (h1 : ∀ H', PH true H' → t1 { D with nx := tz D } σ H') (h2 : ∀ H', PH false H' → tz D σ H') : tSeq (tIfS t t1 tNext) tz D σ H := h _ fun b H' p => by
  cases b with
  | true => exact h1 H' p
  | false => exact h2 H' p
end
/-- the names of the top that are not defs -/
structure Bt (mg : Str → Option Value) : Prop extends BoD mg where
  n_range : mg "range" = none
  n_list : mg "list" = none
  n_tuple : mg "tuple" = none
  n_reversed : mg "reversed" = none
  n_isinstance : mg "isinstance" = none
  n_sum : mg "sum" = none
  n_dict : mg "dict" = none
  n_zip : mg "zip" = none
  LOWER : ∃ tk, mg "LOWER" = some (.str sLOWER tk)
/-- tuple(text): its signs -/
theorem call_tupS {X : Cx} (hc : X.calm = true) : CallR X (.type "tuple") (fun xs H Q => ∃ t : List Nat, xs = [.str (S t)] ∧ t.length ≤ 1000 ∧ ∀ p, H p = none → Q (.ref p) (upd H p (.tup (t.map fun c => V.str (S [c]))))) := by
  intro pins s σ H xs us Q I r h
  obtain ⟨t, rfl, hl, q⟩ := h
  obtain ⟨u, rfl, tk, rfl⟩ := vals1 r
  have hz : (S t).cps.size ≤ sizeLine := size_line (show t.toArray.size ≤ 100000 by simp; omega)
  refine call_tuple_str (hsz := hz) (I.ok.hd hc) (S t) tk fun h' tk' acc hk hacc => ?_
  have I1 : Inv X pins σ H { s with heap := h', toks := tk' } := I.kept (t' := tk') hk
  have hs : acc.size = t.length := by
    rw [hacc.1]
    show t.toArray.size = _
    simp
  have rv : Vals (t.map fun c => V.str (S [c])) acc.toList := vals_of_at (by simp [hs]) fun j x u hx hu => by
    obtain ⟨c, w, hc, e⟩ := hacc.2 j u (by simpa using hu)
    have hc : t[j]? = some c := by
      have : (S t).cps[j]? = some c := hc
      simpa [S] using this
    rw [List.getElem?_map, hc] at hx
    cases hx
    exact ⟨w, e⟩
  exact ⟨.ref h'.objs.size, upd H h'.objs.size (.tup (t.map fun c => V.str (S [c]))), I1.laid (t' := tk') (fun b o e => Heap.get?_push_of_some _ e) (Nat.le_refl _) (show ObjOk X.prog X.w _ _ _ (.tup (t.map fun c => V.str (S [c]))) from ⟨by rw [List.length_map]; exact size_line (by omega), acc.toList, rv, by rw [Array.toArray_toList]; exact IsTup.new _ _⟩), rfl, q _ (I1.hok.fresh (Nat.le_refl _))⟩
/-! ### trees in the heap -/
def Hd.tag : Hd → Str
  | .fn => "fun"
  | .tup => "tuple"
  | .con _ => "con"
def Hd.nm : Hd → Str
  | .con n => n
  | _ => ""
inductive TyAt (H : Hp) : V → Ty → Prop
  | var {p : Addr} {k : Key} : H p = some (.tup [.str "var", kV k]) → TyAt H (.ref p) (.var k)
  | fn {p : Addr} {va vb : V} {a b : Ty} : H p = some (.tup [.str "fun", va, vb]) → TyAt H va a → TyAt H vb b → TyAt H (.ref p) (.node .fn [a, b])
  | tup {p q : Addr} {vs : List V} {ts : List Ty} : H p = some (.tup [.str "tuple", .ref q]) → H q = some (.tup vs) → Paired (TyAt H) vs ts → TyAt H (.ref p) (.node .tup ts)
  | con {p q : Addr} {n : Str} {vs : List V} {ts : List Ty} : H p = some (.tup [.str "con", .str n, .ref q]) → H q = some (.tup vs) → Paired (TyAt H) vs ts → TyAt H (.ref p) (.node (.con n) ts)
/-- tuples stay -/
def Tk (H H' : Hp) : Prop := ∀ p xs, H p = some (.tup xs) → H' p = some (.tup xs)
theorem Tk.of {H H' : Hp} (e : Ex H H') : Tk H H' := fun p xs h => e p _ h
theorem Tk.refl {H : Hp} : Tk H H := fun _ _ h => h
theorem Tk.trans {H H1 H2 : Hp} (a : Tk H H1) (b : Tk H1 H2) : Tk H H2 := fun p xs h => b p xs (a p xs h)
theorem Tk.bul {d : Addr} {H H' : Hp} {o : HO} (b : Bul d H H') (h : H d = some o) (hn : ∀ xs, o ≠ .tup xs) : Tk H H' := fun p xs e => b p _ (fun z => by
  subst z
  rw [h] at e
  exact hn xs (Option.some.inj e)) e
theorem paired_imp {α β : Type} {F G : α → β → Prop} : ∀ {l : List α} {m : List β}, Paired F l m → (∀ b ∈ m, ∀ a, F a b → G a b) → Paired G l m
  | _, _, .nil, _ => .nil
  | _, _, .cons r t, h => .cons (h _ (List.mem_cons_self ..) _ r) (paired_imp t fun b hb => h b (List.mem_cons_of_mem _ hb))
theorem TyAt.mono {H H' : Hp} (k : Tk H H') : ∀ {t : Ty} {v : V}, TyAt H v t → TyAt H' v t := by
  intro t
  induction t using Ty.ind with
  | hv j =>
    intro v h
    cases h with
    | var h => exact .var (k _ _ h)
  | hn h ps ih =>
    intro v hh
    cases hh with
    | fn h a b => exact .fn (k _ _ h) (ih _ (by simp) a) (ih _ (by simp) b)
    | tup h1 h2 r => exact .tup (k _ _ h1) (k _ _ h2) (paired_imp r fun b hb a => ih b hb)
    | con h1 h2 r => exact .con (k _ _ h1) (k _ _ h2) (paired_imp r fun b hb a => ih b hb)
abbrev TsAt (H : Hp) : List V → List Ty → Prop := Paired (TyAt H)
theorem TsAt.mono {H H' : Hp} (k : Tk H H') {vs : List V} {ts : List Ty} (h : TsAt H vs ts) : TsAt H' vs ts := paired_imp h fun _ _ _ => TyAt.mono k
/-- each node, alike: its tuple's first two, its parts -/
inductive NodeAt (H : Hp) : V → Hd → List Ty → Prop
  | fn {p : Addr} {va vb : V} {a b : Ty} : H p = some (.tup [.str "fun", va, vb]) → TsAt H [va, vb] [a, b] → NodeAt H (.ref p) .fn [a, b]
  | tup {p q : Addr} {vs : List V} {ts : List Ty} : H p = some (.tup [.str "tuple", .ref q]) → H q = some (.tup vs) → TsAt H vs ts → NodeAt H (.ref p) .tup ts
  | con {p q : Addr} {n : Str} {vs : List V} {ts : List Ty} : H p = some (.tup [.str "con", .str n, .ref q]) → H q = some (.tup vs) → TsAt H vs ts → NodeAt H (.ref p) (.con n) ts
theorem TyAt.node {H : Hp} {v : V} {h : Hd} {ts : List Ty} (x : TyAt H v (.node h ts)) : NodeAt H v h ts := by
  cases x with
  | fn h a b => exact .fn h (.cons a (.cons b .nil))
  | tup h1 h2 r => exact .tup h1 h2 r
  | con h1 h2 r => exact .con h1 h2 r
/-- ty[0] and ty[0] == text -/
theorem val_tag {K : PySem.W.Frag} {σ : L2.St} {H : Hp} {i : Nat} {p : Addr} {s : Str} {r : List V} (hs : σ[i]? = some (some (.ref p))) (h : H p = some (.tup (.str s :: r))) : Val (tOp (rIxT K) (tVar i) (tC (.int 0))) σ H (.str s) := val_ixT (val_var hs) val_c (SqT.of h) (atI_nat (j := 0) rfl)
theorem val_it1 {K : PySem.W.Frag} {σ : L2.St} {H : Hp} {i : Nat} {p : Addr} {s v : V} {r : List V} (hs : σ[i]? = some (some (.ref p))) (h : H p = some (.tup (s :: v :: r))) : Val (tOp (rIxT K) (tVar i) (tC (.int 1))) σ H v := val_ixT (val_var hs) val_c (SqT.of h) (atI_nat (j := 1) rfl)
theorem val_it2 {K : PySem.W.Frag} {σ : L2.St} {H : Hp} {i : Nat} {p : Addr} {s u v : V} {r : List V} (hs : σ[i]? = some (some (.ref p))) (h : H p = some (.tup (s :: u :: v :: r))) : Val (tOp (rIxT K) (tVar i) (tC (.int 2))) σ H v := val_ixT (val_var hs) val_c (SqT.of h) (atI_nat (j := 2) rfl)
theorem ans_tag {K : PySem.W.Frag} {σ : L2.St} {H : Hp} {i : Nat} {p : Addr} {s z : Str} {r : List V} {b : Bool} (hs : σ[i]? = some (some (.ref p))) (h : H p = some (.tup (.str s :: r))) (hb : decide (V.str s = V.str z) = b) : Ans (tTest (tOp rEq (tOp (rIxT K) (tVar i) (tC (.int 0))) (tC (.str z)))) σ H b := hb ▸ ans_t (val_eq (val_tag hs h) val_c rfl)
theorem ans_eqS {σ : L2.St} {H : Hp} {i : Nat} {s z : Str} {b : Bool} (hs : σ[i]? = some (some (.str s))) (hb : decide (V.str s = V.str z) = b) : Ans (tTest (tOp rEq (tVar i) (tC (.str z)))) σ H b := hb ▸ ans_t (val_eq (val_var hs) val_c rfl)
abbrev s_parts : Stmt := top 6
theorem sc_parts : FnScope ["ty"] ["ty"] (defScope s_parts) := ⟨rfl, rfl, rfl, by decide +kernel, rfl, by decide +kernel, by decide +kernel⟩
abbrev s_head : Stmt := top 7
theorem sc_head : FnScope ["ty"] ["ty"] (defScope s_head) := ⟨rfl, rfl, rfl, by decide +kernel, rfl, by decide +kernel, by decide +kernel⟩
abbrev s_build : Stmt := top 8
theorem sc_build : FnScope ["head", "parts", "kind", "name"] ["head", "parts"] (defScope s_build) := ⟨rfl, rfl, rfl, by decide +kernel, rfl, by decide +kernel, by decide +kernel⟩
abbrev s_vars : Stmt := top 13
theorem sc_vars : FnScope ["ty", "found", "work", "item", "part"] ["ty"] (defScope s_vars) := ⟨rfl, rfl, rfl, by decide +kernel, rfl, by decide +kernel, by decide +kernel⟩
/-- parts_of(ty): a tuple of its parts -/
def spParts : Sp := fun vs H Q _ => ∃ v t, vs = [v] ∧ TyAt H v t ∧ ∀ (q : Addr) (H' : Hp) (ws : List V), Ex H H' → H' q = some (.tup ws) → TsAt H' ws t.parts → Q (.ref q) H'
def spHead : Sp := fun vs H Q _ => ∃ v h ts, vs = [v] ∧ TyAt H v (.node h ts) ∧ ∀ (q : Addr) (H' : Hp), Ex H H' → H' q = some (.tup [.str h.tag, .str h.nm]) → Q (.ref q) H'
def spBuild : Sp := fun vs H Q _ => ∃ (q l : Addr) (h : Hd) (rs : List V) (ts : List Ty), vs = [.ref q, .ref l] ∧ H q = some (.tup [.str h.tag, .str h.nm]) ∧ H l = some (.lst rs) ∧ TsAt H rs ts ∧ (h = .fn → ts.length = 2) ∧ ∀ (v : V) (H' : Hp), Ex H H' → TyAt H' v (.node h ts) → Q v H'
section
variable {P : Program} {w : World} {K : PySem.W.Frag} {mg : Str → Option Value} {base : Heap}
theorem can_parts (D : At K mg "parts_of" s_parts ["ty"]) : Can P w K mg base CX0 1 "parts_of" ["ty"] spParts := by
  have sc := sc_parts
  refine D.can sc (fun vs H Q E h => ?_) (fun f cdv A outer s H vs Q E hr h => ?_)
  · obtain ⟨v, t, rfl, _⟩ := h
    rfl
  · obtain ⟨v, t, rfl, ht, q⟩ := h
    refine ⟨_, (pss_cons (ps_if (pt_cmpR op_eq (pe_ix ix_tup (pv 0) pe_int (fun _ _ => rfl)) pe_str (nomark _)) (pss_one (ps_ret (pe_tup (pa_cons (pe_ix ix_tup (pv 0) pe_int (fun _ _ => rfl)) (pa_cons (pe_ix ix_tup (pv 0) pe_int (fun _ _ => rfl)) pa_nil))))) pss_nil)
    (pss_cons (ps_if (pt_cmpR op_eq (pe_ix ix_tup (pv 0) pe_int (fun _ _ => rfl)) pe_str (nomark _)) (pss_one (ps_ret (pe_ix ix_tup (pv 0) pe_int (fun _ _ => rfl)))) pss_nil)
    (pss_cons (ps_if (pt_cmpR op_eq (pe_ix ix_tup (pv 0) pe_int (fun _ _ => rfl)) pe_str (nomark _)) (pss_one (ps_ret (pe_ix ix_tup (pv 0) pe_int (fun _ _ => rfl)))) pss_nil)
    (pss_one (ps_ret (pe_tup pa_nil)))))), ?_⟩
    cases ht with
    | @var p k h =>
      refine n_when (b := false) (ans_tag rfl h (by decide)) (fun h => Bool.noConfusion h) fun _ => ?_
      refine n_when (b := false) (ans_tag rfl h (by decide)) (fun h => Bool.noConfusion h) fun _ => ?_
      refine n_when (b := false) (ans_tag rfl h (by decide)) (fun h => Bool.noConfusion h) fun _ => ?_
      exact ⟨Nat.zero_le _, fun p hp => q p _ [] (Ex.new hp) upd_same .nil⟩
    | @fn p va vb a b h ha hb =>
      refine n_when (b := true) (ans_tag rfl h (by decide)) (fun _ => ?_) (fun h => Bool.noConfusion h)
      refine val_it1 rfl h _ (val_it2 rfl h _ ⟨by show 2 ≤ sizeLine; decide, fun p hp => ?_⟩)
      have k := Tk.of (Ex.new (o := .tup [va, vb]) hp)
      exact q p _ [va, vb] (Ex.new hp) upd_same (.cons (ha.mono k) (.cons (hb.mono k) .nil))
    | @tup p c vs ts h h2 r =>
      refine n_when (b := false) (ans_tag rfl h (by decide)) (fun h => Bool.noConfusion h) fun _ => ?_
      refine n_when (b := true) (ans_tag rfl h (by decide)) (fun _ => ?_) (fun h => Bool.noConfusion h)
      exact e_ret (val_it1 rfl h) (q c H vs (.refl _) h2 r)
    | @con p c n vs ts h h2 r =>
      refine n_when (b := false) (ans_tag rfl h (by decide)) (fun h => Bool.noConfusion h) fun _ => ?_
      refine n_when (b := false) (ans_tag rfl h (by decide)) (fun h => Bool.noConfusion h) fun _ => ?_
      refine n_when (b := true) (ans_tag rfl h (by decide)) (fun _ => ?_) (fun h => Bool.noConfusion h)
      exact e_ret (val_it2 rfl h) (q c H vs (.refl _) h2 r)
theorem can_head (D : At K mg "head_of" s_head ["ty"]) : Can P w K mg base CX0 1 "head_of" ["ty"] spHead := by
  have sc := sc_head
  refine D.can sc (fun vs H Q E h => ?_) (fun f cdv A outer s H vs Q E hr h => ?_)
  · obtain ⟨v, h, ts, rfl, _⟩ := h
    rfl
  · obtain ⟨v, h, ts, rfl, ht, q⟩ := h
    refine ⟨_, (pss_one (ps_ret (pe_tup (pa_cons (pe_ix ix_tup (pv 0) pe_int (fun _ _ => rfl)) (pa_cons (pe_ifExp (pt_cmpR op_eq (pe_ix ix_tup (pv 0) pe_int (fun _ _ => rfl)) pe_str (nomark _)) (pe_ix ix_tup (pv 0) pe_int (fun _ _ => rfl)) pe_str) pa_nil))))), ?_⟩
    cases ht with
    | @fn p va vb a b h ha hb =>
      refine val_tag rfl h _ (val_if (b := false) (ans_tag rfl h (by decide)) (fun h => Bool.noConfusion h) (fun _ => val_c) _ ⟨by show 2 ≤ sizeLine; decide, fun p hp => ?_⟩)
      exact q p _ (Ex.new hp) upd_same
    | @tup p c vs ts h h2 r =>
      refine val_tag rfl h _ (val_if (b := false) (ans_tag rfl h (by decide)) (fun h => Bool.noConfusion h) (fun _ => val_c) _ ⟨by show 2 ≤ sizeLine; decide, fun p hp => ?_⟩)
      exact q p _ (Ex.new hp) upd_same
    | @con p c n vs ts h h2 r =>
      refine val_tag rfl h _ (val_if (b := true) (ans_tag rfl h (by decide)) (fun _ => val_it1 rfl h) (fun h => Bool.noConfusion h) _ ⟨by show 2 ≤ sizeLine; decide, fun p hp => ?_⟩)
      exact q p _ (Ex.new hp) upd_same
theorem can_build (D : At K mg "build" s_build ["head", "parts"]) (T : Bt mg) : Can P w K mg base CX0 1 "build" ["head", "parts"] spBuild := by
  have sc := sc_build
  refine D.can sc (fun vs H Q E h => ?_) (fun f cdv A outer s H vs Q E hr h => ?_)
  · obtain ⟨q, l, h, rs, ts, rfl, _⟩ := h
    rfl
  · obtain ⟨qa, l, h, rs, ts, rfl, hq, hl, r, h2, q⟩ := h
    refine ⟨_, (pss_cons (ps_asg (pv 0) (pg_tup rfl (pgs_cons (pg_name (i := 2) sc.nd rfl (.inl rfl)) (pgs_cons (pg_name (i := 3) sc.nd rfl (.inl rfl)) pgs_nil))))
    (pss_cons (ps_if (pt_cmpR op_eq (pv 2) pe_str (nomark _)) (pss_one (ps_ret (pe_tup (pa_cons pe_str (pa_cons (pe_ix ix_list (pv 1) pe_int (fun _ _ => rfl)) (pa_cons (pe_ix ix_list (pv 1) pe_int (fun _ _ => rfl)) pa_nil)))))) pss_nil)
    (pss_cons (ps_if (pt_cmpR op_eq (pv 2) pe_str (nomark _)) (pss_one (ps_ret (pe_tup (pa_cons pe_str (pa_cons (pe_callTy call_tuple_of (by rfl) T.n_tuple (by decide +kernel) (pa_cons (pv 1) pa_nil)) pa_nil))))) pss_nil)
    (pss_one (ps_ret (pe_tup (pa_cons pe_str (pa_cons (pv 3) (pa_cons (pe_callTy call_tuple_of (by rfl) T.n_tuple (by decide +kernel) (pa_cons (pv 1) pa_nil)) pa_nil))))))))), ?_⟩
    refine ⟨_, rfl, qa, _, rfl, SqT.of hq, rfl, ?_⟩
    refine ⟨_, _, rfl, _, _, rfl, rfl, ?_⟩
    cases h with
    | fn =>
      refine n_when (b := true) (ans_eqS rfl (by decide)) (fun _ => ?_) (fun h => Bool.noConfusion h)
      obtain ⟨a, b, rfl⟩ : ∃ a b, ts = [a, b] := by
        have := h2 rfl
        match ts, this with
        | [a, b], _ => exact ⟨a, b, rfl⟩
      cases r with
      | @cons va _ _ _ ra r =>
        cases r with
        | @cons vb _ _ _ rb r =>
          cases r
          refine val_ixL (val_var rfl) val_c (SqL.of hl) rfl _ (val_ixL (val_var rfl) val_c (SqL.of hl) rfl _ ⟨by show 3 ≤ sizeLine; decide, fun p hp => ?_⟩)
          have k := Tk.of (Ex.new (o := .tup [.str "fun", va, vb]) hp)
          exact q _ _ (Ex.new hp) (.fn upd_same (ra.mono k) (rb.mono k))
    | tup =>
      refine n_when (b := false) (ans_eqS rfl (by first | decide | (show decide (V.str "con" = V.str "fun") = false; decide) | (show decide (V.str "con" = V.str "tuple") = false; decide))) (fun h => Bool.noConfusion h) fun _ => ?_
      refine n_when (b := true) (ans_eqS rfl (by decide)) (fun _ => ?_) (fun h => Bool.noConfusion h)
      refine ⟨.ref l, rfl, l, rs, rfl, .inl ⟨SqL.of hl, fun c hc => ⟨by show 2 ≤ sizeLine; decide, fun p hp => ?_⟩⟩⟩
      have e := (Ex.new (o := .tup rs) hc).trans (Ex.new (o := .tup [.str "tuple", .ref c]) hp)
      exact q _ _ e (.tup upd_same (Ex.new hp _ _ upd_same) (TsAt.mono (Tk.of e) r))
    | con n =>
      refine n_when (b := false) (ans_eqS rfl (by first | decide | (show decide (V.str "con" = V.str "fun") = false; decide) | (show decide (V.str "con" = V.str "tuple") = false; decide))) (fun h => Bool.noConfusion h) fun _ => ?_
      refine n_when (b := false) (ans_eqS rfl (by first | decide | (show decide (V.str "con" = V.str "fun") = false; decide) | (show decide (V.str "con" = V.str "tuple") = false; decide))) (fun h => Bool.noConfusion h) fun _ => ?_
      refine ⟨_, rfl, .ref l, rfl, l, rs, rfl, .inl ⟨SqL.of hl, fun c hc => ⟨by show 3 ≤ sizeLine; decide, fun p hp => ?_⟩⟩⟩
      have e := (Ex.new (o := .tup rs) hc).trans (Ex.new (o := .tup [.str "con", .str n, .ref c]) hp)
      exact q _ _ e (.con upd_same (Ex.new hp _ _ upd_same) (TsAt.mono (Tk.of e) r))
end
/-! ### names given to new things -/
section
variable {K : PySem.W.Frag} {σ : L2.St} {H : Hp} {D : Ends} {tz : TS} {i : Nat} {ta : TA} {vs : List V} {te : TE}
theorem n_dnew (k : ∀ p, H p = none → tz D (σ.set i (some (.ref p))) (upd H p (.dK []))) : tSeq (tAsg tDNewK (gName i)) tz D σ H := fun p hp => k p hp
theorem n_lstV (ha : ValA ta σ vs) (hl : vs.length ≤ sizeLine) (k : ∀ p, H p = none → tz D (σ.set i (some (.ref p))) (upd H p (.lst vs))) : tSeq (tAsg (tLst ta) (gName i)) tz D σ H := ha H _ ⟨hl, fun p hp => k p hp⟩
/-- name = list.pop() -/
theorem n_pop {l : Addr} {xs : List V} {y : V} (ho : Val te σ H (.ref l)) (hl : H l = some (.lst (xs ++ [y]))) (k : tz D (σ.set i (some y)) (upd H l (.lst xs))) : tSeq (tAsg (tBM0 K "list" rPop te) (gName i)) tz D σ H :=
  ho _ ⟨.inl ⟨rfl, _, SqL.of hl⟩, l, _, y, rfl, rfl, hl, by simp, by rw [List.dropLast_concat]; exact k⟩
/-- list.append(x) -/
theorem d_app {l : Addr} {xs : List V} {y : V} {tv : TE} {F B C : L2.St → Hp → Prop} {R : VK} (ho : Val te σ H (.ref l)) (hl : H l = some (.lst xs)) (hv : Val tv σ H y) (hz : xs.length < sizeLine) (k : F σ (upd H l (.lst (xs ++ [y])))) : tDrop (tBM K "list" rAppend te (tCons tv tNil)) ⟨F, R, B, C⟩ σ H :=
  ho _ ⟨.inl ⟨rfl, _, SqL.of hl⟩, hv _ ⟨l, xs, y, rfl, rfl, hl, hz, k⟩⟩
end
/-! ### variables(ty) -/
theorem putK_F (F : List Key) (k : Key) : putK (F.map fun k => (k, V.bl true)) k (V.bl true) = (if k ∈ F then F else F ++ [k]).map fun k => (k, V.bl true) := by
  unfold putK
  have e : ((F.map fun k => (k, V.bl true)).any fun kv => decide (kv.1 = k)) = decide (k ∈ F) := by
    rw [Bool.eq_iff_iff, List.any_eq_true, decide_eq_true_iff]
    constructor
    · rintro ⟨x, hx, e⟩
      obtain ⟨j, hj, rfl⟩ := List.mem_map.mp hx
      exact of_decide_eq_true e ▸ hj
    · intro h
      exact ⟨_, List.mem_map_of_mem h, decide_eq_true rfl⟩
  rw [e]
  by_cases h : k ∈ F
  · rw [if_pos (decide_eq_true h), if_pos h, List.map_map]
    refine List.map_congr_left fun j _ => ?_
    show (if j = k then (j, V.bl true) else (j, V.bl true)) = _
    split <;> rfl
  · rw [if_neg (fun z => h (of_decide_eq_true z)), if_neg h, List.map_append]
    rfl
/-- the heap while the variables are looked for -/
structure VI (H : Hp) (fd wl : Addr) (F : List Key) (S : List V) (H' : Hp) : Prop where
  ex : Ex H H'
  d : H' fd = some (.dK (F.map fun k => (k, V.bl true)))
  l : H' wl = some (.lst S)
  nf : H fd = none
  nl : H wl = none
theorem VI.ne {H H' : Hp} {fd wl : Addr} {F : List Key} {S : List V} (x : VI H fd wl F S H') : fd ≠ wl := fun e => by
  have d := x.d
  rw [e, x.l] at d
  cases d
theorem VI.setL {H H' : Hp} {fd wl : Addr} {F : List Key} {S : List V} (x : VI H fd wl F S H') (S2 : List V) : VI H fd wl F S2 (upd H' wl (.lst S2)) :=
  ⟨x.ex.mut x.nl, by rw [upd_ne x.ne]; exact x.d, upd_same, x.nf, x.nl⟩
theorem VI.setD {H H' : Hp} {fd wl : Addr} {F : List Key} {S : List V} (x : VI H fd wl F S H') (F2 : List Key) : VI H fd wl F2 S (upd H' fd (.dK (F2.map fun k => (k, V.bl true)))) :=
  ⟨x.ex.mut x.nf, upd_same, by rw [upd_ne x.ne.symm]; exact x.l, x.nf, x.nl⟩
theorem VI.up {H H' H2 : Hp} {fd wl : Addr} {F : List Key} {S : List V} (x : VI H fd wl F S H') (e : Ex H' H2) : VI H fd wl F S H2 := ⟨x.ex.trans e, e _ _ x.d, e _ _ x.l, x.nf, x.nl⟩
theorem VI.tkL {H H' : Hp} {fd wl : Addr} {F : List Key} {S : List V} (x : VI H fd wl F S H') (o : HO) : Tk H' (upd H' wl o) := fun p xs e => by
  rw [upd_ne (fun z => by rw [z, x.l] at e; cases e)]
  exact e
theorem VI.tkD {H H' : Hp} {fd wl : Addr} {F : List Key} {S : List V} (x : VI H fd wl F S H') (o : HO) : Tk H' (upd H' fd o) := fun p xs e => by
  rw [upd_ne (fun z => by rw [z, x.d] at e; cases e)]
  exact e
theorem paired_length {α β : Type} {F : α → β → Prop} {l : List α} {m : List β} (h : Paired F l m) : l.length = m.length := Paired.length h
theorem paired_append {α β : Type} {F : α → β → Prop} : ∀ {a : List α} {x : List β} {b : List α} {y : List β}, Paired F a x → Paired F b y → Paired F (a ++ b) (x ++ y)
  | _, _, _, _, .nil, s => s
  | _, _, _, _, .cons r t, s => .cons r (paired_append t s)
theorem paired_rev {α β : Type} {F : α → β → Prop} : ∀ {a : List α} {x : List β}, Paired F a x → Paired F a.reverse x.reverse
  | _, _, .nil => .nil
  | _, _, .cons r t => by
    rw [List.reverse_cons, List.reverse_cons]
    exact paired_append (paired_rev t) (.cons r .nil)
/-- the last ones -/
theorem paired_last {α β : Type} {F : α → β → Prop} {l : List α} {m : List β} (h : Paired F l m) (hn : l ≠ []) : ∃ a x b y, l = a ++ [b] ∧ m = x ++ [y] ∧ Paired F a x ∧ F b y := by
  have h2 := paired_rev h
  have e1 : l = (l.reverse).reverse := by simp
  have e2 : m = (m.reverse).reverse := by simp
  revert h2
  generalize hl : l.reverse = l'
  generalize hm : m.reverse = m'
  rw [hl] at e1
  rw [hm] at e2
  intro h2
  cases h2 with
  | nil => exact absurd e1 hn
  | @cons b y a x r t => exact ⟨a.reverse, x.reverse, b, y, by rw [e1, List.reverse_cons], by rw [e2, List.reverse_cons], paired_rev t, r⟩
def szs (ts : List Ty) : Nat := (ts.map fun t => t.sz).sum
def vsAll (ts : List Ty) (F : List Key) : List Key := ts.foldl (fun f t => t.vs f) F
theorem szs_append (a b : List Ty) : szs (a ++ b) = szs a + szs b := by
  unfold szs
  rw [List.map_append, List.sum_append]
theorem szs_rev (a : List Ty) : szs a.reverse = szs a := by
  induction a with
  | nil => rfl
  | cons t r ih =>
    rw [List.reverse_cons, szs_append, ih]
    unfold szs
    simp
    omega
theorem szs_one (t : Ty) : szs [t] = t.sz := by
  unfold szs
  simp
theorem szs_len (a : List Ty) : a.length ≤ szs a := by
  induction a with
  | nil => exact Nat.zero_le _
  | cons t r ih =>
    have := t.sz_pos
    unfold szs at ih ⊢
    simp
    omega
theorem sz_parts (t : Ty) : t.sz = 1 + szs t.parts := by
  cases t with
  | var k => rw [Ty.sz_var]; rfl
  | node h ps => rw [Ty.sz_node]; rfl
theorem vs_parts {h : Hd} {ps : List Ty} {F : List Key} {R : List Ty} : vsAll (Ty.node h ps :: R) F = vsAll (ps ++ R) F := by
  unfold vsAll
  rw [List.foldl_cons, Ty.vs_node, List.foldl_append]
theorem fuse_len (k : Key) (F : List Key) : (if k ∈ F then F else F ++ [k]).length ≤ F.length + 1 := by
  split
  · omega
  · simp
def spVars : Sp := fun vs H Q _ => ∃ v t, vs = [v] ∧ TyAt H v t ∧ t.sz ≤ 100000 ∧ ∀ (l : Addr) (H' : Hp), H l = none → Ex H H' → H' l = some (.lst ((t.vs []).map kV)) → Q (.ref l) H'
theorem val_truL {K : PySem.W.Frag} {σ : L2.St} {H : Hp} {ta : TE} {p : Addr} {xs : List V} {b : Bool} (ha : Val ta σ H (.ref p)) (h : H p = some (.lst xs)) (e : (!xs.isEmpty) = b) : Ans (fun σ H Q => ta σ H fun x H' => ∃ k, TruV K x H' k ∧ Q k H') σ H b := e ▸ ans_truL ha (SqL.of h)
section
variable {P : Program} {w : World} {K : PySem.W.Frag} {mg : Str → Option Value} {base : Heap}
theorem can_vars (D : At K mg "variables" s_vars ["ty"]) (T : Bt mg) (C_parts_of : Can P w K mg base CX0 1 "parts_of" ["ty"] spParts) : Can P w K mg base CX0 2 "variables" ["ty"] spVars := by
  have sc := sc_vars
  refine D.can sc (fun vs H Q E h => ?_) (fun f cdv A outer s H vs Q E hr h => ?_)
  · obtain ⟨v, t, rfl, _⟩ := h
    rfl
  · obtain ⟨v, t, rfl, ht, hsz, q⟩ := h
    have hu : (A.deeper (envOfC "variables" (defScope s_vars) s.heap.objs.size f cdv)).units + 1 < cLine := by
      have := hr.units
      omega
    refine ⟨_, (pss_cons (ps_set (i := 1) sc.nd rfl (.inl rfl) pe_dnewK)
    (pss_cons (ps_set (i := 2) sc.nd rfl (.inl rfl) (pe_lst (pa_cons (pv 0) pa_nil)))
    (pss_cons (ps_while PassesOwn.never (pt_truth (pv 2) (by intro _; rfl)) (pss_cons (ps_set (i := 3) sc.nd rfl (.inl rfl) (pe_bm0 PySem.F.plainAttrs_list PySem.F.slot_list_pop PySem.F.type_list_pop mt_pop (pv 2) ))
    (pss_cut (ps_if (pt_cmpR op_eq (pe_ix ix_tup (pv 3) pe_int (fun _ _ => rfl)) pe_str (nomark _)) (pss_one (ps_asg pe_bl (pg_sub (pv 1) (pe_ix ix_tup (pv 3) pe_int (fun _ _ => rfl)) (set_dict hu)))) pss_nil)
    (pss_one (ps_for PassesOwn.never rfl (RT.pi_revA rfl T.n_reversed (pe_can C_parts_of (hr.mono (by omega)) rfl pass0 (pa_cons (pv 3) pa_nil))) (pg_name (i := 4) sc.nd rfl (.inl rfl)) (pss_one (ps_expr (pe_bm PySem.F.plainAttrs_list PySem.F.slot_list_append PySem.F.type_list_append mt_append (pv 2) (pa_cons (pv 4) pa_nil)))))))))
    (pss_one (ps_ret (pe_callTy (call_listD rfl) (by rfl) T.n_list (by decide +kernel) (pa_cons (pv 1) pa_nil))))))), ?_⟩
    -- found = {}, work = [ty]
    refine n_dnew fun fd hfd => n_lstV (va_v rfl va_nil) (by show 1 ≤ sizeLine; decide) fun wl hwl => ?_
    have nfw : fd ≠ wl := fun e => by
      rw [← e, upd_same] at hwl
      cases hwl
    have hwlH : H wl = none := by
      rw [upd_ne nfw.symm] at hwl
      exact hwl
    have V0 : VI H fd wl [] [v] (upd (upd H fd (.dK [])) wl (.lst [v])) := ⟨(Ex.new hfd).mut hwlH, by rw [upd_ne nfw, upd_same]; rfl, upd_same, hfd, hwlH⟩
    refine n_while (fun m σ' H' => ∃ (F : List Key) (S : List V) (ts : List Ty) (x3 x4 : Option V), σ' = [some v, some (.ref fd), some (.ref wl), x3, x4] ∧ VI H fd wl F S H' ∧ TsAt H' S ts ∧ vsAll ts.reverse F = t.vs [] ∧ F.length + szs ts ≤ t.sz ∧ m = szs ts) t.sz ⟨[], [v], [t], none, none, rfl, V0, .cons (ht.mono (Tk.of V0.ex)) .nil, rfl, by rw [szs_one]; simp, (szs_one t).symm⟩ ?_
    rintro m σ' H1 ⟨F, S, ts, x3, x4, rfl, I, r, hv, hb, rfl⟩
    refine ⟨!S.isEmpty, val_truL (val_var rfl) I.l rfl, fun hne => ?_, fun he => ?_⟩
    · obtain ⟨S', ts', x, u, rfl, rfl, r', hx⟩ := paired_last r (fun z => by rw [z] at hne; cases hne)
      rw [List.reverse_append] at hv
      have hv : vsAll (u :: ts'.reverse) F = t.vs [] := hv
      rw [szs_append, szs_one] at hb
      -- item = work.pop()
      refine n_pop (val_var rfl) I.l ?_
      have k1 := I.tkL (.lst S')
      have I2 := I.setL S'
      clear I
      show tCut _ _ _ [some v, some (.ref fd), some (.ref wl), some x, x4] _
      generalize upd H1 wl (.lst S') = H2 at k1 I2 ⊢
      have r' := TsAt.mono k1 r'
      have hx := hx.mono k1
      have I := I2
      -- if item[0] == "var": found[item[1]] = True
      refine q_cut (M := fun σ' H' => ∃ F2 : List Key, σ' = [some v, some (.ref fd), some (.ref wl), some x, x4] ∧ VI H fd wl F2 S' H' ∧ TsAt H' S' ts' ∧ TyAt H' x u ∧ vsAll (u.parts ++ ts'.reverse) F2 = t.vs [] ∧ F2.length + (szs ts' + szs u.parts) ≤ t.sz) ?_ ?_
      · cases u with
        | var k =>
          cases hx with
          | @var p _ h =>
            refine e_when (b := true) (ans_tag rfl h (by decide)) (fun _ => ?_) (fun h => Bool.noConfusion h)
            refine val_c _ (val_var rfl _ (val_it1 rfl h _ ⟨fd, _, rfl, DPut.k I.d ?_, ?_⟩))
            · rw [List.length_map]
              exact Nat.lt_of_le_of_lt (show F.length ≤ 100000 by omega) (by decide)
            · rw [putK_F]
              have k2 := I.tkD (.dK ((if k ∈ F then F else F ++ [k]).map fun k => (k, V.bl true)))
              refine ⟨_, rfl, I.setD _, TsAt.mono k2 r', .var (k2 _ _ h), ?_, ?_⟩
              · rw [← hv]
                show vsAll ts'.reverse _ = vsAll ts'.reverse ((Ty.var k).vs F)
                rw [Ty.vs_var]
              · have := fuse_len k F
                rw [Ty.sz_var] at hb
                show _ + (szs ts' + 0) ≤ _
                omega
        | node hd ps =>
          have hx2 := hx.node
          have go : ∃ p s rest, x = .ref p ∧ H2 p = some (.tup (.str s :: rest)) ∧ decide (V.str s = V.str "var") = false := by
            cases hx2 with
            | fn h _ => exact ⟨_, _, _, rfl, h, by decide⟩
            | tup h _ _ => exact ⟨_, _, _, rfl, h, by decide⟩
            | con h _ _ => exact ⟨_, _, _, rfl, h, by decide⟩
          obtain ⟨p, s, rest, rfl, h, hne⟩ := go
          refine e_when (b := false) (ans_tag rfl h hne) (fun h => Bool.noConfusion h) fun _ => ?_
          refine ⟨F, rfl, I, r', hx, ?_, ?_⟩
          · rw [← hv, vs_parts]
            rfl
          · have := sz_parts (.node hd ps)
            omega
      · rintro σ' H3 ⟨F2, rfl, I, r', hx, hv, hb⟩
        -- for part in reversed(parts_of(item)): work.append(part)
        refine val_var rfl _ ⟨x, u, rfl, hx, fun pq H4 ws ex hpq rw_ => ⟨pq, ws, rfl, .inr ⟨SqT.of hpq, ?_⟩⟩⟩
        have I := I.up ex
        have r' := TsAt.mono (Tk.of ex) r'
        have hwl := paired_length rw_
        refine RT.for_ItvT (fun i σ' H' => ∃ x4 : Option V, σ' = [some v, some (.ref fd), some (.ref wl), some x, x4] ∧ VI H fd wl F2 (S' ++ ws.reverse.take i) H' ∧ Tk H4 H') ⟨x4, rfl, by rw [List.take_zero, List.append_nil]; exact I, .refl⟩ (fun i σ' H' ⟨_, _, _, k⟩ => SqT.of (k _ _ hpq)) ?_ ?_
        · rintro i y σ' H5 hi hy ⟨x5, rfl, I5, k5⟩
          have hlen : (S' ++ ws.reverse.take i).length < sizeLine := by
            have h1 := szs_len ts'
            have h2 := szs_len u.parts
            have h3 := paired_length r'
            refine Nat.lt_of_le_of_lt (show _ ≤ 100000 from ?_) (by decide)
            rw [List.length_append, List.length_take, List.length_reverse]
            omega
          refine d_app (val_var rfl) I5.l (val_var rfl) hlen ⟨some y, rfl, ?_, k5.trans (I5.tkL _)⟩
          have e : ws.reverse.take (i + 1) = ws.reverse.take i ++ [y] := by
            rw [List.take_add_one]
            congr 1
            rw [List.getElem?_reverse hi, hy]
            rfl
          rw [e, ← List.append_assoc]
          exact I5.setL _
        · rintro σ' H5 ⟨x5, rfl, I5, k5⟩
          rw [show ws.length = ws.reverse.length by simp, List.take_length] at I5
          refine ⟨szs (ts' ++ u.parts.reverse), ?_, F2, _, ts' ++ u.parts.reverse, some x, x5, rfl, I5, paired_append (TsAt.mono k5 r') (paired_rev (TsAt.mono k5 rw_)), ?_, ?_, rfl⟩
          · rw [szs_append, szs_append, szs_rev, szs_one, sz_parts u]
            omega
          · rw [List.reverse_append, List.reverse_reverse]
            exact hv
          · rw [szs_append, szs_rev]
            exact hb
    · have : S = [] := by
        cases S with
        | nil => rfl
        | cons a b => cases he
      subst this
      cases r
      have hv : F = t.vs [] := hv
      refine val_var rfl _ ⟨fd, _, rfl, .inl I.d, fun l hl => ?_⟩
      refine q l _ (by
        cases e : H l with
        | none => rfl
        | some o => rw [I.ex _ _ e] at hl; cases hl) (I.ex.trans (Ex.new hl)) ?_
      rw [upd_same, List.map_map, ← hv]
      rfl
end
/-! ### fold(ty, combine) -/
open NdefX LamX CLO
theorem d_appT {K : PySem.W.Frag} {σ : L2.St} {H : Hp} {te : TE} {ta : TA} {us xs : List V} {l : Addr} {F B C : L2.St → Hp → Prop} {R : VK} (ho : Val te σ H (.ref l)) (hl : H l = some (.lst xs)) (ha : ValA ta σ us) (hu : us.length ≤ sizeLine) (hz : xs.length < sizeLine)
    (k : ∀ p, H p = none → F σ (upd (upd H p (.tup us)) l (.lst (xs ++ [.ref p])))) : tDrop (tBM K "list" rAppend te (tCons (tTup ta) tNil)) ⟨F, R, B, C⟩ σ H :=
  ho _ ⟨.inl ⟨rfl, _, SqL.of hl⟩, ha H _ ⟨hu, fun p hp => ⟨l, xs, .ref p, rfl, rfl, by rw [upd_ne (ne_of_none hl hp)]; exact hl, hz, k p hp⟩⟩⟩
theorem n_appT {K : PySem.W.Frag} {σ : L2.St} {H : Hp} {te : TE} {ta : TA} {us xs : List V} {l : Addr} {D : Ends} {tz : TS} (ho : Val te σ H (.ref l)) (hl : H l = some (.lst xs)) (ha : ValA ta σ us) (hu : us.length ≤ sizeLine) (hz : xs.length < sizeLine)
    (k : ∀ p, H p = none → tz D σ (upd (upd H p (.tup us)) l (.lst (xs ++ [.ref p])))) : tSeq (tDrop (tBM K "list" rAppend te (tCons (tTup ta) tNil))) tz D σ H :=
  ho _ ⟨.inl ⟨rfl, _, SqL.of hl⟩, ha H _ ⟨hu, fun p hp => ⟨l, xs, .ref p, rfl, rfl, by rw [upd_ne (ne_of_none hl hp)]; exact hl, hz, k p hp⟩⟩⟩
/-- the heap while it works -/
structure WI (H : Hp) (wl dl : Addr) (W ds : List V) (H' : Hp) : Prop where
  ex : Ex H H'
  w : H' wl = some (.lst W)
  d : H' dl = some (.lst ds)
  nw : H wl = none
  nd : H dl = none
  ne : wl ≠ dl
theorem WI.setW {H H' : Hp} {wl dl : Addr} {W ds : List V} (x : WI H wl dl W ds H') (W2 : List V) : WI H wl dl W2 ds (upd H' wl (.lst W2)) := ⟨x.ex.mut x.nw, upd_same, by rw [upd_ne x.ne.symm]; exact x.d, x.nw, x.nd, x.ne⟩
theorem WI.setD {H H' : Hp} {wl dl : Addr} {W ds : List V} (x : WI H wl dl W ds H') (d2 : List V) : WI H wl dl W d2 (upd H' dl (.lst d2)) := ⟨x.ex.mut x.nd, by rw [upd_ne x.ne]; exact x.w, upd_same, x.nw, x.nd, x.ne⟩
theorem WI.up {H H' H2 : Hp} {wl dl : Addr} {W ds : List V} (x : WI H wl dl W ds H') (e : Ex H' H2) : WI H wl dl W ds H2 := ⟨x.ex.trans e, e _ _ x.w, e _ _ x.d, x.nw, x.nd, x.ne⟩
theorem tk_lst {H : Hp} {l : Addr} {xs : List V} (h : H l = some (.lst xs)) (o : HO) : Tk H (upd H l o) := fun p ys e => by
  rw [upd_ne (fun z => by rw [z, h] at e; cases e)]
  exact e
/-- an entry of the work -/
def EntAt (H : Hp) (e : V) (x : Ty × Bool) : Prop := ∃ (p : Addr) (v : V), e = .ref p ∧ H p = some (.tup [v, .bl x.2]) ∧ TyAt H v x.1
theorem EntAt.mono {H H' : Hp} (k : Tk H H') {e : V} {x : Ty × Bool} (h : EntAt H e x) : EntAt H' e x := by
  obtain ⟨p, v, rfl, h1, h2⟩ := h
  exact ⟨p, v, rfl, k _ _ h1, h2.mono k⟩
/-- the work that is left, the top first, ends with the result of t0 alone -/
def okW (t0 : Ty) : List (Ty × Bool) → List Ty → Prop
  | [], ds => ds = [t0]
  | (t, false) :: r, ds => okW t0 r (ds ++ [t])
  | (t, true) :: r, ds => ∃ d0, ds = d0 ++ t.parts ∧ okW t0 r (d0 ++ [t])
theorem okW_parts {t0 : Ty} {r : List (Ty × Bool)} : ∀ (ps ds : List Ty), okW t0 (ps.map (fun t => (t, false)) ++ r) ds ↔ okW t0 r (ds ++ ps)
  | [], ds => by rw [List.map_nil, List.nil_append, List.append_nil]
  | p :: ps, ds => by
    rw [List.map_cons, List.cons_append]
    show okW t0 (ps.map (fun t => (t, false)) ++ r) (ds ++ [p]) ↔ _
    rw [okW_parts ps (ds ++ [p]), List.append_assoc]
    rfl
def meas1 (x : Ty × Bool) : Nat := if x.2 then 1 else 2 * x.1.sz
def meas (ws : List (Ty × Bool)) : Nat := (ws.map meas1).sum
theorem meas_append (a b : List (Ty × Bool)) : meas (a ++ b) = meas a + meas b := by
  unfold meas
  rw [List.map_append, List.sum_append]
theorem meas_one (x : Ty × Bool) : meas [x] = meas1 x := by
  unfold meas
  simp
theorem meas_parts : ∀ ps : List Ty, meas (ps.map fun t => (t, false)) = 2 * szs ps
  | [] => rfl
  | p :: ps => by
    have ih := meas_parts ps
    unfold meas szs at ih ⊢
    rw [List.map_cons, List.map_cons, List.sum_cons, List.map_cons, List.sum_cons, ih]
    show 2 * p.sz + _ = _
    omega
theorem meas_rev (a : List (Ty × Bool)) : meas a.reverse = meas a := by
  induction a with
  | nil => rfl
  | cons t r ih =>
    rw [List.reverse_cons, meas_append, ih]
    unfold meas
    simp
    omega
theorem meas_len (a : List (Ty × Bool)) : a.length ≤ meas a := by
  induction a with
  | nil => exact Nat.zero_le _
  | cons t r ih =>
    have : 1 ≤ meas1 t := by
      have := t.1.sz_pos
      unfold meas1
      split <;> omega
    unfold meas at ih ⊢
    simp
    omega
theorem paired_split {α β : Type} {F : α → β → Prop} : ∀ {m1 m2 : List β} {l : List α}, Paired F l (m1 ++ m2) → ∃ a b, l = a ++ b ∧ Paired F a m1 ∧ Paired F b m2
  | [], _, _, h => ⟨[], _, rfl, .nil, h⟩
  | x :: m1, m2, _, h => by
    rw [List.cons_append] at h
    cases h with
    | cons h t =>
      obtain ⟨a, b, rfl, r1, r2⟩ := paired_split t
      exact ⟨_ :: a, b, rfl, .cons h r1, r2⟩
theorem paired_at {α β : Type} {F : α → β → Prop} : ∀ {l : List α} {m : List β} {i : Nat} {a : α}, Paired F l m → l[i]? = some a → ∃ b, m[i]? = some b ∧ F a b
  | _, _, i, a, .nil, h => by simp at h
  | _, _, 0, a, .cons r _, h => by
    simp at h
    subst h
    exact ⟨_, rfl, r⟩
  | _, _, i + 1, a, .cons _ t, h => by
    obtain ⟨b, h1, h2⟩ := paired_at (i := i) t (by simpa using h)
    exact ⟨b, by simpa using h1, h2⟩
theorem cutV_tail (a b : List V) : cutV (a ++ b) (some (a.length : Int)) none = b := by
  unfold cutV
  rw [HT.sIx_nat, HT.sIx_none, List.length_append, Nat.min_eq_left (by omega), List.drop_left]
  exact List.take_of_length_le (by omega)
/-- x, y = list.pop(), a pair -/
theorem n_pop2 {K : PySem.W.Frag} {σ : L2.St} {H : Hp} {te : TE} {D : Ends} {tz : TS} {i j : Nat} {l p : Addr} {xs : List V} {u v : V} (ho : Val te σ H (.ref l)) (hl : H l = some (.lst (xs ++ [.ref p]))) (hp : H p = some (.tup [u, v])) (k : tz D ((σ.set i (some u)).set j (some v)) (upd H l (.lst xs))) :
    tSeq (tAsg (tBM0 K "list" rPop te) (gTup K 2 (gCons (gName i) (gCons (gName j) gNil)))) tz D σ H :=
  ho _ ⟨.inl ⟨rfl, _, SqL.of hl⟩, l, _, .ref p, rfl, rfl, hl, by simp, by
    rw [List.dropLast_concat]
    exact ⟨p, _, rfl, SqT.of (tk_lst hl _ _ _ hp), rfl, _, _, rfl, _, _, rfl, rfl, k⟩⟩
/-- what a fold's function promises: G, the results -/
def FSem (G : Hp → Ty → V → Prop) (sp : Sp) (H : Hp) : Prop := ∀ (H' : Hp) (Q : VK) (item : V) (t : Ty) (l : Addr) (rs : List V), Ex H H' → TyAt H' item t → H' l = some (.lst rs) → Paired (fun r p => G H' p r) rs t.parts →
  (∀ v H2, Ex H' H2 → G H2 t v → Q v H2) → sp [item, .ref l] H' Q (fun _ _ _ => False)
def preFold (P : Program) (w : World) (K : PySem.W.Frag) (mg : Str → Option Value) (base : Heap) (G : Hp → Ty → V → Prop) (vs : List V) (outer : List Env) (s : Shared) (H : Hp) : Prop :=
  ∃ (v : V) (f : Addr) (F : NF) (fr : List Str) (ws : List (Option V)) (sp : List (Option V) → Sp), vs = [v, .ref f] ∧ NOk P w K mg base CX0 3 f F ["item", "parts"] fr sp ∧ H f = some (FnO f F) ∧ H F.c = some (CodeO F.c F.qual) ∧
    CellsAt F.cl fr ws s.heap H ∧ (∀ y c, F.cl.lookup y = some c → c ∉ frs outer) ∧ FSem G (sp ws) H
def spFold (G : Hp → Ty → V → Prop) : Sp := fun vs H Q _ => ∃ (v : V) (f : Addr) (t : Ty), vs = [v, .ref f] ∧ TyAt H v t ∧ t.sz ≤ 100000 ∧ ∀ v' H', Ex H H' → G H' t v' → Q v' H'
abbrev s_fold : Stmt := top 9
theorem sc_fold : FnScope ["ty", "combine", "work", "done", "item", "ready", "parts", "first", "result", "part"] ["ty", "combine"] (defScope s_fold) := ⟨rfl, rfl, rfl, by decide +kernel, rfl, by decide +kernel, by decide +kernel⟩
/-- the def x, a call of it asking something of the state -/
structure CanS (P : Program) (w : World) (K : PySem.W.Frag) (mg : Str → Option Value) (base : Heap) (k : Nat) (x : Str) (ps : List Str) (pre : List V → List Env → Shared → Hp → Prop) (sp : Sp) : Prop where
  ex : ∃ (f : Addr) (fd : FuncData), FnOkS P w K mg base k f fd ps pre sp ∧ mg x = some (.ref f) ∧ PySem.W.keepIn K (.ref f) = true ∧ Binds K fd ps []
theorem At.canS {P : Program} {w : World} {K : PySem.W.Frag} {mg : Str → Option Value} {base : Heap} {x : Str} {st : Stmt} {N ps : List Str} {k : Nat} {pre : List V → List Env → Shared → Hp → Prop} {sp : Sp} (D : At K mg x st ps) (S : FnScope N ps (defScope st)) (len : ∀ vs H Q E, sp vs H Q E → vs.length = ps.length)
    (hbody : ∀ (f : Addr) (cdv : Value) (A : Around) (outer : List Env) (s : Shared) (H : Hp) (vs : List V) (Q : VK) (E : XK), Room k (A.deeper (envOfC x (defScope st) s.heap.objs.size f cdv)) → pre vs outer s H → sp vs H Q E →
      ∃ t, PSs (cxOf CX0 P w K mg base N x (defScope st) f cdv A outer s H E).nox (defBody st) t ∧ t { nx := fun _ H' => Q .non H', rt := Q } (L2.start N vs) H) : CanS P w K mg base (k + 1) x ps pre sp := by
  obtain ⟨f, fd, F, a, b⟩ := D.ex
  obtain ⟨oc, od, kV, doc, pm, an, cdv, ct, osl, rfl, lk, hcd⟩ := F.ex
  exact ⟨f, _, fn_ofS lk hcd S len fun A outer s H vs Q E hr _ hp h => hbody f cdv A outer s H vs Q E hr hp h, a, F.kp, b⟩
section
variable {P : Program} {w : World} {K : PySem.W.Frag} {mg : Str → Option Value} {base : Heap}
theorem can_fold {G : Hp → Ty → V → Prop} (Gm : ∀ H H' t v, Tk H H' → G H t v → G H' t v) (D : At K mg "fold" s_fold ["ty", "combine"]) (T : Bt mg) (C_parts_of : Can P w K mg base CX0 1 "parts_of" ["ty"] spParts) : CanS P w K mg base 4 "fold" ["ty", "combine"] (preFold P w K mg base G) (spFold G) := by
  have sc := sc_fold
  refine D.canS sc (fun vs H Q E h => ?_) (fun f cdv A outer s H vs Q E hr hpre h => ?_)
  · obtain ⟨v, f, t, rfl, _⟩ := h
    rfl
  · obtain ⟨v, fF, t, rfl, ht, hsz, q⟩ := h
    obtain ⟨_, _, F, fr, ws, sp, e, Fn, hF, hFc, C0, nf, sem⟩ := hpre
    cases e
    refine ⟨_, (pss_cons (ps_set (i := 2) sc.nd rfl (.inl rfl) (pe_lst (pa_cons (pe_tup (pa_cons (pv 0) (pa_cons pe_bl pa_nil))) pa_nil)))
    (pss_cons (ps_set (i := 3) sc.nd rfl (.inl rfl) (pe_lst pa_nil))
    (pss_cons (ps_while PassesOwn.never (pt_truth (pv 2) (by intro _; rfl)) (pss_cons (ps_asg (pe_bm0 PySem.F.plainAttrs_list PySem.F.slot_list_pop PySem.F.type_list_pop mt_pop (pv 2) ) (pg_tup rfl (pgs_cons (pg_name (i := 4) sc.nd rfl (.inl rfl)) (pgs_cons (pg_name (i := 5) sc.nd rfl (.inl rfl)) pgs_nil))))
    (pss_cons (ps_set (i := 6) sc.nd rfl (.inl rfl) (pe_can C_parts_of (hr.mono (by omega)) rfl pass0 (pa_cons (pv 4) pa_nil)))
    (pss_one (ps_if (PW.pt (pw_or (pt_val (pv 5)) (pw_or1 (pt_not (pt_truth (pv 6) (by intro _; rfl)))))) (pss_cons (ps_set (i := 7) sc.nd rfl (.inl rfl) (pe_op op_sub (pe_callB call_len_seq (by rfl) T.n_len PySem.boot_len (pa_cons (pv 3) pa_nil)) (pe_callB call_len_seq (by rfl) T.n_len PySem.boot_len (pa_cons (pv 6) pa_nil))))
    (pss_cons (ps_set (i := 8) sc.nd rfl (.inl rfl) (CLO.pe_callC (i := 1) (X := (cxOf CX0 P w K mg base ["ty", "combine", "work", "done", "item", "ready", "parts", "first", "result", "part"] "fold" (defScope s_fold) f cdv A outer s H E).nox) Fn C0 nf (fun _ _ _ => List.not_mem_nil) hr (by omega) rfl (.inl rfl) (pa_cons (pv 4) (pa_cons (pe_slice sl_list (pv 3) (po_some (pv 7)) po_none) pa_nil))))
    (pss_cons (ps_delCut (pv 3) (po_some (pv 7)))
    (pss_one (ps_expr (pe_bm PySem.F.plainAttrs_list PySem.F.slot_list_append PySem.F.type_list_append mt_append (pv 3) (pa_cons (pv 8) pa_nil))))))) (pss_cons (ps_expr (pe_bm PySem.F.plainAttrs_list PySem.F.slot_list_append PySem.F.type_list_append mt_append (pv 2) (pa_cons (pe_tup (pa_cons (pv 4) (pa_cons pe_bl pa_nil))) pa_nil)))
    (pss_one (ps_for PassesOwn.never rfl (RT.pi_revA rfl T.n_reversed (pv 6)) (pg_name (i := 9) sc.nd rfl (.inl rfl)) (pss_one (ps_expr (pe_bm PySem.F.plainAttrs_list PySem.F.slot_list_append PySem.F.type_list_append mt_append (pv 2) (pa_cons (pe_tup (pa_cons (pv 9) (pa_cons pe_bl pa_nil))) pa_nil))))))))))))
    (pss_one (ps_ret (pe_ix ix_list (pv 3) pe_int (fun _ _ => rfl))))))), ?_⟩
    -- work = [(ty, False)]
    refine n_setH (PV := fun v' H' => ∃ wl p : Addr, v' = .ref wl ∧ H p = none ∧ H wl = none ∧ wl ≠ p ∧ H' = upd (upd H p (.tup [v, .bl false])) wl (.lst [.ref p])) (fun Q q => val_var rfl _ ⟨by show 2 ≤ sizeLine; decide, fun p hp => ⟨by show 1 ≤ sizeLine; decide, fun wl hwl => ?_⟩⟩) ?_
    · have n : wl ≠ p := fun e => by
        rw [e, upd_same] at hwl
        cases hwl
      exact q _ _ ⟨wl, p, rfl, hp, by rw [upd_ne n] at hwl; exact hwl, n, rfl⟩
    rintro _ H1 ⟨wl, p, rfl, hp, hwl, nwp, eH⟩
    have ex1 : Ex H H1 := by
      rw [eH]
      exact (Ex.new hp).mut hwl
    have hw1 : H1 wl = some (.lst [.ref p]) := by
      rw [eH]
      exact upd_same
    have hp1 : H1 p = some (.tup [v, .bl false]) := by
      rw [eH, upd_ne nwp.symm, upd_same]
    clear eH
    -- done = []
    refine n_lstV va_nil (Nat.zero_le _) fun dl hdl => ?_
    have ndw : wl ≠ dl := ne_of_none hw1 hdl
    have hdlH : H dl = none := by
      cases e : H dl with
      | none => rfl
      | some o => rw [ex1 _ _ e] at hdl; cases hdl
    have ex2 : Ex H1 (upd H1 dl (.lst [])) := Ex.new hdl
    have I0 : WI H wl dl [.ref p] [] (upd H1 dl (.lst [])) := ⟨ex1.trans ex2, ex2 _ _ hw1, upd_same, hwl, hdlH, ndw⟩
    have E0 : EntAt (upd H1 dl (.lst [])) (.ref p) (t, false) := ⟨p, v, rfl, ex2 _ _ hp1, ht.mono (Tk.of I0.ex)⟩
    refine n_while (fun m σ' H' => ∃ (We : List V) (wt : List (Ty × Bool)) (ds : List V) (dt : List Ty) (x4 x5 x6 x7 x8 x9 : Option V), σ' = [some v, some (.ref fF), some (.ref wl), some (.ref dl), x4, x5, x6, x7, x8, x9] ∧ WI H wl dl We ds H' ∧
      Paired (EntAt H') We wt ∧ Paired (fun r p => G H' p r) ds dt ∧ okW t wt.reverse dt ∧ meas wt + dt.length ≤ 2 * t.sz ∧ m = meas wt) (2 * t.sz)
      ⟨[.ref p], [(t, false)], [], [], none, none, none, none, none, none, rfl, I0, .cons E0 .nil, .nil, rfl, by rw [meas_one]; exact Nat.le_refl _, by rw [meas_one]; rfl⟩ ?_
    rintro m σ' H2 ⟨We, wt, ds, dt, x4, x5, x6, x7, x8, x9, rfl, I, rw_, rd, ok, hb, rfl⟩
    refine ⟨!We.isEmpty, val_truL (val_var rfl) I.w rfl, fun hne => ?_, fun he => ?_⟩
    · obtain ⟨W', wt', e, ⟨u, b⟩, rfl, rfl, rw', hent⟩ := paired_last rw_ (fun z => by rw [z] at hne; cases hne)
      rw [List.reverse_append] at ok
      have ok : okW t ((u, b) :: wt'.reverse) dt := ok
      rw [meas_append, meas_one] at hb
      -- item, ready = work.pop()
      obtain ⟨pe, vi, rfl, hpe, hvi⟩ := hent
      refine n_pop2 (val_var rfl) I.w hpe ?_
      have k1 := tk_lst I.w (.lst W')
      have I2 := I.setW W'
      clear I
      generalize upd H2 wl (.lst W') = H3 at k1 I2 ⊢
      have rw' := paired_imp rw' fun x _ a h => EntAt.mono k1 h
      have hvi := hvi.mono k1
      have rd := paired_imp rd fun x _ a h => Gm _ _ _ _ k1 h
      -- parts = parts_of(item)
      refine n_setH (PV := fun v' H' => ∃ (pq : Addr) (ps : List V), v' = .ref pq ∧ Ex H3 H' ∧ H' pq = some (.tup ps) ∧ TsAt H' ps u.parts) (fun Q q => val_var rfl _ ⟨vi, u, rfl, hvi, fun pq H' ps ex h r => q _ _ ⟨pq, ps, rfl, ex, h, r⟩⟩) ?_
      rintro _ H4 ⟨pq, ps, rfl, ex4, hpq, rps⟩
      have I := I2.up ex4
      have k4 := Tk.of ex4
      have rw' := paired_imp rw' fun x _ a h => EntAt.mono k4 h
      have rd := paired_imp rd fun x _ a h => Gm _ _ _ _ k4 h
      have hvi := hvi.mono k4
      have hlp := paired_length rps
      have hld := paired_length rd
      have hlw := paired_length rw'
      clear ex4 k4 I2 k1 hpe
      show tIfS _ _ _ _ [some v, some (.ref fF), some (.ref wl), some (.ref dl), some vi, some (.bl b), some (.ref pq), x7, x8, x9] H4
      have hcond : Ans (tOr (tB (tVar 5)) (tNot fun σ H Q => tVar 6 σ H fun x H' => ∃ k, TruV K x H' k ∧ Q k H')) [some v, some (.ref fF), some (.ref wl), some (.ref dl), some vi, some (.bl b), some (.ref pq), x7, x8, x9] H4 (b || ps.isEmpty) := by
        refine ans_or2 (ans_val (val_var rfl)) fun _ => ?_
        have h0 := ans_not (t := fun σ H Q => tVar 6 σ H fun x H' => ∃ k, TruV K x H' k ∧ Q k H') (σ := [some v, some (.ref fF), some (.ref wl), some (.ref dl), some vi, some (.bl b), some (.ref pq), x7, x8, x9]) (H := H4) (b := !ps.isEmpty) (fun Q q => ⟨_, rfl, _, .inr (.inl ⟨ps, SqT.of hpq, rfl⟩), q⟩)
        rw [Bool.not_not] at h0
        exact h0
      refine st_if hcond (fun hc => ?_) (fun hc => ?_)
      · -- the parts' results are there
        obtain ⟨d0, hd0, ok2⟩ : ∃ d0, dt = d0 ++ u.parts ∧ okW t wt'.reverse (d0 ++ [u]) := by
          cases b with
          | true => exact ok
          | false =>
            have : ps = [] := by simpa using hc
            subst this
            cases hq : u.parts with
            | nil => exact ⟨dt, by simp, ok⟩
            | cons a r => rw [hq] at hlp; cases hlp
        have hm : 1 ≤ meas1 (u, b) := by
          have := u.sz_pos
          cases b with
          | true => exact Nat.le_refl _
          | false =>
            show 1 ≤ 2 * u.sz
            omega
        subst hd0
        obtain ⟨da, db, rfl, rda, rdb⟩ := paired_split rd
        have hla := paired_length rda
        have hlb := paired_length rdb
        -- first = len(done) - len(parts)
        refine n_set (v := .int (da.length : Int)) (Val.is (val_I0 (val_lenL (val_var rfl) (SqL.of I.d)) (val_lenT (val_var rfl) (SqT.of hpq))) ?_) ?_
        · have : ((da ++ db).length : Int) - (ps.length : Int) = (da.length : Int) := by
            rw [List.length_append, hlp, ← hlb]
            omega
          rw [this]
        -- result = combine(item, done[first:])
        refine ⟨rfl, I.ex _ _ hF, _, rfl, .ref dl, rfl, .int (da.length : Int), rfl, (da.length : Int), rfl, dl, _, rfl, SqL.of I.d, fun pl hpl => ?_⟩
        rw [cutV_tail]
        have ex5 : Ex H4 (upd H4 pl (.lst db)) := Ex.new hpl
        have I5 := I.up ex5
        have k5 := Tk.of ex5
        refine ⟨I5.ex _ _ hF, I5.ex _ _ hFc, sem _ _ _ u pl db I5.ex (hvi.mono k5) upd_same (paired_imp rdb fun x _ a h => Gm _ _ _ _ k5 h) fun y H6 ex6 hy => ?_⟩
        have I6 := I5.up ex6
        have k6 := k5.trans (Tk.of ex6)
        have rw6 := paired_imp rw' fun x _ a h => EntAt.mono k6 h
        have rda6 := paired_imp rda fun x _ a h => Gm _ _ _ _ k6 h
        -- del done[first:]
        refine ⟨.ref dl, rfl, .int (da.length : Int), rfl, (da.length : Int), rfl, dl, _, da.length, rfl, rfl, I6.d, by rw [List.length_append]; omega, ?_⟩
        rw [List.take_left]
        have k7 := tk_lst I6.d (.lst da)
        have I7 := I6.setD da
        -- done.append(result)
        have hbd : da.length < sizeLine := Nat.lt_of_le_of_lt (show da.length ≤ 200000 by rw [List.length_append] at hb; omega) (by decide)
        refine d_app (l := dl) (val_var rfl) I7.d (val_var rfl) hbd ?_
        have k8 := k7.trans (tk_lst I7.d (.lst (da ++ [y])))
        refine ⟨meas wt', ?_, W', wt', da ++ [y], d0 ++ [u], _, _, _, _, _, _, rfl, I7.setD _, paired_imp rw6 fun x _ a h => EntAt.mono k8 h, paired_append (paired_imp rda6 fun x _ a h => Gm _ _ _ _ k8 h) (.cons (Gm _ _ _ _ k8 hy) .nil), ok2, ?_, rfl⟩
        · rw [meas_append, meas_one]
          omega
        · rw [List.length_append] at hb ⊢
          show meas wt' + (d0.length + 1) ≤ _
          omega
      · -- the parts first
        have hb2 : b = false := by
          cases b with
          | true => cases hc
          | false => rfl
        subst hb2
        have hm : meas1 (u, false) = 2 + 2 * szs u.parts := by
          show 2 * u.sz = _
          rw [sz_parts u]
          omega
        have hlW : W'.length ≤ meas wt' := by
          rw [hlw]
          exact meas_len wt'
        have hpp := szs_len u.parts
        -- work.append((item, True))
        refine n_appT (l := wl) (us := [vi, .bl true]) (val_var rfl) I.w (va_v rfl (va_c va_nil)) (by show 2 ≤ sizeLine; decide) (Nat.lt_of_le_of_lt (show W'.length ≤ 200000 by omega) (by decide)) fun pt hpt => ?_
        have exT : Ex H4 (upd H4 pt (.tup [vi, .bl true])) := Ex.new hpt
        have IT := I.up exT
        have kT := (Tk.of exT).trans (tk_lst IT.w (.lst (W' ++ [.ref pt])))
        have IT2 := IT.setW (W' ++ [.ref pt])
        have hpt2 : upd (upd H4 pt (.tup [vi, .bl true])) wl (.lst (W' ++ [.ref pt])) pt = some (.tup [vi, .bl true]) := tk_lst IT.w _ _ _ upd_same
        generalize upd (upd H4 pt (.tup [vi, .bl true])) wl (.lst (W' ++ [.ref pt])) = H5 at kT IT2 hpt2 ⊢
        have rw5 := paired_append (paired_imp rw' fun x _ a h => EntAt.mono kT h) (.cons (show EntAt H5 (.ref pt) (u, true) from ⟨pt, vi, rfl, hpt2, hvi.mono kT⟩) .nil)
        have rd5 := paired_imp rd fun x _ a h => Gm _ _ _ _ kT h
        have rps5 := TsAt.mono kT rps
        have hpq5 := kT _ _ hpq
        -- for part in reversed(parts): work.append((part, False))
        refine ⟨.ref pq, rfl, pq, ps, rfl, .inr ⟨SqT.of hpq5, ?_⟩⟩
        refine RT.for_ItvT (fun i σ' H' => ∃ (x9 : Option V) (es : List V), σ' = [some v, some (.ref fF), some (.ref wl), some (.ref dl), some vi, some (.bl false), some (.ref pq), x7, x8, x9] ∧ WI H wl dl (W' ++ [.ref pt] ++ es) ds H' ∧ Tk H5 H' ∧ Paired (EntAt H') es ((u.parts.reverse.take i).map fun t => (t, false)))
          ⟨x9, [], rfl, by rw [List.append_nil]; exact IT2, .refl, .nil⟩ (fun i σ' H' ⟨_, _, _, _, k, _⟩ => SqT.of (k _ _ hpq5)) ?_ ?_
        · rintro i y σ' H6 hi hy ⟨x9, es, rfl, I6, k6, r6⟩
          have hle := paired_length r6
          rw [List.length_map, List.length_take, List.length_reverse] at hle
          obtain ⟨ty, hty, hyt⟩ := paired_at (TsAt.mono k6 rps5) hy
          refine d_appT (l := wl) (us := [y, .bl false]) (val_var rfl) I6.w (va_v rfl (va_c va_nil)) (by show 2 ≤ sizeLine; decide) (Nat.lt_of_le_of_lt (show _ ≤ 400000 by rw [List.length_append, List.length_append]; show W'.length + 1 + es.length ≤ _; omega) (by decide)) fun pn hpn => ?_
          have exN : Ex H6 (upd H6 pn (.tup [y, .bl false])) := Ex.new hpn
          have IN := I6.up exN
          have kN := (Tk.of exN).trans (tk_lst IN.w (.lst (W' ++ [.ref pt] ++ es ++ [.ref pn])))
          refine ⟨some y, es ++ [.ref pn], rfl, ?_, k6.trans kN, ?_⟩
          · rw [← List.append_assoc]
            exact IN.setW _
          · have e : (u.parts.reverse.take (i + 1)).map (fun t => (t, false)) = (u.parts.reverse.take i).map (fun t => (t, false)) ++ [(ty, false)] := by
              rw [List.take_add_one, List.map_append]
              congr 1
              rw [List.getElem?_reverse (by omega), ← hlp, hty]
              rfl
            rw [e]
            exact paired_append (paired_imp r6 fun x _ a h => EntAt.mono kN h) (.cons ⟨pn, y, rfl, tk_lst IN.w _ _ _ upd_same, hyt.mono kN⟩ .nil)
        · rintro σ' H6 ⟨x9, es, rfl, I6, k6, r6⟩
          rw [show ps.length = u.parts.reverse.length by simp [hlp], List.take_length] at r6
          have hmm : meas (u.parts.reverse.map fun t => (t, false)) = 2 * szs u.parts := by rw [meas_parts, szs_rev]
          refine ⟨meas (wt' ++ [(u, true)] ++ u.parts.reverse.map fun t => (t, false)), ?_, _, wt' ++ [(u, true)] ++ u.parts.reverse.map fun t => (t, false), ds, dt, _, _, _, _, _, _, rfl, I6, paired_append (paired_imp rw5 fun x _ a h => EntAt.mono k6 h) r6, paired_imp rd5 fun x _ a h => Gm _ _ _ _ k6 h, ?_, ?_, rfl⟩
          · rw [meas_append, meas_append, meas_append, meas_one, meas_one, hmm, hm]
            show _ + 1 + _ < _
            omega
          · rw [List.reverse_append, List.reverse_append, ← List.map_reverse, List.reverse_reverse, okW_parts]
            exact ⟨dt, rfl, ok⟩
          · rw [meas_append, meas_append, meas_one, hmm]
            show meas wt' + 1 + _ + _ ≤ _
            omega
    · have : We = [] := by
        cases We with
        | nil => rfl
        | cons a b => cases he
      subst this
      cases rw_
      have ok : dt = [t] := ok
      subst ok
      cases rd with
      | cons r rr =>
        cases rr
        exact e_ret (val_ixL (val_var rfl) val_c (SqL.of I.d) rfl) (q _ _ I.ex r)
end
/-! ### fold(ty, combine), where combine may raise a LimitError -/
open NdefX LamX CLO
def FSemV (lim : Addr) (R : Prop) (Pr : Ty → Prop) (G : Hp → Ty → V → Prop) (sp : Sp) (H : Hp) : Prop := ∀ (H' : Hp) (Q : VK) (E : XK) (item : V) (t : Ty) (l : Addr) (rs : List V), Pr t → Ex H H' → TyAt H' item t → H' l = some (.lst rs) → Paired (fun r p => G H' p r) rs t.parts →
  (∀ v H2, Ex H' H2 → G H2 t v → Q v H2) → (R → ∀ H2, Ex H' H2 → E (.ref lim) none H2) → sp [item, .ref l] H' Q E
def preFoldV (P : Program) (w : World) (K : PySem.W.Frag) (mg : Str → Option Value) (base : Heap) (lim : Addr) (R : Prop) (Pr : Ty → Prop) (G : Hp → Ty → V → Prop) (vs : List V) (outer : List Env) (s : Shared) (H : Hp) : Prop :=
  ∃ (v : V) (f : Addr) (F : NF) (fr : List Str) (ws : List (Option V)) (sp : List (Option V) → Sp), vs = [v, .ref f] ∧ NOk P w K mg base (L2N.CX P w) 4 f F ["item", "parts"] fr sp ∧ H f = some (FnO f F) ∧ H F.c = some (CodeO F.c F.qual) ∧
    CellsAt F.cl fr ws s.heap H ∧ (∀ y c, F.cl.lookup y = some c → c ∉ frs outer) ∧ FSemV lim R Pr G (sp ws) H
def spFoldV (lim : Addr) (R : Prop) (Pr : Ty → Prop) (G : Hp → Ty → V → Prop) : Sp := fun vs H Q E => ∃ (v : V) (f : Addr) (t : Ty), vs = [v, .ref f] ∧ TyAt H v t ∧ t.sz ≤ 100000 ∧ Pr t ∧ (∀ v' H', Ex H H' → G H' t v' → Q v' H') ∧ (R → ∀ H', Ex H H' → E (.ref lim) none H')
structure CanV (P : Program) (w : World) (K : PySem.W.Frag) (mg : Str → Option Value) (base : Heap) (k : Nat) (x : Str) (ps : List Str) (pre : List V → List Env → Shared → Hp → Prop) (sp : Sp) : Prop where
  ex : ∃ (f : Addr) (fd : FuncData), FnOkV (L2N.CX P w) P w K mg base k f fd ps pre sp ∧ mg x = some (.ref f) ∧ PySem.W.keepIn K (.ref f) = true ∧ Binds K fd ps []
theorem At.canSV {P : Program} {w : World} {K : PySem.W.Frag} {mg : Str → Option Value} {base : Heap} {x : Str} {st : Stmt} {N ps : List Str} {k : Nat} {pre : List V → List Env → Shared → Hp → Prop} {sp : Sp} (D : At K mg x st ps) (S : FnScope N ps (defScope st)) (len : ∀ vs H Q E, sp vs H Q E → vs.length = ps.length)
    (hbody : ∀ (f : Addr) (cdv : Value) (A : Around) (outer : List Env) (s : Shared) (H : Hp) (vs : List V) (Q : VK) (E : XK), Room k (A.deeper (envOfC x (defScope st) s.heap.objs.size f cdv)) → pre vs outer s H → sp vs H Q E →
      ∃ t, PSs (cxOf (L2N.CX P w) P w K mg base N x (defScope st) f cdv A outer s H E) (defBody st) t ∧ t { nx := fun _ H' => Q .non H', rt := Q } (L2.start N vs) H) : CanV P w K mg base (k + 1) x ps pre sp := by
  obtain ⟨f, fd, F, a, b⟩ := D.ex
  obtain ⟨oc, od, kV, doc, pm, an, cdv, ct, osl, rfl, lk, hcd⟩ := F.ex
  exact ⟨f, _, fn_ofV lk hcd S len fun A outer s H vs Q E hr hp h => hbody f cdv A outer s H vs Q E hr hp h, a, F.kp, b⟩
theorem passL {P : Program} {w : World} {K : PySem.W.Frag} {mg : Str → Option Value} {base : Heap} {N : List Str} {x : Str} {scope : Scope} {f : Addr} {cdv : Value} {A : Around} {outer : List Env} {s : Shared} {H : Hp} {E : XK} : Passes (L2N.CX P w) (cxOf (L2N.CX P w) P w K mg base N x scope f cdv A outer s H E) E := L2N.passes_call (L2N.takes_of rfl rfl rfl rfl) fun _ _ _ _ h => h
section
variable {P : Program} {w : World} {K : PySem.W.Frag} {mg : Str → Option Value} {base : Heap}
theorem can_foldV {G : Hp → Ty → V → Prop} {lim : Addr} {R : Prop} {Pr : Ty → Prop} (Gm : ∀ H H' t v, Tk H H' → G H t v → G H' t v) (Pp : ∀ u, Pr u → ∀ t ∈ u.parts, Pr t) (D : At K mg "fold" s_fold ["ty", "combine"]) (T : Bt mg) (C_parts_of : Can P w K mg base CX0 1 "parts_of" ["ty"] spParts) :
    CanV P w K mg base 5 "fold" ["ty", "combine"] (preFoldV P w K mg base lim R Pr G) (spFoldV lim R Pr G) := by
  have sc := sc_fold
  refine D.canSV sc (fun vs H Q E h => ?_) (fun f cdv A outer s H vs Q E hr hpre h => ?_)
  · obtain ⟨v, f, t, rfl, _⟩ := h
    rfl
  · obtain ⟨v, fF, t, rfl, ht, hsz, hPr, q, qE⟩ := h
    obtain ⟨_, _, F, fr, ws, sp, e, Fn, hF, hFc, C0, nf, sem⟩ := hpre
    cases e
    refine ⟨_, (pss_cons (ps_set (i := 2) sc.nd rfl (.inl rfl) (pe_lst (pa_cons (pe_tup (pa_cons (pv 0) (pa_cons pe_bl pa_nil))) pa_nil)))
    (pss_cons (ps_set (i := 3) sc.nd rfl (.inl rfl) (pe_lst pa_nil))
    (pss_cons (ps_while (passes_of rfl) (pt_truth (pv 2) (by intro _; rfl)) (pss_cons (ps_asg (pe_bm0 PySem.F.plainAttrs_list PySem.F.slot_list_pop PySem.F.type_list_pop mt_pop (pv 2) ) (pg_tup rfl (pgs_cons (pg_name (i := 4) sc.nd rfl (.inl rfl)) (pgs_cons (pg_name (i := 5) sc.nd rfl (.inl rfl)) pgs_nil))))
    (pss_cons (ps_set (i := 6) sc.nd rfl (.inl rfl) (pe_can C_parts_of (hr.mono (by omega)) rfl pass0 (pa_cons (pv 4) pa_nil)))
    (pss_one (ps_if (PW.pt (pw_or (pt_val (pv 5)) (pw_or1 (pt_not (pt_truth (pv 6) (by intro _; rfl)))))) (pss_cons (ps_set (i := 7) sc.nd rfl (.inl rfl) (pe_op op_sub (pe_callB call_len_seq (by rfl) T.n_len PySem.boot_len (pa_cons (pv 3) pa_nil)) (pe_callB call_len_seq (by rfl) T.n_len PySem.boot_len (pa_cons (pv 6) pa_nil))))
    (pss_cons (ps_set (i := 8) sc.nd rfl (.inl rfl) (CLO.pe_callV (i := 1) (X := (cxOf (L2N.CX P w) P w K mg base ["ty", "combine", "work", "done", "item", "ready", "parts", "first", "result", "part"] "fold" (defScope s_fold) f cdv A outer s H E)) Fn C0 nf (fun _ _ _ => List.not_mem_nil) hr (by omega) rfl (.inl rfl) passL (pa_cons (pv 4) (pa_cons (pe_slice sl_list (pv 3) (po_some (pv 7)) po_none) pa_nil))))
    (pss_cons (ps_delCut (pv 3) (po_some (pv 7)))
    (pss_one (ps_expr (pe_bm PySem.F.plainAttrs_list PySem.F.slot_list_append PySem.F.type_list_append mt_append (pv 3) (pa_cons (pv 8) pa_nil))))))) (pss_cons (ps_expr (pe_bm PySem.F.plainAttrs_list PySem.F.slot_list_append PySem.F.type_list_append mt_append (pv 2) (pa_cons (pe_tup (pa_cons (pv 4) (pa_cons pe_bl pa_nil))) pa_nil)))
    (pss_one (ps_for (passes_of rfl) rfl (RT.pi_revA rfl T.n_reversed (pv 6)) (pg_name (i := 9) sc.nd rfl (.inl rfl)) (pss_one (ps_expr (pe_bm PySem.F.plainAttrs_list PySem.F.slot_list_append PySem.F.type_list_append mt_append (pv 2) (pa_cons (pe_tup (pa_cons (pv 9) (pa_cons pe_bl pa_nil))) pa_nil))))))))))))
    (pss_one (ps_ret (pe_ix ix_list (pv 3) pe_int (fun _ _ => rfl))))))), ?_⟩
    -- work = [(ty, False)]
    refine n_setH (PV := fun v' H' => ∃ wl p : Addr, v' = .ref wl ∧ H p = none ∧ H wl = none ∧ wl ≠ p ∧ H' = upd (upd H p (.tup [v, .bl false])) wl (.lst [.ref p])) (fun Q q => val_var rfl _ ⟨by show 2 ≤ sizeLine; decide, fun p hp => ⟨by show 1 ≤ sizeLine; decide, fun wl hwl => ?_⟩⟩) ?_
    · have n : wl ≠ p := fun e => by
        rw [e, upd_same] at hwl
        cases hwl
      exact q _ _ ⟨wl, p, rfl, hp, by rw [upd_ne n] at hwl; exact hwl, n, rfl⟩
    rintro _ H1 ⟨wl, p, rfl, hp, hwl, nwp, eH⟩
    have ex1 : Ex H H1 := by
      rw [eH]
      exact (Ex.new hp).mut hwl
    have hw1 : H1 wl = some (.lst [.ref p]) := by
      rw [eH]
      exact upd_same
    have hp1 : H1 p = some (.tup [v, .bl false]) := by
      rw [eH, upd_ne nwp.symm, upd_same]
    clear eH
    -- done = []
    refine n_lstV va_nil (Nat.zero_le _) fun dl hdl => ?_
    have ndw : wl ≠ dl := ne_of_none hw1 hdl
    have hdlH : H dl = none := by
      cases e : H dl with
      | none => rfl
      | some o => rw [ex1 _ _ e] at hdl; cases hdl
    have ex2 : Ex H1 (upd H1 dl (.lst [])) := Ex.new hdl
    have I0 : WI H wl dl [.ref p] [] (upd H1 dl (.lst [])) := ⟨ex1.trans ex2, ex2 _ _ hw1, upd_same, hwl, hdlH, ndw⟩
    have E0 : EntAt (upd H1 dl (.lst [])) (.ref p) (t, false) := ⟨p, v, rfl, ex2 _ _ hp1, ht.mono (Tk.of I0.ex)⟩
    refine n_while (fun m σ' H' => ∃ (We : List V) (wt : List (Ty × Bool)) (ds : List V) (dt : List Ty) (x4 x5 x6 x7 x8 x9 : Option V), σ' = [some v, some (.ref fF), some (.ref wl), some (.ref dl), x4, x5, x6, x7, x8, x9] ∧ WI H wl dl We ds H' ∧
      Paired (EntAt H') We wt ∧ Paired (fun r p => G H' p r) ds dt ∧ okW t wt.reverse dt ∧ meas wt + dt.length ≤ 2 * t.sz ∧ (∀ x ∈ wt, Pr x.1) ∧ m = meas wt) (2 * t.sz)
      ⟨[.ref p], [(t, false)], [], [], none, none, none, none, none, none, rfl, I0, .cons E0 .nil, .nil, rfl, by rw [meas_one]; exact Nat.le_refl _, fun x hx => by rw [List.mem_singleton.mp hx]; exact hPr, by rw [meas_one]; rfl⟩ ?_
    rintro m σ' H2 ⟨We, wt, ds, dt, x4, x5, x6, x7, x8, x9, rfl, I, rw_, rd, ok, hb, hPw, rfl⟩
    refine ⟨!We.isEmpty, val_truL (val_var rfl) I.w rfl, fun hne => ?_, fun he => ?_⟩
    · obtain ⟨W', wt', e, ⟨u, b⟩, rfl, rfl, rw', hent⟩ := paired_last rw_ (fun z => by rw [z] at hne; cases hne)
      rw [List.reverse_append] at ok
      have ok : okW t ((u, b) :: wt'.reverse) dt := ok
      have hPu : Pr u := hPw (u, b) (List.mem_append.mpr (.inr (List.mem_singleton.mpr rfl)))
      have hPw' : ∀ x ∈ wt', Pr x.1 := fun x hx => hPw x (List.mem_append.mpr (.inl hx))
      rw [meas_append, meas_one] at hb
      -- item, ready = work.pop()
      obtain ⟨pe, vi, rfl, hpe, hvi⟩ := hent
      refine n_pop2 (val_var rfl) I.w hpe ?_
      have k1 := tk_lst I.w (.lst W')
      have I2 := I.setW W'
      clear I
      generalize upd H2 wl (.lst W') = H3 at k1 I2 ⊢
      have rw' := paired_imp rw' fun x _ a h => EntAt.mono k1 h
      have hvi := hvi.mono k1
      have rd := paired_imp rd fun x _ a h => Gm _ _ _ _ k1 h
      -- parts = parts_of(item)
      refine n_setH (PV := fun v' H' => ∃ (pq : Addr) (ps : List V), v' = .ref pq ∧ Ex H3 H' ∧ H' pq = some (.tup ps) ∧ TsAt H' ps u.parts) (fun Q q => val_var rfl _ ⟨vi, u, rfl, hvi, fun pq H' ps ex h r => q _ _ ⟨pq, ps, rfl, ex, h, r⟩⟩) ?_
      rintro _ H4 ⟨pq, ps, rfl, ex4, hpq, rps⟩
      have I := I2.up ex4
      have k4 := Tk.of ex4
      have rw' := paired_imp rw' fun x _ a h => EntAt.mono k4 h
      have rd := paired_imp rd fun x _ a h => Gm _ _ _ _ k4 h
      have hvi := hvi.mono k4
      have hlp := paired_length rps
      have hld := paired_length rd
      have hlw := paired_length rw'
      clear ex4 k4 I2 k1 hpe
      show tIfS _ _ _ _ [some v, some (.ref fF), some (.ref wl), some (.ref dl), some vi, some (.bl b), some (.ref pq), x7, x8, x9] H4
      have hcond : Ans (tOr (tB (tVar 5)) (tNot fun σ H Q => tVar 6 σ H fun x H' => ∃ k, TruV K x H' k ∧ Q k H')) [some v, some (.ref fF), some (.ref wl), some (.ref dl), some vi, some (.bl b), some (.ref pq), x7, x8, x9] H4 (b || ps.isEmpty) := by
        refine ans_or2 (ans_val (val_var rfl)) fun _ => ?_
        have h0 := ans_not (t := fun σ H Q => tVar 6 σ H fun x H' => ∃ k, TruV K x H' k ∧ Q k H') (σ := [some v, some (.ref fF), some (.ref wl), some (.ref dl), some vi, some (.bl b), some (.ref pq), x7, x8, x9]) (H := H4) (b := !ps.isEmpty) (fun Q q => ⟨_, rfl, _, .inr (.inl ⟨ps, SqT.of hpq, rfl⟩), q⟩)
        rw [Bool.not_not] at h0
        exact h0
      refine st_if hcond (fun hc => ?_) (fun hc => ?_)
      · -- the parts' results are there
        obtain ⟨d0, hd0, ok2⟩ : ∃ d0, dt = d0 ++ u.parts ∧ okW t wt'.reverse (d0 ++ [u]) := by
          cases b with
          | true => exact ok
          | false =>
            have : ps = [] := by simpa using hc
            subst this
            cases hq : u.parts with
            | nil => exact ⟨dt, by simp, ok⟩
            | cons a r => rw [hq] at hlp; cases hlp
        have hm : 1 ≤ meas1 (u, b) := by
          have := u.sz_pos
          cases b with
          | true => exact Nat.le_refl _
          | false =>
            show 1 ≤ 2 * u.sz
            omega
        subst hd0
        obtain ⟨da, db, rfl, rda, rdb⟩ := paired_split rd
        have hla := paired_length rda
        have hlb := paired_length rdb
        -- first = len(done) - len(parts)
        refine n_set (v := .int (da.length : Int)) (Val.is (val_I0 (val_lenL (val_var rfl) (SqL.of I.d)) (val_lenT (val_var rfl) (SqT.of hpq))) ?_) ?_
        · have : ((da ++ db).length : Int) - (ps.length : Int) = (da.length : Int) := by
            rw [List.length_append, hlp, ← hlb]
            omega
          rw [this]
        -- result = combine(item, done[first:])
        refine ⟨rfl, I.ex _ _ hF, _, rfl, .ref dl, rfl, .int (da.length : Int), rfl, (da.length : Int), rfl, dl, _, rfl, SqL.of I.d, fun pl hpl => ?_⟩
        rw [cutV_tail]
        have ex5 : Ex H4 (upd H4 pl (.lst db)) := Ex.new hpl
        have I5 := I.up ex5
        have k5 := Tk.of ex5
        refine ⟨I5.ex _ _ hF, I5.ex _ _ hFc, sem _ _ _ _ u pl db hPu I5.ex (hvi.mono k5) upd_same (paired_imp rdb fun x _ a h => Gm _ _ _ _ k5 h) (fun y H6 ex6 hy => ?_) (fun r H6 ex6 => qE r H6 (I5.ex.trans ex6))⟩
        have I6 := I5.up ex6
        have k6 := k5.trans (Tk.of ex6)
        have rw6 := paired_imp rw' fun x _ a h => EntAt.mono k6 h
        have rda6 := paired_imp rda fun x _ a h => Gm _ _ _ _ k6 h
        -- del done[first:]
        refine ⟨.ref dl, rfl, .int (da.length : Int), rfl, (da.length : Int), rfl, dl, _, da.length, rfl, rfl, I6.d, by rw [List.length_append]; omega, ?_⟩
        rw [List.take_left]
        have k7 := tk_lst I6.d (.lst da)
        have I7 := I6.setD da
        -- done.append(result)
        have hbd : da.length < sizeLine := Nat.lt_of_le_of_lt (show da.length ≤ 200000 by rw [List.length_append] at hb; omega) (by decide)
        refine d_app (l := dl) (val_var rfl) I7.d (val_var rfl) hbd ?_
        have k8 := k7.trans (tk_lst I7.d (.lst (da ++ [y])))
        refine ⟨meas wt', ?_, W', wt', da ++ [y], d0 ++ [u], _, _, _, _, _, _, rfl, I7.setD _, paired_imp rw6 fun x _ a h => EntAt.mono k8 h, paired_append (paired_imp rda6 fun x _ a h => Gm _ _ _ _ k8 h) (.cons (Gm _ _ _ _ k8 hy) .nil), ok2, ?_, hPw', rfl⟩
        · rw [meas_append, meas_one]
          omega
        · rw [List.length_append] at hb ⊢
          show meas wt' + (d0.length + 1) ≤ _
          omega
      · -- the parts first
        have hb2 : b = false := by
          cases b with
          | true => cases hc
          | false => rfl
        subst hb2
        have hm : meas1 (u, false) = 2 + 2 * szs u.parts := by
          show 2 * u.sz = _
          rw [sz_parts u]
          omega
        have hlW : W'.length ≤ meas wt' := by
          rw [hlw]
          exact meas_len wt'
        have hpp := szs_len u.parts
        -- work.append((item, True))
        refine n_appT (l := wl) (us := [vi, .bl true]) (val_var rfl) I.w (va_v rfl (va_c va_nil)) (by show 2 ≤ sizeLine; decide) (Nat.lt_of_le_of_lt (show W'.length ≤ 200000 by omega) (by decide)) fun pt hpt => ?_
        have exT : Ex H4 (upd H4 pt (.tup [vi, .bl true])) := Ex.new hpt
        have IT := I.up exT
        have kT := (Tk.of exT).trans (tk_lst IT.w (.lst (W' ++ [.ref pt])))
        have IT2 := IT.setW (W' ++ [.ref pt])
        have hpt2 : upd (upd H4 pt (.tup [vi, .bl true])) wl (.lst (W' ++ [.ref pt])) pt = some (.tup [vi, .bl true]) := tk_lst IT.w _ _ _ upd_same
        generalize upd (upd H4 pt (.tup [vi, .bl true])) wl (.lst (W' ++ [.ref pt])) = H5 at kT IT2 hpt2 ⊢
        have rw5 := paired_append (paired_imp rw' fun x _ a h => EntAt.mono kT h) (.cons (show EntAt H5 (.ref pt) (u, true) from ⟨pt, vi, rfl, hpt2, hvi.mono kT⟩) .nil)
        have rd5 := paired_imp rd fun x _ a h => Gm _ _ _ _ kT h
        have rps5 := TsAt.mono kT rps
        have hpq5 := kT _ _ hpq
        -- for part in reversed(parts): work.append((part, False))
        refine ⟨.ref pq, rfl, pq, ps, rfl, .inr ⟨SqT.of hpq5, ?_⟩⟩
        refine RT.for_ItvT (fun i σ' H' => ∃ (x9 : Option V) (es : List V), σ' = [some v, some (.ref fF), some (.ref wl), some (.ref dl), some vi, some (.bl false), some (.ref pq), x7, x8, x9] ∧ WI H wl dl (W' ++ [.ref pt] ++ es) ds H' ∧ Tk H5 H' ∧ Paired (EntAt H') es ((u.parts.reverse.take i).map fun t => (t, false)))
          ⟨x9, [], rfl, by rw [List.append_nil]; exact IT2, .refl, .nil⟩ (fun i σ' H' ⟨_, _, _, _, k, _⟩ => SqT.of (k _ _ hpq5)) ?_ ?_
        · rintro i y σ' H6 hi hy ⟨x9, es, rfl, I6, k6, r6⟩
          have hle := paired_length r6
          rw [List.length_map, List.length_take, List.length_reverse] at hle
          obtain ⟨ty, hty, hyt⟩ := paired_at (TsAt.mono k6 rps5) hy
          refine d_appT (l := wl) (us := [y, .bl false]) (val_var rfl) I6.w (va_v rfl (va_c va_nil)) (by show 2 ≤ sizeLine; decide) (Nat.lt_of_le_of_lt (show _ ≤ 400000 by rw [List.length_append, List.length_append]; show W'.length + 1 + es.length ≤ _; omega) (by decide)) fun pn hpn => ?_
          have exN : Ex H6 (upd H6 pn (.tup [y, .bl false])) := Ex.new hpn
          have IN := I6.up exN
          have kN := (Tk.of exN).trans (tk_lst IN.w (.lst (W' ++ [.ref pt] ++ es ++ [.ref pn])))
          refine ⟨some y, es ++ [.ref pn], rfl, ?_, k6.trans kN, ?_⟩
          · rw [← List.append_assoc]
            exact IN.setW _
          · have e : (u.parts.reverse.take (i + 1)).map (fun t => (t, false)) = (u.parts.reverse.take i).map (fun t => (t, false)) ++ [(ty, false)] := by
              rw [List.take_add_one, List.map_append]
              congr 1
              rw [List.getElem?_reverse (by omega), ← hlp, hty]
              rfl
            rw [e]
            exact paired_append (paired_imp r6 fun x _ a h => EntAt.mono kN h) (.cons ⟨pn, y, rfl, tk_lst IN.w _ _ _ upd_same, hyt.mono kN⟩ .nil)
        · rintro σ' H6 ⟨x9, es, rfl, I6, k6, r6⟩
          rw [show ps.length = u.parts.reverse.length by simp [hlp], List.take_length] at r6
          have hmm : meas (u.parts.reverse.map fun t => (t, false)) = 2 * szs u.parts := by rw [meas_parts, szs_rev]
          refine ⟨meas (wt' ++ [(u, true)] ++ u.parts.reverse.map fun t => (t, false)), ?_, _, wt' ++ [(u, true)] ++ u.parts.reverse.map fun t => (t, false), ds, dt, _, _, _, _, _, _, rfl, I6, paired_append (paired_imp rw5 fun x _ a h => EntAt.mono k6 h) r6, paired_imp rd5 fun x _ a h => Gm _ _ _ _ k6 h, ?_, ?_, ?_, rfl⟩
          · rw [meas_append, meas_append, meas_append, meas_one, meas_one, hmm, hm]
            show _ + 1 + _ < _
            omega
          · rw [List.reverse_append, List.reverse_append, ← List.map_reverse, List.reverse_reverse, okW_parts]
            exact ⟨dt, rfl, ok⟩
          · rw [meas_append, meas_append, meas_one, hmm]
            show meas wt' + 1 + _ + _ ≤ _
            omega
          · intro x hx
            rcases List.mem_append.mp hx with hx | hx
            · rcases List.mem_append.mp hx with hx | hx
              · exact hPw' x hx
              · rw [List.mem_singleton.mp hx]
                exact hPu
            · obtain ⟨y, hy, rfl⟩ := List.mem_map.mp hx
              exact Pp u hPu y (List.mem_reverse.mp hy)
    · have : We = [] := by
        cases We with
        | nil => rfl
        | cons a b => cases he
      subst this
      cases rw_
      have ok : dt = [t] := ok
      subst ok
      cases rd with
      | cons r rr =>
        cases rr
        exact e_ret (val_ixL (val_var rfl) val_c (SqL.of I.d) rfl) (q _ _ I.ex r)
end
/-! ### instance(scheme, types) -/
open NdefX LamX CLO
abbrev s_inst : Stmt := top 15
theorem sc_inst : FnScope ["scheme", "types", "letters", "ty", "meaning", "combine"] ["scheme", "types"] (defScope s_inst) := ⟨rfl, rfl, rfl, by decide +kernel, rfl, by decide +kernel, by decide +kernel⟩
abbrev s_comb : Stmt := (defBody s_inst).getD 2 (.Pass ⟨0, 0, 0, 0⟩)
theorem nsc_comb : NScope ["item", "parts", "meaning"] ["item", "parts"] ["meaning"] (C8.fnScope s_comb) := nscope_by (by decide +kernel)
def qInst : Str := "instance.<locals>."
abbrev mkComb (cells : List (Str × Addr)) : Addr → NF := NF.of s_comb "combine" (qInst ++ "combine") (cloFrom cells (C8.fnScope s_comb).names [])
def qSch : Str := "scheme_ty.<locals>."
def tabI (P : Addr × Addr) : List NTab := [(P.1, fun _ _ => qInst ++ "combine"), (P.2, fun _ _ => qSch ++ "combine")]
theorem tabI_1 {P : Addr × Addr} (hne : P.1 ≠ P.2) : ∀ p ∈ tabI P, p.1 = P.1 → p.2 = fun _ _ => qInst ++ "combine" := by
  intro p hp e
  rcases List.mem_cons.mp hp with rfl | hp
  · rfl
  · rw [List.mem_singleton.mp hp] at e
    exact absurd e.symm hne
theorem tabI_2 {P : Addr × Addr} (hne : P.1 ≠ P.2) : ∀ p ∈ tabI P, p.1 = P.2 → p.2 = fun _ _ => qSch ++ "combine" := by
  intro p hp e
  rcases List.mem_cons.mp hp with rfl | hp
  · exact absurd e hne
  · rw [List.mem_singleton.mp hp]
/-- a def of the top whose code object is known -/
structure AtC (K : PySem.W.Frag) (mg : Str → Option Value) (x : Str) (st : Stmt) (ps : List Str) (c : Addr) : Prop where
  ex : ∃ (f : Addr) (oc : Value) (od an : Option Addr) (osl : Array (Option Value)) (kV doc pm ct : Value), K.lookup f = some ⟨oc, od, .func (PySem.W.fnOf x x (defArgs st) (defBody st) (defScope st) .none kV doc pm an (.ref c) ct), osl⟩ ∧ PySem.W.codeIn K (.ref c) x = true ∧ PySem.W.keepIn K (.ref f) = true ∧ mg x = some (.ref f) ∧
    Binds K (PySem.W.fnOf x x (defArgs st) (defBody st) (defScope st) .none kV doc pm an (.ref c) ct) ps []
/-- what stands in the place of a letter -/
def pickT : List Key → List Ty → Key → Ty
  | k :: ks, t :: ts, j => if k = j then t else pickT ks ts j
  | _, _, j => .var j
def Meant (H : Hp) (kvs : List (Key × V)) (f : Key → Ty) : Prop := ∀ k, match valV kvs k with
  | some v => TyAt H v (f k)
  | none => f k = .var k
theorem Meant.mono {H H' : Hp} {kvs : List (Key × V)} {f : Key → Ty} (m : Meant H kvs f) (k : Tk H H') : Meant H' kvs f := fun j => by
  have := m j
  split <;> rename_i h
  · rw [h] at this
    exact TyAt.mono k this
  · rw [h] at this
    exact this
def GB (f : Key → Ty) (H : Hp) (t : Ty) (v : V) : Prop := TyAt H v (t.bind f)
theorem GB.mono {f : Key → Ty} : ∀ H H' t v, Tk H H' → GB f H t v → GB f H' t v := fun _ _ _ _ k h => TyAt.mono k h
def spComb (f : Key → Ty) (ws : List (Option V)) : Sp := fun vs H Q _ => ∃ (m : Addr) (kvs : List (Key × V)) (item : V) (t : Ty) (l : Addr) (rs : List V), ws = [some (.ref m)] ∧ H m = some (.dK kvs) ∧ vs = [item, .ref l] ∧ TyAt H item t ∧ H l = some (.lst rs) ∧ Paired (fun r p => GB f H p r) rs t.parts ∧ Meant H kvs f ∧
  ∀ v H2, Ex H H2 → GB f H2 t v → Q v H2
section
variable {P : Program} {w : World} {K : PySem.W.Frag} {mg : Str → Option Value} {base : Heap}
theorem fn_two {H : Hp} {v : V} {h : Hd} {ts : List Ty} (x : TyAt H v (.node h ts)) (e : h = .fn) : ts.length = 2 := by
  subst e
  cases x
  rfl
theorem paired_bind {f : Key → Ty} {H : Hp} : ∀ {rs : List V} {ps : List Ty}, Paired (fun r p => GB f H p r) rs ps → TsAt H rs (ps.map fun t => t.bind f)
  | _, _, .nil => .nil
  | _, _, .cons r t => by
    rw [List.map_cons]
    exact .cons r (paired_bind t)
theorem ok_comb (T : Bt mg) (C_build : Can P w K mg base CX0 1 "build" ["head", "parts"] spBuild) (C_head_of : Can P w K mg base CX0 1 "head_of" ["ty"] spHead) (f : Key → Ty) (cells : List (Str × Addr)) (fa c : Addr) : NOk P w K mg base CX0 3 fa (mkComb cells c) ["item", "parts"] ["meaning"] (spComb f) := by
  refine nok_of (N := ["item", "parts", "meaning"]) nsc_comb (fun doc pm ctv us hl => match us, hl with | [_, _], _ => rfl) (fun ws vs H Q E h => ?_) (fun A outer s H vs ws Q E hr hf hc hw h => ?_)
  · obtain ⟨m, kvs, item, t, l, rs, rfl, _, rfl, _⟩ := h
    rfl
  · obtain ⟨m, kvs, item, t, l, rs, rfl, hm, rfl, ht, hl, r, hk, q⟩ := h
    have hu : (A.deeper (envF (mkComb cells c) fa s.heap.objs.size)).units + 1 < cLine := by
      have := hr.units
      omega
    have nd : (ncx CX0 P w K mg base ["item", "parts", "meaning"] (mkComb cells c) fa A outer s H E).N.Nodup := nsc_comb.nd
    refine ⟨_, (pss_cons (ps_if (pt_cmpR op_eq (pe_ix ix_tup (pv 0) pe_int (fun _ _ => rfl)) pe_str (nomark _)) (pss_one (ps_ret (pe_dget2 hu (pv 2) (pe_ix ix_tup (pv 0) pe_int (fun _ _ => rfl)) (pv 0) ⟨rfl, rfl, rfl, rfl⟩))) pss_nil)
      (pss_one (ps_ret (pe_can C_build (hr.mono (by omega)) rfl pass0 (pa_cons (pe_can C_head_of (hr.mono (by omega)) rfl pass0 (pa_cons (pv 0) pa_nil)) (pa_cons (pv 1) pa_nil)))))), ?_⟩
    show tSeq _ _ _ [some item, some (.ref l), some (.ref m)] H
    cases t with
    | var k =>
      cases ht with
      | @var p _ h =>
        refine n_when (b := true) (ans_tag rfl h (by decide)) (fun _ => ?_) (fun h => Bool.noConfusion h)
        refine ⟨.ref m, rfl, m, rfl, .inl ⟨kvs, .inl hm⟩, val_it1 rfl h _ (val_var rfl _ ⟨_, DGet.k hm, q _ _ (.refl _) ?_⟩)⟩
        show TyAt H _ ((Ty.var k).bind f)
        rw [Ty.bind_var]
        have := hk k
        cases e : valV kvs k with
        | none =>
          rw [e] at this
          rw [show f k = .var k from this]
          exact .var h
        | some v =>
          rw [e] at this
          exact this
    | node hd ps =>
      have hx := ht.node
      have go : ∃ p z rest, item = .ref p ∧ H p = some (.tup (.str z :: rest)) ∧ decide (V.str z = V.str "var") = false := by
        cases hx with
        | fn h _ => exact ⟨_, _, _, rfl, h, by decide⟩
        | tup h _ _ => exact ⟨_, _, _, rfl, h, by decide⟩
        | con h _ _ => exact ⟨_, _, _, rfl, h, by decide⟩
      obtain ⟨p, z, rest, rfl, h, hne⟩ := go
      refine n_when (b := false) (ans_tag rfl h hne) (fun h => Bool.noConfusion h) fun _ => ?_
      refine val_var rfl _ ⟨_, hd, ps, rfl, ht, fun qa H1 ex hq => val_var rfl _ ⟨qa, l, hd, rs, ps.map fun t => t.bind f, rfl, hq, ex _ _ hl, TsAt.mono (Tk.of ex) (paired_bind r), fun e => ?_, fun v H2 e2 hv => q v H2 (ex.trans e2) ?_⟩⟩
      · rw [List.length_map]
        exact fn_two ht e
      · show TyAt H2 v ((Ty.node hd ps).bind f)
        rw [Ty.bind_node]
        exact hv
end
open NdefX LamX CLO
theorem n_pair {K : PySem.W.Frag} {σ : L2.St} {H : Hp} {te : TE} {D : Ends} {tz : TS} {i j n : Nat} {p : Addr} {u v : V} (h : Val te σ H (.ref p)) (hp : SqT K H p [u, v]) (hn : 2 = n) (k : tz D ((σ.set i (some u)).set j (some v)) H) :
    tSeq (tAsg te (gTup K n (gCons (gName i) (gCons (gName j) gNil)))) tz D σ H := h _ ⟨p, _, rfl, hp, hn, _, _, rfl, _, _, rfl, rfl, k⟩
theorem n_ndef {σ : L2.St} {H : Hp} {D : Ends} {tz : TS} {T : List NTab} {i : Nat} {mk : Addr → NF} (hT : TabsN T H) (k : ∀ (f c' : Addr) (H1 : Hp), ExtN H H1 → TabsN T H1 → H1 f = some (FnO f (mk c')) → H1 c' = some (CodeO c' (mk c').qual) → tz D (σ.set i (some (.ref f))) H1) :
    tSeq (tNdefM T i mk) tz D σ H := ⟨hT, fun f c' H1 a _ b _ d e => k f c' H1 a b d e⟩
theorem ret_callS2 {σ : L2.St} {H : Hp} {D : Ends} {PreX : L2.St → List V → Hp → Prop} {sp : Sp} {E : XK} {ta tb : TE} {x y : V} (ha : Val ta σ H x) (hb : Val tb σ H y) (hp : PreX σ [x, y] H) (hs : sp [x, y] H D.rt E) : tRet (tCallS PreX sp E (tCons ta (tCons tb tNil))) D σ H := ha _ (hb _ ⟨hp, hs⟩)
theorem mergeK_nd : ∀ (more acc : List (Key × V)), ((acc ++ more).map (·.1)).Nodup → mergeK acc more = acc ++ more
  | [], acc, _ => by
    unfold mergeK
    rw [List.append_nil]
    rfl
  | p :: r, acc, h => by
    have hn : valV acc p.1 = none := by
      cases e : valV acc p.1 with
      | none => rfl
      | some v =>
        have h1 := valV_in e
        rw [List.map_append, List.map_cons, List.nodup_append] at h
        exact absurd rfl (h.2.2 _ h1 _ (List.mem_cons_self ..))
    have ih := mergeK_nd r (acc ++ [(p.1, p.2)]) (by simpa using h)
    unfold mergeK at ih ⊢
    rw [List.foldl_cons, putK_new p.2 hn, ih, List.append_assoc]
    rfl
theorem zip_keys : ∀ {ks : List Key} {ys : List V}, ys.length = ks.length → (ks.zip ys).map (·.1) = ks
  | [], _, _ => by rw [List.zip_nil_left]; rfl
  | k :: ks, [], h => by cases h
  | k :: ks, y :: ys, h => by
    rw [List.zip_cons_cons, List.map_cons, zip_keys (by simpa using h)]
theorem meant_zip {H : Hp} : ∀ {ks : List Key} {ys : List V} {ts : List Ty}, TsAt H ys ts → ys.length = ks.length → Meant H (ks.zip ys) (pickT ks ts)
  | [], ys, ts, _, _ => fun j => by
    rw [List.zip_nil_left]
    cases ts <;> rfl
  | k :: ks, _, _, .nil, h => by cases h
  | k :: ks, _, _, .cons (a := y) (b := t) (l₁ := ys) (l₂ := ts) r rr, h => fun j => by
    rw [List.zip_cons_cons]
    by_cases e : k = j
    · rw [valV_pos (p := (k, y)) e]
      show TyAt H y (if k = j then t else _)
      rw [if_pos e]
      exact r
    · rw [valV_neg (p := (k, y)) e]
      have ih := meant_zip rr (by simpa using h) j
      show match valV (ks.zip ys) j with
        | some v => TyAt H v (if k = j then t else pickT ks ts j)
        | none => (if k = j then t else pickT ks ts j) = .var j
      rw [if_neg e]
      exact ih
def spInst (Pt : Addr × Addr) : Sp := fun vs H Q _ => ∃ (sa la tp : Addr) (tv : V) (t : Ty) (ks : List Key) (ts : List Ty) (ys : List V), vs = [.ref sa, .ref tp] ∧ H sa = some (.tup [.ref la, tv]) ∧ H la = some (.tup (ks.map kV)) ∧ TyAt H tv t ∧ (H tp = some (.lst ys) ∨ H tp = some (.tup ys)) ∧ TsAt H ys ts ∧ ts.length = ks.length ∧ ks.Nodup ∧ t.sz ≤ 100000 ∧ TabsN (tabI Pt) H ∧
  ∀ v H', ExtN H H' → TabsN (tabI Pt) H' → TyAt H' v (t.bind (pickT ks ts)) → Q v H'
def PreI (cells : List (Str × Addr)) (f : Key → Ty) (σ : L2.St) (vs : List V) (H : Hp) : Prop := ∃ (v : V) (fF c' m : Addr) (kvs : List (Key × V)), vs = [v, .ref fF] ∧ H fF = some (FnO fF (mkComb cells c')) ∧ H c' = some (CodeO c' (qInst ++ "combine")) ∧ slotAt σ 4 = some (.ref m) ∧ H m = some (.dK kvs) ∧ Meant H kvs f
theorem ndefB_comb : ndefB (defScope s_inst) (C8.fnScope s_comb) ["meaning"] = true := by decide +kernel
theorem extn_of {H H' : Hp} (e : Ex H H') : ExtN H H' := fun b o h _ => e b o h
theorem extn_tk {H H' : Hp} (e : ExtN H H') : Tk H H' := fun p xs h => e _ _ h (fun ps z => by cases z)
section
variable {P : Program} {w : World} {K : PySem.W.Frag} {mg : Str → Option Value} {base : Heap}
theorem can_inst {c : Addr} {Pt : Addr × Addr} (hne : Pt.1 ≠ Pt.2) (D : AtC K mg "instance" s_inst ["scheme", "types"] c) (TB : TabB base mg c Pt.1) (T : Bt mg) (C_build : Can P w K mg base CX0 1 "build" ["head", "parts"] spBuild) (C_head_of : Can P w K mg base CX0 1 "head_of" ["ty"] spHead)
    (C_fold : ∀ f : Key → Ty, CanS P w K mg base 4 "fold" ["ty", "combine"] (preFold P w K mg base (GB f)) (spFold (GB f))) : Can P w K mg base CX0 5 "instance" ["scheme", "types"] (spInst Pt) := by
  have sc := sc_inst
  obtain ⟨fi, oc, od, an, osl, kV', doc, pm, ct, lk, hcd, kp, hmg, hbd⟩ := D.ex
  refine ⟨fi, _, fn_of lk hcd sc (fun vs H Q E h => ?_) (fun A outer s H vs Q E hr h => ?_), hmg, kp, hbd⟩
  · obtain ⟨sa, la, tp, tv, t, ks, ts, ys, rfl, _⟩ := h
    rfl
  · obtain ⟨sa, la, tp, tv, t, ks, ts, ys, rfl, hsa, hla, ht, htp, hts, hlen, hnd, hsz, hT, q⟩ := h
    obtain ⟨ff, ffd, Fo, hfm, hfk, hfb⟩ := (C_fold (pickT ks ts)).ex
    have hp : ∀ pins σ H1 s1 vs, Inv (cxOf CX0 P w K mg base ["scheme", "types", "letters", "ty", "meaning", "combine"] "instance" (defScope s_inst) fi (.ref c) A outer s H E).nox pins σ H1 s1 → PreI (cxOf CX0 P w K mg base ["scheme", "types", "letters", "ty", "meaning", "combine"] "instance" (defScope s_inst) fi (.ref c) A outer s H E).nox.env.cells (pickT ks ts) σ vs H1 →
        preFold P w K mg base (GB (pickT ks ts)) vs (cxOf CX0 P w K mg base ["scheme", "types", "letters", "ty", "meaning", "combine"] "instance" (defScope s_inst) fi (.ref c) A outer s H E).nox.stack s1 H1 := by
      rintro pins σ H1 s1 vs I ⟨v, fF, c', m, kvs, rfl, h1, h2, h3, h4, h5⟩
      have cp := Caps.made (scope := C8.fnScope s_comb) (fr := ["meaning"]) (js := [4]) I.ok (ndef_free ndefB_comb) (ndef_fr ndefB_comb) rfl
      refine ⟨v, fF, mkComb _ c', ["meaning"], [4].map (slotAt σ), spComb (pickT ks ts), rfl, ok_comb T C_build C_head_of _ _ _ _, h1, h2, cells_of I cp, fun y cc hy => cells_off I (fun _ => rfl) rfl rfl (cp.sub y cc hy), fun H' Q item t l rs ex ht hl r hq => ?_⟩
      refine ⟨m, kvs, item, t, l, rs, ?_, ex _ _ h4, rfl, ht, hl, r, h5.mono (Tk.of ex), hq⟩
      rw [List.map_cons, List.map_nil, h3]
    refine ⟨_, (PSs.nox (pss_cons (ps_asg (pv 0) (pg_tup rfl (pgs_cons (pg_name (i := 2) sc.nd rfl (.inl rfl)) (pgs_cons (pg_name (i := 3) sc.nd rfl (.inl rfl)) pgs_nil))))
      (pss_cons (ps_set (i := 4) sc.nd rfl (.inr rfl) (pe_dictzip rfl (by rfl) T.n_dict (by rfl) T.n_zip (pa_cons (pv 2) (pa_cons (pv 1) pa_nil))))
      (pss_cons (ps_ndefMS (i := 5) (st := s_comb) (T := tabI Pt) (nm := fun _ _ => qInst ++ "combine") (name := "combine") rfl TB rfl (List.mem_cons_self ..) (by rfl) (tabI_1 hne) (ndef_free ndefB_comb) rfl rfl rfl sc.nd rfl (.inl rfl) (.inl rfl))
      (pss_one (ps_ret (CLO.pe_callS (X := (cxOf CX0 P w K mg base ["scheme", "types", "letters", "ty", "meaning", "combine"] "instance" (defScope s_inst) fi (.ref c) A outer s H E).nox) (x := "fold") (E := fun _ _ _ => False) Fo hr (by rfl) hfm hfk hfb _ hp (pa_cons (pv 3) (pa_cons (pv 5) pa_nil))))))))), ?_⟩
    -- letters, ty = scheme
    refine n_pair (val_var rfl) (SqT.of hsa) rfl ?_
    -- meaning = dict(zip(letters, types))
    have hly : ys.length = ks.length := by rw [paired_length hts, hlen]
    refine n_setH (PV := fun v' H' => ∃ m, v' = .ref m ∧ H m = none ∧ H' = upd H m (.dK (ks.zip ys))) (fun Q q => show tCons (tVar 2) (tCons (tVar 1) tNil) _ _ _ from val_var rfl _ (val_var rfl _ ⟨la, tp, ks, ys, rfl, SqT.of hla, htp.imp SqL.of SqT.of, hly, fun m hm => ?_⟩)) ?_
    · rw [mergeK_nd (ks.zip ys) [] (by rw [List.nil_append, zip_keys hly]; exact hnd)]
      exact q _ _ ⟨m, rfl, hm, rfl⟩
    rintro _ H1 ⟨m, rfl, hm, eH⟩
    have ex1 : Ex H H1 := by
      rw [eH]
      exact Ex.new hm
    have hm1 : H1 m = some (.dK (ks.zip ys)) := by
      rw [eH]
      exact upd_same
    have mean1 : Meant H1 (ks.zip ys) (pickT ks ts) := (meant_zip hts hly).mono (Tk.of ex1)
    clear eH
    -- def combine
    refine n_ndef (hT.ext ex1) fun f c' H2 eN T2 f1 c1 => ?_
    have k2 := extn_tk eN
    have hm2 : H2 m = some (.dK (ks.zip ys)) := eN _ _ hm1 (fun ps z => by cases z)
    refine ret_callS2 (val_var rfl) (val_var rfl) ⟨tv, f, c', m, _, rfl, f1, c1, rfl, hm2, mean1.mono k2⟩ ⟨tv, f, t, rfl, (ht.mono (Tk.of ex1)).mono k2, hsz, fun v' H3 ex3 g => ?_⟩
    exact q v' H3 (ExtN.trans (ExtN.trans (extn_of ex1) eN) (extn_of ex3)) (T2.ext ex3) g
end
/-! ### list comprehensions whose elements make objects -/
section
variable {K : PySem.W.Frag} {σ : L2.St} {H : Hp} {ti te : TE} {i : Nat} {a : Addr} {xs : List V} {β : Type} {R : Hp → V → β → Prop} {rs : List β}
def LcP (R : Hp → V → β → Prop) (H : Hp) (D : Addr) (rs : List β) (j : Nat) (H' : Hp) : Prop := Ex H H' ∧ ∃ ys, H' D = some (.lst ys) ∧ Paired (fun y r => R H' y r) ys (rs.take j)
theorem lc_step (Rm : ∀ H H' y r, Tk H H' → R H y r → R H' y r) {D : Addr} {H' : Hp} {j : Nat} {r : β} {σ2 : L2.St} (hD : H D = none) (hl : rs.length < sizeLine) (hr : rs[j]? = some r) (L : LcP R H D rs j H')
    (step : ∀ Q : VK, (∀ y H2, Ex H' H2 → R H2 y r → Q y H2) → te σ2 H' Q) :
    tYes σ2 H' fun b H3 => if b = true then te σ2 H3 fun y H4 => ∃ acc, H4 D = some (.lst acc) ∧ acc.length < sizeLine ∧ LcP R H D rs (j + 1) (upd H4 D (.lst (acc ++ [y]))) else LcP R H D rs (j + 1) H3 := by
  show te σ2 H' fun y H4 => ∃ acc, H4 D = some (.lst acc) ∧ acc.length < sizeLine ∧ LcP R H D rs (j + 1) (upd H4 D (.lst (acc ++ [y])))
  obtain ⟨e, ys, hy, p⟩ := L
  refine step _ fun y H4 e4 g => ⟨ys, e4 _ _ hy, ?_, (e.trans e4).mut hD, _, upd_same, ?_⟩
  · have := paired_length p
    rw [List.length_take] at this
    omega
  · have k := tk_lst (e4 _ _ hy) (.lst (ys ++ [y]))
    rw [List.take_add_one, hr]
    exact paired_append (paired_imp p fun b _ a h => Rm _ _ _ _ ((Tk.of e4).trans k) h) (.cons (Rm _ _ _ _ k g) .nil)
theorem wipe_set {σ : L2.St} {x : Option V} : wipe ((wipe σ [i]).set i x) [i] = wipe σ [i] := by
  show ((σ.set i none).set i x).set i none = σ.set i none
  rw [List.set_set, List.set_set]
theorem get_len {xs : List V} {rs : List β} (hn : rs.length = xs.length) {j : Nat} {x : V} (hx : xs[j]? = some x) : ∃ r, rs[j]? = some r := by
  obtain ⟨h, _⟩ := List.getElem?_eq_some_iff.mp hx
  exact ⟨_, List.getElem?_eq_getElem (by omega)⟩
/-- over a tuple -/
theorem lc_exT (Rm : ∀ H H' y r, Tk H H' → R H y r → R H' y r) (hi : Val ti σ H (.ref a)) (ha : H a = some (.tup xs)) (hn : rs.length = xs.length) (hl : rs.length < sizeLine)
    (step : ∀ (j : Nat) (x : V) (r : β), xs[j]? = some x → rs[j]? = some r → ∀ H', Ex H H' → ∀ Q : VK, (∀ y H2, Ex H' H2 → R H2 y r → Q y H2) → te ((wipe σ [i]).set i (some x)) H' Q) :
    ValH (tLc (iTup K ti) (gName i) tYes te [i]) σ H fun v H' => ∃ D ys, v = .ref D ∧ H D = none ∧ Ex H H' ∧ H' D = some (.lst ys) ∧ Paired (fun y r => R H' y r) ys rs := fun Q q =>
  hi _ ⟨a, rfl, ⟨xs, SqT.of ha⟩, fun D hD => lc_tup (xs := xs) (LcP R H D rs) ⟨Ex.new hD, [], upd_same, .nil⟩ (fun j H' _ p => SqT.of (p.1 _ _ ha))
    (fun j x H' hx L => ⟨wipe_set, let ⟨r, hr⟩ := get_len hn hx; lc_step Rm hD hl hr L (step j x r hx hr H' L.1)⟩)
    (fun H' ⟨e, ys, hy, p⟩ => q _ _ ⟨D, ys, rfl, hD, e, hy, by rw [← hn, List.take_length] at p; exact p⟩)⟩
/-- over a list -/
theorem lc_exL (Rm : ∀ H H' y r, Tk H H' → R H y r → R H' y r) {PV : V → Hp → Prop} (hi : ValH ti σ H PV) (hv : ∀ v H1, PV v H1 → ∃ a xs, v = .ref a ∧ H1 a = some (.lst xs) ∧ rs.length = xs.length ∧ rs.length < sizeLine ∧
      ∀ (j : Nat) (x : V) (r : β), xs[j]? = some x → rs[j]? = some r → ∀ H', Ex H1 H' → ∀ Q : VK, (∀ y H2, Ex H' H2 → R H2 y r → Q y H2) → te ((wipe σ [i]).set i (some x)) H' Q) :
    ValH (tLc (iList K ti) (gName i) tYes te [i]) σ H fun v H' => ∃ H1 a D ys, PV (.ref a) H1 ∧ v = .ref D ∧ H1 D = none ∧ Ex H1 H' ∧ H' D = some (.lst ys) ∧ Paired (fun y r => R H' y r) ys rs := fun Q q =>
  hi _ fun v H1 pv => by
    obtain ⟨a, xs, rfl, ha, hn, hl, step⟩ := hv v H1 pv
    exact ⟨a, rfl, ⟨xs, SqL.of ha⟩, fun D hD => lc_list (xs := xs) (LcP R H1 D rs) ⟨Ex.new hD, [], upd_same, .nil⟩ (fun j H' _ p => SqL.of (p.1 _ _ ha))
      (fun j x H' hx L => ⟨wipe_set, let ⟨r, hr⟩ := get_len hn hx; lc_step Rm hD hl hr L (step j x r hx hr H' L.1)⟩)
      (fun H' ⟨e, ys, hy, p⟩ => q _ _ ⟨H1, a, D, ys, pv, rfl, hD, e, hy, by rw [← hn, List.take_length] at p; exact p⟩)⟩
end
/-! ### expressions put together -/
section
variable {K : PySem.W.Frag} {σ : L2.St} {H : Hp} {ta tb tc te : TE} {x y v : V} {D : Ends} {E : XK} {PA PV : V → Hp → Prop} {PB : V → V → Hp → Prop} {sp : Sp}
theorem vh {v : V} (h : Val te σ H v) : ValH te σ H (fun x H' => x = v ∧ H' = H) := fun Q q => h Q (q _ _ ⟨rfl, rfl⟩)
theorem vimp {PW : V → Hp → Prop} (h : ValH te σ H PV) (k : ∀ v H', PV v H' → PW v H') : ValH te σ H PW := fun Q q => h Q fun v H' p => q v H' (k v H' p)
/-- text[:n] -/
theorem val_slS {z : Str} {n : Int} (ha : Val ta σ H (.str z)) (hb : Val tb σ H (.int n)) (hz : z.length ≤ sizeLine) : Val (tSl rSlS ta tNoPart (tPart tb)) σ H (.str (cutS z none (some n))) := fun Q q => ha _ (by
  show tPart tb σ H fun u H3 => rSlS (.str z) none u H3 Q
  exact hb _ ⟨n, rfl, z, rfl, hz, q⟩)
/-- tuple(text) -/
theorem valH_tupS {t : List Nat} (ha : Val te σ H (.str (S t))) (hl : t.length ≤ 1000) : ValH (tCB (fun xs H Q => ∃ t : List Nat, xs = [.str (S t)] ∧ t.length ≤ 1000 ∧ ∀ p, H p = none → Q (.ref p) (upd H p (.tup (t.map fun c => V.str (S [c]))))) (tCons te tNil)) σ H
    (fun v H' => ∃ p, v = .ref p ∧ H p = none ∧ H' = upd H p (.tup (t.map fun c => V.str (S [c])))) := fun Q q => ha _ ⟨t, rfl, hl, fun p hp => q _ _ ⟨p, rfl, hp, rfl⟩⟩
/-- tuple(list), list(list), list(tuple) -/
theorem valH_tupL {l : Addr} {xs : List V} (ha : ValH te σ H PV) (hv : ∀ v H1, PV v H1 → ∃ l xs, v = .ref l ∧ H1 l = some (.lst xs)) : ValH (tCB (fun xs H Q => ∃ p ys, xs = [.ref p] ∧ ((SqL K H p ys ∧ ∀ l, H l = none → Q (.ref l) (upd H l (.tup ys))) ∨ (SqT K H p ys ∧ Q (.ref p) H))) (tCons te tNil)) σ H
    (fun v H' => ∃ l xs H1 p, PV (.ref l) H1 ∧ H1 l = some (.lst xs) ∧ v = .ref p ∧ H1 p = none ∧ H' = upd H1 p (.tup xs)) := fun Q q => ha _ fun v H1 pv => by
  obtain ⟨l, xs, rfl, hl⟩ := hv v H1 pv
  exact ⟨l, xs, rfl, .inl ⟨SqL.of hl, fun p hp => q _ _ ⟨l, xs, H1, p, pv, hl, rfl, hp, rfl⟩⟩⟩
theorem valH_tupV {l : Addr} {xs : List V} (ha : Val te σ H (.ref l)) (hl : H l = some (.lst xs)) : ValH (tCB (fun xs H Q => ∃ p ys, xs = [.ref p] ∧ ((SqL K H p ys ∧ ∀ l, H l = none → Q (.ref l) (upd H l (.tup ys))) ∨ (SqT K H p ys ∧ Q (.ref p) H))) (tCons te tNil)) σ H
    (fun v H' => ∃ p, v = .ref p ∧ H p = none ∧ H' = upd H p (.tup xs)) := fun Q q => ha _ ⟨l, xs, rfl, .inl ⟨SqL.of hl, fun p hp => q _ _ ⟨p, rfl, hp, rfl⟩⟩⟩
/-- (a, b) -/
theorem valH_pair (ha : ValH ta σ H PA) (hb : ∀ x H1, PA x H1 → ValH tb σ H1 (PB x)) : ValH (tTup (tCons ta (tCons tb tNil))) σ H (fun v H' => ∃ x H1 y H2 p, PA x H1 ∧ PB x y H2 ∧ v = .ref p ∧ H2 p = none ∧ H' = upd H2 p (.tup [x, y])) := fun Q q =>
  ha _ fun x H1 pa => hb x H1 pa _ fun y H2 pb => ⟨by show 2 ≤ sizeLine; decide, fun p hp => q _ _ ⟨x, H1, y, H2, p, pa, pb, rfl, hp, rfl⟩⟩
theorem valH_pairV (ha : ValH ta σ H PA) (hb : ∀ x H1, PA x H1 → Val tb σ H1 y) : ValH (tTup (tCons ta (tCons tb tNil))) σ H (fun v H' => ∃ x H1 p, PA x H1 ∧ v = .ref p ∧ H1 p = none ∧ H' = upd H1 p (.tup [x, y])) := fun Q q =>
  ha _ fun x H1 pa => hb x H1 pa _ ⟨by show 2 ≤ sizeLine; decide, fun p hp => q _ _ ⟨x, H1, p, pa, rfl, hp, rfl⟩⟩
theorem tup2 {Q : VK} (ha : Val ta σ H x) (hb : Val tb σ H y) (k : ∀ p, H p = none → Q (.ref p) (upd H p (.tup [x, y]))) : tTup (tCons ta (tCons tb tNil)) σ H Q := ha _ (hb _ ⟨by show 2 ≤ sizeLine; decide, fun p hp => k p hp⟩)
theorem tup3 {Q : VK} {z : V} (ha : Val ta σ H x) (hb : Val tb σ H y) (hc : Val tc σ H z) (k : ∀ p, H p = none → Q (.ref p) (upd H p (.tup [x, y, z]))) : tTup (tCons ta (tCons tb (tCons tc tNil))) σ H Q := ha _ (hb _ (hc _ ⟨by show 3 ≤ sizeLine; decide, fun p hp => k p hp⟩))
/-- (a, b, c) -/
theorem valH_triple {PC : V → V → V → Hp → Prop} (ha : ValH ta σ H PA) (hb : ∀ x H1, PA x H1 → ValH tb σ H1 (PB x)) (hc : ∀ x H1 y H2, PA x H1 → PB x y H2 → ValH tc σ H2 (PC x y)) :
    ValH (tTup (tCons ta (tCons tb (tCons tc tNil)))) σ H (fun v H' => ∃ x H1 y H2 z H3 p, PA x H1 ∧ PB x y H2 ∧ PC x y z H3 ∧ v = .ref p ∧ H3 p = none ∧ H' = upd H3 p (.tup [x, y, z])) := fun Q q =>
  ha _ fun x H1 pa => hb x H1 pa _ fun y H2 pb => hc x H1 y H2 pa pb _ fun z H3 pc => ⟨by show 3 ≤ sizeLine; decide, fun p hp => q _ _ ⟨x, H1, y, H2, z, H3, p, pa, pb, pc, rfl, hp, rfl⟩⟩
theorem ret_pair (ha : Val ta σ H x) (hb : ValH tb σ H PV) (k : ∀ y H', PV y H' → ∀ p, H' p = none → D.rt (.ref p) (upd H' p (.tup [x, y]))) : tRet (tTup (tCons ta (tCons tb tNil))) D σ H :=
  ha _ (hb _ fun y H' p => ⟨by show 2 ≤ sizeLine; decide, fun q hq => k y H' p q hq⟩)
theorem ret_triple {z : V} {PB : V → Hp → V → Hp → Prop} (h0 : Val ta σ H z) (ha : ValH tb σ H PA) (hb : ∀ x H1, PA x H1 → ValH tc σ H1 (PB x H1)) (k : ∀ x H1 y H2, PA x H1 → PB x H1 y H2 → ∀ p, H2 p = none → D.rt (.ref p) (upd H2 p (.tup [z, x, y]))) : tRet (tTup (tCons ta (tCons tb (tCons tc tNil)))) D σ H :=
  h0 _ (ha _ fun x H1 pa => hb x H1 pa _ fun y H2 pb => ⟨by show 3 ≤ sizeLine; decide, fun p hp => k x H1 y H2 pa pb p hp⟩)
theorem cb1 {r : List V → Hp → VK → Prop} {Q : VK} (ha : ValH te σ H PV) (k : ∀ x H1, PV x H1 → r [x] H1 Q) : tCB r (tCons te tNil) σ H Q := ha _ fun x H1 p => k x H1 p
theorem d_call2 {F B C : L2.St → Hp → Prop} {R : VK} (ha : Val ta σ H x) (hb : Val tb σ H y) (h : sp [x, y] H (fun _ H' => F σ H') E) : tDrop (tCall sp [] E (tCons ta (tCons tb tNil))) ⟨F, R, B, C⟩ σ H := ha _ (hb _ h)
/-- f(a, b) -/
theorem valH_call2 (ha : ValH ta σ H PA) (hb : ∀ x H1, PA x H1 → ValH tb σ H1 (PB x)) (h : ∀ x H1 y H2, PA x H1 → PB x y H2 → ∀ Q : VK, (∀ v H', PV v H' → Q v H') → sp [x, y] H2 Q E) : ValH (tCall sp [] E (tCons ta (tCons tb tNil))) σ H PV := fun Q q =>
  ha _ fun x H1 pa => hb x H1 pa _ fun y H2 pb => h x H1 y H2 pa pb Q q
theorem valH_call1 (ha : ValH ta σ H PA) (h : ∀ x H1, PA x H1 → ∀ Q : VK, (∀ v H', PV v H' → Q v H') → sp [x] H1 Q E) : ValH (tCall sp [] E (tCons ta tNil)) σ H PV := fun Q q => ha _ fun x H1 pa => h x H1 pa Q q
end
/-! ### close(ty) -/
open NdefX LamX CLO
abbrev s_close : Stmt := top 14
theorem sc_close : FnScope ["ty", "found", "letters", "letter"] ["ty"] (defScope s_close) := ⟨rfl, rfl, rfl, by decide +kernel, rfl, by decide +kernel, by decide +kernel⟩
def lLOWER : List Nat := sLOWER.cps.toList
theorem low_len : lLOWER.length = 26 := by decide +kernel
def lets (n : Nat) : List Key := (lLOWER.take n).map fun c => Sum.inr (S [c])
theorem lets_len {n : Nat} (h : n ≤ 26) : (lets n).length = n := by
  unfold lets
  rw [List.length_map, List.length_take, low_len]
  omega
theorem lets_nd (n : Nat) : (lets n).Nodup := by
  have h : lets n = (lLOWER.map fun c => (Sum.inr (S [c]) : Key)).take n := by
    unfold lets
    rw [List.map_take]
  rw [h]
  exact List.Nodup.sublist (List.take_sublist _ _) (by decide +kernel)
theorem cut_low (n : Nat) : cutS sLOWER none (some (n : Int)) = S (lLOWER.take n) := by
  unfold cutS
  rw [HT.sIx_nat, HT.sIx_none, Nat.sub_zero, List.drop_zero]
  show S _ = S _
  congr 1
  show List.take (min n sLOWER.cps.size) lLOWER = _
  have e : sLOWER.cps.size = lLOWER.length := by decide +kernel
  rw [e]
  by_cases h : n ≤ lLOWER.length
  · rw [Nat.min_eq_left h]
  · rw [Nat.min_eq_right (by omega), List.take_length, List.take_of_length_le (by omega)]
/-- the letters in the place of the variables -/
def closeT (t : Ty) : Ty := t.bind (pickT (t.vs []) ((lets (t.vs []).length).map Ty.var))
def SchemeAt (H : Hp) (v : V) (ks : List Key) (t : Ty) : Prop := ∃ (sa la : Addr) (tv : V), v = .ref sa ∧ H sa = some (.tup [.ref la, tv]) ∧ H la = some (.tup (ks.map kV)) ∧ TyAt H tv t
theorem SchemeAt.mono {H H' : Hp} {v : V} {ks : List Key} {t : Ty} (k : Tk H H') (h : SchemeAt H v ks t) : SchemeAt H' v ks t := by
  obtain ⟨sa, la, tv, rfl, h1, h2, h3⟩ := h
  exact ⟨sa, la, tv, rfl, k _ _ h1, k _ _ h2, h3.mono k⟩
def spClose (Pt : Addr × Addr) : Sp := fun vs H Q _ => ∃ (v : V) (t : Ty), vs = [v] ∧ TyAt H v t ∧ (t.vs []).length ≤ 26 ∧ t.sz ≤ 100000 ∧ TabsN (tabI Pt) H ∧
  ∀ v H', ExtN H H' → TabsN (tabI Pt) H' → SchemeAt H' v (lets (t.vs []).length) (closeT t) → Q v H'
theorem paired_of {α β γ : Type} {F : α → β → Prop} {f : γ → α} {g : γ → β} : ∀ {l : List γ}, (∀ c ∈ l, F (f c) (g c)) → Paired F (l.map f) (l.map g)
  | [], _ => .nil
  | c :: l, h => .cons (h c (List.mem_cons_self ..)) (paired_of fun c hc => h c (List.mem_cons_of_mem _ hc))
theorem var_ts {H : Hp} : ∀ {ks : List Key} {ys : List V}, Paired (fun y k => TyAt H y (.var k)) ys ks → TsAt H ys (ks.map Ty.var)
  | _, _, .nil => .nil
  | _, _, .cons r t => by
    rw [List.map_cons]
    exact .cons r (var_ts t)
section
variable {P : Program} {w : World} {K : PySem.W.Frag} {mg : Str → Option Value} {base : Heap}
theorem can_close {Pt : Addr × Addr} (D : At K mg "close" s_close ["ty"]) (T : Bt mg) (C_variables : Can P w K mg base CX0 2 "variables" ["ty"] spVars) (C_instance : Can P w K mg base CX0 5 "instance" ["scheme", "types"] (spInst Pt)) : Can P w K mg base CX0 6 "close" ["ty"] (spClose Pt) := by
  have sc := sc_close
  obtain ⟨tk, m_LOWER⟩ := T.LOWER
  refine D.can sc (fun vs H Q E h => ?_) (fun f cdv A outer s H vs Q E hr h => ?_)
  · obtain ⟨v, t, rfl, _⟩ := h
    rfl
  · obtain ⟨v, t, rfl, ht, h26, hsz, hT, q⟩ := h
    refine ⟨_, (pss_cons (ps_set (i := 1) sc.nd rfl (.inl rfl) (pe_can C_variables (hr.mono (by omega)) rfl pass0 (pa_cons (pv 0) pa_nil)))
    (pss_cons (ps_if (pt_cmpR op_gt (pe_callB call_len_seq (by rfl) T.n_len PySem.boot_len (pa_cons (pv 1) pa_nil)) (pe_callB call_len_str (by rfl) T.n_len PySem.boot_len (pa_cons (pe_gs rfl m_LOWER) pa_nil)) (nomark _)) (pss_one ps_never) pss_nil)
    (pss_cons (ps_set (i := 2) sc.nd rfl (.inl rfl) (pe_callTy (call_tupS rfl) (by rfl) T.n_tuple (by decide +kernel) (pa_cons (pe_slice sl_str (pe_gs rfl m_LOWER) po_none (po_some (pe_callB call_len_seq (by rfl) T.n_len PySem.boot_len (pa_cons (pv 1) pa_nil)))) pa_nil)))
    (pss_one (ps_ret (pe_tup (pa_cons (pv 2) (pa_cons (pe_can C_instance (hr.mono (by omega)) rfl pass0 (pa_cons (pe_tup (pa_cons (pe_callTy call_tuple_of (by rfl) T.n_tuple (by decide +kernel) (pa_cons (pv 1) pa_nil)) (pa_cons (pv 0) pa_nil))) (pa_cons (pe_lc (own := [("letter", 3)]) (g := gName 3) (tt := tYes) rfl sc.nd (pi_tup (pv 2)) (blkOk_by (N := ["ty", "found", "letters", "letter"]) (sc := defScope (top 14)) (by decide +kernel)) (fun _ _ _ _ _ => pg_name (i := 3) sc.nd rfl (Or.inl rfl)) (fun _ _ _ _ _ => pts_nil) (fun _ _ _ _ _ => (pe_tup (pa_cons pe_str (pa_cons (pv 3) pa_nil))))) pa_nil))) pa_nil)))))))), ?_⟩
    refine n_setH (PV := fun v' H' => ∃ l, v' = .ref l ∧ Ex H H' ∧ H' l = some (.lst ((t.vs []).map kV))) (fun Q q => val_var rfl _ ⟨v, t, rfl, ht, hsz, fun l H' _ e h => q _ _ ⟨l, rfl, e, h⟩⟩) ?_
    rintro _ H1 ⟨l, rfl, e1, hl⟩
    have hn : ((t.vs []).map kV).length = (t.vs []).length := List.length_map ..
    refine n_when (b := false) (Ans.to (ans_t (val_I0 (val_lenL (val_var rfl) (SqL.of hl)) (val_lenS val_c (by decide +kernel)))) ?_) (fun h => Bool.noConfusion h) (fun _ => ?_)
    · rw [hn]
      refine decide_eq_false ?_
      have : (sLOWER.length : Int) = 26 := by decide +kernel
      rw [this]
      omega
    refine n_setH (PV := fun v' H' => ∃ la, v' = .ref la ∧ Ex H1 H' ∧ H' la = some (.tup ((lets (t.vs []).length).map kV))) (fun Q q => ?_) ?_
    · have h1 : Val (tSl rSlS (tC (.str sLOWER)) tNoPart (tPart (tCB (fun xs H Q => ∃ p ys, xs = [.ref p] ∧ (SqL K H p ys ∨ SqT K H p ys) ∧ Q (.int ys.length) H) (tCons (tVar 1) tNil)))) [some v, some (.ref l), none, none] H1 (.str (S (lLOWER.take (t.vs []).length))) := Val.is (val_slS val_c (val_lenL (val_var rfl) (SqL.of hl)) (by decide +kernel)) (by rw [hn, cut_low])
      refine valH_tupS h1 (by rw [List.length_take]; omega) _ ?_
      rintro _ _ ⟨p, rfl, hp, rfl⟩
      refine q _ _ ⟨p, rfl, Ex.new hp, ?_⟩
      rw [upd_same]
      unfold lets
      rw [List.map_map]
      rfl
    rintro _ H2 ⟨la, rfl, e2, hla⟩
    have hl2 := e2 _ _ hl
    refine ret_pair (val_var rfl) (PV := fun tv H' => ExtN H H' ∧ TabsN (tabI Pt) H' ∧ H' la = some (.tup ((lets (t.vs []).length).map kV)) ∧ TyAt H' tv (closeT t))
      (valH_call2 (PA := fun x H' => ∃ ps pk, x = .ref ps ∧ Ex H2 H' ∧ H' ps = some (.tup [.ref pk, v]) ∧ H' pk = some (.tup ((t.vs []).map kV))) (PB := fun x y H' => ∃ ps pk D ys, x = .ref ps ∧ y = .ref D ∧ Ex H2 H' ∧ H' ps = some (.tup [.ref pk, v]) ∧ H' pk = some (.tup ((t.vs []).map kV)) ∧ H' D = some (.lst ys) ∧ TsAt H' ys ((lets (t.vs []).length).map Ty.var)) ?_ ?_ ?_) ?_
    · refine vimp (valH_pairV (valH_tupV (val_var rfl) hl2) fun _ _ _ => val_var rfl) ?_
      rintro _ _ ⟨_, _, ps, ⟨pk, rfl, hpk, rfl⟩, rfl, hps, rfl⟩
      exact ⟨ps, pk, rfl, (Ex.new hpk).trans (Ex.new hps), upd_same, Ex.new hps _ _ upd_same⟩
    · rintro _ H4 ⟨ps, pk, rfl, e34, hps2, hpk2⟩
      have hla4 := e34 _ _ hla
      refine vimp (lc_exT (R := fun H y k => TyAt H y (.var k)) (rs := lets (t.vs []).length) (fun _ _ _ _ k h => h.mono k) (val_var rfl) hla4 (by rw [List.length_map]) (by rw [lets_len h26]; exact Nat.lt_of_le_of_lt h26 (by decide)) (fun j x r hx hr H' e Q q => ?_)) ?_
      · rw [List.getElem?_map, hr] at hx
        cases hx
        exact tup2 val_c (val_var rfl) fun p hp => q _ _ (Ex.new hp) (.var upd_same)
      · rintro _ H5 ⟨D, ys, rfl, _, e5, hD, pys⟩
        exact ⟨ps, pk, D, ys, rfl, rfl, e34.trans e5, e5 _ _ hps2, e5 _ _ hpk2, hD, var_ts pys⟩
    · rintro _ _ _ H5 _ ⟨ps, pk, D, ys, rfl, rfl, e25, hps, hpk, hD, hys⟩ Q q
      have e15 : Ex H H5 := (e1.trans e2).trans e25
      refine ⟨ps, pk, D, v, t, t.vs [], (lets (t.vs []).length).map Ty.var, ys, rfl, hps, hpk, ht.mono (Tk.of e15), .inl hD, hys, ?_, Ty.vs_nodup t [] List.nodup_nil, hsz, hT.ext e15, fun tv H6 e6 T6 ht6 => q _ _ ⟨ExtN.trans (extn_of e15) e6, T6, extn_tk e6 _ _ (e25 _ _ hla), ht6⟩⟩
      rw [List.length_map, lets_len h26]
    · rintro tv H6 ⟨e6, T6, hla6, ht6⟩ sa hsa
      exact q _ _ (ExtN.trans e6 (extn_of (Ex.new hsa))) (T6.ext (Ex.new hsa)) ⟨sa, la, tv, rfl, upd_same, Ex.new hsa _ _ hla6, ht6.mono (Tk.of (Ex.new hsa))⟩
end
/-! ### types as syntax -/
open NdefX LamX CLO
inductive SyAt (H : Hp) : V → Ty → Prop
  | var {p : Addr} {k : Key} : H p = some (.tup [.str "tyvar", kV k]) → SyAt H (.ref p) (.var k)
  | fn {p : Addr} {va vb : V} {a b : Ty} : H p = some (.tup [.str "tyfun", va, vb]) → SyAt H va a → SyAt H vb b → SyAt H (.ref p) (.node .fn [a, b])
  | tup {p q : Addr} {vs : List V} {ts : List Ty} : H p = some (.tup [.str "tytuple", .ref q]) → H q = some (.tup vs) → Paired (SyAt H) vs ts → SyAt H (.ref p) (.node .tup ts)
  | con {p q l : Addr} {n : Str} {vs : List V} {ts : List Ty} : H p = some (.tup [.str "tycon", .ref l, .ref q]) → H l = some (.tup [.str n]) → H q = some (.tup vs) → Paired (SyAt H) vs ts → SyAt H (.ref p) (.node (.con n) ts)
theorem SyAt.mono {H H' : Hp} (k : Tk H H') : ∀ {t : Ty} {v : V}, SyAt H v t → SyAt H' v t := by
  intro t
  induction t using Ty.ind with
  | hv j =>
    intro v h
    cases h with
    | var h => exact .var (k _ _ h)
  | hn h ps ih =>
    intro v hh
    cases hh with
    | fn h a b => exact .fn (k _ _ h) (ih _ (by simp) a) (ih _ (by simp) b)
    | tup h1 h2 r => exact .tup (k _ _ h1) (k _ _ h2) (paired_imp r fun b hb a => ih b hb)
    | con h1 h2 h3 r => exact .con (k _ _ h1) (k _ _ h2) (k _ _ h3) (paired_imp r fun b hb a => ih b hb)
def maxl : List Nat → Nat
  | [] => 0
  | a :: l => max a (maxl l)
theorem maxl_le {c : Nat} : ∀ {l : List Nat}, (∀ a ∈ l, a ≤ c) → maxl l ≤ c
  | [], _ => Nat.zero_le _
  | a :: l, h => Nat.max_le.mpr ⟨h a (List.mem_cons_self ..), maxl_le fun a ha => h a (List.mem_cons_of_mem _ ha)⟩
theorem le_maxl : ∀ {l : List Nat} {a : Nat}, a ∈ l → a ≤ maxl l
  | b :: l, a, h => by
    show a ≤ max b (maxl l)
    rcases List.mem_cons.mp h with rfl | h
    · exact Nat.le_max_left ..
    · exact Nat.le_trans (le_maxl h) (Nat.le_max_right ..)
theorem maxl_mem : ∀ {l : List Nat}, l ≠ [] → maxl l ∈ l
  | [], h => absurd rfl h
  | [a], _ => by
    show max a 0 ∈ [a]
    rw [Nat.max_zero]
    exact List.mem_singleton.mpr rfl
  | a :: b :: l, _ => by
    have ih := maxl_mem (l := b :: l) (by simp)
    show max a (maxl (b :: l)) ∈ _
    rcases Nat.le_total a (maxl (b :: l)) with q | q
    · rw [Nat.max_eq_right q]
      exact List.mem_cons_of_mem _ ih
    · rw [Nat.max_eq_left q]
      exact List.mem_cons_self ..
def Ty.dpt : Ty → Nat
  | .var _ => 1
  | .node _ ps => 1 + maxl (ps.map fun t => t.dpt)
theorem dpt_var (k : Key) : (Ty.var k).dpt = 1 := by rw [Ty.dpt]
theorem dpt_node (h : Hd) (ps : List Ty) : (Ty.node h ps).dpt = 1 + maxl (ps.map fun t => t.dpt) := by rw [Ty.dpt]
theorem dpt_parts (t : Ty) : t.dpt = 1 + maxl (t.parts.map fun t => t.dpt) := by
  cases t with
  | var k => rw [dpt_var]; rfl
  | node h ps => rw [dpt_node]; rfl
theorem dpt_part {t u : Ty} (h : u ∈ t.parts) : u.dpt < t.dpt := by
  have := le_maxl (List.mem_map.mpr ⟨u, h, rfl⟩ : u.dpt ∈ t.parts.map fun t => t.dpt)
  rw [dpt_parts t]
  omega
section
variable {K : PySem.W.Frag} {σ : L2.St} {H : Hp} {ta tb tc te : TE} {x y v : V} {D : Ends} {PV : V → Hp → Prop}
theorem ret2 (ha : Val ta σ H x) (hb : Val tb σ H y) (k : ∀ p, H p = none → D.rt (.ref p) (upd H p (.tup [x, y]))) : tRet (tTup (tCons ta (tCons tb tNil))) D σ H := tup2 ha hb k
theorem ret3 {z : V} (ha : Val ta σ H x) (hb : Val tb σ H y) (hc : Val tc σ H z) (k : ∀ p, H p = none → D.rt (.ref p) (upd H p (.tup [x, y, z]))) : tRet (tTup (tCons ta (tCons tb (tCons tc tNil)))) D σ H := tup3 ha hb hc k
theorem valH_tup1 (ha : Val ta σ H x) : ValH (tTup (tCons ta tNil)) σ H (fun v H' => ∃ p, v = .ref p ∧ H p = none ∧ H' = upd H p (.tup [x])) := fun Q q => ha _ ⟨by show 1 ≤ sizeLine; decide, fun p hp => q _ _ ⟨p, rfl, hp, rfl⟩⟩
end
/-! ### written(ty, parts) -/
abbrev s_written : Stmt := top 17
theorem sc_written : FnScope ["ty", "parts"] ["ty", "parts"] (defScope s_written) := ⟨rfl, rfl, rfl, by decide +kernel, rfl, by decide +kernel, by decide +kernel⟩
def spWritten : Sp := fun vs H Q _ => ∃ (item : V) (t : Ty) (l : Addr) (rs : List V), vs = [item, .ref l] ∧ TyAt H item t ∧ H l = some (.lst rs) ∧ Paired (SyAt H) rs t.parts ∧ ∀ v H', Ex H H' → SyAt H' v t → Q v H'
section
variable {P : Program} {w : World} {K : PySem.W.Frag} {mg : Str → Option Value} {base : Heap}
theorem can_written (D : At K mg "written" s_written ["ty", "parts"]) (T : Bt mg) : Can P w K mg base CX0 1 "written" ["ty", "parts"] spWritten := by
  have sc := sc_written
  refine D.can sc (fun vs H Q E h => ?_) (fun f cdv A outer s H vs Q E hr h => ?_)
  · obtain ⟨item, t, l, rs, rfl, _⟩ := h
    rfl
  · obtain ⟨item, t, l, rs, rfl, ht, hl, r, q⟩ := h
    refine ⟨_, (pss_cons (ps_if (pt_cmpR op_eq (pe_ix ix_tup (pv 0) pe_int (fun _ _ => rfl)) pe_str (nomark _)) (pss_one (ps_ret (pe_tup (pa_cons pe_str (pa_cons (pe_ix ix_tup (pv 0) pe_int (fun _ _ => rfl)) pa_nil))))) pss_nil)
    (pss_cons (ps_if (pt_cmpR op_eq (pe_ix ix_tup (pv 0) pe_int (fun _ _ => rfl)) pe_str (nomark _)) (pss_one (ps_ret (pe_tup (pa_cons pe_str (pa_cons (pe_ix ix_list (pv 1) pe_int (fun _ _ => rfl)) (pa_cons (pe_ix ix_list (pv 1) pe_int (fun _ _ => rfl)) pa_nil)))))) pss_nil)
    (pss_cons (ps_if (pt_cmpR op_eq (pe_ix ix_tup (pv 0) pe_int (fun _ _ => rfl)) pe_str (nomark _)) (pss_one (ps_ret (pe_tup (pa_cons pe_str (pa_cons (pe_callTy call_tuple_of (by rfl) T.n_tuple (by decide +kernel) (pa_cons (pv 1) pa_nil)) pa_nil))))) pss_nil)
    (pss_one (ps_ret (pe_tup (pa_cons pe_str (pa_cons (pe_tup (pa_cons (pe_ix ix_tup (pv 0) pe_int (fun _ _ => rfl)) pa_nil)) (pa_cons (pe_callTy call_tuple_of (by rfl) T.n_tuple (by decide +kernel) (pa_cons (pv 1) pa_nil)) pa_nil))))))))), ?_⟩
    cases t with
    | var k =>
      cases ht with
      | @var p _ h =>
        refine n_when (b := true) (ans_tag rfl h (by decide)) (fun _ => ?_) (fun h => Bool.noConfusion h)
        exact ret2 val_c (val_it1 rfl h) fun p hp => q _ _ (Ex.new hp) (.var upd_same)
    | node hd ps =>
      have hx := ht.node
      cases hx with
      | @fn p va vb a b h _ =>
        refine n_when (b := false) (ans_tag rfl h (by decide)) (fun h => Bool.noConfusion h) fun _ => ?_
        refine n_when (b := true) (ans_tag rfl h (by decide)) (fun _ => ?_) (fun h => Bool.noConfusion h)
        cases r with
        | @cons va _ _ _ ra r =>
          cases r with
          | @cons vb _ _ _ rb r =>
            cases r
            refine ret3 val_c (val_ixL (val_var rfl) val_c (SqL.of hl) rfl) (val_ixL (val_var rfl) val_c (SqL.of hl) rfl) fun p hp => ?_
            have k := Tk.of (Ex.new (o := .tup [.str "tyfun", va, vb]) hp)
            exact q _ _ (Ex.new hp) (.fn upd_same (ra.mono k) (rb.mono k))
      | tup h _ _ =>
        refine n_when (b := false) (ans_tag rfl h (by decide)) (fun h => Bool.noConfusion h) fun _ => ?_
        refine n_when (b := false) (ans_tag rfl h (by decide)) (fun h => Bool.noConfusion h) fun _ => ?_
        refine n_when (b := true) (ans_tag rfl h (by decide)) (fun _ => ?_) (fun h => Bool.noConfusion h)
        refine ret_pair val_c (valH_tupV (val_var rfl) hl) ?_
        rintro _ _ ⟨c, rfl, hc, rfl⟩ p hp
        have e := (Ex.new (o := .tup rs) hc).trans (Ex.new (o := .tup [.str "tytuple", .ref c]) hp)
        exact q _ _ e (.tup upd_same (Ex.new hp _ _ upd_same) (paired_imp r fun _ _ _ => SyAt.mono (Tk.of e)))
      | @con p q1 n _ _ h _ _ =>
        refine n_when (b := false) (ans_tag rfl h (by decide)) (fun h => Bool.noConfusion h) fun _ => ?_
        refine n_when (b := false) (ans_tag rfl h (by decide)) (fun h => Bool.noConfusion h) fun _ => ?_
        refine n_when (b := false) (ans_tag rfl h (by decide)) (fun h => Bool.noConfusion h) fun _ => ?_
        refine ret_triple (PB := fun x H1 y H2 => ∃ c l1, x = .ref l1 ∧ y = .ref c ∧ Ex H H2 ∧ H2 l1 = some (.tup [.str n]) ∧ H2 c = some (.tup rs)) val_c (valH_tup1 (val_it1 rfl h)) ?_ ?_
        · rintro _ _ ⟨l1, rfl, hl1, rfl⟩
          refine vimp (valH_tupV (val_var rfl) (Ex.new hl1 _ _ hl)) ?_
          rintro _ _ ⟨c, rfl, hc, rfl⟩
          exact ⟨c, l1, rfl, rfl, (Ex.new hl1).trans (Ex.new hc), Ex.new hc _ _ upd_same, upd_same⟩
        · rintro _ _ _ _ _ ⟨c, l1, rfl, rfl, e, h1, h2⟩ p hp
          have e2 := Ex.new (o := .tup [.str "tycon", .ref l1, .ref c]) hp
          exact q _ _ (e.trans e2) (.con upd_same (e2 _ _ h1) (e2 _ _ h2) (paired_imp r fun _ _ _ => SyAt.mono (Tk.of (e.trans e2))))
end
/-! ### scheme_ty(scheme) -/
open NdefX LamX CLO
structure LimT (K : PySem.W.Frag) (mg : Str → Option Value) (lim : Addr) : Prop where
  gL : mg "LimitError" = some (.ref lim)
  limQ : PySem.W.excIn K lim He.veBase "ValueError.__new__" = true
  limK : PySem.W.keepIn K (.ref lim) = true
  limB : PySem.W.subIn K (.ref lim) (.type "BaseException") = some true
  limT : PySem.W.typeIn K (.ref lim) = some (.type "type")
  n_max : mg "max" = none
  MOST : ∃ tk, mg "MOST_DEPTH" = some (.int 30 tk)
def tRlA (lim : Addr) (E : XK) : TS := fun _ _ H => E (.ref lim) none H
abbrev s_sch : Stmt := top 16
theorem sc_sch : FnScope ["scheme", "combine"] ["scheme"] (defScope s_sch) := ⟨rfl, rfl, rfl, by decide +kernel, rfl, by decide +kernel, by decide +kernel⟩
abbrev s_comb2 : Stmt := (defBody s_sch).getD 0 (.Pass ⟨0, 0, 0, 0⟩)
theorem nsc_comb2 : NScope ["item", "parts", "depth", "_", "inner", "part"] ["item", "parts"] [] (C8.fnScope s_comb2) := nscope_by (by decide +kernel)
abbrev mkComb2 (cells : List (Str × Addr)) : Addr → NF := NF.of s_comb2 "combine" (qSch ++ "combine") (cloFrom cells (C8.fnScope s_comb2).names [])
theorem ndefB_comb2 : ndefB (defScope s_sch) (C8.fnScope s_comb2) [] = true := by decide +kernel
/-- a result: the syntax and how deep it is -/
def GS (H : Hp) (t : Ty) (v : V) : Prop := ∃ (p : Addr) (sv : V), v = .ref p ∧ H p = some (.tup [sv, .int (t.dpt : Int)]) ∧ SyAt H sv t ∧ t.dpt ≤ 30
theorem GS.mono : ∀ H H' t v, Tk H H' → GS H t v → GS H' t v := by
  rintro H H' t v k ⟨p, sv, rfl, h1, h2, h3⟩
  exact ⟨p, sv, rfl, k _ _ h1, h2.mono k, h3⟩
def spComb2 (lim : Addr) (_ : List (Option V)) : Sp := fun vs H Q E => ∃ (item : V) (t : Ty) (l : Addr) (rs : List V), vs = [item, .ref l] ∧ TyAt H item t ∧ H l = some (.lst rs) ∧ t.sz ≤ 100000 ∧ Paired (fun r p => GS H p r) rs t.parts ∧
  (t.dpt ≤ 30 → ∀ v H2, Ex H H2 → GS H2 t v → Q v H2) ∧ (30 < t.dpt → ∀ H2, Ex H H2 → E (.ref lim) none H2)
section
variable {P : Program} {w : World} {K : PySem.W.Frag} {mg : Str → Option Value} {base : Heap}
theorem yes_goS {te : TE} {σ : L2.St} {H : Hp} {F : V → Hp → Prop} {G : Hp → Prop} (h : te σ H F) : tYes σ H fun b H3 => if b = true then te σ H3 F else G H3 := h
theorem ckw1 {σ : L2.St} {H : Hp} {te : TE} {z : V} {r : List V → List V → Hp → VK → Prop} {Q : VK} {PV : V → Hp → Prop} (ha : ValH te σ H PV) (k : ∀ x H1, PV x H1 → r [x] [z] H1 Q) : tCKw r (tCons te tNil) (tCons (tC z) tNil) σ H Q := ha _ fun x H1 p => k x H1 p
theorem wipe_two {σ : L2.St} {i j : Nat} {x y : Option V} (h : i ≠ j) : wipe (((wipe σ [i, j]).set i x).set j y) [i, j] = wipe σ [i, j] := by
  show (((((σ.set j none).set i none).set i x).set j y).set j none).set i none = (σ.set j none).set i none
  refine List.ext_getElem? fun k => ?_
  simp only [List.getElem?_set, List.length_set]
  by_cases h1 : j = k
  · simp [h1]
  · by_cases h2 : i = k
    · simp [h1, h2]
    · simp [h1, h2]
/-- a list of pairs: a component of each -/
theorem lc_comp {σ : L2.St} {H : Hp} {a : Addr} {rs : List V} {ts : List Ty} {te : TE} {i j : Nat} {ti : TE} (hi : Val ti σ H (.ref a)) (ha : H a = some (.lst rs)) (hn : rs.length = ts.length) (hl : ts.length ≤ 100000) (ho : i ≠ j) (ys : List V)
    (hys : ys.length = ts.length) (step : ∀ (k : Nat) (r : V) (y : V), rs[k]? = some r → ys[k]? = some y → ∃ p u v, r = .ref p ∧ H p = some (.tup [u, v]) ∧ ∀ H', Val te (((wipe σ [i, j]).set i (some u)).set j (some v)) H' y) :
    ValH (tLc (iList K ti) (gTup K 2 (gCons (gName i) (gCons (gName j) gNil))) tYes te [i, j]) σ H fun v H' => ∃ D, v = .ref D ∧ H D = none ∧ Ex H H' ∧ H' D = some (.lst ys) := fun Q q =>
  hi _ ⟨a, rfl, ⟨rs, SqL.of ha⟩, fun D hD => by
    refine lc_list (xs := rs) (fun k H' => Ex H H' ∧ H' D = some (.lst (ys.take k))) ⟨Ex.new hD, upd_same⟩ (fun _ H' _ p => SqL.of (p.1 _ _ ha)) ?_ ?_
    · rintro k r H' hk ⟨e, hd⟩
      have hkn : k < ys.length := by
        obtain ⟨z, _⟩ := List.getElem?_eq_some_iff.mp hk
        omega
      obtain ⟨p, u, v, rfl, hp, hv⟩ := step k r _ hk (List.getElem?_eq_getElem hkn)
      refine ⟨p, [u, v], rfl, SqT.of (e _ _ hp), rfl, u, [v], rfl, v, [], rfl, rfl, ?_⟩
      refine ⟨wipe_two ho, ?_⟩
      refine yes_goS ?_
      refine hv H' _ ?_
      refine ⟨_, hd, ?_, ?_, ?_⟩
      · rw [List.length_take]
        exact Nat.lt_of_le_of_lt (Nat.le_trans (Nat.min_le_right _ _) (show ys.length ≤ 100000 by omega)) (by decide)
      · exact e.mut hD
      · rw [upd_same, List.take_add_one, List.getElem?_eq_getElem hkn]
        rfl
    · rintro H' ⟨e, hd⟩
      rw [show rs.length = ys.length by omega, List.take_length] at hd
      exact q _ _ ⟨D, rfl, hD, e, hd⟩⟩
theorem gs_split {H : Hp} : ∀ {rs : List V} {ts : List Ty}, Paired (fun r p => GS H p r) rs ts → ∃ svs : List V, svs.length = ts.length ∧ Paired (SyAt H) svs ts ∧ ∀ (k : Nat) (r y : V), rs[k]? = some r → svs[k]? = some y → ∃ (p : Addr) (v : V), r = .ref p ∧ H p = some (.tup [y, v])
  | _, _, .nil => ⟨[], rfl, .nil, fun k r y h => by simp at h⟩
  | _, _, .cons r t => by
    obtain ⟨svs, h1, h2, h3⟩ := gs_split t
    obtain ⟨p, sv, rfl, hp, hs, _⟩ := r
    refine ⟨sv :: svs, by simp [h1], .cons hs h2, fun k r y hr hy => ?_⟩
    cases k with
    | zero =>
      simp at hr hy
      subst hr
      subst hy
      exact ⟨p, _, rfl, hp⟩
    | succ k => exact h3 k r y (by simpa using hr) (by simpa using hy)
theorem ps_rlimN {N : List Str} {F : NF} {f : Addr} {m : Str} {j : Nat} {A : Around} {outer : List Env} {s : Shared} {H : Hp} {E : XK} {lim : Addr} {p p2 pos pos' : Pos} (T : LimT K mg lim) (hg : Gl (ncx (L2N.CX P w) P w K mg base N F f A outer s H E) "LimitError") :
    PS (ncx (L2N.CX P w) P w K mg base N F f A outer s H E) (.Raise (some (.Call (.Name "LimitError" p) [.Constant (.str m) j p2] [] pos)) none pos') (tRlA lim E) := by
  have r := L2N.ps_raise (pos := pos') rfl (L2N.takes_of rfl rfl rfl rfl) (L2N.pmk_own (X := ncx (L2N.CX P w) P w K mg base N F f A outer s H E) (m := m) (j := j) (p := p) (p2 := p2) (pos := pos) PySem.F.excBase_ValueError T.limQ T.gL T.limK (raises_own T.limB T.limT) hg (by decide))
  exact ⟨fun pins s σ H D I h => r.run pins s σ H D I h⟩
theorem ok_comb2 {lim : Addr} (T : Bt mg) (TL : LimT K mg lim) (C_written : Can P w K mg base CX0 1 "written" ["ty", "parts"] spWritten) (cells : List (Str × Addr)) (fa c : Addr) : NOk P w K mg base (L2N.CX P w) 4 fa (mkComb2 cells c) ["item", "parts"] [] (spComb2 lim) := by
  obtain ⟨tk, m_MOST⟩ := TL.MOST
  refine nok_of (N := ["item", "parts", "depth", "_", "inner", "part"]) nsc_comb2 (fun doc pm ctv us hl => match us, hl with | [_, _], _ => rfl) (fun ws vs H Q E h => ?_) (fun A outer s H vs ws Q E hr hf hc hw h => ?_)
  · obtain ⟨item, t, l, rs, rfl, _⟩ := h
    rfl
  · obtain ⟨item, t, l, rs, rfl, ht, hl, hsz, r, q, qE⟩ := h
    have hu : (A.deeper (envF (mkComb2 cells c) fa s.heap.objs.size)).units + 1 < cLine := by
      have := hr.units
      omega
    have nd : (ncx (L2N.CX P w) P w K mg base ["item", "parts", "depth", "_", "inner", "part"] (mkComb2 cells c) fa A outer s H E).N.Nodup := nsc_comb2.nd
    refine ⟨_, (pss_cons (ps_set (i := 2) nd rfl (.inl rfl) (pe_op op_add pe_int (pe_callBK (ks := ["default"]) (call_maxDef rfl hu) (by rfl) TL.n_max (by rfl) (pa_cons (pe_lc (own := [("_", 3), ("inner", 4)]) (g := gTup K 2 (gCons (gName 3) (gCons (gName 4) gNil))) (tt := tYes) rfl nd (pi_list (pv 1)) (blkOk_by (N := ["item", "parts", "depth", "_", "inner", "part"]) (sc := C8.fnScope s_comb2) (by decide +kernel)) (fun _ _ _ _ _ => pg_tup rfl (pgs_cons (pg_name (i := 3) nd rfl (.inl rfl)) (pgs_cons (pg_name (i := 4) nd rfl (.inl rfl)) pgs_nil))) (fun _ _ _ _ _ => pts_nil) (fun _ _ _ _ _ => (pv 4))) pa_nil) (pk_cons pe_int pk_nil))))
      (pss_cons (ps_if (pt_cmpR op_gt (pv 2) (pe_gi rfl m_MOST) (nomark _)) (pss_one (ps_rlimN TL rfl)) pss_nil)
      (pss_one (ps_ret (pe_tup (pa_cons (pe_can C_written (hr.mono (by omega)) rfl pass0 (pa_cons (pv 0) (pa_cons (pe_lc (own := [("part", 5), ("_", 3)]) (g := gTup K 2 (gCons (gName 5) (gCons (gName 3) gNil))) (tt := tYes) rfl nd (pi_list (pv 1)) (blkOk_by (N := ["item", "parts", "depth", "_", "inner", "part"]) (sc := C8.fnScope s_comb2) (by decide +kernel)) (fun _ _ _ _ _ => pg_tup rfl (pgs_cons (pg_name (i := 5) nd rfl (.inl rfl)) (pgs_cons (pg_name (i := 3) nd rfl (.inl rfl)) pgs_nil))) (fun _ _ _ _ _ => pts_nil) (fun _ _ _ _ _ => (pv 5))) pa_nil))) (pa_cons (pv 2) pa_nil))))))), ?_⟩
    obtain rfl : ws = [] := List.length_eq_zero_iff.mp hw
    show tSeq _ _ _ [some item, some (.ref l), none, none, none, none] H
    have hlen := paired_length r
    have hps : t.parts.length ≤ 100000 := by
      have := szs_len t.parts
      have := sz_parts t
      omega
    -- depth
    refine n_setH (PV := fun v H' => v = .int (t.dpt : Int) ∧ Ex H H') (fun Q1 q1 => ?_) ?_
    · refine val_c _ ?_
      refine ckw1 (lc_comp (i := 3) (j := 4) (ti := tVar 1) (te := tVar 4) (σ := [some item, some (.ref l), none, none, none, none]) (val_var rfl) hl hlen hps (by decide) ((t.parts.map fun u => (u.dpt : Int)).map V.int) (by simp) (fun k r' y hr' hy => ?_)) ?_
      · obtain ⟨u, hu1, p, sv, rfl, hp, _, _⟩ := paired_at r hr'
        rw [List.getElem?_map, List.getElem?_map, hu1] at hy
        cases hy
        exact ⟨p, sv, _, rfl, hp, fun H' => val_var rfl⟩
      · rintro _ H1 ⟨D, rfl, _, e, hD⟩
        have hdt := dpt_parts t
        refine ⟨D, t.parts.map fun u => (u.dpt : Int), 0, rfl, rfl, SqL.of hD, fun e0 => ⟨1, 0, rfl, rfl, q1 _ _ ⟨?_, e⟩⟩, fun m hm hy => ⟨1, m, rfl, rfl, q1 _ _ ⟨?_, e⟩⟩⟩
        · have : t.parts = [] := List.map_eq_nil_iff.mp e0
          rw [this] at hdt
          rw [hdt]
          rfl
        · obtain ⟨u, hu1, rfl⟩ := List.mem_map.mp hm
          have h1 := le_maxl (List.mem_map.mpr ⟨u, hu1, rfl⟩ : u.dpt ∈ t.parts.map fun t => t.dpt)
          have h2 := maxl_mem (l := t.parts.map fun t => t.dpt) (fun z => by rw [List.map_eq_nil_iff.mp z] at hu1; cases hu1)
          obtain ⟨u2, hu2, e2⟩ := List.mem_map.mp h2
          have h3 := hy _ (List.mem_map.mpr ⟨u2, hu2, rfl⟩)
          show V.int (1 + (u.dpt : Int)) = _
          congr 1
          omega
    rintro _ H1 ⟨rfl, e1⟩
    by_cases hd : t.dpt ≤ 30
    · refine n_when (b := false) (Ans.to (ans_t (val_I0 (val_var rfl) val_c)) (decide_eq_false (by omega))) (fun h => Bool.noConfusion h) fun _ => ?_
      obtain ⟨svs, hn, hsv, hat⟩ := gs_split r
      refine e_retH (valH_pairV (PA := fun v H' => Ex H1 H' ∧ SyAt H' v t) (valH_call2 (PA := fun x H' => x = item ∧ H' = H1) (PB := fun x y H' => ∃ D, y = .ref D ∧ Ex H1 H' ∧ H' D = some (.lst svs)) (vh (val_var rfl)) ?_ ?_) (fun _ _ _ => val_var rfl)) ?_
      · rintro _ _ ⟨rfl, rfl⟩
        refine vimp (lc_comp (i := 5) (j := 3) (ti := tVar 1) (te := tVar 5) (val_var rfl) (e1 _ _ hl) hlen hps (by decide) svs hn (fun k r' y hr' hy => ?_)) ?_
        · obtain ⟨p, v, rfl, hp⟩ := hat k r' y hr' hy
          exact ⟨p, y, v, rfl, e1 _ _ hp, fun H' => val_var rfl⟩
        · rintro _ H' ⟨D, rfl, _, e, hD⟩
          exact ⟨D, rfl, e, hD⟩
      · rintro x _ _ H' ⟨rfl, rfl⟩ ⟨D, rfl, e, hD⟩ Q1 q1
        have k := Tk.of (e1.trans e)
        exact ⟨x, t, D, svs, rfl, ht.mono k, hD, paired_imp hsv fun _ _ _ => SyAt.mono k, fun v H2 e2 g => q1 _ _ ⟨e.trans e2, g⟩⟩
      · rintro _ _ ⟨sv, H2, p, ⟨e2, hsy⟩, rfl, hp, rfl⟩
        have e3 := Ex.new (o := .tup [sv, .int (t.dpt : Int)]) hp
        exact q hd _ _ ((e1.trans e2).trans e3) ⟨p, sv, rfl, upd_same, hsy.mono (Tk.of e3), hd⟩
    · refine n_when (b := true) (Ans.to (ans_t (val_I0 (val_var rfl) val_c)) (decide_eq_true (by omega))) (fun _ => ?_) (fun h => Bool.noConfusion h)
      exact qE (by omega) _ e1
end
open NdefX LamX CLO
def PreS (cells : List (Str × Addr)) (σ : L2.St) (vs : List V) (H : Hp) : Prop := ∃ (v : V) (fF c' : Addr), vs = [v, .ref fF] ∧ H fF = some (FnO fF (mkComb2 cells c')) ∧ H c' = some (CodeO c' (qSch ++ "combine"))
def spSch (Pt : Addr × Addr) (lim : Addr) : Sp := fun vs H Q E => ∃ (sa : Addr) (u tv : V) (t : Ty), vs = [.ref sa] ∧ H sa = some (.tup [u, tv]) ∧ TyAt H tv t ∧ t.sz ≤ 100000 ∧ TabsN (tabI Pt) H ∧
  (t.dpt ≤ 30 → ∀ v H', ExtN H H' → TabsN (tabI Pt) H' → SyAt H' v t → Q v H') ∧ (30 < t.dpt → ∀ H', ExtN H H' → E (.ref lim) none H')
theorem sz_mem {t u : Ty} (h : u ∈ t.parts) : u.sz ≤ t.sz := by
  have h1 : u.sz ≤ szs t.parts := by
    unfold szs
    generalize t.parts = ps at h
    induction ps with
    | nil => cases h
    | cons a l ih =>
      rw [List.map_cons, List.sum_cons]
      rcases List.mem_cons.mp h with rfl | h
      · omega
      · have := ih h
        omega
  have := sz_parts t
  omega
section
variable {P : Program} {w : World} {K : PySem.W.Frag} {mg : Str → Option Value} {base : Heap}
theorem can_sch {c : Addr} {Pt : Addr × Addr} {lim : Addr} (hne : Pt.1 ≠ Pt.2) (D : AtC K mg "scheme_ty" s_sch ["scheme"] c) (TB : TabB base mg c Pt.2) (T : Bt mg) (TL : LimT K mg lim) (C_written : Can P w K mg base CX0 1 "written" ["ty", "parts"] spWritten)
    (C_fold : ∀ (R : Prop) (Pr : Ty → Prop), (∀ u, Pr u → ∀ t ∈ u.parts, Pr t) → CanV P w K mg base 5 "fold" ["ty", "combine"] (preFoldV P w K mg base lim R Pr GS) (spFoldV lim R Pr GS)) : Can P w K mg base (L2N.CX P w) 6 "scheme_ty" ["scheme"] (spSch Pt lim) := by
  have sc := sc_sch
  obtain ⟨fi, oc, od, an, osl, kV', doc, pm, ct, lk, hcd, kp, hmg, hbd⟩ := D.ex
  refine ⟨fi, _, fn_of lk hcd sc (fun vs H Q E h => ?_) (fun A outer s H vs Q E hr h => ?_), hmg, kp, hbd⟩
  · obtain ⟨sa, u, tv, t, rfl, _⟩ := h
    rfl
  · obtain ⟨sa, u, tv, t, rfl, hsa, ht, hsz, hT, q, qE⟩ := h
    obtain ⟨ff, ffd, Fo, hfm, hfk, hfb⟩ := (C_fold (30 < t.dpt) (fun u => u.sz ≤ 100000 ∧ (u.dpt ≤ 30 ∨ 30 < t.dpt)) (fun u h t' ht' => ⟨Nat.le_trans (sz_mem ht') h.1, h.2.imp (fun z => by have := dpt_part ht'; omega) id⟩)).ex
    have hp : ∀ pins σ H1 s1 vs, Inv (cxOf (L2N.CX P w) P w K mg base ["scheme", "combine"] "scheme_ty" (defScope s_sch) fi (.ref c) A outer s H E) pins σ H1 s1 → PreS (cxOf (L2N.CX P w) P w K mg base ["scheme", "combine"] "scheme_ty" (defScope s_sch) fi (.ref c) A outer s H E).env.cells σ vs H1 →
        preFoldV P w K mg base lim (30 < t.dpt) (fun u => u.sz ≤ 100000 ∧ (u.dpt ≤ 30 ∨ 30 < t.dpt)) GS vs (cxOf (L2N.CX P w) P w K mg base ["scheme", "combine"] "scheme_ty" (defScope s_sch) fi (.ref c) A outer s H E).stack s1 H1 := by
      rintro pins σ H1 s1 vs I ⟨v, fF, c', rfl, h1, h2⟩
      have cp := Caps.made (scope := C8.fnScope s_comb2) (fr := []) (js := []) I.ok (ndef_free ndefB_comb2) (ndef_fr ndefB_comb2) rfl
      refine ⟨v, fF, mkComb2 _ c', [], [].map (slotAt σ), spComb2 lim, rfl, ok_comb2 T TL C_written _ _ _, h1, h2, cells_of I cp, fun y cc hy => cells_off I (fun _ => rfl) rfl rfl (cp.sub y cc hy), fun H' Q E item u l rs hP ex ht hl r hq hE => ?_⟩
      exact ⟨item, u, l, rs, rfl, ht, hl, hP.1, r, fun _ => hq, fun h30 => hE (hP.2.resolve_left (by omega))⟩
    refine ⟨_, pss_cons (ps_ndefMS (i := 1) (st := s_comb2) (T := tabI Pt) (nm := fun _ _ => qSch ++ "combine") (name := "combine") rfl TB rfl (List.mem_cons_of_mem _ (List.mem_cons_self ..)) (by rfl) (tabI_2 hne) (ndef_free ndefB_comb2) rfl rfl rfl sc.nd rfl (.inl rfl) (.inl rfl))
      (pss_one (ps_ret (pe_ix ix_tup (CLO.pe_callSV (X := (cxOf (L2N.CX P w) P w K mg base ["scheme", "combine"] "scheme_ty" (defScope s_sch) fi (.ref c) A outer s H E)) (x := "fold") (E := E) Fo hr (by rfl) hfm hfk hfb passL _ hp (pa_cons (pe_ix ix_tup (pv 0) pe_int (fun _ _ => rfl)) (pa_cons (pv 1) pa_nil))) pe_int (fun _ _ => rfl)))), ?_⟩
    refine n_ndef hT fun f c' H2 eN T2 f1 c1 => ?_
    have k2 := extn_tk eN
    refine val_it1 (K := K) (i := 0) rfl (k2 _ _ hsa) _ (val_var (i := 1) rfl _ ⟨⟨tv, f, c', rfl, f1, c1⟩, tv, f, t, rfl, ht.mono k2, hsz, ⟨hsz, by omega⟩, fun v' H3 e3 g => ?_, fun h30 H3 e3 => qE h30 H3 (ExtN.trans eN (extn_of e3))⟩)
    obtain ⟨p, sv, rfl, hp3, hsy, h30⟩ := g
    exact (val_ixT (σ := []) (K := K) (ta := tC (.ref p)) (tb := tC (.int 0)) val_c val_c (SqT.of hp3) (atI_nat (j := 0) rfl)) _ (q h30 sv H3 (ExtN.trans eN (extn_of e3)) (T2.ext e3) hsy)
end
/-! ### of trees -/
open NdefX LamX CLO
def Ty.dp : Nat → Ty → Prop
  | 0, _ => False
  | _ + 1, .var _ => True
  | n + 1, .node _ ps => ∀ t ∈ ps, t.dp n
theorem paired_at2 {α β : Type} {F : α → β → Prop} {l : List α} {m : List β} {i : Nat} {a : α} {b : β} (h : Paired F l m) (ha : l[i]? = some a) (hb : m[i]? = some b) : F a b := by
  obtain ⟨c, hc, f⟩ := paired_at h ha
  rw [hb] at hc
  cases hc
  exact f
theorem len_parts_lt {t : Ty} {h : Hd} {ps : List Ty} (e : t = .node h ps) (hz : t.sz ≤ 100000) : ps.length < sizeLine := by
  subst e
  have h1 := szs_len ps
  have h2 := sz_parts (.node h ps)
  exact Nat.lt_of_le_of_lt (show _ ≤ 100000 by simp only [Ty.parts] at h2; omega) (by decide)
theorem sz_le_szs : ∀ {ts : List Ty} {u : Ty}, u ∈ ts → u.sz ≤ szs ts
  | t :: ts, u, h => by
    unfold szs
    rw [List.map_cons, List.sum_cons]
    rcases List.mem_cons.mp h with rfl | h
    · omega
    · have := sz_le_szs h
      unfold szs at this
      omega
theorem dp_parts {n : Nat} {t : Ty} (h : t.dp (n + 1)) : ∀ u ∈ t.parts, u.dp n := by
  cases t with
  | var k => intro u hu; cases hu
  | node hd ps => exact h
theorem kV_flat (k : Key) : flatV (kV k) = true := by cases k <;> rfl
theorem keys_flat : ∀ F : List Key, (F.map kV).all flatV = true
  | [] => rfl
  | k :: F => by rw [List.map_cons, List.all_cons, kV_flat, keys_flat F]; rfl
theorem eqV_keys (a b : Key) : eqV (kV a) (kV b) = decide (a = b) := by
  cases a <;> cases b <;> simp [kV, eqV] <;> rw [Bool.eq_iff_iff, beq_iff_eq, decide_eq_true_iff]
theorem inV_keys (k : Key) (F : List Key) : inV (kV k) (F.map kV) = decide (k ∈ F) := by
  unfold inV
  rw [Bool.eq_iff_iff, List.any_eq_true, decide_eq_true_iff]
  constructor
  · rintro ⟨x, hx, e⟩
    obtain ⟨j, hj, rfl⟩ := List.mem_map.mp hx
    rw [eqV_keys] at e
    exact of_decide_eq_true e ▸ hj
  · intro h
    exact ⟨_, List.mem_map_of_mem h, by rw [eqV_keys]; exact decide_eq_true rfl⟩
theorem vs_len : ∀ (t : Ty) (F : List Key), (t.vs F).length ≤ F.length + t.sz := by
  intro t
  induction t using Ty.ind with
  | hv k =>
    intro F
    rw [Ty.vs_var, Ty.sz_var]
    exact fuse_len k F
  | hn h ps ih =>
    intro F
    rw [Ty.vs_node, Ty.sz_node]
    have key : ∀ (l : List Ty) (F : List Key), (∀ t ∈ l, ∀ F : List Key, (t.vs F).length ≤ F.length + t.sz) → (l.foldl (fun f t => t.vs f) F).length ≤ F.length + (l.map fun t => t.sz).sum := by
      intro l
      induction l with
      | nil => exact fun F _ => Nat.le_refl _
      | cons t r ihr =>
        intro F hh
        rw [List.foldl_cons, List.map_cons, List.sum_cons]
        have h1 := ihr (t.vs F) fun u hu => hh u (List.mem_cons_of_mem _ hu)
        have h2 := hh t (List.mem_cons_self ..) F
        omega
    have := key ps F ih
    omega
/-! ### trees mapped to trees -/
open NdefX LamX CLO
theorem dp_of_dpt : ∀ (n : Nat) (t : Ty), t.dpt ≤ n → t.dp n
  | 0, t, h => by
    rw [dpt_parts t] at h
    omega
  | n + 1, .var k, h => trivial
  | n + 1, .node hd ps, h => fun t ht => dp_of_dpt n t (by
    have := dpt_part (t := .node hd ps) ht
    omega)
section
variable {K : PySem.W.Frag} {σ : L2.St} {H : Hp} {ti te : TE} {i : Nat} {a : Addr} {xs : List V} {β : Type} {R : Hp → V → β → Prop} {rs : List β}
/-- tuple([.. for part in parts]), each element an object -/
theorem valH_mapT (Rm : ∀ H H' y r, Tk H H' → R H y r → R H' y r) (hi : Val ti σ H (.ref a)) (ha : H a = some (.tup xs)) (hn : rs.length = xs.length) (hl : rs.length < sizeLine)
    (step : ∀ (j : Nat) (x : V) (r : β), xs[j]? = some x → rs[j]? = some r → ∀ H', Ex H H' → ∀ Q : VK, (∀ y H2, Ex H' H2 → R H2 y r → Q y H2) → te ((wipe σ [i]).set i (some x)) H' Q) :
    ValH (tCB (fun xs H Q => ∃ p ys, xs = [.ref p] ∧ ((SqL K H p ys ∧ ∀ l, H l = none → Q (.ref l) (upd H l (.tup ys))) ∨ (SqT K H p ys ∧ Q (.ref p) H))) (tCons (tLc (iTup K ti) (gName i) tYes te [i]) tNil)) σ H
      (fun v H' => ∃ c ys, v = .ref c ∧ Ex H H' ∧ H' c = some (.tup ys) ∧ Paired (fun y r => R H' y r) ys rs) := fun Q q => by
  refine cb1 (lc_exT (R := R) (rs := rs) Rm hi ha hn hl step) ?_
  rintro _ H1 ⟨D, ys, rfl, _, e1, hD, py⟩
  exact ⟨D, ys, rfl, .inl ⟨SqL.of hD, fun c hc => q _ _ ⟨c, ys, rfl, e1.trans (Ex.new hc), upd_same, paired_imp py fun _ _ _ h => Rm _ _ _ _ (Tk.of (Ex.new hc)) h⟩⟩⟩
end
/-- each node, alike -/
inductive SNodeAt (H : Hp) : V → Hd → List Ty → Prop
  | fn {p : Addr} {va vb : V} {a b : Ty} : H p = some (.tup [.str "tyfun", va, vb]) → Paired (SyAt H) [va, vb] [a, b] → SNodeAt H (.ref p) .fn [a, b]
  | tup {p q : Addr} {vs : List V} {ts : List Ty} : H p = some (.tup [.str "tytuple", .ref q]) → H q = some (.tup vs) → Paired (SyAt H) vs ts → SNodeAt H (.ref p) .tup ts
  | con {p q l : Addr} {n : Str} {vs : List V} {ts : List Ty} : H p = some (.tup [.str "tycon", .ref l, .ref q]) → H l = some (.tup [.str n]) → H q = some (.tup vs) → Paired (SyAt H) vs ts → SNodeAt H (.ref p) (.con n) ts
theorem SyAt.node {H : Hp} {v : V} {h : Hd} {ts : List Ty} (x : SyAt H v (.node h ts)) : SNodeAt H v h ts := by
  cases x with
  | fn h a b => exact .fn h (.cons a (.cons b .nil))
  | tup h1 h2 r => exact .tup h1 h2 r
  | con h1 h2 h3 r => exact .con h1 h2 h3 r
abbrev s_read : Stmt := top 19
theorem sc_read : FnScope ["ty", "part"] ["ty"] (defScope s_read) := ⟨rfl, rfl, rfl, by decide +kernel, rfl, by decide +kernel, by decide +kernel⟩
abbrev s_lsyn : Stmt := top 25
theorem sc_lsyn : FnScope ["ty", "part"] ["ty"] (defScope s_lsyn) := ⟨rfl, rfl, rfl, by decide +kernel, rfl, by decide +kernel, by decide +kernel⟩
def spRead (n : Nat) : Sp := fun vs H Q _ => ∃ v t, vs = [v] ∧ SyAt H v t ∧ t.dp n ∧ t.sz ≤ 100000 ∧ ∀ v' H', Ex H H' → TyAt H' v' t → Q v' H'
def spLSyn (n : Nat) : Sp := fun vs H Q _ => ∃ v t, vs = [v] ∧ TyAt H v t ∧ t.dp n ∧ t.sz ≤ 100000 ∧ ∀ v' H', Ex H H' → SyAt H' v' t → Q v' H'
theorem sz_le_mem {t u : Ty} (h : u ∈ t.parts) (hz : t.sz ≤ 100000) : u.sz ≤ 100000 := Nat.le_trans (sz_mem h) hz
section
variable {P : Program} {w : World} {K : PySem.W.Frag} {mg : Str → Option Value} {base : Heap}
theorem can_read (D : At K mg "read_ty" s_read ["ty"]) (T : Bt mg) : ∀ n, Can P w K mg base CX0 (n + 1) "read_ty" ["ty"] (spRead n) := by
  have sc := sc_read
  intro n
  induction n with
  | zero => exact D.can sc (fun vs H Q E ⟨_, _, _, _, h, _⟩ => h.elim) (fun f cdv A outer s H vs Q E hr ⟨_, _, _, _, h, _⟩ => h.elim)
  | succ n C_read_ty =>
    refine D.can sc (fun vs H Q E h => ?_) (fun f cdv A outer s H vs Q E hr h => ?_)
    · obtain ⟨v, t, rfl, _⟩ := h
      rfl
    · obtain ⟨v, t, rfl, ht, hdp, hsz, q⟩ := h
      refine ⟨_, (pss_cons (ps_if (pt_cmpR op_eq (pe_ix ix_tup (pv 0) pe_int (fun _ _ => rfl)) pe_str (nomark _)) (pss_one (ps_ret (pe_tup (pa_cons pe_str (pa_cons (pe_ix ix_tup (pv 0) pe_int (fun _ _ => rfl)) pa_nil))))) pss_nil)
    (pss_cons (ps_if (pt_cmpR op_eq (pe_ix ix_tup (pv 0) pe_int (fun _ _ => rfl)) pe_str (nomark _)) (pss_one (ps_ret (pe_tup (pa_cons pe_str (pa_cons (pe_can C_read_ty (hr.mono (by omega)) rfl pass0 (pa_cons (pe_ix ix_tup (pv 0) pe_int (fun _ _ => rfl)) pa_nil)) (pa_cons (pe_can C_read_ty (hr.mono (by omega)) rfl pass0 (pa_cons (pe_ix ix_tup (pv 0) pe_int (fun _ _ => rfl)) pa_nil)) pa_nil)))))) pss_nil)
    (pss_cons (ps_if (pt_cmpR op_eq (pe_ix ix_tup (pv 0) pe_int (fun _ _ => rfl)) pe_str (nomark _)) (pss_one (ps_ret (pe_tup (pa_cons pe_str (pa_cons (pe_callTy call_tuple_of (by rfl) T.n_tuple (by decide +kernel) (pa_cons (pe_lc (own := [("part", 1)]) (g := gName 1) (tt := tYes) rfl sc.nd (pi_tup (pe_ix ix_tup (pv 0) pe_int (fun _ _ => rfl))) (blkOk_by (N := ["ty", "part"]) (sc := defScope (top 19)) (by decide +kernel)) (fun _ _ _ _ _ => pg_name (i := 1) sc.nd rfl (Or.inl rfl)) (fun _ _ _ _ _ => pts_nil) (fun _ _ _ _ _ => (pe_can C_read_ty (hr.mono (by omega)) rfl pass0 (pa_cons (pv 1) pa_nil)))) pa_nil)) pa_nil))))) pss_nil)
    (pss_one (ps_ret (pe_tup (pa_cons pe_str (pa_cons (pe_ix ix_tup (pe_ix ix_tup (pv 0) pe_int (fun _ _ => rfl)) (pe_un un_neg pe_int) (fun _ _ => rfl)) (pa_cons (pe_callTy call_tuple_of (by rfl) T.n_tuple (by decide +kernel) (pa_cons (pe_lc (own := [("part", 1)]) (g := gName 1) (tt := tYes) rfl sc.nd (pi_tup (pe_ix ix_tup (pv 0) pe_int (fun _ _ => rfl))) (blkOk_by (N := ["ty", "part"]) (sc := defScope (top 19)) (by decide +kernel)) (fun _ _ _ _ _ => pg_name (i := 1) sc.nd rfl (Or.inl rfl)) (fun _ _ _ _ _ => pts_nil) (fun _ _ _ _ _ => (pe_can C_read_ty (hr.mono (by omega)) rfl pass0 (pa_cons (pv 1) pa_nil)))) pa_nil)) pa_nil))))))))), ?_⟩
      show tSeq _ _ _ [some v, none] H
      cases t with
      | var k =>
        cases ht with
        | var h =>
          refine n_when (b := true) (ans_tag rfl h (by decide)) (fun _ => ?_) (fun h => Bool.noConfusion h)
          exact ret2 val_c (val_it1 rfl h) fun p hp => q _ _ (Ex.new hp) (.var upd_same)
      | node hd ts =>
        have hlen := len_parts_lt rfl hsz
        have hdp : ∀ t ∈ ts, t.dp n := hdp
        have hzz : ∀ t ∈ ts, t.sz ≤ 100000 := fun t h => sz_le_mem (t := .node hd ts) h hsz
        have hx := ht.node
        cases hx with
        | @fn p va vb a b h r =>
          cases r with
          | cons ra r =>
            cases r with
            | cons rb r =>
              cases r
              refine n_when (b := false) (ans_tag rfl h (by decide)) (fun h => Bool.noConfusion h) fun _ => ?_
              refine n_when (b := true) (ans_tag rfl h (by decide)) (fun _ => ?_) (fun h => Bool.noConfusion h)
              refine ret_triple (PA := fun x H1 => Ex H H1 ∧ TyAt H1 x a) (PB := fun x H1 y H2 => Ex H1 H2 ∧ TyAt H2 y b) val_c ?_ ?_ ?_
              · exact valH_call1 (vh (val_it1 rfl h)) fun x H1 hx Q1 q1 => ⟨va, a, by rw [hx.1], by rw [hx.2]; exact ra, hdp _ (by simp), hzz _ (by simp), fun v' H' e g => q1 _ _ ⟨by rw [hx.2] at e; exact e, g⟩⟩
              · rintro x H1 ⟨e1, hx⟩
                exact valH_call1 (vh (val_it2 rfl (e1 _ _ h))) fun y H2 hy Q1 q1 => ⟨vb, b, by rw [hy.1], by rw [hy.2]; exact rb.mono (Tk.of e1), hdp _ (by simp), hzz _ (by simp), fun v' H' e g => q1 _ _ ⟨by rw [hy.2] at e; exact e, g⟩⟩
              · rintro x H1 y H2 ⟨e1, hx⟩ ⟨e2, hy⟩ pn hpn
                have e3 := Ex.new (o := .tup [.str "fun", x, y]) hpn
                exact q _ _ ((e1.trans e2).trans e3) (.fn upd_same ((hx.mono (Tk.of e2)).mono (Tk.of e3)) (hy.mono (Tk.of e3)))
        | @tup p c ws _ h h2 hts =>
          have step : ∀ (j : Nat) (x : V) (r : Ty), ws[j]? = some x → ts[j]? = some r → ∀ H', Ex H H' → ∀ Q : VK, (∀ y H2, Ex H' H2 → TyAt H2 y r → Q y H2) → tCall (spRead n) [] E0 (tCons (tVar 1) tNil) ((wipe [some (.ref p), none] [1]).set 1 (some x)) H' Q := fun j x r hx hr H' e Q1 q1 =>
            val_var rfl _ ⟨x, r, rfl, (paired_at2 hts hx hr).mono (Tk.of e), hdp _ (List.mem_of_getElem? hr), hzz _ (List.mem_of_getElem? hr), q1⟩
          refine n_when (b := false) (ans_tag rfl h (by decide)) (fun h => Bool.noConfusion h) fun _ => ?_
          refine n_when (b := false) (ans_tag rfl h (by decide)) (fun h => Bool.noConfusion h) fun _ => ?_
          refine n_when (b := true) (ans_tag rfl h (by decide)) (fun _ => ?_) (fun h => Bool.noConfusion h)
          refine ret_pair val_c (valH_mapT (R := TyAt) (rs := ts) (fun _ _ _ _ k h => h.mono k) (val_it1 rfl h) h2 (paired_length hts).symm hlen step) ?_
          rintro _ H1 ⟨c2, ys, rfl, e1, hc2, hys⟩ pn hpn
          have e3 := Ex.new (o := .tup [.str "tuple", .ref c2]) hpn
          exact q _ _ (e1.trans e3) (.tup upd_same (e3 _ _ hc2) (TsAt.mono (Tk.of e3) hys))
        | @con p c l nn ws _ h hl h2 hts =>
          have step : ∀ (j : Nat) (x : V) (r : Ty), ws[j]? = some x → ts[j]? = some r → ∀ H', Ex H H' → ∀ Q : VK, (∀ y H2, Ex H' H2 → TyAt H2 y r → Q y H2) → tCall (spRead n) [] E0 (tCons (tVar 1) tNil) ((wipe [some (.ref p), none] [1]).set 1 (some x)) H' Q := fun j x r hx hr H' e Q1 q1 =>
            val_var rfl _ ⟨x, r, rfl, (paired_at2 hts hx hr).mono (Tk.of e), hdp _ (List.mem_of_getElem? hr), hzz _ (List.mem_of_getElem? hr), q1⟩
          refine n_when (b := false) (ans_tag rfl h (by decide)) (fun h => Bool.noConfusion h) fun _ => ?_
          refine n_when (b := false) (ans_tag rfl h (by decide)) (fun h => Bool.noConfusion h) fun _ => ?_
          refine n_when (b := false) (ans_tag rfl h (by decide)) (fun h => Bool.noConfusion h) fun _ => ?_
          refine ret_triple (PA := fun x H1 => x = .str nn ∧ H1 = H) (PB := fun x H1 v H' => ∃ c ys, v = .ref c ∧ Ex H H' ∧ H' c = some (.tup ys) ∧ TsAt H' ys ts) val_c (vh (val_ixT (val_it1 rfl h) (val_neg val_c) (SqT.of hl) rfl)) ?_ ?_
          · rintro _ _ ⟨rfl, rfl⟩
            exact valH_mapT (R := TyAt) (rs := ts) (fun _ _ _ _ k h => h.mono k) (val_it2 rfl h) h2 (paired_length hts).symm hlen step
          · rintro _ _ _ H1 ⟨rfl, rfl⟩ ⟨c2, ys, rfl, e1, hc2, hys⟩ pn hpn
            have e3 := Ex.new (o := .tup [.str "con", .str nn, .ref c2]) hpn
            exact q _ _ (e1.trans e3) (.con upd_same (e3 _ _ hc2) (TsAt.mono (Tk.of e3) hys))
theorem can_lsyn (D : At K mg "_law_syntax" s_lsyn ["ty"]) (T : Bt mg) : ∀ n, Can P w K mg base CX0 (n + 1) "_law_syntax" ["ty"] (spLSyn n) := by
  have sc := sc_lsyn
  intro n
  induction n with
  | zero => exact D.can sc (fun vs H Q E ⟨_, _, _, _, h, _⟩ => h.elim) (fun f cdv A outer s H vs Q E hr ⟨_, _, _, _, h, _⟩ => h.elim)
  | succ n C__law_syntax =>
    refine D.can sc (fun vs H Q E h => ?_) (fun f cdv A outer s H vs Q E hr h => ?_)
    · obtain ⟨v, t, rfl, _⟩ := h
      rfl
    · obtain ⟨v, t, rfl, ht, hdp, hsz, q⟩ := h
      refine ⟨_, (pss_cons (ps_if (pt_cmpR op_eq (pe_ix ix_tup (pv 0) pe_int (fun _ _ => rfl)) pe_str (nomark _)) (pss_one (ps_ret (pe_tup (pa_cons pe_str (pa_cons (pe_ix ix_tup (pv 0) pe_int (fun _ _ => rfl)) pa_nil))))) pss_nil)
    (pss_cons (ps_if (pt_cmpR op_eq (pe_ix ix_tup (pv 0) pe_int (fun _ _ => rfl)) pe_str (nomark _)) (pss_one (ps_ret (pe_tup (pa_cons pe_str (pa_cons (pe_can C__law_syntax (hr.mono (by omega)) rfl pass0 (pa_cons (pe_ix ix_tup (pv 0) pe_int (fun _ _ => rfl)) pa_nil)) (pa_cons (pe_can C__law_syntax (hr.mono (by omega)) rfl pass0 (pa_cons (pe_ix ix_tup (pv 0) pe_int (fun _ _ => rfl)) pa_nil)) pa_nil)))))) pss_nil)
    (pss_cons (ps_if (pt_cmpR op_eq (pe_ix ix_tup (pv 0) pe_int (fun _ _ => rfl)) pe_str (nomark _)) (pss_one (ps_ret (pe_tup (pa_cons pe_str (pa_cons (pe_callTy call_tuple_of (by rfl) T.n_tuple (by decide +kernel) (pa_cons (pe_lc (own := [("part", 1)]) (g := gName 1) (tt := tYes) rfl sc.nd (pi_tup (pe_ix ix_tup (pv 0) pe_int (fun _ _ => rfl))) (blkOk_by (N := ["ty", "part"]) (sc := defScope (top 25)) (by decide +kernel)) (fun _ _ _ _ _ => pg_name (i := 1) sc.nd rfl (Or.inl rfl)) (fun _ _ _ _ _ => pts_nil) (fun _ _ _ _ _ => (pe_can C__law_syntax (hr.mono (by omega)) rfl pass0 (pa_cons (pv 1) pa_nil)))) pa_nil)) pa_nil))))) pss_nil)
    (pss_one (ps_ret (pe_tup (pa_cons pe_str (pa_cons (pe_tup (pa_cons (pe_ix ix_tup (pv 0) pe_int (fun _ _ => rfl)) pa_nil)) (pa_cons (pe_callTy call_tuple_of (by rfl) T.n_tuple (by decide +kernel) (pa_cons (pe_lc (own := [("part", 1)]) (g := gName 1) (tt := tYes) rfl sc.nd (pi_tup (pe_ix ix_tup (pv 0) pe_int (fun _ _ => rfl))) (blkOk_by (N := ["ty", "part"]) (sc := defScope (top 25)) (by decide +kernel)) (fun _ _ _ _ _ => pg_name (i := 1) sc.nd rfl (Or.inl rfl)) (fun _ _ _ _ _ => pts_nil) (fun _ _ _ _ _ => (pe_can C__law_syntax (hr.mono (by omega)) rfl pass0 (pa_cons (pv 1) pa_nil)))) pa_nil)) pa_nil))))))))), ?_⟩
      show tSeq _ _ _ [some v, none] H
      cases t with
      | var k =>
        cases ht with
        | var h =>
          refine n_when (b := true) (ans_tag rfl h (by decide)) (fun _ => ?_) (fun h => Bool.noConfusion h)
          exact ret2 val_c (val_it1 rfl h) fun p hp => q _ _ (Ex.new hp) (.var upd_same)
      | node hd ts =>
        have hlen := len_parts_lt rfl hsz
        have hdp : ∀ t ∈ ts, t.dp n := hdp
        have hzz : ∀ t ∈ ts, t.sz ≤ 100000 := fun t h => sz_le_mem (t := .node hd ts) h hsz
        have hx := ht.node
        cases hx with
        | @fn p va vb a b h r =>
          cases r with
          | cons ra r =>
            cases r with
            | cons rb r =>
              cases r
              refine n_when (b := false) (ans_tag rfl h (by decide)) (fun h => Bool.noConfusion h) fun _ => ?_
              refine n_when (b := true) (ans_tag rfl h (by decide)) (fun _ => ?_) (fun h => Bool.noConfusion h)
              refine ret_triple (PA := fun x H1 => Ex H H1 ∧ SyAt H1 x a) (PB := fun x H1 y H2 => Ex H1 H2 ∧ SyAt H2 y b) val_c ?_ ?_ ?_
              · exact valH_call1 (vh (val_it1 rfl h)) fun x H1 hx Q1 q1 => ⟨va, a, by rw [hx.1], by rw [hx.2]; exact ra, hdp _ (by simp), hzz _ (by simp), fun v' H' e g => q1 _ _ ⟨by rw [hx.2] at e; exact e, g⟩⟩
              · rintro x H1 ⟨e1, hx⟩
                exact valH_call1 (vh (val_it2 rfl (e1 _ _ h))) fun y H2 hy Q1 q1 => ⟨vb, b, by rw [hy.1], by rw [hy.2]; exact rb.mono (Tk.of e1), hdp _ (by simp), hzz _ (by simp), fun v' H' e g => q1 _ _ ⟨by rw [hy.2] at e; exact e, g⟩⟩
              · rintro x H1 y H2 ⟨e1, hx⟩ ⟨e2, hy⟩ pn hpn
                have e3 := Ex.new (o := .tup [.str "tyfun", x, y]) hpn
                exact q _ _ ((e1.trans e2).trans e3) (.fn upd_same ((hx.mono (Tk.of e2)).mono (Tk.of e3)) (hy.mono (Tk.of e3)))
        | @tup p c ws _ h h2 hts =>
          have step : ∀ (j : Nat) (x : V) (r : Ty), ws[j]? = some x → ts[j]? = some r → ∀ H', Ex H H' → ∀ Q : VK, (∀ y H2, Ex H' H2 → SyAt H2 y r → Q y H2) → tCall (spLSyn n) [] E0 (tCons (tVar 1) tNil) ((wipe [some (.ref p), none] [1]).set 1 (some x)) H' Q := fun j x r hx hr H' e Q1 q1 =>
            val_var rfl _ ⟨x, r, rfl, (paired_at2 hts hx hr).mono (Tk.of e), hdp _ (List.mem_of_getElem? hr), hzz _ (List.mem_of_getElem? hr), q1⟩
          refine n_when (b := false) (ans_tag rfl h (by decide)) (fun h => Bool.noConfusion h) fun _ => ?_
          refine n_when (b := false) (ans_tag rfl h (by decide)) (fun h => Bool.noConfusion h) fun _ => ?_
          refine n_when (b := true) (ans_tag rfl h (by decide)) (fun _ => ?_) (fun h => Bool.noConfusion h)
          refine ret_pair val_c (valH_mapT (R := SyAt) (rs := ts) (fun _ _ _ _ k h => h.mono k) (val_it1 rfl h) h2 (paired_length hts).symm hlen step) ?_
          rintro _ H1 ⟨c2, ys, rfl, e1, hc2, hys⟩ pn hpn
          have e3 := Ex.new (o := .tup [.str "tytuple", .ref c2]) hpn
          exact q _ _ (e1.trans e3) (.tup upd_same (e3 _ _ hc2) (paired_imp hys fun _ _ _ => SyAt.mono (Tk.of e3)))
        | @con p c nn ws _ h h2 hts =>
          have step : ∀ (j : Nat) (x : V) (r : Ty), ws[j]? = some x → ts[j]? = some r → ∀ H', Ex H H' → ∀ Q : VK, (∀ y H2, Ex H' H2 → SyAt H2 y r → Q y H2) → tCall (spLSyn n) [] E0 (tCons (tVar 1) tNil) ((wipe [some (.ref p), none] [1]).set 1 (some x)) H' Q := fun j x r hx hr H' e Q1 q1 =>
            val_var rfl _ ⟨x, r, rfl, (paired_at2 hts hx hr).mono (Tk.of e), hdp _ (List.mem_of_getElem? hr), hzz _ (List.mem_of_getElem? hr), q1⟩
          refine n_when (b := false) (ans_tag rfl h (by decide)) (fun h => Bool.noConfusion h) fun _ => ?_
          refine n_when (b := false) (ans_tag rfl h (by decide)) (fun h => Bool.noConfusion h) fun _ => ?_
          refine n_when (b := false) (ans_tag rfl h (by decide)) (fun h => Bool.noConfusion h) fun _ => ?_
          refine ret_triple (PA := fun x H1 => ∃ l1, x = .ref l1 ∧ Ex H H1 ∧ H1 l1 = some (.tup [.str nn])) (PB := fun x H1 v H' => ∃ c ys, v = .ref c ∧ Ex H1 H' ∧ H' c = some (.tup ys) ∧ Paired (SyAt H') ys ts) val_c (vimp (valH_tup1 (val_it1 rfl h)) fun v H' ⟨p, e1, hp, e2⟩ => ⟨p, e1, by rw [e2]; exact Ex.new hp, by rw [e2]; exact upd_same⟩) ?_ ?_
          · rintro _ H1 ⟨l1, rfl, e1, h1⟩
            exact valH_mapT (R := SyAt) (rs := ts) (fun _ _ _ _ k h => h.mono k) (val_it2 rfl (e1 _ _ h)) (e1 _ _ h2) (paired_length hts).symm hlen fun j x r hx hr H' e => step j x r hx hr H' (e1.trans e)
          · rintro _ H1 _ H2 ⟨l1, rfl, e1, h1⟩ ⟨c2, ys, rfl, e2, hc2, hys⟩ pn hpn
            have e3 := Ex.new (o := .tup [.str "tycon", .ref l1, .ref c2]) hpn
            exact q _ _ ((e1.trans e2).trans e3) (.con upd_same (e3 _ _ (e2 _ _ h1)) (e3 _ _ hc2) (paired_imp hys fun _ _ _ => SyAt.mono (Tk.of e3)))
end
/-! ### ty_scheme(ty), and the law's measures -/
open NdefX LamX CLO
abbrev s_tys : Stmt := top 18
theorem sc_tys : FnScope ["ty"] ["ty"] (defScope s_tys) := ⟨rfl, rfl, rfl, by decide +kernel, rfl, by decide +kernel, by decide +kernel⟩
abbrev s_lcount : Stmt := top 28
theorem sc_lcount : FnScope ["ty", "part"] ["ty"] (defScope s_lcount) := ⟨rfl, rfl, rfl, by decide +kernel, rfl, by decide +kernel, by decide +kernel⟩
abbrev s_ldepth : Stmt := top 29
theorem sc_ldepth : FnScope ["ty", "part"] ["ty"] (defScope s_ldepth) := ⟨rfl, rfl, rfl, by decide +kernel, rfl, by decide +kernel, by decide +kernel⟩
def spTyS (Pt : Addr × Addr) : Sp := fun vs H Q _ => ∃ (v : V) (t : Ty), vs = [v] ∧ SyAt H v t ∧ t.dpt ≤ 30 ∧ (t.vs []).length ≤ 26 ∧ t.sz ≤ 100000 ∧ TabsN (tabI Pt) H ∧
  ∀ v H', ExtN H H' → TabsN (tabI Pt) H' → SchemeAt H' v (lets (t.vs []).length) (closeT t) → Q v H'
def spLCount (n : Nat) : Sp := fun vs H Q _ => ∃ v t, vs = [v] ∧ TyAt H v t ∧ t.dp n ∧ t.sz ≤ 100000 ∧ ∀ H', Ex H H' → Q (.int (t.sz : Int)) H'
def spLDepth (n : Nat) : Sp := fun vs H Q _ => ∃ v t, vs = [v] ∧ TyAt H v t ∧ t.dp n ∧ t.sz ≤ 100000 ∧ ∀ H', Ex H H' → Q (.int (t.dpt : Int)) H'
theorem ints_ofF {f : Ty → Int} : ∀ {ys : List V} {ts : List Ty}, Paired (fun y (t : Ty) => y = V.int (f t)) ys ts → ys = (ts.map f).map V.int
  | _, _, .nil => rfl
  | _, _, .cons e t => by rw [List.map_cons, List.map_cons, e, ints_ofF t]
theorem sum_szs : ∀ ts : List Ty, (ts.map fun t => (t.sz : Int)).sum = (szs ts : Int)
  | [] => rfl
  | t :: ts => by
    have ih := sum_szs ts
    unfold szs at ih ⊢
    rw [List.map_cons, List.sum_cons, ih, List.map_cons, List.sum_cons]
    omega
theorem maxl_is {ts : List Ty} {m : Int} (hm : m ∈ ts.map fun u => (u.dpt : Int)) (hy : ∀ y, y ∈ (ts.map fun u => (u.dpt : Int)) → y ≤ m) : m = ((maxl (ts.map fun t => t.dpt) : Nat) : Int) := by
  obtain ⟨u, hu1, rfl⟩ := List.mem_map.mp hm
  have h1 := le_maxl (List.mem_map.mpr ⟨u, hu1, rfl⟩ : u.dpt ∈ ts.map fun t => t.dpt)
  have h2 := maxl_mem (l := ts.map fun t => t.dpt) (fun z => by rw [List.map_eq_nil_iff.mp z] at hu1; cases hu1)
  obtain ⟨u2, hu2, e2⟩ := List.mem_map.mp h2
  have h3 := hy _ (List.mem_map.mpr ⟨u2, hu2, rfl⟩)
  omega
section
variable {K : PySem.W.Frag} {σ : L2.St} {H : Hp} {ti te : TE} {i : Nat} {a : Addr} {ws : List V} {ts : List Ty} {f : Ty → Int}
/-- [.. for part in parts], each element an integer -/
theorem lc_intsT (hi : Val ti σ H (.ref a)) (ha : H a = some (.tup ws)) (hts : TsAt H ws ts) (hl : ts.length < sizeLine)
    (step : ∀ (x : V) (u : Ty) (H' : Hp), u ∈ ts → TyAt H' x u → ∀ Q : VK, (∀ H2, Ex H' H2 → Q (.int (f u)) H2) → te ((wipe σ [i]).set i (some x)) H' Q) :
    ValH (tLc (iTup K ti) (gName i) tYes te [i]) σ H fun v H' => ∃ D, v = .ref D ∧ Ex H H' ∧ H' D = some (.lst ((ts.map f).map V.int)) := by
  refine vimp (lc_exT (R := fun _ y u => y = V.int (f u)) (rs := ts) (fun _ _ _ _ _ h => h) hi ha (paired_length hts).symm hl fun j x r hx hr H' e Q q => ?_) ?_
  · exact step x r H' (List.mem_of_getElem? hr) ((paired_at2 hts hx hr).mono (Tk.of e)) Q fun H2 e2 => q _ _ e2 rfl
  · rintro _ H' ⟨D, ys, rfl, _, e, hD, p⟩
    rw [ints_ofF p] at hD
    exact ⟨D, rfl, e, hD⟩
theorem ret_opC {r : R2} {c : V} {tb : TE} {D : Ends} (h : tb σ H fun y H2 => r c y H2 D.rt) : tRet (tOp r (tC c) tb) D σ H := h
theorem cb2 {r : List V → Hp → VK → Prop} {Q : VK} {ta tb : TE} {PA : V → Hp → Prop} {PB : V → V → Hp → Prop} (ha : ValH ta σ H PA) (hb : ∀ x H1, PA x H1 → ValH tb σ H1 (PB x)) (k : ∀ x H1 y H2, PA x H1 → PB x y H2 → r [x, y] H2 Q) : tCB r (tCons ta (tCons tb tNil)) σ H Q := ha _ fun x H1 p => hb x H1 p _ fun y H2 p2 => k x H1 y H2 p p2
end
/-- a node that is no function: its parts are its last -/
theorem last_at {H : Hp} {v : V} {hd : Hd} {ts : List Ty} (h : NodeAt H v hd ts) (ne : hd ≠ .fn) : ∃ (p q : Addr) (s : Str) (r ws : List V) (j : Nat), v = .ref p ∧ H p = some (.tup (.str s :: r)) ∧ decide (V.str s = V.str "var") = false ∧ decide (V.str s = V.str "fun") = false ∧ atI (.str s :: r) (-1) = some (.ref q) ∧ H q = some (.tup ws) ∧ TsAt H ws ts := by
  cases h with
  | fn h r => exact absurd rfl ne
  | @tup p q vs ts h1 h2 h3 => exact ⟨p, q, _, _, vs, 1, rfl, h1, by decide, by decide, rfl, h2, h3⟩
  | @con p q n vs ts h1 h2 h3 => exact ⟨p, q, _, _, vs, 2, rfl, h1, by decide, by decide, rfl, h2, h3⟩
section
variable {P : Program} {w : World} {K : PySem.W.Frag} {mg : Str → Option Value} {base : Heap}
theorem can_tys {Pt : Addr × Addr} (D : At K mg "ty_scheme" s_tys ["ty"]) (C_close : Can P w K mg base CX0 6 "close" ["ty"] (spClose Pt)) (C_read_ty : Can P w K mg base CX0 31 "read_ty" ["ty"] (spRead 30)) : Can P w K mg base CX0 32 "ty_scheme" ["ty"] (spTyS Pt) := by
  have sc := sc_tys
  refine D.can sc (fun vs H Q E h => ?_) (fun f cdv A outer s H vs Q E hr h => ?_)
  · obtain ⟨v, t, rfl, _⟩ := h
    rfl
  · obtain ⟨v, t, rfl, ht, hd, h26, hsz, hT, q⟩ := h
    refine ⟨_, (pss_one (ps_ret (pe_can C_close (hr.mono (by omega)) rfl pass0 (pa_cons (pe_can C_read_ty (hr.mono (by omega)) rfl pass0 (pa_cons (pv 0) pa_nil)) pa_nil)))), ?_⟩
    show tRet _ _ [some v] H
    exact e_retH (PV := fun v' H' => ExtN H H' ∧ TabsN (tabI Pt) H' ∧ SchemeAt H' v' (lets (t.vs []).length) (closeT t)) (valH_call1 (PA := fun x H1 => Ex H H1 ∧ TyAt H1 x t) (valH_call1 (vh (val_var rfl)) fun x H1 hx Q1 q1 => ⟨v, t, by rw [hx.1], by rw [hx.2]; exact ht, dp_of_dpt 30 t hd, hsz, fun v' H' e g => q1 _ _ ⟨by rw [hx.2] at e; exact e, g⟩⟩)
      fun x H1 hx Q1 q1 => ⟨x, t, rfl, hx.2, h26, hsz, hT.ext hx.1, fun v' H' e T' g => q1 _ _ ⟨ExtN.trans (extn_of hx.1) e, T', g⟩⟩) fun v' H' p => q v' H' p.1 p.2.1 p.2.2
theorem can_lcount (D : At K mg "_law_count" s_lcount ["ty"]) (T : Bt mg) : ∀ n, Can P w K mg base CX0 (n + 1) "_law_count" ["ty"] (spLCount n) := by
  have sc := sc_lcount
  intro n
  induction n with
  | zero => exact D.can sc (fun vs H Q E ⟨_, _, _, _, h, _⟩ => h.elim) (fun f cdv A outer s H vs Q E hr ⟨_, _, _, _, h, _⟩ => h.elim)
  | succ n C__law_count =>
    refine D.can sc (fun vs H Q E h => ?_) (fun f cdv A outer s H vs Q E hr h => ?_)
    · obtain ⟨v, t, rfl, _⟩ := h
      rfl
    · obtain ⟨v, t, rfl, ht, hdp, hsz, q⟩ := h
      refine ⟨_, (pss_cons (ps_if (pt_cmpR op_eq (pe_ix ix_tup (pv 0) pe_int (fun _ _ => rfl)) pe_str (nomark _)) (pss_one (ps_ret pe_int)) pss_nil)
    (pss_cons (ps_if (pt_cmpR op_eq (pe_ix ix_tup (pv 0) pe_int (fun _ _ => rfl)) pe_str (nomark _)) (pss_one (ps_ret (pe_op op_add (pe_op op_add pe_int (pe_can C__law_count (hr.mono (by omega)) rfl pass0 (pa_cons (pe_ix ix_tup (pv 0) pe_int (fun _ _ => rfl)) pa_nil))) (pe_can C__law_count (hr.mono (by omega)) rfl pass0 (pa_cons (pe_ix ix_tup (pv 0) pe_int (fun _ _ => rfl)) pa_nil))))) pss_nil)
    (pss_one (ps_ret (pe_op op_add pe_int (pe_callB (cr_sum rfl) (by rfl) T.n_sum (by decide +kernel) (pa_cons (pe_lc (own := [("part", 1)]) (g := gName 1) (tt := tYes) rfl sc.nd (pi_tup (pe_ix ix_tup (pv 0) (pe_un un_neg pe_int) (fun _ _ => rfl))) (blkOk_by (N := ["ty", "part"]) (sc := defScope (top 28)) (by decide +kernel)) (fun _ _ _ _ _ => pg_name (i := 1) sc.nd rfl (Or.inl rfl)) (fun _ _ _ _ _ => pts_nil) (fun _ _ _ _ _ => (pe_can C__law_count (hr.mono (by omega)) rfl pass0 (pa_cons (pv 1) pa_nil)))) pa_nil))))))), ?_⟩
      show tSeq _ _ _ [some v, none] H
      cases t with
      | var k =>
        cases ht with
        | var h =>
          refine n_when (b := true) (ans_tag rfl h (by decide)) (fun _ => ?_) (fun h => Bool.noConfusion h)
          have := q H (.refl _)
          rw [Ty.sz_var] at this
          exact e_ret val_c this
      | node hd ts =>
        have hlen := len_parts_lt rfl hsz
        have hdp : ∀ t ∈ ts, t.dp n := hdp
        have hzz : ∀ t ∈ ts, t.sz ≤ 100000 := fun t h => sz_le_mem (t := .node hd ts) h hsz
        have hx := ht.node
        have hz := sz_parts (.node hd ts)
        by_cases hf : hd = .fn
        · subst hf
          cases hx with
          | @fn p va vb a b h r =>
            cases r with
            | cons ra r =>
              cases r with
              | cons rb r =>
                cases r
                refine n_when (b := false) (ans_tag rfl h (by decide)) (fun h => Bool.noConfusion h) fun _ => ?_
                refine n_when (b := true) (ans_tag rfl h (by decide)) (fun _ => ?_) (fun h => Bool.noConfusion h)
                have h1 : ∀ Q1 : VK, (∀ H1, Ex H H1 → Q1 (.int (1 + (a.sz : Int))) H1) → tOp (rI0 fun i j => .int (i + j)) (tC (.int 1)) (tCall (spLCount n) [] E0 (tCons (tOp (rIxT K) (tVar 0) (tC (.int 1))) tNil)) [some (.ref p), none] H Q1 := fun Q1 q1 => val_c _ (val_it1 rfl h _ ⟨va, a, rfl, ra, hdp _ (by simp), hzz _ (by simp), fun H1 e1 => ⟨1, _, rfl, rfl, q1 H1 e1⟩⟩)
                refine h1 _ fun H1 e1 => ?_
                refine val_it2 (K := K) (i := 0) rfl (e1 _ _ h) _ ⟨vb, b, rfl, rb.mono (Tk.of e1), hdp _ (by simp), hzz _ (by simp), fun H2 e2 => ⟨1 + (a.sz : Int), (b.sz : Int), rfl, rfl, ?_⟩⟩
                have := q H2 (e1.trans e2)
                have e0 : ((Ty.node .fn [a, b]).sz : Int) = 1 + (a.sz : Int) + (b.sz : Int) := by
                  rw [hz]
                  unfold szs
                  simp [Ty.parts]
                  omega
                rw [e0] at this
                exact this
        · obtain ⟨p, qa, s, r, ws, j, rfl, h, t1, t2, hat, hq, hts⟩ := last_at hx hf
          refine n_when (b := false) (ans_tag rfl h t1) (fun h => Bool.noConfusion h) fun _ => ?_
          refine n_when (b := false) (ans_tag rfl h t2) (fun h => Bool.noConfusion h) fun _ => ?_
          refine ret_opC ?_
          refine cb1 (lc_intsT (f := fun u => (u.sz : Int)) (val_ixT (val_var rfl) (val_neg val_c) (SqT.of h) hat) hq hts hlen fun x u H' hu hxu Q1 q1 => val_var rfl _ ⟨x, u, rfl, hxu, hdp _ hu, hzz _ hu, fun H2 e2 => q1 H2 e2⟩) ?_
          rintro _ H1 ⟨D, rfl, e, hD⟩
          refine ⟨D, _, rfl, SqL.of hD, 1, _, rfl, rfl, ?_⟩
          have := q H1 e
          rw [hz] at this
          rw [sum_szs]
          show Q (.int (1 + (szs ts : Int))) H1
          exact this
theorem can_ldepth {lim : Addr} (D : At K mg "_law_depth" s_ldepth ["ty"]) (T : Bt mg) (TL : LimT K mg lim) : ∀ n, Can P w K mg base CX0 (n + 1) "_law_depth" ["ty"] (spLDepth n) := by
  have sc := sc_ldepth
  intro n
  induction n with
  | zero => exact D.can sc (fun vs H Q E ⟨_, _, _, _, h, _⟩ => h.elim) (fun f cdv A outer s H vs Q E hr ⟨_, _, _, _, h, _⟩ => h.elim)
  | succ n C__law_depth =>
    refine D.can sc (fun vs H Q E h => ?_) (fun f cdv A outer s H vs Q E hr h => ?_)
    · obtain ⟨v, t, rfl, _⟩ := h
      rfl
    · obtain ⟨v, t, rfl, ht, hdp, hsz, q⟩ := h
      have hu : (A.deeper (envOfC "_law_depth" (defScope s_ldepth) s.heap.objs.size f cdv)).units + 1 < cLine := by
        have := hr.units
        omega
      refine ⟨_, (pss_cons (ps_if (pt_cmpR op_eq (pe_ix ix_tup (pv 0) pe_int (fun _ _ => rfl)) pe_str (nomark _)) (pss_one (ps_ret pe_int)) pss_nil)
    (pss_cons (ps_if (pt_cmpR op_eq (pe_ix ix_tup (pv 0) pe_int (fun _ _ => rfl)) pe_str (nomark _)) (pss_one (ps_ret (pe_op op_add pe_int (pe_callB (call_max2 rfl) (by rfl) TL.n_max (by decide +kernel) (pa_cons (pe_can C__law_depth (hr.mono (by omega)) rfl pass0 (pa_cons (pe_ix ix_tup (pv 0) pe_int (fun _ _ => rfl)) pa_nil)) (pa_cons (pe_can C__law_depth (hr.mono (by omega)) rfl pass0 (pa_cons (pe_ix ix_tup (pv 0) pe_int (fun _ _ => rfl)) pa_nil)) pa_nil)))))) pss_nil)
    (pss_one (ps_ret (pe_op op_add pe_int (pe_callBK (ks := ["default"]) (call_maxDef rfl hu) (by rfl) TL.n_max (by rfl) (pa_cons (pe_lc (own := [("part", 1)]) (g := gName 1) (tt := tYes) rfl sc.nd (pi_tup (pe_ix ix_tup (pv 0) (pe_un un_neg pe_int) (fun _ _ => rfl))) (blkOk_by (N := ["ty", "part"]) (sc := defScope s_ldepth) (by decide +kernel)) (fun _ _ _ _ _ => pg_name (i := 1) sc.nd rfl (Or.inl rfl)) (fun _ _ _ _ _ => pts_nil) (fun _ _ _ _ _ => (pe_can C__law_depth (hr.mono (by omega)) rfl pass0 (pa_cons (pv 1) pa_nil)))) pa_nil) (pk_cons pe_int pk_nil))))))), ?_⟩
      show tSeq _ _ _ [some v, none] H
      cases t with
      | var k =>
        cases ht with
        | var h =>
          refine n_when (b := true) (ans_tag rfl h (by decide)) (fun _ => ?_) (fun h => Bool.noConfusion h)
          have := q H (.refl _)
          rw [dpt_var] at this
          exact e_ret val_c this
      | node hd ts =>
        have hlen := len_parts_lt rfl hsz
        have hdp : ∀ t ∈ ts, t.dp n := hdp
        have hzz : ∀ t ∈ ts, t.sz ≤ 100000 := fun t h => sz_le_mem (t := .node hd ts) h hsz
        have hx := ht.node
        have hz := dpt_node hd ts
        by_cases hf : hd = .fn
        · subst hf
          cases hx with
          | @fn p va vb a b h r =>
            cases r with
            | cons ra r =>
              cases r with
              | cons rb r =>
                cases r
                refine n_when (b := false) (ans_tag rfl h (by decide)) (fun h => Bool.noConfusion h) fun _ => ?_
                refine n_when (b := true) (ans_tag rfl h (by decide)) (fun _ => ?_) (fun h => Bool.noConfusion h)
                refine ret_opC ?_
                refine cb2 (PA := fun x H1 => x = .int (a.dpt : Int) ∧ Ex H H1) (PB := fun x y H2 => x = .int (a.dpt : Int) ∧ y = .int (b.dpt : Int) ∧ Ex H H2) ?_ ?_ ?_
                · exact valH_call1 (vh (val_it1 rfl h)) fun x H1 hx Q1 q1 => ⟨va, a, by rw [hx.1], by rw [hx.2]; exact ra, hdp _ (by simp), hzz _ (by simp), fun H' e => q1 _ _ ⟨rfl, by rw [hx.2] at e; exact e⟩⟩
                · rintro x H1 ⟨rfl, e1⟩
                  exact valH_call1 (vh (val_it2 rfl (e1 _ _ h))) fun y H2 hy Q1 q1 => ⟨vb, b, by rw [hy.1], by rw [hy.2]; exact rb.mono (Tk.of e1), hdp _ (by simp), hzz _ (by simp), fun H' e => q1 _ _ ⟨rfl, rfl, e1.trans (by rw [hy.2] at e; exact e)⟩⟩
                · rintro _ _ _ H2 _ ⟨rfl, rfl, e2⟩
                  refine ⟨_, _, rfl, 1, _, rfl, rfl, ?_⟩
                  have := q H2 e2
                  have e0 : ((Ty.node .fn [a, b]).dpt : Int) = 1 + (if (b.dpt : Int) > (a.dpt : Int) then (b.dpt : Int) else (a.dpt : Int)) := by
                    rw [hz]
                    show ((1 + max a.dpt (max b.dpt 0) : Nat) : Int) = _
                    split <;> omega
                  rw [e0] at this
                  exact this
        · obtain ⟨p, qa, s, r, ws, j, rfl, h, t1, t2, hat, hq, hts⟩ := last_at hx hf
          refine n_when (b := false) (ans_tag rfl h t1) (fun h => Bool.noConfusion h) fun _ => ?_
          refine n_when (b := false) (ans_tag rfl h t2) (fun h => Bool.noConfusion h) fun _ => ?_
          refine ret_opC ?_
          refine ckw1 (lc_intsT (f := fun u => (u.dpt : Int)) (val_ixT (val_var rfl) (val_neg val_c) (SqT.of h) hat) hq hts hlen fun x u H' hu hxu Q1 q1 => val_var rfl _ ⟨x, u, rfl, hxu, hdp _ hu, hzz _ hu, fun H2 e2 => q1 H2 e2⟩) ?_
          rintro _ H1 ⟨D, rfl, e, hD⟩
          have q1 := q H1 e
          refine ⟨D, _, 0, rfl, rfl, SqL.of hD, fun e0 => ⟨1, 0, rfl, rfl, ?_⟩, fun m hm hy => ⟨1, m, rfl, rfl, ?_⟩⟩
          · have : ts = [] := List.map_eq_nil_iff.mp e0
            rw [hz, this] at q1
            exact q1
          · rw [maxl_is hm hy]
            rw [hz] at q1
            have e0 : ((1 + maxl (ts.map fun t => t.dpt) : Nat) : Int) = 1 + ((maxl (ts.map fun t => t.dpt) : Nat) : Int) := by omega
            rw [e0] at q1
            exact q1
end
/-! ### _law_letters, _law_renamed -/
open NdefX LamX CLO
abbrev s_llet : Stmt := top 26
theorem sc_llet : FnScope ["ty", "found", "part"] ["ty", "found"] (defScope s_llet) := ⟨rfl, rfl, rfl, by decide +kernel, rfl, by decide +kernel, by decide +kernel⟩
abbrev s_lren : Stmt := top 27
theorem sc_lren : FnScope ["ty", "letters", "part"] ["ty", "letters"] (defScope s_lren) := ⟨rfl, rfl, rfl, by decide +kernel, rfl, by decide +kernel, by decide +kernel⟩
def spLLet (n : Nat) : Sp := fun vs H Q _ => ∃ (v : V) (t : Ty) (l : Addr) (F : List Key), vs = [v, .ref l] ∧ TyAt H v t ∧ t.dp n ∧ F.length + t.sz ≤ 100000 ∧ H l = some (.lst (F.map kV)) ∧ ∀ H', Bul l H H' → H' l = some (.lst ((t.vs F).map kV)) → Q (.ref l) H'
theorem n_callD {σ : L2.St} {H : Hp} {D : Ends} {tz : TS} {sp : Sp} {E : XK} {ta tb : TE} {x y : V} (ha : Val ta σ H x) (hb : Val tb σ H y) (h : sp [x, y] H (fun _ H' => tz D σ H') E) : tSeq (tDrop (tCall sp [] E (tCons ta (tCons tb tNil)))) tz D σ H := ha _ (hb _ h)
section
variable {P : Program} {w : World} {K : PySem.W.Frag} {mg : Str → Option Value} {base : Heap}
theorem can_llet (D : At K mg "_law_letters" s_llet ["ty", "found"]) (T : Bt mg) : ∀ n, Can P w K mg base CX0 (n + 1) "_law_letters" ["ty", "found"] (spLLet n) := by
  have sc := sc_llet
  intro n
  induction n with
  | zero => exact D.can sc (fun vs H Q E ⟨_, _, _, _, _, _, h, _⟩ => h.elim) (fun f cdv A outer s H vs Q E hr ⟨_, _, _, _, _, _, h, _⟩ => h.elim)
  | succ n C__law_letters =>
    refine D.can sc (fun vs H Q E h => ?_) (fun f cdv A outer s H vs Q E hr h => ?_)
    · obtain ⟨v, t, l, F, rfl, _⟩ := h
      rfl
    · obtain ⟨v, t, l, F, rfl, ht, hd, hsz, hl, q⟩ := h
      refine ⟨_, (pss_cut (ps_if (pt_cmpR op_eq (pe_ix ix_tup (pv 0) pe_int (fun _ _ => rfl)) pe_str (nomark _)) (pss_one (ps_if (pt_cmpR op_notIn_seq (pe_ix ix_tup (pv 0) pe_int (fun _ _ => rfl)) (pv 1) (by rfl)) (pss_one (ps_expr (pe_bm PySem.F.plainAttrs_list PySem.F.slot_list_append PySem.F.type_list_append mt_append (pv 1) (pa_cons (pe_ix ix_tup (pv 0) pe_int (fun _ _ => rfl)) pa_nil)))) pss_nil)) (pss_one (ps_if (pt_cmpR op_eq (pe_ix ix_tup (pv 0) pe_int (fun _ _ => rfl)) pe_str (nomark _)) (pss_cons (ps_expr (pe_can C__law_letters (hr.mono (by omega)) rfl pass0 (pa_cons (pe_ix ix_tup (pv 0) pe_int (fun _ _ => rfl)) (pa_cons (pv 1) pa_nil))))
    (pss_one (ps_expr (pe_can C__law_letters (hr.mono (by omega)) rfl pass0 (pa_cons (pe_ix ix_tup (pv 0) pe_int (fun _ _ => rfl)) (pa_cons (pv 1) pa_nil)))))) (pss_one (ps_for PassesOwn.never rfl (pi_tup (pe_ix ix_tup (pv 0) (pe_un un_neg pe_int) (fun _ _ => rfl))) (pg_name (i := 2) sc.nd rfl (.inl rfl)) (pss_one (ps_expr (pe_can C__law_letters (hr.mono (by omega)) rfl pass0 (pa_cons (pv 2) (pa_cons (pv 1) pa_nil))))))))))
    (pss_one (ps_ret (pv 1)))), ?_⟩
      show tCut _ _ _ [some v, some (.ref l), none] H
      refine q_cut (M := fun σ' H' => ∃ x2 : Option V, σ' = [some v, some (.ref l), x2] ∧ Bul l H H' ∧ H' l = some (.lst ((t.vs F).map kV))) ?_ ?_
      · cases t with
        | var k =>
          cases ht with
          | @var p _ h =>
            have hin : Ans (tTest (tOp (rIn K true) (tOp (rIxT K) (tVar 0) (tC (.int 1))) (tVar 1))) [some (.ref p), some (.ref l), none] H (!decide (k ∈ F)) := fun Q' q' => val_it1 rfl h _ (val_var rfl _ ⟨l, _, rfl, .inl (SqL.of hl), kV_flat k, keys_flat F, _, rfl, by rw [inV_keys]; exact q'⟩)
            refine st_if (b := true) (ans_tag rfl h (by decide)) (fun _ => ?_) (fun h => Bool.noConfusion h)
            refine e_when hin (fun hb => ?_) (fun hb => ?_)
            · have hb : k ∉ F := by simpa using hb
              have hlen : (F.map kV).length < sizeLine := by
                rw [List.length_map]
                exact Nat.lt_of_le_of_lt (show F.length ≤ 100000 by omega) (by decide)
              refine d_app (val_var rfl) hl (val_it1 rfl h) hlen ⟨none, rfl, Bul.set, ?_⟩
              rw [Ty.vs_var, if_neg hb, upd_same, List.map_append]
              rfl
            · have hb : k ∈ F := by simpa using hb
              refine ⟨none, rfl, .refl, ?_⟩
              rw [Ty.vs_var, if_pos hb]
              exact hl
        | node hdd ps =>
          have hz := sz_parts (.node hdd ps)
          simp only [Ty.parts] at hz
          have hd : ∀ t ∈ ps, t.dp n := hd
          have hx := ht.node
          by_cases hf : hdd = .fn
          · subst hf
            cases hx with
            | @fn p va vb a b h r =>
              cases r with
              | cons ra r =>
                cases r with
                | cons rb r =>
                  cases r
                  have hz2 : szs [a, b] = a.sz + b.sz := by unfold szs; simp
                  refine st_if (b := false) (ans_tag rfl h (by decide)) (fun h => Bool.noConfusion h) fun _ => ?_
                  refine st_if (b := true) (ans_tag rfl h (by decide)) (fun _ => ?_) (fun h => Bool.noConfusion h)
                  refine n_callD (x := va) (y := .ref l) (val_it1 rfl h) (val_var rfl) ⟨va, a, l, F, rfl, ra, hd _ (by simp), by omega, hl, fun H1 b1 hl1 => ?_⟩
                  have k1 := Tk.bul b1 hl (fun _ z => by cases z)
                  have h1 := vs_len a F
                  refine d_call2 (x := vb) (y := .ref l) (val_it2 rfl (k1 _ _ h)) (val_var rfl) ⟨vb, b, l, a.vs F, rfl, rb.mono k1, hd _ (by simp), by omega, hl1, fun H2 b2 hl2 => ⟨none, rfl, b1.trans b2, ?_⟩⟩
                  rw [Ty.vs_node]
                  exact hl2
          · obtain ⟨p, qa, s2, r, ws, j, rfl, h, t1, t2, hat, hq, hts⟩ := last_at hx hf
            refine st_if (b := false) (ans_tag rfl h t1) (fun h => Bool.noConfusion h) fun _ => ?_
            refine st_if (b := false) (ans_tag rfl h t2) (fun h => Bool.noConfusion h) fun _ => ?_
            refine (val_ixT (K := K) (ta := tVar 0) (val_var rfl) (val_neg val_c) (SqT.of h) hat) _ ⟨qa, rfl, ⟨ws, SqT.of hq⟩, ?_⟩
            refine for_tup (xs := ws) (fun i σ' H' => ∃ (x2 : Option V) (G : List Key), σ' = [some (.ref p), some (.ref l), x2] ∧ Bul l H H' ∧ H' l = some (.lst (G.map kV)) ∧ vsAll (ps.drop i) G = (Ty.node hdd ps).vs F ∧ G.length + szs (ps.drop i) ≤ F.length + (Ty.node hdd ps).sz) ⟨none, F, rfl, .refl, hl, by rw [Ty.vs_node]; rfl, by rw [List.drop_zero]; omega⟩ (fun i σ' H' _ ⟨_, _, _, b, _⟩ => SqT.of ((Tk.bul b hl (fun _ z => by cases z)) _ _ hq)) ?_ ?_
            · rintro i x σ' H3 hx ⟨x2, G, rfl, b3, hl3, hv3, hb3⟩
              have k3 := Tk.bul b3 hl (fun _ z => by cases z)
              obtain ⟨u, hu, hxu⟩ := paired_at (TsAt.mono k3 hts) hx
              have hdr : ps.drop i = u :: ps.drop (i + 1) := by
                obtain ⟨h1, h2⟩ := List.getElem?_eq_some_iff.mp hu
                rw [List.drop_eq_getElem_cons h1, h2]
              rw [hdr] at hv3 hb3
              have hz : szs (u :: ps.drop (i + 1)) = u.sz + szs (ps.drop (i + 1)) := by
                unfold szs
                rw [List.map_cons, List.sum_cons]
              rw [hz] at hb3
              refine d_call2 (x := x) (y := .ref l) (val_var rfl) (val_var rfl) ⟨x, u, l, G, rfl, hxu, hd u (List.mem_of_getElem? hu), by omega, hl3, fun H4 b4 hl4 => ⟨some x, u.vs G, rfl, b3.trans b4, hl4, hv3, ?_⟩⟩
              have := vs_len u G
              omega
            · rintro σ' H3 ⟨x2, G, rfl, b3, hl3, hv3, hb3⟩
              rw [paired_length hts, List.drop_length] at hv3
              have hv3 : G = (Ty.node hdd ps).vs F := hv3
              exact ⟨x2, rfl, b3, by rw [← hv3]; exact hl3⟩
      · rintro σ' H1 ⟨x2, rfl, b1, hl1⟩
        exact e_ret (val_var rfl) (q _ b1 hl1)
end
/-! ### _law_renamed -/
open NdefX LamX CLO
def spLRen (n : Nat) : Sp := fun vs H Q _ => ∃ (v : V) (t : Ty) (l : Addr) (F : List Key), vs = [v, .ref l] ∧ TyAt H v t ∧ t.dp n ∧ t.sz ≤ 100000 ∧ H l = some (.lst (F.map kV)) ∧ (∀ k, Ty.has k t → k ∈ F) ∧ F.length ≤ 26 ∧ ∀ v' H', Ex H H' → TyAt H' v' (t.bind (pickT F ((lets F.length).map Ty.var))) → Q v' H'
theorem c2 {σ : L2.St} {H : Hp} {ta tb : TE} {sp : Sp} {E : XK} {x y : V} {Q : VK} (ha : Val ta σ H x) (hb : Val tb σ H y) (h : sp [x, y] H Q E) : tCall sp [] E (tCons ta (tCons tb tNil)) σ H Q := ha _ (hb _ h)
theorem pick_idx : ∀ {F L : List Key} {k : Key}, k ∈ F → F.length = L.length → ∃ (j : Nat) (b : Key), F[j]? = some k ∧ L[j]? = some b ∧ (∀ (m : Nat) (z : Key), m < j → F[m]? = some z → z ≠ k) ∧ pickT F (L.map Ty.var) k = .var b
  | [], _, _, h, _ => by cases h
  | _ :: _, [], _, _, h => by cases h
  | f :: F, b :: L, k, h, hl => by
    by_cases e : f = k
    · subst e
      refine ⟨0, b, rfl, rfl, fun m z hm _ => by omega, ?_⟩
      show (if f = f then Ty.var b else _) = _
      rw [if_pos rfl]
    · have hk : k ∈ F := by
        rcases List.mem_cons.mp h with z | z
        · exact absurd z.symm e
        · exact z
      obtain ⟨j, b', h1, h2, h3, h4⟩ := pick_idx hk (by simpa using hl)
      refine ⟨j + 1, b', by simpa using h1, by simpa using h2, fun m z hm hz => ?_, ?_⟩
      · cases m with
        | zero =>
          simp at hz
          subst hz
          exact e
        | succ m => exact h3 m z (by omega) (by simpa using hz)
      · show (if f = k then Ty.var b else pickT F (L.map Ty.var) k) = _
        rw [if_neg e]
        exact h4
theorem lets_at2 {n j : Nat} {b : Key} (h : (lets n)[j]? = some b) : ∃ c, lLOWER[j]? = some c ∧ b = Sum.inr (S [c]) := by
  unfold lets at h
  rw [List.getElem?_map] at h
  obtain ⟨c, hc, rfl⟩ := Option.map_eq_some_iff.mp h
  refine ⟨c, ?_, rfl⟩
  rw [List.getElem?_take] at hc
  split at hc
  · exact hc
  · cases hc
theorem ts_bind {H : Hp} {g : Key → Ty} : ∀ {ys : List V} {ts : List Ty}, Paired (fun y (r : Ty) => TyAt H y (r.bind g)) ys ts → TsAt H ys (ts.map fun t => t.bind g)
  | _, _, .nil => .nil
  | _, _, .cons r t => by
    rw [List.map_cons]
    exact .cons r (ts_bind t)
section
variable {P : Program} {w : World} {K : PySem.W.Frag} {mg : Str → Option Value} {base : Heap}
theorem can_lren (D : At K mg "_law_renamed" s_lren ["ty", "letters"]) (T : Bt mg) : ∀ n, Can P w K mg base CX0 (n + 1) "_law_renamed" ["ty", "letters"] (spLRen n) := by
  have sc := sc_lren
  intro n
  induction n with
  | zero => exact D.can sc (fun vs H Q E ⟨_, _, _, _, _, _, h, _⟩ => h.elim) (fun f cdv A outer s H vs Q E hr ⟨_, _, _, _, _, _, h, _⟩ => h.elim)
  | succ n C__law_renamed =>
    refine D.can sc (fun vs H Q E h => ?_) (fun f cdv A outer s H vs Q E hr h => ?_)
    · obtain ⟨v, t, l, F, rfl, _⟩ := h
      rfl
    · obtain ⟨v, t, l, F, rfl, ht, hdp, hsz, hl, hF, h26, q⟩ := h
      have ln := lets_len h26
      refine ⟨_, (pss_cons (ps_if (pt_cmpR op_eq (pe_ix ix_tup (pv 0) pe_int (fun _ _ => rfl)) pe_str (nomark _)) (pss_one (ps_ret (pe_tup (pa_cons pe_str (pa_cons (pe_ix ix_str pe_str (pe_bm PySem.F.plainAttrs_list PySem.F.slot_list_index PySem.F.type_list_index mt_index (pv 1) (pa_cons (pe_ix ix_tup (pv 0) pe_int (fun _ _ => rfl)) pa_nil)) (fun _ _ => rfl)) pa_nil))))) pss_nil)
    (pss_cons (ps_if (pt_cmpR op_eq (pe_ix ix_tup (pv 0) pe_int (fun _ _ => rfl)) pe_str (nomark _)) (pss_one (ps_ret (pe_tup (pa_cons pe_str (pa_cons (pe_can C__law_renamed (hr.mono (by omega)) rfl pass0 (pa_cons (pe_ix ix_tup (pv 0) pe_int (fun _ _ => rfl)) (pa_cons (pv 1) pa_nil))) (pa_cons (pe_can C__law_renamed (hr.mono (by omega)) rfl pass0 (pa_cons (pe_ix ix_tup (pv 0) pe_int (fun _ _ => rfl)) (pa_cons (pv 1) pa_nil))) pa_nil)))))) pss_nil)
    (pss_cons (ps_if (pt_cmpR op_eq (pe_ix ix_tup (pv 0) pe_int (fun _ _ => rfl)) pe_str (nomark _)) (pss_one (ps_ret (pe_tup (pa_cons pe_str (pa_cons (pe_callTy call_tuple_of (by rfl) T.n_tuple (by decide +kernel) (pa_cons (pe_lc (own := [("part", 2)]) (g := gName 2) (tt := tYes) rfl sc.nd (pi_tup (pe_ix ix_tup (pv 0) pe_int (fun _ _ => rfl))) (blkOk_by (N := ["ty", "letters", "part"]) (sc := defScope (top 27)) (by decide +kernel)) (fun _ _ _ _ _ => pg_name (i := 2) sc.nd rfl (Or.inl rfl)) (fun _ _ _ _ _ => pts_nil) (fun _ _ _ _ _ => (pe_can C__law_renamed (hr.mono (by omega)) rfl pass0 (pa_cons (pv 2) (pa_cons (pv 1) pa_nil))))) pa_nil)) pa_nil))))) pss_nil)
    (pss_one (ps_ret (pe_tup (pa_cons pe_str (pa_cons (pe_ix ix_tup (pv 0) pe_int (fun _ _ => rfl)) (pa_cons (pe_callTy call_tuple_of (by rfl) T.n_tuple (by decide +kernel) (pa_cons (pe_lc (own := [("part", 2)]) (g := gName 2) (tt := tYes) rfl sc.nd (pi_tup (pe_ix ix_tup (pv 0) pe_int (fun _ _ => rfl))) (blkOk_by (N := ["ty", "letters", "part"]) (sc := defScope (top 27)) (by decide +kernel)) (fun _ _ _ _ _ => pg_name (i := 2) sc.nd rfl (Or.inl rfl)) (fun _ _ _ _ _ => pts_nil) (fun _ _ _ _ _ => (pe_can C__law_renamed (hr.mono (by omega)) rfl pass0 (pa_cons (pv 2) (pa_cons (pv 1) pa_nil))))) pa_nil)) pa_nil))))))))), ?_⟩
      show tSeq _ _ _ [some v, some (.ref l), none] H
      cases t with
      | var k =>
        cases ht with
        | @var p _ h =>
          refine n_when (b := true) (ans_tag rfl h (by decide)) (fun _ => ?_) (fun h => Bool.noConfusion h)
          obtain ⟨j, b, hj, hb, hlt, hpk⟩ := pick_idx (F := F) (L := lets F.length) (k := k) (hF k (Ty.has_var.mpr rfl)) ln.symm
          rw [Ty.bind_var, hpk] at q
          obtain ⟨c, hc, rfl⟩ := lets_at2 hb
          have hix : Val (tBM K "list" (rIndex K) (tVar 1) (tCons (tOp (rIxT K) (tVar 0) (tC (.int 1))) tNil)) [some (.ref p), some (.ref l), none] H (.int (j : Int)) := fun Q1 q1 => (show Val (tVar 1) [some (.ref p), some (.ref l), none] H (.ref l) from val_var rfl) _ ⟨.inl ⟨rfl, _, SqL.of hl⟩, val_it1 rfl h _ ⟨l, F.map kV, kV k, j, kV k, rfl, rfl, SqL.of hl, kV_flat k, keys_flat F, by rw [List.getElem?_map, hj]; rfl, by rw [eqV_keys]; exact decide_eq_true rfl, fun m z hm hz => by
            rw [List.getElem?_map] at hz
            obtain ⟨y, hy, rfl⟩ := Option.map_eq_some_iff.mp hz
            rw [eqV_keys]
            exact decide_eq_false (hlt m y hm hy), q1⟩⟩
          exact ret2 val_c (val_ixS val_c hix (size_line (by decide +kernel)) (atI_nat hc)) fun p hp => q _ _ (Ex.new hp) (.var upd_same)
      | node hd ts =>
        have hlen := len_parts_lt rfl hsz
        rw [Ty.bind_node] at q
        have hFt : ∀ t ∈ ts, ∀ k, Ty.has k t → k ∈ F := fun t ht k hk => hF k (Ty.has_node.mpr ⟨t, ht, hk⟩)
        generalize hg : pickT F ((lets F.length).map Ty.var) = g at q
        have hdp : ∀ t ∈ ts, t.dp n := hdp
        have hzz : ∀ t ∈ ts, t.sz ≤ 100000 := fun t h => sz_le_mem (t := .node hd ts) h hsz
        have hx := ht.node
        cases hx with
        | @fn p va vb a b h r =>
          cases r with
          | cons ra r =>
            cases r with
            | cons rb r =>
              cases r
              refine n_when (b := false) (ans_tag rfl h (by decide)) (fun h => Bool.noConfusion h) fun _ => ?_
              refine n_when (b := true) (ans_tag rfl h (by decide)) (fun _ => ?_) (fun h => Bool.noConfusion h)
              refine ret_triple (PA := fun x H1 => Ex H H1 ∧ TyAt H1 x (a.bind g)) (PB := fun x H1 y H2 => Ex H1 H2 ∧ TyAt H2 y (b.bind g)) val_c ?_ ?_ ?_
              · exact fun Q1 q1 => c2 (x := va) (y := .ref l) (val_it1 rfl h) (val_var rfl) ⟨va, a, l, F, rfl, ra, hdp _ (by simp), hzz _ (by simp), hl, hFt _ (by simp), h26, fun v' H' e g1 => q1 _ _ ⟨e, by rw [hg] at g1; exact g1⟩⟩
              · rintro x H1 ⟨e1, hx⟩
                exact fun Q1 q1 => c2 (x := vb) (y := .ref l) (val_it2 rfl (e1 _ _ h)) (val_var rfl) ⟨vb, b, l, F, rfl, rb.mono (Tk.of e1), hdp _ (by simp), hzz _ (by simp), e1 _ _ hl, hFt _ (by simp), h26, fun v' H' e g1 => q1 _ _ ⟨e, by rw [hg] at g1; exact g1⟩⟩
              · rintro x H1 y H2 ⟨e1, hx⟩ ⟨e2, hy⟩ pn hpn
                have e3 := Ex.new (o := .tup [.str "fun", x, y]) hpn
                exact q _ _ ((e1.trans e2).trans e3) (.fn upd_same ((hx.mono (Tk.of e2)).mono (Tk.of e3)) (hy.mono (Tk.of e3)))
        | @tup p c ws _ h h2 hts =>
          have step : ∀ (j : Nat) (x : V) (r : Ty), ws[j]? = some x → ts[j]? = some r → ∀ H', Ex H H' → ∀ Q : VK, (∀ y H2, Ex H' H2 → TyAt H2 y (r.bind g) → Q y H2) → tCall (spLRen n) [] E0 (tCons (tVar 2) (tCons (tVar 1) tNil)) ((wipe [some (.ref p), some (.ref l), none] [2]).set 2 (some x)) H' Q := fun j x r hx hr H' e Q1 q1 =>
            c2 (x := x) (y := .ref l) (val_var rfl) (val_var rfl) ⟨x, r, l, F, rfl, (paired_at2 hts hx hr).mono (Tk.of e), hdp _ (List.mem_of_getElem? hr), hzz _ (List.mem_of_getElem? hr), e _ _ hl, hFt _ (List.mem_of_getElem? hr), h26, fun v' H2 e2 g1 => q1 _ _ e2 (by rw [hg] at g1; exact g1)⟩
          refine n_when (b := false) (ans_tag rfl h (by decide)) (fun h => Bool.noConfusion h) fun _ => ?_
          refine n_when (b := false) (ans_tag rfl h (by decide)) (fun h => Bool.noConfusion h) fun _ => ?_
          refine n_when (b := true) (ans_tag rfl h (by decide)) (fun _ => ?_) (fun h => Bool.noConfusion h)
          refine ret_pair val_c (valH_mapT (R := fun H y (r : Ty) => TyAt H y (r.bind g)) (rs := ts) (fun _ _ _ _ k h => h.mono k) (val_it1 rfl h) h2 (paired_length hts).symm hlen step) ?_
          rintro _ H1 ⟨c2, ys, rfl, e1, hc2, hys⟩ pn hpn
          have e3 := Ex.new (o := .tup [.str "tuple", .ref c2]) hpn
          exact q _ _ (e1.trans e3) (.tup upd_same (e3 _ _ hc2) (ts_bind (paired_imp hys fun _ _ _ h => TyAt.mono (Tk.of e3) h)))
        | @con p c nn ws _ h h2 hts =>
          have step : ∀ (j : Nat) (x : V) (r : Ty), ws[j]? = some x → ts[j]? = some r → ∀ H', Ex H H' → ∀ Q : VK, (∀ y H2, Ex H' H2 → TyAt H2 y (r.bind g) → Q y H2) → tCall (spLRen n) [] E0 (tCons (tVar 2) (tCons (tVar 1) tNil)) ((wipe [some (.ref p), some (.ref l), none] [2]).set 2 (some x)) H' Q := fun j x r hx hr H' e Q1 q1 =>
            c2 (x := x) (y := .ref l) (val_var rfl) (val_var rfl) ⟨x, r, l, F, rfl, (paired_at2 hts hx hr).mono (Tk.of e), hdp _ (List.mem_of_getElem? hr), hzz _ (List.mem_of_getElem? hr), e _ _ hl, hFt _ (List.mem_of_getElem? hr), h26, fun v' H2 e2 g1 => q1 _ _ e2 (by rw [hg] at g1; exact g1)⟩
          refine n_when (b := false) (ans_tag rfl h (by decide)) (fun h => Bool.noConfusion h) fun _ => ?_
          refine n_when (b := false) (ans_tag rfl h (by decide)) (fun h => Bool.noConfusion h) fun _ => ?_
          refine n_when (b := false) (ans_tag rfl h (by decide)) (fun h => Bool.noConfusion h) fun _ => ?_
          refine ret_triple (PA := fun x H1 => x = .str nn ∧ H1 = H) (PB := fun x H1 v H' => ∃ c ys, v = .ref c ∧ Ex H H' ∧ H' c = some (.tup ys) ∧ Paired (fun y (r : Ty) => TyAt H' y (r.bind g)) ys ts) val_c (vh (val_it1 rfl h)) ?_ ?_
          · rintro _ _ ⟨rfl, rfl⟩
            exact valH_mapT (R := fun H y (r : Ty) => TyAt H y (r.bind g)) (rs := ts) (fun _ _ _ _ k h => h.mono k) (val_it2 rfl h) h2 (paired_length hts).symm hlen step
          · rintro _ _ _ H1 ⟨rfl, rfl⟩ ⟨c2, ys, rfl, e1, hc2, hys⟩ pn hpn
            have e3 := Ex.new (o := .tup [.str "con", .str nn, .ref c2]) hpn
            exact q _ _ (e1.trans e3) (.con upd_same (e3 _ _ hc2) (ts_bind (paired_imp hys fun _ _ _ h => TyAt.mono (Tk.of e3) h)))
end
/-! ### drawing -/
open NdefX LamX CLO
def Drawn (d : Addr) (K : PySem.W.Frag) (H H' : Hp) : Prop := But d H H' ∧ DSt K H' d
theorem But.mut {d D : Addr} {H H' : Hp} {o : HO} (b : But d H H') (hD : H D = none) (hd : H d ≠ none) : But d H (upd H' D o) := by
  have ne : D ≠ d := fun e => hd (e ▸ hD)
  refine ⟨fun a u n h => ?_, fun c i r k h => ?_⟩
  · rw [upd_ne (ne_of_none h hD)]
    exact b.keep _ _ n h
  · obtain ⟨i', r', k', h'⟩ := b.first c i r k h
    exact ⟨i', r', k', by rw [upd_ne ne.symm]; exact h'⟩
theorem DSt.there {K : PySem.W.Frag} {H : Hp} {d : Addr} (s : DSt K H d) : H d ≠ none := by
  obtain ⟨c, ns, i, r, k, h, _⟩ := s
  rw [h]
  exact fun z => by cases z
theorem DSt.mut {K : PySem.W.Frag} {d D : Addr} {H H' : Hp} {o : HO} (s0 : DSt K H d) (b : But d H H') (s : DSt K H' d) (hD : H D = none) : DSt K (upd H' D o) d := by
  have nd : D ≠ d := fun e => s0.there (e ▸ hD)
  obtain ⟨c0, _, i0, r0, k0, h0, hc0, _, _⟩ := s0
  obtain ⟨c, ns, i, r, k, h1, h2, h3, h4⟩ := s
  obtain ⟨i', r', k', h'⟩ := b.first c0 i0 r0 k0 h0
  rw [h1] at h'
  have hc : c = c0 := by
    injection h' with e
    injection e with e
    injection e with e _
    exact V.ref.inj e
  subst hc
  exact ⟨c, ns, i, r, k, by rw [upd_ne nd.symm]; exact h1, by rw [upd_ne (ne_of_none hc0 hD)]; exact h2, h3, h4⟩
theorem But.tk {K : PySem.W.Frag} {d : Addr} {H H' : Hp} (b : But d H H') (s : DSt K H d) : Tk H H' := by
  obtain ⟨c, ns, i, r, k, h, _⟩ := s
  exact Tk.bul b.keep h fun _ z => by cases z
theorem DSt.lst_ne {K : PySem.W.Frag} {H : Hp} {d a : Addr} {xs : List Key} (s : DSt K H d) (h : H a = some (.lst (xs.map kV))) : a ≠ d := by
  rintro rfl
  obtain ⟨c, ns, i, r, k, h1, _⟩ := s
  rw [h1] at h
  have e := congrArg List.head? (HO.lst.inj (Option.some.inj h))
  cases xs with
  | nil => cases e
  | cons x xs => cases x <;> cases e
/-- the texts in a tree can stand in data -/
def okK : Key → Prop
  | .inl _ => True
  | .inr s => PyData.strOk s = true
inductive Ty.ok : Ty → Prop
  | v {k : Key} : okK k → Ty.ok (.var k)
  | n {h : Hd} {ps : List Ty} : PyData.strOk h.nm = true → (∀ t ∈ ps, Ty.ok t) → Ty.ok (.node h ps)
theorem Ty.ok_bind {f : Key → Ty} : ∀ {t : Ty}, Ty.ok t → (∀ k, Ty.has k t → Ty.ok (f k)) → Ty.ok (t.bind f) := by
  intro t
  induction t using Ty.ind with
  | hv k =>
    intro _ h
    rw [Ty.bind_var]
    exact h k (Ty.has_var.mpr rfl)
  | hn h ps ih =>
    intro o hh
    cases o with
    | n o1 o2 =>
      rw [Ty.bind_node]
      refine .n o1 fun t ht => ?_
      obtain ⟨t0, h0, rfl⟩ := List.mem_map.mp ht
      exact ih t0 h0 (o2 t0 h0) fun k hk => hh k (Ty.has_node.mpr ⟨t0, h0, hk⟩)
/-- the trees that are drawn -/
def Fits (n : Nat) (names : List Key) (t : Ty) : Prop := t.slim n ∧ (∀ k, Ty.has k t → k ∈ names) ∧ Ty.ok t
theorem Fits.leaf {n : Nat} {names : List Key} {h : Hd} (ho : PyData.strOk h.nm = true) : Fits n names (.node h []) := by
  refine ⟨?_, fun k hk => ?_, .n ho fun t ht => by cases ht⟩
  · cases n with
    | zero => exact rfl
    | succ n => exact ⟨Nat.zero_le _, fun t ht => by cases ht⟩
  · obtain ⟨t, ht, _⟩ := Ty.has_node.mp hk
    cases ht
theorem Fits.var {n : Nat} {names : List Key} {k : Key} (h : k ∈ names) (ho : okK k) : Fits n names (.var k) := ⟨by cases n <;> trivial, fun j hj => by
  rw [← Ty.has_var.mp hj]
  exact h, .v ho⟩
theorem Fits.node {n : Nat} {names : List Key} {h : Hd} {ts : List Ty} (hl : ts.length ≤ 3) (ho : PyData.strOk h.nm = true) (ht : ∀ t ∈ ts, Fits n names t) : Fits (n + 1) names (.node h ts) := ⟨⟨hl, fun t h => (ht t h).1⟩, fun k hk => by
  obtain ⟨t, h1, h2⟩ := Ty.has_node.mp hk
  exact (ht t h1).2.1 k h2, .n ho fun t h => (ht t h).2.2⟩
def spMono (K : PySem.W.Frag) (f : Nat) : Sp := fun vs H Q _ => ∃ (d nl : Addr) (n : Nat) (names : List Key), vs = [.ref d, .int (n : Int), .ref nl] ∧ n < f ∧ DSt K H d ∧ H nl = some (.lst (names.map kV)) ∧ names.length ≤ 1000 ∧ (∀ k ∈ names, okK k) ∧
  ∀ (v : V) (H' : Hp) (t : Ty), But d H H' → DSt K H' d → TyAt H' v t → Fits n names t → Q v H'
section
variable {K : PySem.W.Frag} {σ : L2.St} {H : Hp} {ta tb : TE} {d : Addr} {E : XK}
theorem leafC {s : Str} {Q : VK} (q : ∀ p H', Ex H H' → TyAt H' (.ref p) (.node (.con s) []) → Q (.ref p) H') : tTup (tCons (tC (.str "con")) (tCons (tC (.str s)) (tCons (tTup tNil) tNil))) σ H Q :=
  ⟨Nat.zero_le _, fun c hc => ⟨by show 3 ≤ sizeLine; decide, fun p hp => q p _ ((Ex.new hc).trans (Ex.new hp)) (.con upd_same (Ex.new hp _ _ upd_same) .nil)⟩⟩
theorem leafT {Q : VK} (q : ∀ p H', Ex H H' → TyAt H' (.ref p) (.node .tup []) → Q (.ref p) H') : tTup (tCons (tC (.str "tuple")) (tCons (tTup tNil) tNil)) σ H Q :=
  ⟨Nat.zero_le _, fun c hc => ⟨by show 2 ≤ sizeLine; decide, fun p hp => q p _ ((Ex.new hc).trans (Ex.new hp)) (.tup upd_same (Ex.new hp _ _ upd_same) .nil)⟩⟩
theorem valH_leafC (s : Str) : ValH (tTup (tCons (tC (.str "con")) (tCons (tC (.str s)) (tCons (tTup tNil) tNil)))) σ H (fun v H' => ∃ p, v = .ref p ∧ Ex H H' ∧ TyAt H' (.ref p) (.node (.con s) [])) := fun Q q => leafC fun p H' e t => q _ _ ⟨p, rfl, e, t⟩
theorem valH_leafT : ValH (tTup (tCons (tC (.str "tuple")) (tCons (tTup tNil) tNil))) σ H (fun v H' => ∃ p, v = .ref p ∧ Ex H H' ∧ TyAt H' (.ref p) (.node .tup [])) := fun Q q => leafT fun p H' e t => q _ _ ⟨p, rfl, e, t⟩
theorem tcons_step {te : TE} {tr : TA} {PV : V → Hp → Prop} {Q : List V → Hp → Prop} (h : ValH te σ H PV) (k : ∀ x H1, PV x H1 → tr σ H1 fun xs H2 => Q (x :: xs) H2) : tCons te tr σ H Q := h _ k
theorem tlst_step {t : TA} {Q : VK} (h : t σ H fun xs H1 => xs.length ≤ sizeLine ∧ ∀ p, H1 p = none → Q (.ref p) (upd H1 p (.lst xs))) : tLst t σ H Q := h
theorem top_step {r : R2} {Q : VK} (h : ta σ H fun x H1 => tb σ H1 fun y H2 => r x y H2 Q) : tOp r ta tb σ H Q := h
/-- one of four leaves -/
theorem valH_leaf {s1 s2 s3 : Str} (hd : ∀ H, Val ta σ H (.ref d)) (hn : ∀ H, Val tb σ H (.int 4)) (SD : DSt K H d) (o1 : PyData.strOk s1 = true) (o2 : PyData.strOk s2 = true) (o3 : PyData.strOk s3 = true) :
    ValH (tOp (rIxL K) (tLst (tCons (tTup (tCons (tC (.str "con")) (tCons (tC (.str s1)) (tCons (tTup tNil) tNil)))) (tCons (tTup (tCons (tC (.str "con")) (tCons (tC (.str s2)) (tCons (tTup tNil) tNil)))) (tCons (tTup (tCons (tC (.str "con")) (tCons (tC (.str s3)) (tCons (tTup tNil) tNil)))) (tCons (tTup (tCons (tC (.str "tuple")) (tCons (tTup tNil) tNil))) tNil)))))
      (tCall (spTake K) [] E (tCons ta (tCons tb tNil)))) σ H (fun v H' => But d H H' ∧ DSt K H' d ∧ ∃ h, TyAt H' v (.node h []) ∧ PyData.strOk h.nm = true) := fun Q q => by
  refine top_step (tlst_step (tcons_step (valH_leafC s1) ?_))
  rintro _ H1 ⟨p1, rfl, e1, t1⟩
  refine tcons_step (valH_leafC s2) ?_
  rintro _ H2 ⟨p2, rfl, e2, t2⟩
  refine tcons_step (valH_leafC s3) ?_
  rintro _ H3 ⟨p3, rfl, e3, t3⟩
  refine tcons_step valH_leafT ?_
  rintro _ H4 ⟨p4, rfl, e4, t4⟩
  refine ⟨by show 4 ≤ sizeLine; decide, fun L hL => ?_⟩
  have e14 : Ex H (upd H4 L (.lst [.ref p1, .ref p2, .ref p3, .ref p4])) := (((e1.trans e2).trans e3).trans e4).trans (Ex.new hL)
  have S4 := SD.ex e14
  refine valH_take (hd _) (hn _) S4 (by decide) (by decide) _ ?_
  rintro _ H5 ⟨i, rfl, i0, i1, b, S5⟩
  have k5 := b.tk S4
  have kL := Tk.of (Ex.new (o := .lst [.ref p1, .ref p2, .ref p3, .ref p4]) hL)
  have nL : L ≠ d := fun e => by
    have := (SD.ex (((e1.trans e2).trans e3).trans e4)).there
    rw [← e] at this
    exact this hL
  have hL5 := b _ _ nL upd_same
  have t1 := (((t1.mono (Tk.of e2)).mono (Tk.of e3)).mono (Tk.of e4)).mono (kL.trans k5)
  have t2 := ((t2.mono (Tk.of e3)).mono (Tk.of e4)).mono (kL.trans k5)
  have t3 := (t3.mono (Tk.of e4)).mono (kL.trans k5)
  have t4 := t4.mono (kL.trans k5)
  have fin : ∀ v : V, atI [V.ref p1, .ref p2, .ref p3, .ref p4] i = some v → (∃ h, TyAt H5 v (.node h []) ∧ PyData.strOk h.nm = true) → rIxL K (.ref L) (.int i) H5 Q := fun v hv ht => ⟨L, _, i, v, rfl, rfl, SqL.of hL5, hv, q _ _ ⟨(But.of e14).trans b, S5, ht⟩⟩
  have hi : i = 0 ∨ i = 1 ∨ i = 2 ∨ i = 3 := by omega
  rcases hi with rfl | rfl | rfl | rfl
  · exact fin _ rfl ⟨_, t1, o1⟩
  · exact fin _ rfl ⟨_, t2, o2⟩
  · exact fin _ rfl ⟨_, t3, o3⟩
  · exact fin _ rfl ⟨_, t4, (by decide +kernel)⟩
end
section
variable {K : PySem.W.Frag} {σ : L2.St} {H : Hp} {tn te : TE} {d : Addr} {i : Nat} {PN : V → Hp → Prop} {Fit : Ty → Prop}
/-- [.. for k in range(n)], each element a tree that is drawn -/
theorem lc_draw (lo hi : Nat) (hn : ValH tn σ H PN) (hv : ∀ v H1, PN v H1 → ∃ n : Nat, v = .int (n : Int) ∧ lo ≤ n ∧ n ≤ hi ∧ But d H H1 ∧ DSt K H1 d) (hh : hi ≤ 1000)
    (step : ∀ (j : Int) (H' : Hp), But d H H' → DSt K H' d → ∀ Q : VK, (∀ y H2 t, But d H' H2 → DSt K H2 d → TyAt H2 y t → Fit t → Q y H2) → te ((wipe σ [i]).set i (some (.int j))) H' Q) :
    ValH (tLc (iRng1 (tCons tn tNil)) (gName i) tYes te [i]) σ H (fun v H' => ∃ D ys ts, v = .ref D ∧ But d H H' ∧ DSt K H' d ∧ H' D = some (.lst ys) ∧ TsAt H' ys ts ∧ lo ≤ ts.length ∧ ts.length ≤ hi ∧ ∀ t ∈ ts, Fit t) := fun Q q =>
  hn _ fun v H1 pn => by
    obtain ⟨n, rfl, h1, h2, b1, S1⟩ := hv v H1 pn
    refine ⟨(n : Int), rfl, by omega, by omega, fun D hD => ?_⟩
    have nD : D ≠ d := fun e => S1.there (e ▸ hD)
    refine lc_range (lo := 0) (n := ((n : Int)).toNat) (fun j H' => But d H1 H' ∧ DSt K H' d ∧ ∃ ys ts, H' D = some (.lst ys) ∧ TsAt H' ys ts ∧ ts.length = j ∧ ∀ t ∈ ts, Fit t) ⟨But.of (Ex.new hD), S1.ex (Ex.new hD), [], [], upd_same, .nil, rfl, fun t ht => by cases ht⟩ ?_ ?_
    · rintro j H' hj ⟨b, S', ys, ts, hy, hts, hl, hf⟩
      refine ⟨wipe_set, ?_⟩
      refine step _ H' (b1.trans b) S' _ fun y H4 t b4 S4 ht ft => ⟨ys, b4 _ _ nD hy, ?_, (b.trans b4).mut hD S1.there, DSt.mut S1 (b.trans b4) S4 hD, _, ts ++ [t], upd_same, ?_, ?_, ?_⟩
      · rw [paired_length hts, hl]
        exact Nat.lt_of_le_of_lt (show j ≤ 1000 by omega) (by decide)
      · have k := tk_lst (b4 _ _ nD hy) (.lst (ys ++ [y]))
        exact paired_append (TsAt.mono ((b4.tk S').trans k) hts) (.cons (ht.mono k) .nil)
      · rw [List.length_append, hl]
        rfl
      · intro u hu
        rcases List.mem_append.mp hu with z | z
        · exact hf u z
        · rw [List.mem_singleton.mp z]
          exact ft
    · rintro H' ⟨b, S', ys, ts, hy, hts, hl, hf⟩
      exact q _ _ ⟨D, ys, ts, rfl, b1.trans b, S', hy, hts, by omega, by omega, hf⟩
theorem take_neH {td tm : TE} {n z : Int} {E : XK} (hd : Val td σ H (.ref d)) (hn : Val tm σ H (.int n)) (SD : DSt K H d) (h0 : 0 < n) (h1 : n < 4611686018427387904) (Q : Bool → Hp → Prop) (q : ∀ b H', But d H H' → DSt K H' d → Q b H') : tTest (tOp rNe (tCall (spTake K) [] E (tCons td (tCons tm tNil))) (tC (.int z))) σ H Q :=
  valH_take hd hn SD h0 h1 _ fun v H' ⟨i, e, _, _, b, S1⟩ => by
    subst e
    exact ⟨rfl, _, rfl, q _ _ b S1⟩
end
section
variable {P : Program} {w : World} {K : PySem.W.Frag} {mg : Str → Option Value} {base : Heap}
theorem c3 {σ : L2.St} {H : Hp} {ta tb tc : TE} {sp : Sp} {E : XK} {x y z : V} {Q : VK} (ha : Val ta σ H x) (hb : Val tb σ H y) (hc : Val tc σ H z) (h : sp [x, y, z] H Q E) : tCall sp [] E (tCons ta (tCons tb (tCons tc tNil))) σ H Q := ha _ (hb _ (hc _ h))
theorem andA {σ : L2.St} {H : Hp} {t u : TT} {Q : Bool → Hp → Prop} {b : Bool} (h : Ans t σ H b) (h1 : b = true → u σ H Q) (h0 : b = false → Q false H) : tAnd t u σ H Q := h _ (by
  cases b with
  | true => exact h1 rfl
  | false => exact h0 rfl)
theorem kv_mem {names : List Key} {v : V} (h : v ∈ names.map kV) : ∃ k ∈ names, v = kV k := by
  obtain ⟨k, h1, h2⟩ := List.mem_map.mp h
  exact ⟨k, h1, h2.symm⟩
end
theorem nodup_le {α : Type} [DecidableEq α] : ∀ {l m : List α}, l.Nodup → (∀ a ∈ l, a ∈ m) → l.length ≤ m.length
  | [], _, _, _ => Nat.zero_le _
  | a :: l, m, nd, h => by
    have nd := List.nodup_cons.mp nd
    have ha := h a (List.mem_cons_self ..)
    have ih := nodup_le (m := m.erase a) nd.2 fun b hb => (List.mem_erase_of_ne (fun e : b = a => nd.1 (by rw [← e]; exact hb))).mpr (h b (List.mem_cons_of_mem _ hb))
    rw [List.length_erase_of_mem ha] at ih
    have := List.length_pos_of_mem ha
    rw [List.length_cons]
    omega
/-! ### _law_ty(d, depth) -/
abbrev s_lty : Stmt := top 24
theorem sc_lty : FnScope ["d", "depth", "kind", "left", "parts", "many", "k"] ["d", "depth"] (defScope s_lty) := ⟨rfl, rfl, rfl, by decide +kernel, rfl, by decide +kernel, by decide +kernel⟩
def Ty.wide : Nat → Ty → Prop
  | _, .var _ => True
  | 0, .node _ ps => ps = []
  | n + 1, .node _ ps => ps.length ≤ 6 ∧ ∀ t ∈ ps, t.wide n
theorem Ty.wide_dpt : ∀ (n : Nat) (t : Ty), t.wide n → t.dpt ≤ n + 1
  | n, .var k, _ => by rw [dpt_var]; omega
  | 0, .node h ps, e => by
    have e : ps = [] := e
    subst e
    rw [dpt_node]
    exact Nat.le_refl _
  | n + 1, .node h ps, e => by
    have h1 : maxl (ps.map fun t => t.dpt) ≤ n + 1 := maxl_le fun a ha => by
      obtain ⟨t, ht, rfl⟩ := List.mem_map.mp ha
      exact Ty.wide_dpt n t (e.2 t ht)
    rw [dpt_node]
    omega
def wcap : Nat → Nat
  | 0 => 1
  | n + 1 => 1 + 6 * wcap n
theorem Ty.wide_sz : ∀ (n : Nat) (t : Ty), t.wide n → t.sz ≤ wcap n
  | n, .var k, _ => by
    rw [Ty.sz_var]
    cases n with
    | zero => exact Nat.le_refl _
    | succ n => show 1 ≤ 1 + 6 * wcap n; omega
  | 0, .node h ps, e => by
    have e : ps = [] := e
    subst e
    rw [Ty.sz_node]
    exact Nat.le_refl _
  | n + 1, .node h ps, e => by
    have key : ∀ (l : List Ty), (∀ t ∈ l, t.sz ≤ wcap n) → (l.map fun t => t.sz).sum ≤ l.length * wcap n := by
      intro l
      induction l with
      | nil => exact fun _ => Nat.zero_le _
      | cons a r ih =>
        intro hh
        have h1 := ih fun t ht => hh t (List.mem_cons_of_mem _ ht)
        have h2 := hh a (List.mem_cons_self ..)
        rw [List.map_cons, List.sum_cons, List.length_cons, Nat.succ_mul]
        omega
    have h1 := key ps fun t ht => Ty.wide_sz n t (e.2 t ht)
    have h2 : ps.length * wcap n ≤ 6 * wcap n := Nat.mul_le_mul_right _ e.1
    rw [Ty.sz_node]
    show _ ≤ 1 + 6 * wcap n
    omega
def Fits15 (n : Nat) (t : Ty) : Prop := t.wide n ∧ (∀ k, Ty.has k t → k ∈ lets 26) ∧ Ty.ok t
theorem Fits15.leaf {n : Nat} {h : Hd} (ho : PyData.strOk h.nm = true) : Fits15 n (.node h []) := by
  refine ⟨?_, fun k hk => ?_, .n ho fun t ht => by cases ht⟩
  · cases n with
    | zero => exact rfl
    | succ n => exact ⟨Nat.zero_le _, fun t ht => by cases ht⟩
  · obtain ⟨t, ht, _⟩ := Ty.has_node.mp hk
    cases ht
theorem Fits15.var {n : Nat} {k : Key} (h : k ∈ lets 26) (ho : okK k) : Fits15 n (.var k) := ⟨by cases n <;> trivial, fun j hj => by
  rw [← Ty.has_var.mp hj]
  exact h, .v ho⟩
theorem Fits15.node {n : Nat} {h : Hd} {ts : List Ty} (hl : ts.length ≤ 6) (ho : PyData.strOk h.nm = true) (ht : ∀ t ∈ ts, Fits15 n t) : Fits15 (n + 1) (.node h ts) := ⟨⟨hl, fun t h => (ht t h).1⟩, fun k hk => by
  obtain ⟨t, h1, h2⟩ := Ty.has_node.mp hk
  exact (ht t h1).2.1 k h2, .n ho fun t h => (ht t h).2.2⟩
instance (k : Key) : Decidable (okK k) := by
  cases k with
  | inl i => exact isTrue trivial
  | inr s => exact inferInstanceAs (Decidable (PyData.strOk s = true))
theorem lets_ok : ∀ k ∈ lets 26, okK k := by decide +kernel
theorem low_key {c : Nat} (h : c ∈ lLOWER) : (Sum.inr (S [c]) : Key) ∈ lets 26 := by
  unfold lets
  rw [List.take_of_length_le (by decide +kernel)]
  exact List.mem_map.mpr ⟨c, h, rfl⟩
def spTy15 (K : PySem.W.Frag) (f : Nat) : Sp := fun vs H Q _ => ∃ (d : Addr) (n : Nat), vs = [.ref d, .int (n : Int)] ∧ n < f ∧ DSt K H d ∧ ∀ (v : V) (H' : Hp) (t : Ty), But d H H' → DSt K H' d → TyAt H' v t → Fits15 n t → Q v H'
section
variable {K : PySem.W.Frag} {σ : L2.St} {H : Hp} {td tm te tv : TE} {d : Addr} {E : XK}
theorem take_eqH {n z : Int} (hd : Val td σ H (.ref d)) (hn : Val tm σ H (.int n)) (SD : DSt K H d) (h0 : 0 < n) (h1 : n < 4611686018427387904) (Q : Bool → Hp → Prop) (q : ∀ b H', But d H H' → DSt K H' d → Q b H') : tTest (tOp rEq (tCall (spTake K) [] E (tCons td (tCons tm tNil))) (tC (.int z))) σ H Q :=
  valH_take hd hn SD h0 h1 _ fun v H' ⟨i, e, _, _, b, S1⟩ => by
    subst e
    exact ⟨rfl, _, rfl, q _ _ b S1⟩
theorem d_appH {PV : V → Hp → Prop} {l : Addr} {xs : List V} {F B C : L2.St → Hp → Prop} {R : VK} (ho : Val te σ H (.ref l)) (hl : H l = some (.lst xs)) (ha : ValH tv σ H PV) (k : ∀ y H2, PV y H2 → ∃ xs', H2 l = some (.lst xs') ∧ xs'.length < sizeLine ∧ F σ (upd H2 l (.lst (xs' ++ [y])))) :
    tDrop (tBM K "list" rAppend te (tCons tv tNil)) ⟨F, R, B, C⟩ σ H := ho _ ⟨.inl ⟨rfl, _, SqL.of hl⟩, ha _ fun y H2 p => by
      obtain ⟨xs', h1, h2, h3⟩ := k y H2 p
      exact ⟨l, xs', y, rfl, rfl, h1, h2, h3⟩⟩
theorem valH_tup0 : ValH (tTup tNil) σ H (fun v H' => ∃ c, v = .ref c ∧ Ex H H' ∧ H' c = some (.tup [])) := fun Q q => ⟨Nat.zero_le _, fun c hc => q _ _ ⟨c, rfl, Ex.new hc, upd_same⟩⟩
end
section
variable {P : Program} {w : World} {K : PySem.W.Frag} {mg : Str → Option Value} {base : Heap}
theorem can_lty (D : At K mg "_law_ty" s_lty ["d", "depth"]) (T : Bt mg) (C__law_take : Can P w K mg base CX0 2 "_law_take" ["d", "many"] (spTake K)) : ∀ f, Can P w K mg base CX0 (f + 3) "_law_ty" ["d", "depth"] (spTy15 K f) := by
  have sc := sc_lty
  intro f
  induction f with
  | zero => exact D.can sc (fun vs H Q E ⟨_, _, _, h, _⟩ => absurd h (Nat.not_lt_zero _)) (fun f cdv A outer s H vs Q E hr ⟨_, _, _, h, _⟩ => absurd h (Nat.not_lt_zero _))
  | succ f C__law_ty =>
    refine D.can sc (fun vs H Q E h => ?_) (fun fa cdv A outer s H vs Q E hr h => ?_)
    · obtain ⟨d, n, rfl, _⟩ := h
      rfl
    · obtain ⟨d, n, rfl, hnf, SD, q⟩ := h
      refine ⟨_, (pss_cons (ps_set (i := 2) sc.nd rfl (.inl rfl) (pe_can C__law_take (hr.mono (by omega)) rfl pass0 (pa_cons (pv 0) (pa_cons pe_int pa_nil))))
    (pss_cons (ps_if (PW.pt (pw_or (pt_cmpR op_lt (pv 1) pe_int (nomark _)) (pw_or1 (pt_cmpR op_lt (pv 2) pe_int (nomark _))))) (pss_cons (ps_if (pt_cmpR op_eq (pe_can C__law_take (hr.mono (by omega)) rfl pass0 (pa_cons (pv 0) (pa_cons pe_int pa_nil))) pe_int (nomark _)) (pss_one (ps_ret (pe_tup (pa_cons pe_str (pa_cons (pe_ix ix_str pe_str (pe_can C__law_take (hr.mono (by omega)) rfl pass0 (pa_cons (pv 0) (pa_cons pe_int pa_nil))) (fun _ _ => rfl)) pa_nil))))) pss_nil)
    (pss_one (ps_ret (pe_tup (pa_cons pe_str (pa_cons (pe_ix ix_list (pe_lst (pa_cons pe_str (pa_cons pe_str (pa_cons pe_str (pa_cons pe_str pa_nil))))) (pe_can C__law_take (hr.mono (by omega)) rfl pass0 (pa_cons (pv 0) (pa_cons pe_int pa_nil))) (fun _ _ => rfl)) (pa_cons (pe_tup pa_nil) pa_nil))))))) pss_nil)
    (pss_cons (ps_if (pt_cmpR op_lt (pv 2) pe_int (nomark _)) (pss_cons (ps_set (i := 3) sc.nd rfl (.inl rfl) (pe_can C__law_ty (hr.mono (by omega)) rfl pass0 (pa_cons (pv 0) (pa_cons (pe_op op_sub (pv 1) pe_int) pa_nil))))
    (pss_one (ps_ret (pe_tup (pa_cons pe_str (pa_cons (pv 3) (pa_cons (pe_can C__law_ty (hr.mono (by omega)) rfl pass0 (pa_cons (pv 0) (pa_cons (pe_op op_sub (pv 1) pe_int) pa_nil))) pa_nil))))))) pss_nil)
    (pss_cons (ps_if (pt_cmpR op_lt (pv 2) pe_int (nomark _)) (pss_one (ps_ret (pe_tup (pa_cons pe_str (pa_cons (pe_ix ix_list (pe_lst (pa_cons pe_str (pa_cons pe_str pa_nil))) (pe_can C__law_take (hr.mono (by omega)) rfl pass0 (pa_cons (pv 0) (pa_cons pe_int pa_nil))) (fun _ _ => rfl)) (pa_cons (pe_tup (pa_cons (pe_can C__law_ty (hr.mono (by omega)) rfl pass0 (pa_cons (pv 0) (pa_cons (pe_op op_sub (pv 1) pe_int) pa_nil))) pa_nil)) pa_nil)))))) pss_nil)
    (pss_cons (ps_set (i := 4) sc.nd rfl (.inl rfl) (pe_lst pa_nil))
    (pss_cons (ps_set (i := 5) sc.nd rfl (.inl rfl) (pe_ix ix_list (pe_lst (pa_cons pe_int (pa_cons pe_int (pa_cons pe_int (pa_cons pe_int pa_nil))))) (pe_can C__law_take (hr.mono (by omega)) rfl pass0 (pa_cons (pv 0) (pa_cons pe_int pa_nil))) (fun _ _ => rfl)))
    (pss_cons (ps_for PassesOwn.never rfl (pi_range1 rfl T.n_range (pa_cons (pv 5) pa_nil)) (pg_name (i := 6) sc.nd rfl (.inl rfl)) (pss_one (ps_expr (pe_bm PySem.F.plainAttrs_list PySem.F.slot_list_append PySem.F.type_list_append mt_append (pv 4) (pa_cons (pe_can C__law_ty (hr.mono (by omega)) rfl pass0 (pa_cons (pv 0) (pa_cons (pe_op op_sub (pv 1) pe_int) pa_nil))) pa_nil)))))
    (pss_one (ps_ret (pe_tup (pa_cons pe_str (pa_cons (pe_callTy call_tuple_of (by rfl) T.n_tuple (by decide +kernel) (pa_cons (pv 4) pa_nil)) pa_nil)))))))))))), ?_⟩
      refine n_setH (valH_take (val_var rfl) val_c SD (by decide) (by decide)) ?_
      rintro _ H1 ⟨kd, rfl, k0, k5, b1, S1⟩
      show tSeq _ _ _ [some (.ref d), some (.int (n : Int)), some (.int kd), none, none, none, none] H1
      refine n_when (ans_or2 (ans_t (val_I0 (val_var rfl) val_c)) fun _ => ans_t (val_I0 (val_var rfl) val_c)) (fun hb => ?_) (fun hb => ?_)
      · refine n_whenH (b := true) (PH := fun b H' => But d H1 H' ∧ DSt K H' d) (fun Q1 q1 => take_eqH (val_var rfl) val_c S1 (by decide) (by decide) _ fun b H' b2 S2 => q1 _ _ ⟨b2, S2⟩) ?_ ?_
        · rintro H2 ⟨b2, S2⟩
          refine ret_pair val_c (valH_pickS (l := lLOWER) (n := 26) (d := d) val_c (val_var rfl) val_c S2 (by decide +kernel) (by decide) (by decide) (by decide +kernel)) ?_
          rintro v H3 ⟨c, hc, rfl, b3, S3⟩ p hp
          exact q _ _ (.var (.inr (S [c]))) (((b1.trans b2).trans b3).trans (But.of (Ex.new hp))) (S3.ex (Ex.new hp)) (.var upd_same) (Fits15.var (low_key hc) (lets_ok _ (low_key hc)))
        · rintro H2 ⟨b2, S2⟩
          refine ret_triple (PA := fun x H' => But d H2 H' ∧ DSt K H' d ∧ ∃ z : Str, x = .str z ∧ PyData.strOk z = true) (PB := fun x H1 y H' => ∃ c, y = .ref c ∧ Ex H1 H' ∧ H' c = some (.tup [])) val_c ?_ (fun _ _ _ => valH_tup0) ?_
          · refine vimp (valH_pickL (vs := [.str "int", .str "string", .str "exn", .str "bool"]) (d := d) (n := 4) (va_c (va_c (va_c (va_c va_nil)))) (fun _ => val_var rfl) (fun _ => val_c) S2 rfl (by decide) (by decide)) ?_
            rintro v H' ⟨hv, b, S3⟩
            refine ⟨b, S3, ?_⟩
            rcases List.mem_cons.mp hv with rfl | hv
            · exact ⟨_, rfl, by decide +kernel⟩
            rcases List.mem_cons.mp hv with rfl | hv
            · exact ⟨_, rfl, by decide +kernel⟩
            rcases List.mem_cons.mp hv with rfl | hv
            · exact ⟨_, rfl, by decide +kernel⟩
            · exact ⟨_, List.mem_singleton.mp hv, by decide +kernel⟩
          · rintro _ H3 _ H4 ⟨b3, S3, z, rfl, hz⟩ ⟨c, rfl, e4, hc⟩ p hp
            exact q _ _ (.node (.con z) []) ((((b1.trans b2).trans b3).trans (But.of e4)).trans (But.of (Ex.new hp))) ((S3.ex e4).ex (Ex.new hp)) (.con upd_same (Ex.new hp _ _ hc) .nil) (Fits15.leaf hz)
      · have hn1 : ¬ ((n : Int) < 1) := fun z => by
          rw [decide_eq_true z] at hb
          cases hb
        obtain ⟨n, rfl⟩ : ∃ m, n = m + 1 := ⟨n - 1, by omega⟩
        have call : ∀ {σ : L2.St} {H2 : Hp}, σ[0]? = some (some (.ref d)) → σ[1]? = some (some (.int ((n + 1 : Nat) : Int))) → DSt K H2 d → ValH (tCall (spTy15 K f) [] E0 (tCons (tVar 0) (tCons (tOp (rI0 fun i j => .int (i - j)) (tVar 1) (tC (.int 1))) tNil))) σ H2 (fun v H' => ∃ t, But d H2 H' ∧ DSt K H' d ∧ TyAt H' v t ∧ Fits15 n t) := fun {σ H2} h0 h1 S2 Q1 q1 =>
          c2 (x := .ref d) (y := .int (n : Int)) (val_var h0) (Val.is (val_I0 (val_var h1) val_c) (by rw [show ((n + 1 : Nat) : Int) - 1 = (n : Int) by omega])) ⟨d, n, rfl, by omega, S2, fun v H' t b s ht ft => q1 _ _ ⟨t, b, s, ht, ft⟩⟩
        have fin : ∀ (h : Hd) (tu : List Ty) (H2 H3 : Hp) (p : Addr) (o : HO), But d H1 H3 → DSt K H3 d → H3 p = none → TyAt (upd H3 p o) (.ref p) (.node h tu) → tu.length ≤ 6 → PyData.strOk h.nm = true → (∀ t ∈ tu, Fits15 n t) → Q (.ref p) (upd H3 p o) := fun h tu H2 H3 p o b S3 hp ht hl ho hm =>
          q _ _ _ ((b1.trans b).trans (But.of (Ex.new hp))) (S3.ex (Ex.new hp)) ht (Fits15.node hl ho hm)
        -- a function
        refine n_when (ans_t (val_I0 (val_var rfl) val_c)) (fun _ => ?_) (fun _ => ?_)
        · refine n_setH (call rfl rfl S1) ?_
          rintro va H2 ⟨a, b2, S2, ha, fa⟩
          refine ret_triple (PA := fun x H' => x = va ∧ H' = H2) (PB := fun x H3 y H' => ∃ t, But d H2 H' ∧ DSt K H' d ∧ TyAt H' y t ∧ Fits15 n t) val_c (vh (val_var rfl)) ?_ ?_
          · rintro x H3 ⟨_, rfl⟩
            exact call rfl rfl S2
          · rintro x _ vb H3 ⟨rfl, rfl⟩ ⟨b, b3, S3, hb, fb⟩ p hp
            have k := Tk.of (Ex.new (o := .tup [.str "fun", x, vb]) hp)
            exact fin .fn [a, b] H1 H3 p _ (b2.trans b3) S3 hp (.fn upd_same ((ha.mono (b3.tk S2)).mono k) (hb.mono k)) (by simp) (by decide +kernel) (fun t ht => by
              rcases List.mem_cons.mp ht with rfl | ht
              · exact fa
              · rw [List.mem_singleton.mp ht]
                exact fb)
        -- a list or a reference
        refine n_when (ans_t (val_I0 (val_var rfl) val_c)) (fun _ => ?_) (fun _ => ?_)
        · refine ret_triple (PA := fun x H' => But d H1 H' ∧ DSt K H' d ∧ ∃ z : Str, x = .str z ∧ PyData.strOk z = true) (PB := fun x H2 y H' => ∃ t c u, y = .ref c ∧ But d H2 H' ∧ DSt K H' d ∧ H' c = some (.tup [u]) ∧ TyAt H' u t ∧ Fits15 n t) val_c ?_ ?_ ?_
          · refine vimp (valH_pickL (vs := [.str "list", .str "ref"]) (d := d) (n := 2) (va_c (va_c va_nil)) (fun _ => val_var rfl) (fun _ => val_c) S1 rfl (by decide) (by decide)) ?_
            rintro v H' ⟨hv, b, S3⟩
            refine ⟨b, S3, ?_⟩
            rcases List.mem_cons.mp hv with rfl | hv
            · exact ⟨_, rfl, by decide +kernel⟩
            · exact ⟨_, List.mem_singleton.mp hv, by decide +kernel⟩
          · rintro _ H2 ⟨b2, S2, _⟩ Q1 q1
            refine tcons_step (Q := fun xs H' => xs.length ≤ sizeLine ∧ ∀ p, H' p = none → Q1 (.ref p) (upd H' p (.tup xs))) (call rfl rfl S2) ?_
            rintro u H3 ⟨t, b3, S3, ht, ft⟩
            refine ⟨by show 1 ≤ sizeLine; decide, fun c hc => q1 _ _ ⟨t, c, u, rfl, b3.trans (But.of (Ex.new hc)), S3.ex (Ex.new hc), upd_same, ht.mono (Tk.of (Ex.new hc)), ft⟩⟩
          · rintro _ H2 _ H3 ⟨b2, S2, z, rfl, hz⟩ ⟨t, c, u, rfl, b3, S3, hc, ht, ft⟩ p hp
            have k := Tk.of (Ex.new (o := .tup [.str "con", .str z, .ref c]) hp)
            exact fin (.con z) [t] H1 H3 p _ (b2.trans b3) S3 hp (.con upd_same (Ex.new hp _ _ hc) (.cons (ht.mono k) .nil)) (by simp) hz (fun t' ht' => by
              rw [List.mem_singleton.mp ht']
              exact ft)
        -- a tuple
        refine n_lstV va_nil (Nat.zero_le _) fun L hL => ?_
        have e2 := Ex.new (o := .lst []) hL
        have nL : L ≠ d := fun e => S1.there (e ▸ hL)
        have S2 := S1.ex e2
        have bL : But d H1 (upd H1 L (.lst [])) := But.of e2
        have hL2 : upd H1 L (.lst []) L = some (.lst []) := upd_same
        generalize upd H1 L (.lst []) = H2 at S2 bL hL2
        refine n_setH (PV := fun v H' => ∃ m : Nat, v = .int (m : Int) ∧ m ≤ 6 ∧ But d H2 H' ∧ DSt K H' d) (vimp (valH_pickL (vs := [.int 0, .int 2, .int 3, .int 6]) (d := d) (n := 4) (va_c (va_c (va_c (va_c va_nil)))) (fun _ => val_var rfl) (fun _ => val_c) S2 rfl (by decide) (by decide)) ?_) ?_
        · rintro v H' ⟨hv, b, S3⟩
          rcases List.mem_cons.mp hv with rfl | hv
          · exact ⟨0, rfl, by decide, b, S3⟩
          rcases List.mem_cons.mp hv with rfl | hv
          · exact ⟨2, rfl, by decide, b, S3⟩
          rcases List.mem_cons.mp hv with rfl | hv
          · exact ⟨3, rfl, by decide, b, S3⟩
          · exact ⟨6, List.mem_singleton.mp hv, by decide, b, S3⟩
        rintro _ H3 ⟨m, rfl, hm, b3, S3⟩
        have hL3 := b3 _ _ nL hL2
        refine n_forR (j := 6) (n := (m : Int)) (val_var rfl) (by omega) (by omega) (fun i σ' H' => ∃ (x6 : Option V) (ys : List V) (ts : List Ty), σ' = [some (.ref d), some (.int ((n + 1 : Nat) : Int)), some (.int kd), none, some (.ref L), some (.int (m : Int)), x6] ∧ But d H1 H' ∧ DSt K H' d ∧ H' L = some (.lst ys) ∧ TsAt H' ys ts ∧ ts.length = i ∧ ∀ t ∈ ts, Fits15 n t)
          ⟨none, [], [], rfl, bL.trans b3, S3, hL3, .nil, rfl, fun t ht => by cases ht⟩ ?_ ?_
        · rintro i σ' H4 hi ⟨x6, ys, ts, rfl, b4, S4, hL4, hts, hl, hf⟩
          refine d_appH (l := L) (val_var rfl) hL4 (call rfl rfl S4) ?_
          rintro y H5 ⟨t, b5, S5, ht, ft⟩
          have hL5 := b5 _ _ nL hL4
          have k := tk_lst hL5 (.lst (ys ++ [y]))
          refine ⟨ys, hL5, by rw [paired_length hts, hl]; exact Nat.lt_of_le_of_lt (show i ≤ 6 by omega) (by decide), _, ys ++ [y], ts ++ [t], rfl, ?_, ?_, upd_same, paired_append (TsAt.mono ((b5.tk S4).trans k) hts) (.cons (ht.mono k) .nil), by rw [List.length_append, hl]; rfl, ?_⟩
          · exact (b4.trans b5).mut hL S1.there
          · exact DSt.mut S1 (b4.trans b5) S5 hL
          · intro u hu
            rcases List.mem_append.mp hu with z | z
            · exact hf u z
            · rw [List.mem_singleton.mp z]
              exact ft
        · rintro σ' H4 ⟨x6, ys, ts, rfl, b4, S4, hL4, hts, hl, hf⟩
          refine ret_pair val_c (valH_tupV (val_var rfl) hL4) ?_
          rintro _ _ ⟨c, rfl, hc, rfl⟩ p hp
          have e := (Ex.new (o := .tup ys) hc).trans (Ex.new (o := .tup [.str "tuple", .ref c]) hp)
          exact fin .tup ts H1 _ p _ (b4.trans (But.of (Ex.new hc))) (S4.ex (Ex.new hc)) hp (.tup upd_same (Ex.new hp _ _ upd_same) (TsAt.mono (Tk.of e) hts)) (by rw [hl]; omega) (by decide +kernel) hf
end
/-! ### data -/
open NdefX LamX CLO
/-! ### the law's trees -/
def kD : Key → PyData
  | .inl i => .int i
  | .inr s => .str s
def Ty.data : Ty → PyData
  | .var k => .tuple [.str "var", kD k]
  | .node .fn ps => .tuple (.str "fun" :: ps.map fun t => t.data)
  | .node .tup ps => .tuple [.str "tuple", .tuple (ps.map fun t => t.data)]
  | .node (.con n) ps => .tuple [.str "con", .str n, .tuple (ps.map fun t => t.data)]
theorem kD_dp {K : PySem.W.Frag} {H : Hp} (k : Key) : Dp K H (kV k) (kD k) := by
  cases k with
  | inl i => exact .int i
  | inr s => exact .str s
theorem dpAll_of {K : PySem.W.Frag} {H : Hp} : ∀ {vs : List V} {ts : List Ty}, (∀ t ∈ ts, ∀ v, TyAt H v t → Dp K H v t.data) → TsAt H vs ts → DpAll K H vs (ts.map fun t => t.data)
  | _, _, _, .nil => .nil
  | _, _, h, .cons r t => by
    rw [List.map_cons]
    exact .cons (h _ (List.mem_cons_self ..) _ r) (dpAll_of (fun t ht => h t (List.mem_cons_of_mem _ ht)) t)
theorem TyAt.dp {K : PySem.W.Frag} {H : Hp} : ∀ {t : Ty} {v : V}, TyAt H v t → Dp K H v t.data := by
  intro t
  induction t using Ty.ind with
  | hv k =>
    intro v h
    cases h with
    | var h =>
      rw [Ty.data]
      exact .tup (SqT.of h) (.cons (.str _) (.cons (kD_dp k) .nil))
  | hn h ps ih =>
    intro v hh
    cases hh with
    | fn h a b =>
      rw [Ty.data]
      exact .tup (SqT.of h) (.cons (.str _) (.cons (ih _ (by simp) a) (.cons (ih _ (by simp) b) .nil)))
    | tup h1 h2 r =>
      rw [Ty.data]
      exact .tup (SqT.of h1) (.cons (.str _) (.cons (.tup (SqT.of h2) (dpAll_of (fun t ht v h => ih t ht h) r)) .nil))
    | con h1 h2 r =>
      rw [Ty.data]
      exact .tup (SqT.of h1) (.cons (.str _) (.cons (.str _) (.cons (.tup (SqT.of h2) (dpAll_of (fun t ht v h => ih t ht h) r)) .nil)))
theorem kD_lay {k : Key} (h : okK k) : (kD k).canLay0 = true := by
  cases k with
  | inl i => rfl
  | inr s => exact h
theorem layAll_of : ∀ {ts : List Ty}, (∀ t ∈ ts, t.data.canLay0 = true) → PyData.canLayAll0 (ts.map fun t => t.data) = true
  | [], _ => rfl
  | t :: ts, h => by
    rw [List.map_cons, PyData.canLayAll0, h t (List.mem_cons_self ..), layAll_of fun t ht => h t (List.mem_cons_of_mem _ ht)]
    rfl
theorem Ty.lay : ∀ {t : Ty}, Ty.ok t → t.data.canLay0 = true := by
  intro t
  induction t using Ty.ind with
  | hv k =>
    intro o
    cases o with
    | v o =>
      rw [Ty.data]
      simp [PyData.canLay0, PyData.canLayAll0, kD_lay o]
      decide +kernel
  | hn h ps ih =>
    intro o
    cases o with
    | n o1 o2 =>
      have hp := layAll_of fun t ht => ih t ht (o2 t ht)
      cases h with
      | fn =>
        rw [Ty.data]
        simp [PyData.canLay0, PyData.canLayAll0, hp]
        decide +kernel
      | tup =>
        rw [Ty.data]
        simp [PyData.canLay0, PyData.canLayAll0, hp]
        decide +kernel
      | con n =>
        rw [Ty.data]
        have o1 : PyData.strOk n = true := o1
        simp [PyData.canLay0, PyData.canLayAll0, hp, o1]
        decide +kernel
theorem depthAll_le {c : Nat} : ∀ {ds : List PyData}, (∀ d ∈ ds, d.depth ≤ c) → PyData.depthAll ds ≤ c
  | [], _ => Nat.zero_le _
  | d :: ds, h => by
    rw [PyData.depthAll]
    exact Nat.max_le.mpr ⟨h d (List.mem_cons_self ..), depthAll_le fun d hd => h d (List.mem_cons_of_mem _ hd)⟩
theorem kD_depth (k : Key) : (kD k).depth = 0 := by
  cases k <;> simp [kD, PyData.depth]
theorem Ty.data_depth : ∀ (n : Nat) (t : Ty), t.dep n → t.data.depth ≤ 2 * n + 2
  | n, .var k, _ => by
    rw [Ty.data]
    simp [PyData.depth, PyData.depthAll, kD_depth]
  | 0, .node h ps, z => by
    have z : ps = [] := z
    subst z
    cases h <;> rw [Ty.data] <;> simp [PyData.depth, PyData.depthAll]
  | n + 1, .node h ps, z => by
    have hp : PyData.depthAll (ps.map fun t => t.data) ≤ 2 * n + 2 := depthAll_le fun d hd => by
      obtain ⟨t, ht, rfl⟩ := List.mem_map.mp hd
      exact Ty.data_depth n t (z t ht)
    cases h <;> rw [Ty.data] <;> simp [PyData.depth, PyData.depthAll] <;> omega
/-! ### letters in the place of names, one behind the other -/
theorem pickT_mem : ∀ {F A : List Key} {k : Key}, k ∈ F → F.length = A.length → ∃ a ∈ A, pickT F (A.map Ty.var) k = .var a
  | [], _, k, h, _ => by cases h
  | _ :: _, [], _, _, h => by cases h
  | f :: F, a :: A, k, h, hl => by
    show ∃ b ∈ a :: A, (if f = k then Ty.var a else pickT F (A.map Ty.var) k) = .var b
    by_cases e : f = k
    · rw [if_pos e]
      exact ⟨a, List.mem_cons_self .., rfl⟩
    · rw [if_neg e]
      have hk : k ∈ F := by
        rcases List.mem_cons.mp h with z | z
        · exact absurd z.symm e
        · exact z
      obtain ⟨b, h1, h2⟩ := pickT_mem (A := A) hk (by simpa using hl)
      exact ⟨b, List.mem_cons_of_mem _ h1, h2⟩
theorem pick_comp : ∀ {F A : List Key} {B : List Ty} {k : Key}, A.Nodup → F.length = A.length → B.length = A.length → k ∈ F → (pickT F (A.map Ty.var) k).bind (pickT A B) = pickT F B k
  | [], _, _, k, _, _, _, h => by cases h
  | _ :: _, [], _, _, _, h, _, _ => by cases h
  | _ :: _, _ :: _, [], _, _, _, h, _ => by cases h
  | f :: F, a :: A, b :: B, k, nd, h1, h2, h => by
    show (if f = k then Ty.var a else pickT F (A.map Ty.var) k).bind (pickT (a :: A) (b :: B)) = if f = k then b else pickT F B k
    by_cases e : f = k
    · rw [if_pos e, if_pos e, Ty.bind_var]
      show (if a = a then b else _) = b
      rw [if_pos rfl]
    · rw [if_neg e, if_neg e]
      have hk : k ∈ F := by
        rcases List.mem_cons.mp h with z | z
        · exact absurd z.symm e
        · exact z
      have nd := List.nodup_cons.mp nd
      have ih := pick_comp (B := B) (k := k) nd.2 (by simpa using h1) (by simpa using h2) hk
      obtain ⟨c, hc, ec⟩ := pickT_mem (A := A) hk (by simpa using h1)
      rw [ec, Ty.bind_var] at ih ⊢
      show (if a = c then b else pickT A B c) = _
      rw [if_neg (fun z : a = c => nd.1 (by rw [z]; exact hc))]
      exact ih
/-- the whole trees -/
theorem bind_comp {t : Ty} {F A : List Key} {B : List Ty} (nd : A.Nodup) (h1 : F.length = A.length) (h2 : B.length = A.length) (hF : ∀ k, Ty.has k t → k ∈ F) : (t.bind (pickT F (A.map Ty.var))).bind (pickT A B) = t.bind (pickT F B) := by
  rw [Ty.bind_bind]
  exact Ty.bind_congr t fun k hk => pick_comp nd h1 h2 (hF k hk)
def gk : List Key → List Key → Key → Key
  | f :: F, a :: A, k => if f = k then a else gk F A k
  | _, _, k => k
theorem pickT_gk : ∀ (F A : List Key) (k : Key), pickT F (A.map Ty.var) k = .var (gk F A k)
  | [], A, k => by cases A <;> rfl
  | _ :: _, [], k => rfl
  | f :: F, a :: A, k => by
    show (if f = k then Ty.var a else pickT F (A.map Ty.var) k) = .var (if f = k then a else gk F A k)
    split
    · rfl
    · exact pickT_gk F A k
theorem gk_mem : ∀ {F A : List Key} {k : Key}, k ∈ F → F.length = A.length → gk F A k ∈ A := by
  intro F A k h hl
  obtain ⟨a, ha, e⟩ := pickT_mem h hl
  rw [pickT_gk] at e
  injection e with e
  rw [e]
  exact ha
theorem gk_inj : ∀ {F A : List Key} {j k : Key}, A.Nodup → F.length = A.length → j ∈ F → k ∈ F → gk F A j = gk F A k → j = k
  | [], _, _, _, _, _, h, _, _ => by cases h
  | _ :: _, [], _, _, _, h, _, _, _ => by cases h
  | f :: F, a :: A, j, k, nd, hl, hj, hk, e => by
    have nd := List.nodup_cons.mp nd
    have hl : F.length = A.length := by simpa using hl
    have e : (if f = j then a else gk F A j) = if f = k then a else gk F A k := e
    have mem : ∀ {x}, x ∈ f :: F → ¬ f = x → x ∈ F := fun h n => by
      rcases List.mem_cons.mp h with z | z
      · exact absurd z.symm n
      · exact z
    by_cases e1 : f = j
    · by_cases e2 : f = k
      · rw [← e1, e2]
      · rw [if_pos e1, if_neg e2] at e
        exact absurd (e ▸ gk_mem (mem hk e2) hl) nd.1
    · by_cases e2 : f = k
      · rw [if_neg e1, if_pos e2] at e
        exact absurd (e ▸ gk_mem (mem hj e1) hl) nd.1
      · rw [if_neg e1, if_neg e2] at e
        exact gk_inj nd.2 hl (mem hj e1) (mem hk e2) e
theorem map_gk : ∀ {F A : List Key}, F.Nodup → F.length = A.length → F.map (gk F A) = A
  | [], [], _, _ => rfl
  | [], _ :: _, _, h => by cases h
  | _ :: _, [], _, h => by cases h
  | f :: F, a :: A, nd, hl => by
    have nd := List.nodup_cons.mp nd
    rw [List.map_cons]
    congr 1
    · show (if f = f then a else _) = a
      rw [if_pos rfl]
    · rw [← map_gk nd.2 (show F.length = A.length by simpa using hl)]
      rw [map_gk nd.2 (show F.length = A.length by simpa using hl)]
      conv => rhs; rw [← map_gk nd.2 (show F.length = A.length by simpa using hl)]
      refine List.map_congr_left fun x hx => ?_
      show (if f = x then a else gk F A x) = gk F A x
      rw [if_neg (fun z : f = x => nd.1 (by rw [z]; exact hx))]
/-- closing what was closed by unlike names -/
theorem close_again {t : Ty} {A : List Key} (nd : A.Nodup) (hl : (t.vs []).length = A.length) : (t.bind (pickT (t.vs []) (A.map Ty.var))).vs [] = A ∧ closeT (t.bind (pickT (t.vs []) (A.map Ty.var))) = t.bind (pickT (t.vs []) ((lets A.length).map Ty.var)) ∨ A.length > 26 := by
  by_cases h26 : A.length > 26
  · exact .inr h26
  refine .inl ?_
  have hF : ∀ k, Ty.has k t → k ∈ t.vs [] := fun k hk => (Ty.vs_mem t [] k).mpr (.inr hk)
  have e : t.bind (pickT (t.vs []) (A.map Ty.var)) = t.bind fun k => .var (gk (t.vs []) A k) := Ty.bind_congr t fun k _ => pickT_gk _ _ k
  have hv : (t.bind (pickT (t.vs []) (A.map Ty.var))).vs [] = A := by
    rw [e]
    have := Ty.vs_map (g := gk (t.vs []) A) (fun k => k ∈ t.vs []) (fun a b ha hb => gk_inj nd hl ha hb) t [] hF (fun k hk => by cases hk)
    rw [List.map_nil] at this
    rw [this]
    exact map_gk (Ty.vs_nodup t [] List.nodup_nil) hl
  refine ⟨hv, ?_⟩
  unfold closeT
  rw [hv]
  exact bind_comp nd hl (by rw [List.length_map, lets_len (by omega)]) hF
theorem dpAll_keys {K : PySem.W.Frag} {H : Hp} : ∀ ks : List Key, DpAll K H (ks.map kV) (ks.map kD)
  | [] => .nil
  | k :: ks => by
    rw [List.map_cons, List.map_cons]
    exact .cons (kD_dp k) (dpAll_keys ks)
theorem SchemeAt.dp {K : PySem.W.Frag} {H : Hp} {v : V} {ks : List Key} {t : Ty} (h : SchemeAt H v ks t) : Dp K H v (.tuple [.tuple (ks.map kD), t.data]) := by
  obtain ⟨sa, la, tv, rfl, h1, h2, h3⟩ := h
  exact .tup (SqT.of h1) (.cons (.tup (SqT.of h2) (dpAll_keys ks)) (.cons h3.dp .nil))
theorem layAll_keys : ∀ {ks : List Key}, (∀ k ∈ ks, okK k) → PyData.canLayAll0 (ks.map kD) = true
  | [], _ => rfl
  | k :: ks, h => by
    rw [List.map_cons, PyData.canLayAll0, kD_lay (h k (List.mem_cons_self ..)), layAll_keys fun k hk => h k (List.mem_cons_of_mem _ hk)]
    rfl
theorem shaped_tree {n : Nat} {t : Ty} (o : Ty.ok t) (h : t.dep n) (hn : n ≤ 29) : SeqAt.shaped t.data = true := by
  have h1 := Ty.lay o
  have h2 := Ty.data_depth n t h
  unfold SeqAt.shaped
  rw [h1, Bool.true_and]
  exact decide_eq_true (by omega)
theorem shaped_scheme {n : Nat} {t : Ty} {ks : List Key} (o : Ty.ok t) (h : t.dep n) (hn : n ≤ 29) (hk : ∀ k ∈ ks, okK k) : SeqAt.shaped (.tuple [.tuple (ks.map kD), t.data]) = true := by
  have h1 := Ty.lay o
  have h2 := Ty.data_depth n t h
  have h3 := layAll_keys hk
  have h4 : PyData.depthAll (ks.map kD) ≤ 0 := depthAll_le fun d hd => by
    obtain ⟨k, _, rfl⟩ := List.mem_map.mp hd
    rw [kD_depth]
    exact Nat.le_refl _
  unfold SeqAt.shaped
  simp [PyData.canLay0, PyData.canLayAll0, h1, h3, PyData.depth, PyData.depthAll]
  omega
theorem ans_neD {K : PySem.W.Frag} {σ : L2.St} {H : Hp} {ta tb : TE} {x y : V} {d : PyData} (ha : Val ta σ H x) (hb : Val tb σ H y) (hx : Dp K H x d) (hy : Dp K H y d) (hs : SeqAt.shaped d = true) : Ans (tTest (tOp (rNeD K) ta tb)) σ H false := fun Q q => ha _ (hb _ ⟨d, d, hx, hy, hs, hs, _, rfl, by
  rw [SeqAt.eqv_refl _ (SeqAt.canLay_of_shaped hs)]
  exact q⟩)
theorem neD_H {K : PySem.W.Frag} {σ : L2.St} {H : Hp} {ta tb : TE} {x : V} {d : PyData} {PV : V → Hp → Prop} {Q : Bool → Hp → Prop} (ha : Val ta σ H x) (hb : ValH tb σ H PV) (h : ∀ y H', PV y H' → Dp K H' x d ∧ Dp K H' y d) (hs : SeqAt.shaped d = true) (q : ∀ y H', PV y H' → Q false H') : tTest (tOp (rNeD K) ta tb) σ H Q :=
  ha _ (hb _ fun y H' p => ⟨d, d, (h y H' p).1, (h y H' p).2, hs, hs, _, rfl, by
    rw [SeqAt.eqv_refl _ (SeqAt.canLay_of_shaped hs)]
    exact q y H' p⟩)
theorem dst_extn {K : PySem.W.Frag} {H H' : Hp} {d : Addr} (e : ExtN H H') (s : DSt K H d) : DSt K H' d := by
  obtain ⟨c, ns, i, r, k, h1, h2, h3, h4⟩ := s
  exact ⟨c, ns, i, r, k, e _ _ h1 (fun _ z => by cases z), e _ _ h2 (fun _ z => by cases z), h3, h4⟩
theorem tabs_but {K : PySem.W.Frag} {T : List NTab} {H H' : Hp} {d : Addr} (b : But d H H') (s : DSt K H d) (t : TabsN T H) : TabsN T H' := by
  obtain ⟨c0, ns, i, r, k, h1, _⟩ := s
  intro p hp
  obtain ⟨ps, a1, a2, a3⟩ := t p hp
  have ne : ∀ {a : Addr} {o : HO}, H a = some o → (∀ xs, o ≠ .lst xs) → a ≠ d := fun {a o} ha ho e => by
    subst e
    rw [h1] at ha
    exact ho _ (Option.some.inj ha).symm
  refine ⟨ps, b _ _ (ne a1 fun _ z => by cases z) a1, a2, fun pos cv hc => ?_⟩
  obtain ⟨c, e1, e2⟩ := a3 pos cv hc
  exact ⟨c, e1, b _ _ (ne e2 fun _ z => by unfold CodeO at z; cases z) e2⟩
section
variable {σ : L2.St} {H : Hp}
theorem valH_lstA {tl : TA} {vs : List V} (ha : ValA tl σ vs) (hl : vs.length ≤ sizeLine) : ValH (tLst tl) σ H (fun v H' => ∃ p, v = .ref p ∧ H p = none ∧ H' = upd H p (.lst vs)) := fun Q q => ha H _ ⟨hl, fun p hp => q _ _ ⟨p, rfl, hp, rfl⟩⟩
end
theorem ex_bul {l : Addr} {H H' : Hp} {o : HO} (hl : H l = none) (b : Bul l (upd H l o) H') : Ex H H' := fun a u h => by
  have ne : a ≠ l := ne_of_none h hl
  exact b a u ne (by rw [upd_ne ne]; exact h)
theorem has_vs {t : Ty} {k : Key} (h : Ty.has k t) : k ∈ t.vs [] := (Ty.vs_mem t [] k).mpr (.inr h)
theorem vs_has {t : Ty} {k : Key} (h : k ∈ t.vs []) : Ty.has k t := by
  rcases (Ty.vs_mem t [] k).mp h with z | z
  · cases z
  · exact z
theorem okvar {k : Key} (h : okK k) : Ty.ok (.var k) := .v h
theorem t_IH {σ : L2.St} {H : Hp} {ta : TE} {g : Int → Int → V} {j : Int} {PV : V → Hp → Prop} {Q : Bool → Hp → Prop} (hg : ∀ i : Int, ∃ b, g i j = .bl b) (ha : ValH ta σ H PV) (hi : ∀ v H', PV v H' → ∃ i : Int, v = .int i) (q : ∀ v H', PV v H' → ∀ b, Q b H') : tTest (tOp (rI0 g) ta (tC (.int j))) σ H Q := ha _ fun v H' p => by
  obtain ⟨i, rfl⟩ := hi v H' p
  obtain ⟨b, e⟩ := hg i
  exact ⟨i, j, rfl, rfl, b, e, q _ _ p b⟩
theorem ret_eqD {K : PySem.W.Frag} {D : Ends} {σ : L2.St} {H : Hp} {ta tb : TE} {y : V} {PV : V → Hp → Prop} (ha : ValH ta σ H PV) (hb : ∀ H', Val tb σ H' y) (h : ∀ v H', PV v H' → ∃ d, Dp K H' v d ∧ Dp K H' y d ∧ SeqAt.shaped d = true ∧ D.rt (.bl true) H') : tRet (tOp (rEqD K) ta tb) D σ H := ha _ fun v H' p => by
  obtain ⟨d, h1, h2, hs, q⟩ := h v H' p
  refine hb H' _ ⟨d, d, h1, h2, hs, hs, ?_⟩
  rw [SeqAt.eqv_refl _ (SeqAt.canLay_of_shaped hs)]
  exact q
theorem orA {σ : L2.St} {H : Hp} {t u : TT} {Q : Bool → Hp → Prop} (h : Ans t σ H false) (h1 : u σ H Q) : tOr t u σ H Q := h _ h1
theorem d_start {K : PySem.W.Frag} {σ : L2.St} {H : Hp} {te : TE} {a : Addr} {ns : List Int} {E : XK} (ha : Val te σ H (.ref a)) (h : SqL K H a (ns.map V.int)) (hl : ns.length ≤ 63) : ValH (tCall (spStart K) [] E (tCons te tNil)) σ H (fun v H' => ∃ d, v = .ref d ∧ Ex H H' ∧ DSt K H' d) :=
  valH_can1 ha fun Q q => ⟨a, ns, rfl, h, hl, fun d H' _ e s => q _ _ ⟨d, rfl, e, s⟩⟩
def Ty.sdata : Ty → PyData
  | .var k => .tuple [.str "tyvar", kD k]
  | .node .fn ps => .tuple (.str "tyfun" :: ps.map fun t => t.sdata)
  | .node .tup ps => .tuple [.str "tytuple", .tuple (ps.map fun t => t.sdata)]
  | .node (.con n) ps => .tuple [.str "tycon", .tuple [.str n], .tuple (ps.map fun t => t.sdata)]
theorem dpAll_ofS {K : PySem.W.Frag} {H : Hp} : ∀ {vs : List V} {ts : List Ty}, (∀ t ∈ ts, ∀ v, SyAt H v t → Dp K H v t.sdata) → Paired (SyAt H) vs ts → DpAll K H vs (ts.map fun t => t.sdata)
  | _, _, _, .nil => .nil
  | _, _, h, .cons r t => by
    rw [List.map_cons]
    exact .cons (h _ (List.mem_cons_self ..) _ r) (dpAll_ofS (fun t ht => h t (List.mem_cons_of_mem _ ht)) t)
theorem SyAt.dp {K : PySem.W.Frag} {H : Hp} : ∀ {t : Ty} {v : V}, SyAt H v t → Dp K H v t.sdata := by
  intro t
  induction t using Ty.ind with
  | hv k =>
    intro v h
    cases h with
    | var h =>
      rw [Ty.sdata]
      exact .tup (SqT.of h) (.cons (.str _) (.cons (kD_dp k) .nil))
  | hn h ps ih =>
    intro v hh
    cases hh with
    | fn h a b =>
      rw [Ty.sdata]
      exact .tup (SqT.of h) (.cons (.str _) (.cons (ih _ (by simp) a) (.cons (ih _ (by simp) b) .nil)))
    | tup h1 h2 r =>
      rw [Ty.sdata]
      exact .tup (SqT.of h1) (.cons (.str _) (.cons (.tup (SqT.of h2) (dpAll_ofS (fun t ht v h => ih t ht h) r)) .nil))
    | con h1 h2 h3 r =>
      rw [Ty.sdata]
      exact .tup (SqT.of h1) (.cons (.str _) (.cons (.tup (SqT.of h2) (.cons (.str _) .nil)) (.cons (.tup (SqT.of h3) (dpAll_ofS (fun t ht v h => ih t ht h) r)) .nil)))
theorem layAll_ofS : ∀ {ts : List Ty}, (∀ t ∈ ts, t.sdata.canLay0 = true) → PyData.canLayAll0 (ts.map fun t => t.sdata) = true
  | [], _ => rfl
  | t :: ts, h => by
    rw [List.map_cons, PyData.canLayAll0, h t (List.mem_cons_self ..), layAll_ofS fun t ht => h t (List.mem_cons_of_mem _ ht)]
    rfl
theorem Ty.slay : ∀ {t : Ty}, Ty.ok t → t.sdata.canLay0 = true := by
  intro t
  induction t using Ty.ind with
  | hv k =>
    intro o
    cases o with
    | v o =>
      rw [Ty.sdata]
      simp [PyData.canLay0, PyData.canLayAll0, kD_lay o]
      decide +kernel
  | hn h ps ih =>
    intro o
    cases o with
    | n o1 o2 =>
      have hp := layAll_ofS fun t ht => ih t ht (o2 t ht)
      cases h with
      | fn =>
        rw [Ty.sdata]
        simp [PyData.canLay0, PyData.canLayAll0, hp]
        decide +kernel
      | tup =>
        rw [Ty.sdata]
        simp [PyData.canLay0, PyData.canLayAll0, hp]
        decide +kernel
      | con n =>
        rw [Ty.sdata]
        have o1 : PyData.strOk n = true := o1
        simp [PyData.canLay0, PyData.canLayAll0, hp, o1]
        decide +kernel
theorem Ty.sdata_depth : ∀ (n : Nat) (t : Ty), t.dep n → t.sdata.depth ≤ 2 * n + 2
  | n, .var k, _ => by
    rw [Ty.sdata]
    simp [PyData.depth, PyData.depthAll, kD_depth]
  | 0, .node h ps, z => by
    have z : ps = [] := z
    subst z
    cases h <;> rw [Ty.sdata] <;> simp [PyData.depth, PyData.depthAll]
  | n + 1, .node h ps, z => by
    have hp : PyData.depthAll (ps.map fun t => t.sdata) ≤ 2 * n + 2 := depthAll_le fun d hd => by
      obtain ⟨t, ht, rfl⟩ := List.mem_map.mp hd
      exact Ty.sdata_depth n t (z t ht)
    cases h <;> rw [Ty.sdata] <;> simp [PyData.depth, PyData.depthAll] <;> omega
theorem shaped_syn {n : Nat} {t : Ty} (o : Ty.ok t) (h : t.dep n) (hn : n ≤ 29) : SeqAt.shaped t.sdata = true := by
  have h1 := Ty.slay o
  have h2 := Ty.sdata_depth n t h
  unfold SeqAt.shaped
  rw [h1, Bool.true_and]
  exact decide_eq_true (by omega)
theorem dep_of_dpt : ∀ (n : Nat) (t : Ty), t.dpt ≤ n + 1 → t.dep n
  | n, .var k, h => by cases n <;> trivial
  | 0, .node hd ps, h => by
    cases ps with
    | nil => rfl
    | cons a l =>
      have := dpt_part (t := .node hd (a :: l)) (u := a) (List.mem_cons_self ..)
      have := dpt_parts a
      omega
  | n + 1, .node hd ps, h => fun t ht => dep_of_dpt n t (by
    have := dpt_part (t := .node hd ps) ht
    omega)
theorem dpt_bind {f : Key → Ty} : ∀ {t : Ty}, (∀ k, Ty.has k t → ∃ b, f k = .var b) → (t.bind f).dpt = t.dpt := by
  intro t
  induction t using Ty.ind with
  | hv k =>
    intro h
    obtain ⟨b, hb⟩ := h k (Ty.has_var.mpr rfl)
    rw [Ty.bind_var, hb, dpt_var, dpt_var]
  | hn h ps ih =>
    intro hh
    rw [Ty.bind_node, dpt_node, dpt_node, List.map_map]
    congr 2
    refine List.map_congr_left fun t ht => ?_
    exact ih t ht fun k hk => hh k (Ty.has_node.mpr ⟨t, ht, hk⟩)
/-! ### the law -/
open NdefX LamX CLO
abbrev s_law : Stmt := top 30
theorem sc_law : FnScope ["script", "d", "ty", "k", "found", "scheme", "actual", "e", "due"] ["script"] (defScope s_law) := ⟨rfl, rfl, rfl, by decide +kernel, rfl, by decide +kernel, by decide +kernel⟩
def suite15 : List Stmt := match (defBody s_law).getD 6 (.Pass ⟨0, 0, 0, 0⟩) with
  | .Try _ (.ExceptHandler _ _ b _ :: _) _ _ _ => b
  | _ => []
/-- what is asked at the except suite -/
def tSu (lim : Addr) (a : Addr) (cls : Value) (d : Option Addr) : TS := fun D σ H => cls = .ref lim ∧ d = none ∧ ∃ tv t, σ[2]? = some (some tv) ∧ σ[7]? = some (some (.ref a)) ∧ TyAt H tv t ∧ 30 < t.dpt ∧ t.dpt ≤ 40 ∧ t.sz ≤ 100000 ∧ ∀ H', Ex H H' → D.rt (.bl true) H'
def spLaw15 (K : PySem.W.Frag) (Pt : Addr × Addr) : Sp := fun vs H Q _ => ∃ (a : Addr) (ns : List Int), vs = [.ref a] ∧ SqL K H a (ns.map V.int) ∧ ns.length ≤ 63 ∧ TabsN (tabI Pt) H ∧ ∀ H', Q (.bl true) H'
/-- a tree of the law: how deep, how large at most -/
structure Fat (m c : Nat) (t : Ty) : Prop where
  d : t.dpt ≤ m
  s : t.sz ≤ c
  h : ∀ k, Ty.has k t → k ∈ lets 26
  o : Ty.ok t
theorem Fits15.fat {n : Nat} {t : Ty} (f : Fits15 n t) : Fat (n + 1) (wcap n) t := ⟨Ty.wide_dpt n t f.1, Ty.wide_sz n t f.1, f.2.1, f.2.2⟩
theorem Fat.up {m c m' c' : Nat} {t : Ty} (f : Fat m c t) (h1 : m ≤ m') (h2 : c ≤ c') : Fat m' c' t := ⟨Nat.le_trans f.d h1, Nat.le_trans f.s h2, f.h, f.o⟩
theorem Fat.lst {m c : Nat} {t : Ty} {s : Str} (f : Fat m c t) (hs : PyData.strOk s = true) : Fat (m + 1) (c + 3) (.node (.con s) [t]) := by
  refine ⟨?_, ?_, fun k hk => ?_, .n hs fun u hu => ?_⟩
  · rw [dpt_node]
    show 1 + max t.dpt 0 ≤ _
    have := f.d
    omega
  · rw [Ty.sz_node]
    show 1 + (t.sz + 0) ≤ _
    have := f.s
    omega
  · obtain ⟨u, hu, hku⟩ := Ty.has_node.mp hk
    rw [List.mem_singleton.mp hu] at hku
    exact f.h k hku
  · rw [List.mem_singleton.mp hu]
    exact f.o
theorem Fat.fn {m c : Nat} {t : Ty} {s : Str} (f : Fat m c t) (hs : PyData.strOk s = true) : Fat (m + 1) (c + 3) (.node .fn [.node (.con s) [], t]) := by
  have h1 : (Ty.node (.con s) []).dpt = 1 := by rw [dpt_node]; rfl
  have h2 : (Ty.node (.con s) []).sz = 1 := by rw [Ty.sz_node]; rfl
  have h3 := dpt_parts t
  refine ⟨?_, ?_, fun k hk => ?_, .n (by decide +kernel) fun u hu => ?_⟩
  · rw [dpt_node]
    show 1 + max (Ty.node (.con s) []).dpt (max t.dpt 0) ≤ _
    rw [h1]
    have := f.d
    omega
  · rw [Ty.sz_node]
    show 1 + ((Ty.node (.con s) []).sz + (t.sz + 0)) ≤ _
    rw [h2]
    have := f.s
    omega
  · obtain ⟨u, hu, hku⟩ := Ty.has_node.mp hk
    rcases List.mem_cons.mp hu with rfl | hu
    · obtain ⟨z, hz, _⟩ := Ty.has_node.mp hku
      cases hz
    · rw [List.mem_singleton.mp hu] at hku
      exact f.h k hku
  · rcases List.mem_cons.mp hu with rfl | hu
    · exact .n hs fun z hz => by cases hz
    · rw [List.mem_singleton.mp hu]
      exact f.o
section
variable {X : Cx} {W : WX} {k : Nat} {x : Str} {ps : List Str} {sp : Sp} {e : Expr} {es : List Expr} {t : TA} {p pos : Pos}
theorem pe_canS (C : Can X.prog X.w X.K X.mg X.base (L2N.CX X.prog X.w) k x ps sp) (hr : Room k X.A) (hg : Gl X x) (tk : L2N.Takes X W) (ha : PA X (e :: es) t)
    (hdb : (x == ("__debug__" : Str)) = false := by decide) (he : starEach (e :: es) X.env = (false, eval e X.env) :: starEach es X.env := by rfl) (hpl : (backTo pos (starEach es X.env)).any (·.1) = false := by rfl) :
    PE X (.Call (.Name x p) (e :: es) [] pos) (L2.tCallS sp (WE W) t) := by
  obtain ⟨f, fd, F, a, b, c⟩ := C.ex
  exact L2.pe_callS F hr hg a b c (fun σ => L2N.passAt tk σ) ha hdb he hpl
theorem takesF (h : ∀ u s', X.xe u s' = False) : L2N.Takes X (fun _ _ _ _ => False) := fun u s' ⟨_, _, _, _, _, _, _, _, _, _, _, _, _, _, _, _, z⟩ => z.elim
theorem passF : Passes (L2N.CX X.prog X.w) X (fun _ _ _ => False) := fun pins σ H s e s' I ⟨_, _, _, _, _, _, _, _, _, _, _, _, z⟩ => z.elim
end
section
variable {σ : L2.St} {H : Hp} {D : Ends} {F B C : L2.St → Hp → Prop} {R : VK} {t1 t2 : TS} {te : TE} {i : Nat} {PV : V → Hp → Prop}
theorem st_ifH {t : TT} {PH : Bool → Hp → Prop} (h : ∀ Q : Bool → Hp → Prop, (∀ b H', PH b H' → Q b H') → t σ H Q) (h1 : ∀ H', PH true H' → t1 D σ H') (h2 : ∀ H', PH false H' → t2 D σ H') : tIfS t t1 t2 D σ H := h _ fun b H' p => by
  cases b with
  | true => exact h1 H' p
  | false => exact h2 H' p
end
theorem lc_exR {β : Type} {R : Hp → V → β → Prop} {rs : List β} {σ : L2.St} {H : Hp} {tn te : TE} {i : Nat} (Rm : ∀ H H' y r, Tk H H' → R H y r → R H' y r) (hn : Val tn σ H (.int (rs.length : Int))) (hl : rs.length ≤ 1000)
    (step : ∀ (j : Nat) (r : β), rs[j]? = some r → ∀ H', Ex H H' → ∀ Q : VK, (∀ y H2, Ex H' H2 → R H2 y r → Q y H2) → te ((wipe σ [i]).set i (some (.int (j : Int)))) H' Q) :
    ValH (tLc (iRng1 (tCons tn tNil)) (gName i) tYes te [i]) σ H fun v H' => ∃ D ys, v = .ref D ∧ H D = none ∧ Ex H H' ∧ H' D = some (.lst ys) ∧ Paired (fun y r => R H' y r) ys rs := fun Q q =>
  hn _ ⟨(rs.length : Int), rfl, by omega, by omega, fun D hD => by
    have e1 : ((rs.length : Int)).toNat = rs.length := by omega
    refine lc_range (lo := 0) (n := ((rs.length : Int)).toNat) (LcP R H D rs) ⟨Ex.new hD, [], upd_same, .nil⟩ (fun j H' hj L => ⟨wipe_set, ?_⟩) (fun H' ⟨e, ys, hy, p⟩ => q _ _ ⟨D, ys, rfl, hD, e, hy, by rw [e1, List.take_length] at p; exact p⟩)
    have hj : j < rs.length := by omega
    have e0 : (0 : Int) + (j : Int) = (j : Int) := Int.zero_add _
    rw [e0]
    exact lc_step Rm hD (Nat.lt_of_le_of_lt hl (by decide)) (List.getElem?_eq_getElem hj) L (step j _ (List.getElem?_eq_getElem hj) H' L.1)⟩
theorem keys_of {ys : List V} {ks : List Key} (h : Paired (fun y k => y = kV k) ys ks) : ys = ks.map kV := by
  induction h with
  | nil => rfl
  | cons e _ ih => rw [List.map_cons, e, ih]
section
variable {K : PySem.W.Frag} {σ : L2.St} {H : Hp} {D : Ends} {ta tb te : TE} {t1 : TS} {i j : Nat} {v : V} {t : Ty} {PV PA : V → Hp → Prop} {PB : V → V → Hp → Prop}
theorem e_forRH (h : ValH te σ H PV) (k : ∀ v H1, PV v H1 → ∃ n : Int, v = .int n ∧ 0 ≤ n ∧ n ≤ 100000 ∧ ∃ Pv : Nat → L2.St → Hp → Prop, Pv 0 σ H1 ∧ (∀ (i : Nat) σ' H', (i : Int) < n → Pv i σ' H' → t1 ⟨Pv (i + 1), D.rt, D.nx, Pv (i + 1)⟩ (σ'.set j (some (.int (i : Int)))) H') ∧ ∀ σ' H', Pv n.toNat σ' H' → D.nx σ' H') : tFor (iRng1 (tCons te tNil)) (gName j) t1 D σ H :=
  h _ fun v H1 p => by
    obtain ⟨n, rfl, h0, h1, Pv, hs0, hs, hd⟩ := k v H1 p
    refine ⟨n, rfl, by omega, by omega, for_range (lo := 0) (n := n.toNat) Pv hs0 (fun i σ' H' hi p => ?_) hd⟩
    have e0 : (0 : Int) + (i : Int) = (i : Int) := Int.zero_add _
    show t1 _ (σ'.set j (some (.int ((0 : Int) + (i : Int))))) H'
    rw [e0]
    exact hs i σ' H' (by omega) p
theorem valH_wrapL {s : Str} (hv : σ[i]? = some (some v)) (ht : TyAt H v t) : ValH (tTup (tCons (tC (.str "con")) (tCons (tC (.str s)) (tCons (tTup (tCons (tVar i) tNil)) tNil)))) σ H (fun u H' => Ex H H' ∧ TyAt H' u (.node (.con s) [t])) := fun Q q =>
  ⟨v, hv, by show 1 ≤ sizeLine; decide, fun c hc => ⟨by show 3 ≤ sizeLine; decide, fun p hp => q _ _ ⟨(Ex.new hc).trans (Ex.new hp), .con upd_same (Ex.new hp _ _ upd_same) (.cons ((ht.mono (Tk.of (Ex.new hc))).mono (Tk.of (Ex.new hp))) .nil)⟩⟩⟩
theorem valH_wrapF {s : Str} (hv : σ[i]? = some (some v)) (ht : TyAt H v t) : ValH (tTup (tCons (tC (.str "fun")) (tCons (tTup (tCons (tC (.str "con")) (tCons (tC (.str s)) (tCons (tTup tNil) tNil)))) (tCons (tVar i) tNil)))) σ H (fun u H' => Ex H H' ∧ TyAt H' u (.node .fn [.node (.con s) [], t])) := fun Q q => by
  refine tcons_step (tr := tCons (tVar i) tNil) (Q := fun xs H' => (V.str "fun" :: xs).length ≤ sizeLine ∧ ∀ p, H' p = none → Q (.ref p) (upd H' p (.tup (.str "fun" :: xs)))) (valH_leafC s) ?_
  rintro _ H1 ⟨p1, rfl, e1, h1⟩
  exact ⟨v, hv, by show 3 ≤ sizeLine; decide, fun p hp => q _ _ ⟨e1.trans (Ex.new hp), .fn upd_same (h1.mono (Tk.of (Ex.new hp))) ((ht.mono (Tk.of e1)).mono (Tk.of (Ex.new hp)))⟩⟩
theorem eqD_H {Q : VK} (ha : ValH ta σ H PA) (hb : ∀ x H1, PA x H1 → ValH tb σ H1 (PB x)) (hd : ∀ x H1 y H2, PA x H1 → PB x y H2 → ∃ d, Dp K H2 x d ∧ Dp K H2 y d ∧ SeqAt.shaped d = true ∧ Q (.bl true) H2) : tOp (rEqD K) ta tb σ H Q := ha _ fun x H1 p => hb x H1 p _ fun y H2 p2 => by
  obtain ⟨d, h1, h2, hs, q⟩ := hd x H1 y H2 p p2
  refine ⟨d, d, h1, h2, hs, hs, ?_⟩
  rw [SeqAt.eqv_refl _ (SeqAt.canLay_of_shaped hs)]
  exact q
theorem ret_opH {r : R2} (h : tOp r ta tb σ H D.rt) : tRet (tOp r ta tb) D σ H := h
theorem ret_and (h : ta σ H fun x H1 => ∃ c, x = .bl c ∧ if c = true then tb σ H1 D.rt else D.rt (.bl false) H1) : tRet (tAndV ta tb) D σ H := h
theorem and_go {Q : VK} (h : ta σ H fun x H1 => ∃ c, x = .bl c ∧ if c = true then tb σ H1 Q else Q (.bl false) H1) : tAndV ta tb σ H Q := h
end
section
variable {P : Program} {w : World} {K : PySem.W.Frag} {mg : Str → Option Value} {base : Heap}
theorem ok_law15 {Pt : Addr × Addr} {lim f : Addr} {fd : FuncData} (F : Fun K "law" "law" s_law f fd) (T : Bt mg) (TL : LimT K mg lim) (ll : PySem.W.exmOne K (.ref lim) (.ref lim) = some true)
    (hsu : ∀ (f : Addr) (cdv : Value) (A : Around) (outer : List Env) (s : Shared) (H : Hp) (E : XK), Room 44 (A.deeper (envOfC "law" (defScope s_law) s.heap.objs.size f cdv)) → ∀ (a : Addr) (oe : Obj) (cls : Value) (d : Option Addr) (pn : List (Addr × Obj)), L2N.Zn cls d oe → (∃ vs, oe.data = .fields vs) →
      PSs ((cxOf CX0 P w K mg base ["script", "d", "ty", "k", "found", "scheme", "actual", "e", "due"] "law" (defScope s_law) f cdv A outer s H E).nox.suite a ((a, oe) :: pn)) suite15 (tSu lim a cls d))
    (C__law_start : Can P w K mg base CX0 1 "_law_start" ["script"] (spStart K)) (C__law_take : Can P w K mg base CX0 2 "_law_take" ["d", "many"] (spTake K)) (C__law_ty : Can P w K mg base CX0 8 "_law_ty" ["d", "depth"] (spTy15 K 5)) (C__law_count : Can P w K mg base CX0 43 "_law_count" ["ty"] (spLCount 42))
    (C__law_letters : Can P w K mg base CX0 43 "_law_letters" ["ty", "found"] (spLLet 42)) (C_scheme_ty : Can P w K mg base (L2N.CX P w) 6 "scheme_ty" ["scheme"] (spSch Pt lim)) (C__law_depth : Can P w K mg base CX0 43 "_law_depth" ["ty"] (spLDepth 42)) (C__law_syntax : Can P w K mg base CX0 43 "_law_syntax" ["ty"] (spLSyn 42))
    (C__law_renamed : Can P w K mg base CX0 43 "_law_renamed" ["ty", "letters"] (spLRen 42)) (C_ty_scheme : Can P w K mg base CX0 32 "ty_scheme" ["ty"] (spTyS Pt)) : FnOk P w K mg base CX0 45 f fd ["script"] (spLaw15 K Pt) := by
  have sc := sc_law
  refine F.ok sc (fun vs H Q E h => ?_) (fun cdv A outer s H vs Q E hr h => ?_)
  · obtain ⟨a, ns, rfl, _⟩ := h
    rfl
  · obtain ⟨a, ns, rfl, ha, hl63, hT, q⟩ := h
    refine ⟨_, (pss_cons (ps_set (i := 1) sc.nd rfl (.inl rfl) (pe_can C__law_start (hr.mono (by omega)) rfl pass0 (pa_cons (pv 0) pa_nil)))
    (pss_cons (ps_set (i := 2) sc.nd rfl (.inl rfl) (pe_can C__law_ty (hr.mono (by omega)) rfl pass0 (pa_cons (pv 1) (pa_cons (pe_can C__law_take (hr.mono (by omega)) rfl pass0 (pa_cons (pv 1) (pa_cons pe_int pa_nil))) pa_nil))))
    (pss_cut (ps_if (pt_cmpR op_gt (pe_can C__law_count (hr.mono (by omega)) rfl pass0 (pa_cons (pv 2) pa_nil)) pe_int (nomark _)) (pss_one (ps_set (i := 2) sc.nd rfl (.inl rfl) (pe_can C__law_ty (hr.mono (by omega)) rfl pass0 (pa_cons (pv 1) (pa_cons pe_int pa_nil))))) pss_nil)
    (pss_cut (ps_if (pt_cmpR op_eq (pe_can C__law_take (hr.mono (by omega)) rfl pass0 (pa_cons (pv 1) (pa_cons pe_int pa_nil))) pe_int (nomark _)) (pss_one (ps_for PassesOwn.never rfl (pi_range1 rfl T.n_range (pa_cons (pe_op op_add pe_int (pe_can C__law_take (hr.mono (by omega)) rfl pass0 (pa_cons (pv 1) (pa_cons pe_int pa_nil)))) pa_nil)) (pg_name (i := 3) sc.nd rfl (.inl rfl)) (pss_one (ps_if (pt_cmpR op_eq (pe_can C__law_take (hr.mono (by omega)) rfl pass0 (pa_cons (pv 1) (pa_cons pe_int pa_nil))) pe_int (nomark _)) (pss_one (ps_set (i := 2) sc.nd rfl (.inl rfl) (pe_tup (pa_cons pe_str (pa_cons pe_str (pa_cons (pe_tup (pa_cons (pv 2) pa_nil)) pa_nil)))))) (pss_one (ps_set (i := 2) sc.nd rfl (.inl rfl) (pe_tup (pa_cons pe_str (pa_cons (pe_tup (pa_cons pe_str (pa_cons pe_str (pa_cons (pe_tup pa_nil) pa_nil)))) (pa_cons (pv 2) pa_nil)))))))))) pss_nil)
    (pss_cons (ps_set (i := 4) sc.nd rfl (.inl rfl) (pe_can C__law_letters (hr.mono (by omega)) rfl pass0 (pa_cons (pv 2) (pa_cons (pe_lst pa_nil) pa_nil))))
    (pss_cons (ps_set (i := 5) sc.nd rfl (.inl rfl) (pe_tup (pa_cons (pe_callTy call_tuple_of (by rfl) T.n_tuple (by decide +kernel) (pa_cons (pv 4) pa_nil)) (pa_cons (pv 2) pa_nil))))
    (pss_cons (L2N.ps_try_as (i := 7) rfl rfl sc.nd rfl rfl ⟨rfl, by decide, .inl TL.gL⟩ (takesF (fun _ _ => rfl)) (fun W pn xe tk ow => pss_one (ps_set (i := 6) sc.nd rfl (.inl rfl) (pe_canS C_scheme_ty (hr.mono (by omega)) rfl tk (pa_cons (pv 5) pa_nil)))) (fun a oe cls dd pn hz hf => hsu f cdv A outer s H E hr a oe cls dd pn hz hf))
    (pss_cons (ps_if (PW.pt (pw_or (pt_cmpR op_gt (pe_can C__law_depth (hr.mono (by omega)) rfl pass0 (pa_cons (pv 2) pa_nil)) pe_int (nomark _)) (pw_or1 (pt_cmpR (op_neD hr.units) (pv 6) (pe_can C__law_syntax (hr.mono (by omega)) rfl pass0 (pa_cons (pv 2) pa_nil)) (nomark _))))) (pss_one (ps_ret pe_bl)) pss_nil)
    (pss_cons (ps_set (i := 8) sc.nd rfl (.inl rfl) (pe_tup (pa_cons (pe_callTy call_tuple_of (by rfl) T.n_tuple (by decide +kernel) (pa_cons (pe_lc (own := [("k", 3)]) (g := gName 3) (tt := tYes) rfl sc.nd (pi_range1 rfl T.n_range (pa_cons (pe_callB call_len_seq (by rfl) T.n_len PySem.boot_len (pa_cons (pv 4) pa_nil)) pa_nil)) (blkOk_by (N := ["script", "d", "ty", "k", "found", "scheme", "actual", "e", "due"]) (sc := defScope (top 30)) (by decide +kernel)) (fun _ _ _ _ _ => pg_name (i := 3) sc.nd rfl (Or.inl rfl)) (fun _ _ _ _ _ => pts_nil) (fun _ _ _ _ _ => (pe_ix ix_str pe_str (pv 3) (fun _ _ => rfl)))) pa_nil)) (pa_cons (pe_can C__law_renamed (hr.mono (by omega)) rfl pass0 (pa_cons (pv 2) (pa_cons (pv 4) pa_nil))) pa_nil))))
    (pss_one (ps_ret (pe_and (pe_cmpR (op_eqD hr.units) (pe_can C_ty_scheme (hr.mono (by omega)) rfl pass0 (pa_cons (pv 6) pa_nil)) (pv 8) (nomark _)) (pe_and (pe_cmpR (op_eqD hr.units) (pe_can C_scheme_ty (hr.mono (by omega)) rfl passF (pa_cons (pv 8) pa_nil)) (pe_can C__law_syntax (hr.mono (by omega)) rfl pass0 (pa_cons (pe_ix ix_tup (pv 8) pe_int (fun _ _ => rfl)) pa_nil)) (nomark _)) (pe_one (pe_cmpR (op_eqD hr.units) (pe_can C_ty_scheme (hr.mono (by omega)) rfl pass0 (pa_cons (pe_can C__law_syntax (hr.mono (by omega)) rfl pass0 (pa_cons (pe_ix ix_tup (pv 8) pe_int (fun _ _ => rfl)) pa_nil)) pa_nil)) (pv 8) (nomark _)))))))))))))))), ?_⟩
    -- d
    refine n_setH (d_start (val_var rfl) ha hl63) ?_
    rintro _ H1 ⟨d, rfl, e1, S1⟩
    have T1 := hT.ext e1
    -- ty
    have draw : ∀ {σ : L2.St} {H2 : Hp} {n : Nat}, σ[1]? = some (some (.ref d)) → DSt K H2 d → n < 5 → ValH (tCall (spTy15 K 5) [] E0 (tCons (tVar 1) (tCons (tC (.int (n : Int))) tNil))) σ H2 (fun v H' => ∃ t, But d H2 H' ∧ DSt K H' d ∧ TyAt H' v t ∧ Fat (n + 1) (wcap n) t) := fun {σ H2 n} h1 S2 hn Q1 q1 =>
      c2 (x := .ref d) (y := .int (n : Int)) (val_var h1) val_c ⟨d, n, rfl, hn, S2, fun v H' t b s ht ft => q1 _ _ ⟨t, b, s, ht, ft.fat⟩⟩
    refine n_setH (PV := fun v H' => ∃ t, But d H1 H' ∧ DSt K H' d ∧ TyAt H' v t ∧ Fat 5 1555 t) (valH_call2 (PA := fun x H' => x = .ref d ∧ H' = H1) (PB := fun x y H' => ∃ n : Nat, x = .ref d ∧ y = .int (n : Int) ∧ n < 5 ∧ But d H1 H' ∧ DSt K H' d) (vh (val_var rfl)) ?_ ?_) ?_
    · rintro x _ ⟨hx, rfl⟩
      refine vimp (valH_take (val_var rfl) val_c S1 (by decide) (by decide)) ?_
      rintro _ H' ⟨i, rfl, i0, i1, b, S⟩
      exact ⟨i.toNat, hx, by rw [Int.toNat_of_nonneg i0], by omega, b, S⟩
    · rintro _ _ _ H' _ ⟨n, rfl, rfl, hn, b, S⟩ Q1 q1
      refine ⟨d, n, rfl, hn, S, fun v H2 t b2 s2 ht ft => q1 _ _ ⟨t, b.trans b2, s2, ht, ft.fat.up (by omega) ?_⟩⟩
      have : n = 0 ∨ n = 1 ∨ n = 2 ∨ n = 3 ∨ n = 4 := by omega
      rcases this with rfl | rfl | rfl | rfl | rfl <;> decide
    rintro v2 H2 ⟨t2, b2, S2, ht2, f2⟩
    -- a tree that is not too large
    show tCut _ _ _ [some (.ref a), some (.ref d), some v2, none, none, none, none, none, none] H2
    refine q_cut (M := fun σ' H' => ∃ v t, σ' = [some (.ref a), some (.ref d), some v, none, none, none, none, none, none] ∧ But d H1 H' ∧ DSt K H' d ∧ TyAt H' v t ∧ Fat 5 1555 t) ?_ ?_
    · refine st_ifH (PH := fun _ H' => Ex H2 H') (fun Q1 q1 => t_IH (PV := fun v H' => (∃ i : Int, v = .int i) ∧ Ex H2 H') (fun i => ⟨_, rfl⟩) (valH_call1 (vh (val_var rfl)) fun x H' hx Q2 q2 => ⟨v2, t2, by rw [hx.1], by rw [hx.2]; exact ht2, dp_of_dpt 42 t2 (by have := f2.d; omega), by have := f2.s; omega, fun H3 e3 => q2 _ _ ⟨⟨_, rfl⟩, by rw [hx.2] at e3; exact e3⟩⟩) (fun v H' p => p.1) (fun v H' p b => q1 _ _ p.2)) ?_ ?_
      · intro H3 e3
        refine e_setH (draw (n := 2) rfl (S2.ex e3) (by decide)) ?_
        rintro v H4 ⟨t, b4, S4, ht, ft⟩
        exact ⟨v, t, rfl, (b2.trans (But.of e3)).trans b4, S4, ht, ft.up (by decide) (by decide)⟩
      · intro H3 e3
        exact ⟨v2, t2, rfl, b2.trans (But.of e3), S2.ex e3, ht2.mono (Tk.of e3), f2⟩
    rintro σ' H3 ⟨v3, t3, rfl, b3, S3, ht3, f3⟩
    -- deeper
    show tCut _ _ _ _ H3
    refine q_cut (M := fun σ' H' => ∃ x3 v t, σ' = [some (.ref a), some (.ref d), some v, x3, none, none, none, none, none] ∧ But d H1 H' ∧ DSt K H' d ∧ TyAt H' v t ∧ Fat 40 2000 t) ?_ ?_
    · refine st_ifH (PH := fun _ H' => But d H3 H' ∧ DSt K H' d) (fun Q1 q1 => take_eqH (val_var rfl) val_c S3 (by decide) (by decide) _ fun b H' b4 S4 => q1 _ _ ⟨b4, S4⟩) ?_ ?_
      · rintro H4 ⟨b4, S4⟩
        refine e_forRH (PV := fun v H' => ∃ n : Nat, v = .int (n : Int) ∧ n ≤ 34 ∧ But d H4 H' ∧ DSt K H' d) (fun Q1 q1 => val_c _ (valH_take (val_var rfl) val_c S4 (by decide) (by decide) _ ?_)) ?_
        · rintro _ H5 ⟨i, rfl, i0, i1, b5, S5⟩
          exact ⟨26, i, rfl, rfl, q1 _ _ ⟨(26 + i).toNat, by rw [Int.toNat_of_nonneg (by omega)], by omega, b5, S5⟩⟩
        · rintro _ H5 ⟨n, rfl, hn, b5, S5⟩
          refine ⟨(n : Int), rfl, by omega, by omega, fun i σ' H' => ∃ x3 v t, σ' = [some (.ref a), some (.ref d), some v, x3, none, none, none, none, none] ∧ But d H1 H' ∧ DSt K H' d ∧ TyAt H' v t ∧ Fat (5 + i) (1555 + 3 * i) t, ⟨none, v3, t3, rfl, (b3.trans b4).trans b5, S5, (ht3.mono (b4.tk S3)).mono (b5.tk S4), f3⟩, ?_, ?_⟩
          · rintro i σ' H6 hi ⟨x3, v, t, rfl, b6, S6, ht, ft⟩
            refine st_ifH (PH := fun _ H' => But d H6 H' ∧ DSt K H' d) (fun Q1 q1 => take_eqH (val_var rfl) val_c S6 (by decide) (by decide) _ fun b H' b4 S4 => q1 _ _ ⟨b4, S4⟩) ?_ ?_
            · rintro H7 ⟨b7, S7⟩
              refine e_setH (valH_wrapL (i := 2) rfl (ht.mono (b7.tk S6))) ?_
              rintro u H8 ⟨e8, hu⟩
              exact ⟨_, u, _, rfl, (b6.trans b7).trans (But.of e8), S7.ex e8, hu, (ft.lst (by decide +kernel)).up (by omega) (by omega)⟩
            · rintro H7 ⟨b7, S7⟩
              refine e_setH (valH_wrapF (i := 2) rfl (ht.mono (b7.tk S6))) ?_
              rintro u H8 ⟨e8, hu⟩
              exact ⟨_, u, _, rfl, (b6.trans b7).trans (But.of e8), S7.ex e8, hu, (ft.fn (by decide +kernel)).up (by omega) (by omega)⟩
          · rintro σ' H6 ⟨x3, v, t, rfl, b6, S6, ht, ft⟩
            exact ⟨x3, v, t, rfl, b6, S6, ht, ft.up (by omega) (by omega)⟩
      · rintro H4 ⟨b4, S4⟩
        exact ⟨none, v3, t3, rfl, b3.trans b4, S4, ht3.mono (b4.tk S3), f3.up (by decide) (by decide)⟩
    rintro σ' H4 ⟨x3, tv, t, rfl, b4, S4, ht4, ft⟩
    have T4 : TabsN (tabI Pt) H4 := tabs_but b4 S1 T1
    have hsz : t.sz ≤ 2000 := ft.s
    have hdp : t.dp 42 := dp_of_dpt 42 t (by have := ft.d; omega)
    -- found
    refine n_setH (PV := fun v H' => ∃ l, v = .ref l ∧ Ex H4 H' ∧ H' l = some (.lst ((t.vs []).map kV))) (fun Q1 q1 => ?_) ?_
    · refine valH_call2 (PA := fun x H' => x = tv ∧ H' = H4) (PB := fun x y H' => ∃ l, y = .ref l ∧ H4 l = none ∧ H' = upd H4 l (.lst [])) (PV := fun v H' => ∃ l, v = .ref l ∧ Ex H4 H' ∧ H' l = some (.lst ((t.vs []).map kV))) (vh (val_var rfl)) ?_ ?_ Q1 q1
      · rintro _ _ ⟨rfl, rfl⟩
        exact valH_lstA va_nil (Nat.zero_le _)
      · rintro x _ _ _ ⟨hx, rfl⟩ ⟨l, rfl, hl, rfl⟩ Q2 q2
        exact ⟨x, t, l, [], rfl, by rw [hx]; exact ht4.mono (Tk.of (Ex.new hl)), hdp, by simp; omega, upd_same, fun H' b hl' => q2 _ _ ⟨l, rfl, ex_bul hl b, hl'⟩⟩
    rintro _ H5 ⟨l, rfl, e5, hl5⟩
    have hnd : (t.vs []).Nodup := Ty.vs_nodup t [] List.nodup_nil
    have hin : ∀ k ∈ t.vs [], k ∈ lets 26 := fun k hk => ft.h k (vs_has hk)
    have n26 : (t.vs []).length ≤ 26 := by
      have := nodup_le hnd hin
      rw [lets_len (Nat.le_refl _)] at this
      exact this
    generalize hF : t.vs [] = F at hl5 hnd hin n26
    have hasF : ∀ k, Ty.has k t → k ∈ F := fun k hk => hF ▸ has_vs hk
    -- scheme
    refine n_setH (valH_pairV (valH_tupV (val_var rfl) hl5) fun _ _ _ => val_var rfl) ?_
    rintro _ _ ⟨_, _, sp, ⟨la, rfl, hla, rfl⟩, rfl, hsp, rfl⟩
    have e6 : Ex H5 (upd (upd H5 la (.tup (F.map kV))) sp (.tup [.ref la, tv])) := (Ex.new hla).trans (Ex.new hsp)
    have hsp6 : upd (upd H5 la (.tup (F.map kV))) sp (.tup [.ref la, tv]) sp = some (.tup [.ref la, tv]) := upd_same
    generalize upd (upd H5 la (.tup (F.map kV))) sp (.tup [.ref la, tv]) = H6 at e6 hsp6
    have T6 : TabsN (tabI Pt) H6 := (T4.ext e5).ext e6
    have ht6 := (ht4.mono (Tk.of e5)).mono (Tk.of e6)
    have hl6 := e6 _ _ hl5
    -- try
    refine (show Val (tVar 5) _ H6 (.ref sp) from val_var rfl) _ ⟨sp, .ref la, tv, t, rfl, hsp6, ht6, by omega, T6, fun hd av H7 e7 T7 hav => ?_, fun h30 H7 e7 => ⟨true, ll, fun _ ea _ => ⟨rfl, rfl, tv, t, rfl, rfl, ht6.mono (extn_tk e7), h30, ft.d, by omega, fun H' _ => q H'⟩, fun h => Bool.noConfusion h⟩⟩
    have k7 := extn_tk e7
    have ht7 := ht6.mono k7
    have hl7 : H7 l = some (.lst (F.map kV)) := e7 _ _ hl6 (fun _ z => by cases z)
    have hd29 : t.dep 29 := dep_of_dpt 29 t hd
    have shs := shaped_syn ft.o hd29 (Nat.le_refl _)
    dsimp only [gName]
    -- if _law_depth(ty) > 30 or actual != _law_syntax(ty)
    refine n_whenH (b := true) (PH := fun b H' => b = false ∧ Ex H7 H') (fun Q1 q1 => ?_) (fun H' p => Bool.noConfusion p.1) ?_
    · have hdep : ValH (tCall (spLDepth 42) [] E0 (tCons (tVar 2) tNil)) [some (.ref a), some (.ref d), some tv, x3, some (.ref l), some (.ref sp), some av, none, none] H7 (fun v H' => v = .int (t.dpt : Int) ∧ Ex H7 H') := valH_call1 (vh (val_var rfl)) fun x H' hx Q2 q2 => ⟨tv, t, by rw [hx.1], by rw [hx.2]; exact ht7, hdp, by omega, fun H3 e3 => q2 _ _ ⟨rfl, by rw [hx.2] at e3; exact e3⟩⟩
      refine hdep _ ?_
      rintro _ H8 ⟨rfl, e8⟩
      refine ⟨(t.dpt : Int), 30, rfl, rfl, false, congrArg V.bl (decide_eq_false (by omega)), ?_⟩
      refine neD_H (K := K) (x := av) (d := t.sdata) (PV := fun y H' => Ex H8 H' ∧ SyAt H' y t) (val_var rfl) (valH_call1 (vh (val_var rfl)) fun x H' hx Q2 q2 => ⟨tv, t, by rw [hx.1], by rw [hx.2]; exact ht7.mono (Tk.of e8), hdp, by omega, fun v H3 e3 g => q2 _ _ ⟨by rw [hx.2] at e3; exact e3, g⟩⟩) (fun y H' p => ⟨((hav.mono (Tk.of e8)).mono (Tk.of p.1)).dp, p.2.dp⟩) shs fun y H' p => q1 _ _ ⟨rfl, e8.trans p.1⟩
    rintro H8 ⟨_, e8⟩
    have ht8 := ht7.mono (Tk.of e8)
    have hl8 := e8 _ _ hl7
    have hav8 := hav.mono (Tk.of e8)
    have T8 := T7.ext e8
    have ln := lets_len n26
    -- due
    refine n_setH (PV := fun v H' => Ex H8 H' ∧ ∃ p c rv, v = .ref p ∧ H' p = some (.tup [.ref c, rv]) ∧ H' c = some (.tup ((lets F.length).map kV)) ∧ TyAt H' rv (closeT t)) (vimp (valH_pair (PA := fun x H' => ∃ c, x = .ref c ∧ Ex H8 H' ∧ H' c = some (.tup ((lets F.length).map kV))) (PB := fun x y H' => ∃ c, x = .ref c ∧ Ex H8 H' ∧ H' c = some (.tup ((lets F.length).map kV)) ∧ TyAt H' y (closeT t)) ?_ ?_) ?_) ?_
    · intro Q2 q2
      refine cb1 (lc_exR (R := fun _ y k => y = kV k) (rs := lets F.length) (fun _ _ _ _ _ h => h) (Val.is (val_lenL (val_var rfl) (SqL.of hl8)) (by rw [ln, List.length_map])) (by omega) (fun j r hr H' e Q3 q3 => ?_)) ?_
      · obtain ⟨c, hc, rfl⟩ := lets_at2 hr
        exact val_ixS val_c (val_var rfl) (size_line (by decide +kernel)) (atI_nat hc) _ (q3 _ _ (.refl _) rfl)
      · rintro _ H' ⟨L, ys, rfl, _, e, hL, pys⟩
        rw [keys_of pys] at hL
        exact ⟨L, _, rfl, .inl ⟨SqL.of hL, fun c hc => q2 _ _ ⟨c, rfl, e.trans (Ex.new hc), upd_same⟩⟩⟩
    · rintro _ H' ⟨c, rfl, e, hc⟩ Q2 q2
      refine c2 (x := tv) (y := .ref l) (val_var rfl) (val_var rfl) ⟨tv, t, l, F, rfl, ht8.mono (Tk.of e), hdp, by omega, e _ _ hl8, hasF, n26, fun v' H2 e2 g => q2 _ _ ⟨c, rfl, e.trans e2, e2 _ _ hc, ?_⟩⟩
      unfold closeT
      rw [hF]
      exact g
    · rintro _ _ ⟨x, Ha, y, Hb, p, _, ⟨c, rfl, e, hc, hy⟩, rfl, hp, rfl⟩
      have e3 := Ex.new (o := .tup [.ref c, y]) hp
      exact ⟨e.trans e3, p, c, y, rfl, upd_same, e3 _ _ hc, hy.mono (Tk.of e3)⟩
    rintro _ H9 ⟨e9, dp, dc, rv, rfl, hdp9, hdc9, hrv9⟩
    have hdue : SchemeAt H9 (.ref dp) (lets F.length) (closeT t) := ⟨dp, dc, rv, rfl, hdp9, hdc9, hrv9⟩
    have hpm : ∀ k, Ty.has k t → ∃ b, pickT F ((lets F.length).map Ty.var) k = .var b ∧ b ∈ lets F.length := fun k hk => by
      obtain ⟨b, hb, eb⟩ := pickT_mem (A := lets F.length) (hasF k hk) ln.symm
      exact ⟨b, eb, hb⟩
    have hcl : closeT t = t.bind (pickT F ((lets F.length).map Ty.var)) := by
      unfold closeT
      rw [hF]
    have hcd : (closeT t).dpt ≤ 30 := by
      rw [hcl, dpt_bind fun k hk => ⟨_, (hpm k hk).choose_spec.1⟩]
      exact hd
    have hcs : (closeT t).sz ≤ 2000 := by
      rw [hcl]
      have := Ty.sz_bind (f := pickT F ((lets F.length).map Ty.var)) (c := 1) (by decide) t fun k hk => by
        obtain ⟨b, eb, _⟩ := hpm k hk
        rw [eb, Ty.sz_var]
        exact Nat.le_refl _
      omega
    have hco : Ty.ok (closeT t) := by
      rw [hcl]
      refine Ty.ok_bind ft.o fun k hk => ?_
      obtain ⟨b, eb, hb⟩ := hpm k hk
      rw [eb]
      refine okvar (lets_ok b ?_)
      obtain ⟨j, hj, ej⟩ := List.getElem_of_mem hb
      have hb2 : (lets F.length)[j]? = some b := by rw [List.getElem?_eq_getElem hj, ej]
      obtain ⟨c, hc, rfl⟩ := lets_at2 hb2
      exact low_key (List.mem_of_getElem? hc)
    have hag := close_again (t := t) (A := lets F.length) (lets_nd _) (by rw [hF, ln])
    rw [hF, ← hcl] at hag
    obtain ⟨hcv, hcc⟩ := hag.resolve_right (by rw [ln]; omega)
    rw [ln, ← hcl] at hcc
    have hcd29 : (closeT t).dep 29 := dep_of_dpt 29 _ hcd
    have hcdp : (closeT t).dp 42 := dp_of_dpt 42 _ (by omega)
    have shp := shaped_scheme (ks := lets F.length) hco hcd29 (Nat.le_refl _) (fun k hk => by
      obtain ⟨j, hj, ej⟩ := List.getElem_of_mem hk
      have hb2 : (lets F.length)[j]? = some k := by rw [List.getElem?_eq_getElem hj, ej]
      obtain ⟨c, hc, rfl⟩ := lets_at2 hb2
      exact lets_ok _ (low_key (List.mem_of_getElem? hc)))
    have shc := shaped_syn hco hcd29 (Nat.le_refl _)
    have T9 := T8.ext e9
    have syn : ∀ {H' : Hp}, Tk H9 H' → ValH (tCall (spLSyn 42) [] E0 (tCons (tOp (rIxT K) (tVar 8) (tC (.int 1))) tNil)) [some (.ref a), some (.ref d), some tv, x3, some (.ref l), some (.ref sp), some av, none, some (.ref dp)] H' (fun v H2 => Ex H' H2 ∧ SyAt H2 v (closeT t)) := fun {H'} k => valH_call1 (vh (val_ixT (val_var rfl) val_c (SqT.of (k _ _ hdp9)) (atI_nat (j := 1) rfl))) fun x H1 hx Q2 q2 => ⟨rv, closeT t, by rw [hx.1], by rw [hx.2]; exact hrv9.mono k, hcdp, by omega, fun v H3 e3 g => q2 _ _ ⟨by rw [hx.2] at e3; exact e3, g⟩⟩
    -- the three
    refine ret_and (eqD_H (PA := fun v H' => ExtN H9 H' ∧ TabsN (tabI Pt) H' ∧ SchemeAt H' v (lets F.length) (closeT t)) (PB := fun x y H' => y = .ref dp ∧ ExtN H9 H' ∧ TabsN (tabI Pt) H' ∧ SchemeAt H' x (lets F.length) (closeT t)) (valH_call1 (vh (val_var rfl)) fun x H1 hx Q2 q2 => ⟨av, t, by rw [hx.1], by rw [hx.2]; exact hav8.mono (Tk.of e9), hd, by rw [hF]; exact n26, by omega, by rw [hx.2]; exact T9, fun v H2 e2 T2 g => q2 _ _ ⟨by rw [hx.2] at e2; exact e2, T2, by rw [hF] at g; exact g⟩⟩) (fun x H1 p => vimp (vh (val_var rfl)) fun y H2 h2 => ⟨h2.1, by rw [h2.2]; exact p.1, by rw [h2.2]; exact p.2.1, by rw [h2.2]; exact p.2.2⟩) fun x _ y H10 _ p => ⟨_, p.2.2.2.dp, by rw [p.1]; exact (hdue.mono (extn_tk p.2.1)).dp, shp, true, rfl, ?_⟩)
    obtain ⟨_, e10, T10, _⟩ := p
    have k10 := extn_tk e10
    refine and_go (eqD_H (PA := fun v H' => ExtN H10 H' ∧ TabsN (tabI Pt) H' ∧ SyAt H' v (closeT t)) (PB := fun x y H' => ExtN H10 H' ∧ TabsN (tabI Pt) H' ∧ SyAt H' x (closeT t) ∧ SyAt H' y (closeT t)) (valH_call1 (vh (val_var rfl)) fun x H1 hx Q2 q2 => ⟨dp, .ref dc, rv, closeT t, by rw [hx.1], by rw [hx.2]; exact k10 _ _ hdp9, by rw [hx.2]; exact hrv9.mono k10, by omega, by rw [hx.2]; exact T10, fun _ v H2 e2 T2 g => q2 _ _ ⟨by rw [hx.2] at e2; exact e2, T2, g⟩, fun h30 => by omega⟩) (fun x H1 p => vimp (syn (k10.trans (extn_tk p.1))) fun y H2 h2 => ⟨p.1.trans (extn_of h2.1), p.2.1.ext h2.1, p.2.2.mono (Tk.of h2.1), h2.2⟩) fun x _ y H11 _ p => ⟨_, p.2.2.1.dp, p.2.2.2.dp, shc, true, rfl, ?_⟩)
    obtain ⟨e11, T11, _, _⟩ := p
    have k11 := k10.trans (extn_tk e11)
    refine eqD_H (PA := fun v H' => Tk H9 H' ∧ SchemeAt H' v (lets F.length) (closeT t)) (PB := fun x y H' => y = .ref dp ∧ Tk H9 H' ∧ SchemeAt H' x (lets F.length) (closeT t)) (valH_call1 (syn k11) fun x H1 hx Q2 q2 => ⟨x, closeT t, rfl, hx.2, hcd, by rw [hcv, ln]; exact n26, by omega, T11.ext hx.1, fun v H2 e2 T2 g => q2 _ _ ⟨(k11.trans (Tk.of hx.1)).trans (extn_tk e2), by rw [hcv, hcc, ln] at g; exact g⟩⟩) (fun x H1 p => vimp (vh (val_var rfl)) fun y H2 h2 => ⟨h2.1, by rw [h2.2]; exact p.1, by rw [h2.2]; exact p.2⟩) fun x _ y H12 _ p => ⟨_, p.2.2.dp, by rw [p.1]; exact (hdue.mono p.2.1).dp, shp, q H12⟩
end
/-! ### _law_depth while an exception is handled; the except suite -/
open NdefX LamX CLO L2H
structure CanH (P : Program) (w : World) (K : PySem.W.Frag) (mg : Str → Option Value) (base : Heap) (k : Nat) (x : Str) (ps : List Str) (sp : Sp) : Prop where
  ex : ∃ (f : Addr) (fd : FuncData), FnH P w K mg base CX0 k f fd ps sp ∧ mg x = some (.ref f) ∧ PySem.W.keepIn K (.ref f) = true ∧ Binds K fd ps []
theorem At.canH {P : Program} {w : World} {K : PySem.W.Frag} {mg : Str → Option Value} {base : Heap} {x : Str} {st : Stmt} {N ps : List Str} {k : Nat} {sp : Sp} (D : At K mg x st ps) (S : FnScope N ps (defScope st)) (len : ∀ vs H Q E, sp vs H Q E → vs.length = ps.length)
    (hbody : ∀ (f : Addr) (cdv : Value) (A : Around) (outer : List Env) (s : Shared) (H : Hp) (vs : List V) (Q : VK) (E : XK) (p : Addr × Obj), Hot1 A p → RoomH k (A.deeper (envOfC x (defScope st) s.heap.objs.size f cdv)) → sp vs H Q E →
      ∃ t, PSs (cxH CX0 P w K mg base N x (defScope st) f cdv A outer s H E p) (defBody st) t ∧ t { nx := fun _ H' => Q .non H', rt := Q } (L2.start N vs) H) : CanH P w K mg base (k + 1) x ps sp := by
  obtain ⟨f, fd, F, a, b⟩ := D.ex
  obtain ⟨oc, od, kV, doc, pm, an, cdv, ct, osl, rfl, lk, hcd⟩ := F.ex
  exact ⟨f, _, fn_ofH lk hcd S len fun A outer s H vs Q E p hp hr h => hbody f cdv A outer s H vs Q E p hp hr h, a, F.kp, b⟩
section
variable {X : Cx} {k : Nat} {x : Str} {ps : List Str} {sp : Sp} {e : Expr} {es : List Expr} {t : TA} {p pos : Pos}
abbrev E00 : L2.St → XK := fun _ _ _ _ => False
theorem pe_canH (C : CanH X.prog X.w X.K X.mg X.base k x ps sp) (hr : RoomH k X.A) (hot : HotC X) (hg : Gl X x) (ha : PA X (e :: es) t)
    (hdb : (x == ("__debug__" : Str)) = false := by decide) (he : starEach (e :: es) X.env = (false, eval e X.env) :: starEach es X.env := by rfl) (hpl : (backTo pos (starEach es X.env)).any (·.1) = false := by rfl) :
    PE X (.Call (.Name x p) (e :: es) [] pos) (L2.tCallS sp E00 t) := by
  obtain ⟨f, fd, F, a, b, c⟩ := C.ex
  exact pe_callH F hr hot hg a b c (fun σ _ _ _ _ _ _ h => h.elim) ha hdb he hpl
end
theorem valH_callS1 {σ : L2.St} {H : Hp} {ta : TE} {sp : Sp} {E : L2.St → XK} {PA PV : V → Hp → Prop} (ha : ValH ta σ H PA) (h : ∀ x H1, PA x H1 → ∀ Q : VK, (∀ v H', PV v H' → Q v H') → sp [x] H1 Q (E σ)) : ValH (L2.tCallS sp E (tCons ta tNil)) σ H PV := fun Q q => ha _ fun x H1 pa => h x H1 pa Q q
section
variable {P : Program} {w : World} {K : PySem.W.Frag} {mg : Str → Option Value} {base : Heap}
theorem can_hdepth {lim : Addr} (D : At K mg "_law_depth" s_ldepth ["ty"]) (T : Bt mg) (TL : LimT K mg lim) : ∀ n, CanH P w K mg base (n + 1) "_law_depth" ["ty"] (spLDepth n) := by
  have sc := sc_ldepth
  intro n
  induction n with
  | zero => exact D.canH sc (fun vs H Q E ⟨_, _, _, _, h, _⟩ => h.elim) (fun f cdv A outer s H vs Q E p hp hr ⟨_, _, _, _, h, _⟩ => h.elim)
  | succ n C__law_depth =>
    refine D.canH sc (fun vs H Q E h => ?_) (fun f cdv A outer s H vs Q E hx hxp hr h => ?_)
    · obtain ⟨v, t, rfl, _⟩ := h
      rfl
    · obtain ⟨v, t, rfl, ht, hdp, hsz, q⟩ := h
      have hu : (A.deeper (envOfC "_law_depth" (defScope s_ldepth) s.heap.objs.size f cdv)).units + 1 < cLine := by
        have := hr.un
        omega
      have hot : HotC (cxH CX0 P w K mg base ["ty", "part"] "_law_depth" (defScope s_ldepth) f cdv A outer s H E hx) := ⟨hx, hxp, List.mem_singleton.mpr rfl⟩
      refine ⟨_, (pss_cons (ps_if (pt_cmpR op_eq (pe_ix ix_tup (pv 0) pe_int (fun _ _ => rfl)) pe_str (nomark _)) (pss_one (ps_ret pe_int)) pss_nil)
    (pss_cons (ps_if (pt_cmpR op_eq (pe_ix ix_tup (pv 0) pe_int (fun _ _ => rfl)) pe_str (nomark _)) (pss_one (ps_ret (pe_op op_add pe_int (pe_callB (HW.call_max2H hot) (by rfl) TL.n_max (by decide +kernel) (pa_cons (pe_canH C__law_depth (hr.mono (by omega)) hot rfl (pa_cons (pe_ix ix_tup (pv 0) pe_int (fun _ _ => rfl)) pa_nil)) (pa_cons (pe_canH C__law_depth (hr.mono (by omega)) hot rfl (pa_cons (pe_ix ix_tup (pv 0) pe_int (fun _ _ => rfl)) pa_nil)) pa_nil)))))) pss_nil)
    (pss_one (ps_ret (pe_op op_add pe_int (pe_callBK (ks := ["default"]) (HW.call_maxDefH hot hu) (by rfl) TL.n_max (by rfl) (pa_cons (HW.pe_lcH (own := [("part", 1)]) (g := gName 1) hot sc.nd (HW.pi_tupH (pe_ix ix_tup (pv 0) (pe_un un_neg pe_int) (fun _ _ => rfl))) (blkOk_by (N := ["ty", "part"]) (sc := defScope s_ldepth) (by decide +kernel)) (fun _ _ _ _ _ => pg_name (i := 1) sc.nd rfl (Or.inl rfl)) (fun _ _ _ _ _ => (pe_canH C__law_depth (hr.mono (by omega)) (HW.hot_blk hot) rfl (pa_cons (pv 1) pa_nil)))) pa_nil) (pk_cons pe_int pk_nil))))))), ?_⟩
      show tSeq _ _ _ [some v, none] H
      cases t with
      | var k =>
        cases ht with
        | var h =>
          refine n_when (b := true) (ans_tag rfl h (by decide)) (fun _ => ?_) (fun h => Bool.noConfusion h)
          have := q H (.refl _)
          rw [dpt_var] at this
          exact e_ret val_c this
      | node hd ts =>
        have hlen := len_parts_lt rfl hsz
        have hdp : ∀ t ∈ ts, t.dp n := hdp
        have hzz : ∀ t ∈ ts, t.sz ≤ 100000 := fun t h => sz_le_mem (t := .node hd ts) h hsz
        have hx := ht.node
        have hz := dpt_node hd ts
        by_cases hf : hd = .fn
        · subst hf
          cases hx with
          | @fn p va vb a b h r =>
            cases r with
            | cons ra r =>
              cases r with
              | cons rb r =>
                cases r
                refine n_when (b := false) (ans_tag rfl h (by decide)) (fun h => Bool.noConfusion h) fun _ => ?_
                refine n_when (b := true) (ans_tag rfl h (by decide)) (fun _ => ?_) (fun h => Bool.noConfusion h)
                refine ret_opC ?_
                refine cb2 (PA := fun x H1 => x = .int (a.dpt : Int) ∧ Ex H H1) (PB := fun x y H2 => x = .int (a.dpt : Int) ∧ y = .int (b.dpt : Int) ∧ Ex H H2) ?_ ?_ ?_
                · exact valH_callS1 (vh (val_it1 rfl h)) fun x H1 hx Q1 q1 => ⟨va, a, by rw [hx.1], by rw [hx.2]; exact ra, hdp _ (by simp), hzz _ (by simp), fun H' e => q1 _ _ ⟨rfl, by rw [hx.2] at e; exact e⟩⟩
                · rintro x H1 ⟨rfl, e1⟩
                  exact valH_callS1 (vh (val_it2 rfl (e1 _ _ h))) fun y H2 hy Q1 q1 => ⟨vb, b, by rw [hy.1], by rw [hy.2]; exact rb.mono (Tk.of e1), hdp _ (by simp), hzz _ (by simp), fun H' e => q1 _ _ ⟨rfl, rfl, e1.trans (by rw [hy.2] at e; exact e)⟩⟩
                · rintro _ _ _ H2 _ ⟨rfl, rfl, e2⟩
                  refine ⟨_, _, rfl, 1, _, rfl, rfl, ?_⟩
                  have := q H2 e2
                  have e0 : ((Ty.node .fn [a, b]).dpt : Int) = 1 + (if (b.dpt : Int) > (a.dpt : Int) then (b.dpt : Int) else (a.dpt : Int)) := by
                    rw [hz]
                    show ((1 + max a.dpt (max b.dpt 0) : Nat) : Int) = _
                    split <;> omega
                  rw [e0] at this
                  exact this
        · obtain ⟨p, qa, s, r, ws, j, rfl, h, t1, t2, hat, hq, hts⟩ := last_at hx hf
          refine n_when (b := false) (ans_tag rfl h t1) (fun h => Bool.noConfusion h) fun _ => ?_
          refine n_when (b := false) (ans_tag rfl h t2) (fun h => Bool.noConfusion h) fun _ => ?_
          refine ret_opC ?_
          refine ckw1 (lc_intsT (f := fun u => (u.dpt : Int)) (val_ixT (val_var rfl) (val_neg val_c) (SqT.of h) hat) hq hts hlen fun x u H' hu hxu Q1 q1 => val_var rfl _ ⟨x, u, rfl, hxu, hdp _ hu, hzz _ hu, fun H2 e2 => q1 H2 e2⟩) ?_
          rintro _ H1 ⟨D, rfl, e, hD⟩
          have q1 := q H1 e
          refine ⟨D, _, 0, rfl, rfl, SqL.of hD, fun e0 => ⟨1, 0, rfl, rfl, ?_⟩, fun m hm hy => ⟨1, m, rfl, rfl, ?_⟩⟩
          · have : ts = [] := List.map_eq_nil_iff.mp e0
            rw [hz, this] at q1
            exact q1
          · rw [maxl_is hm hy]
            rw [hz] at q1
            have e0 : ((1 + maxl (ts.map fun t => t.dpt) : Nat) : Int) = 1 + ((maxl (ts.map fun t => t.dpt) : Nat) : Int) := by omega
            rw [e0] at q1
            exact q1
end
/-! ### the except suite -/
open NdefX LamX CLO L2H
section
variable {P : Program} {w : World} {K : PySem.W.Frag} {mg : Str → Option Value} {base : Heap}
theorem su15 {lim : Addr} (T : Bt mg) (TL : LimT K mg lim) (limE : ExcC K lim) (gG : ∃ Gc : Addr, mg "GuanacoError" = some (.ref Gc) ∧ PySem.W.kitOne K (.ref lim) (.ref Gc) = some true) (gC : ∃ Cc : Addr, mg "CheckError" = some (.ref Cc) ∧ PySem.W.kitOne K (.ref lim) (.ref Cc) = some false)
    (C : CanH P w K mg base 43 "_law_depth" ["ty"] (spLDepth 42)) (f : Addr) (cdv : Value) (A : Around) (outer : List Env) (s : Shared) (H : Hp) (E : XK) (hr : Room 44 (A.deeper (envOfC "law" (defScope s_law) s.heap.objs.size f cdv))) (a : Addr) (oe : Obj) (cls : Value) (d : Option Addr) (pn : List (Addr × Obj)) (hz : L2N.Zn cls d oe) (hf : ∃ vs, oe.data = .fields vs) :
    PSs ((cxOf CX0 P w K mg base ["script", "d", "ty", "k", "found", "scheme", "actual", "e", "due"] "law" (defScope s_law) f cdv A outer s H E).nox.suite a ((a, oe) :: pn)) suite15 (tSu lim a cls d) := by
  refine ⟨fun pins s1 σ H1 D I h => ?_⟩
  obtain ⟨rfl, rfl, tv, t, h2, h7, ht, h30, h40, hsz, q⟩ := h
  obtain ⟨Gc, mG, kG⟩ := gG
  obtain ⟨Cc, mC, kC⟩ := gC
  have hot : HotC ((cxOf CX0 P w K mg base ["script", "d", "ty", "k", "found", "scheme", "actual", "e", "due"] "law" (defScope s_law) f cdv A outer s H E).nox.suite a ((a, oe) :: pn)) := by
    obtain ⟨vs, hd⟩ := hf
    exact ⟨(a, oe), ⟨rfl, vs, hd, hz.2.2 vs hd⟩, List.mem_cons_self ..⟩
  have rh : RoomH 43 ((cxOf CX0 P w K mg base ["script", "d", "ty", "k", "found", "scheme", "actual", "e", "due"] "law" (defScope s_law) f cdv A outer s H E).nox.suite a ((a, oe) :: pn)).A := ⟨by have := hr.dp; show (A.deeper (envOfC "law" (defScope s_law) s.heap.objs.size f cdv)).depth + 3 * 43 + 5 < _; omega, by have := hr.un; show (A.deeper (envOfC "law" (defScope s_law) s.heap.objs.size f cdv)).units + 16 * 43 + 200 < _; omega⟩
  refine (show PSs ((cxOf CX0 P w K mg base ["script", "d", "ty", "k", "found", "scheme", "actual", "e", "due"] "law" (defScope s_law) f cdv A outer s H E).nox.suite a ((a, oe) :: pn)) suite15 _ from pss_one (ps_ret (pe_and (pe_cmpR op_gt (pe_canH C rh hot rfl (pa_cons (pv 2) pa_nil)) pe_int (nomark _)) (pe_and (pe_callB (call_isE limE hz.zc hf) (by rfl) T.n_isinstance (by decide +kernel) (pa_cons (pv 7) (pa_cons (pe_gr rfl mG) pa_nil))) (pe_one (pe_not (pe_callB (call_isE limE hz.zc hf) (by rfl) T.n_isinstance (by decide +kernel) (pa_cons (pv 7) (pa_cons (pe_gr rfl mC) pa_nil))))))))).run pins s1 σ H1 D I ?_
  refine ret_and ?_
  have hdep : ValH (L2.tCallS (spLDepth 42) E00 (tCons (tVar 2) tNil)) σ H1 (fun v H' => v = .int (t.dpt : Int) ∧ Ex H1 H') := valH_callS1 (vh (val_var h2)) fun x H' hx Q2 q2 => ⟨tv, t, by rw [hx.1], by rw [hx.2]; exact ht, dp_of_dpt 42 t (by omega), hsz, fun H3 e3 => q2 _ _ ⟨rfl, by rw [hx.2] at e3; exact e3⟩⟩
  refine hdep _ ?_
  rintro _ H2 ⟨rfl, e2⟩
  refine ⟨(t.dpt : Int), 30, rfl, rfl, true, congrArg V.bl (decide_eq_true (by omega)), ?_⟩
  rw [if_pos rfl]
  refine and_go ?_
  refine ⟨.ref a, h7, .ref Gc, .ref Gc, true, rfl, fun u h => h, kG, true, rfl, ?_⟩
  rw [if_pos rfl]
  exact ⟨.ref a, h7, .ref Cc, .ref Cc, false, rfl, fun u h => h, kC, false, rfl, q H2 e2⟩
end
/-! ### the end -/
open NdefX LamX CLO
theorem kit_own {K : PySem.W.Frag} {t : Value} {C : Addr} {b : Bool} (ne : (t == .ref C) = false) (hd : PySem.W.hasDictIn K C = true) (ht : PySem.W.typeIn K (.ref C) = some (.type "type")) (h : PySem.W.subIn K t (.ref C) = some b) : PySem.W.kitOne K t (.ref C) = some b := by
  obtain ⟨cd, hc, _⟩ := PySem.W.any_some hd
  unfold PySem.W.kitOne PySem.W.kitCls
  rw [if_neg (by rw [ne]; exact Bool.false_ne_true)]
  dsimp only
  rw [if_pos (by rw [hc, ht]; rfl)]
  exact h
section
variable {w : World} {K : PySem.W.Frag} {h : Heap} {mg : Str → Option Value}
theorem at_mk (X : K.In h) (G : h.Ns mainGlobals mg) {x : Str} {st : Stmt} {ps : List Str} {f : Addr} {oc : Value} {od an : Option Addr} {osl : Array (Option Value)} {kV doc pm cdv ct : Value}
    (hb : ∀ (kV doc pm : Value) (an : Option Addr) (cdv ct : Value) (us : List Value), us.length = ps.length → bindArgs (PySem.W.fnOf x x (defArgs st) (defBody st) (defScope st) .none kV doc pm an cdv ct) ⟨us, []⟩ = pure (ps.zip us))
    (a : PySem.W.nsIn K mainGlobals x = some (some (.ref f))) (l : K.lookup f = some ⟨oc, od, .func (PySem.W.fnOf x x (defArgs st) (defBody st) (defScope st) .none kV doc pm an cdv ct), osl⟩)
    (c : PySem.W.codeIn K cdv x = true) (k : PySem.W.keepIn K (.ref f) = true) : At K mg x st ps := ⟨f, _, fun_mk l c k, PySem.W.mg_of X G a, (fun_mk l c k).binds hb⟩
theorem atc_mk (X : K.In h) (G : h.Ns mainGlobals mg) {x : Str} {st : Stmt} {ps : List Str} {f c : Addr} {oc : Value} {od an : Option Addr} {osl : Array (Option Value)} {kV doc pm ct : Value}
    (hb : ∀ (kV doc pm : Value) (an : Option Addr) (cdv ct : Value) (us : List Value), us.length = ps.length → bindArgs (PySem.W.fnOf x x (defArgs st) (defBody st) (defScope st) .none kV doc pm an cdv ct) ⟨us, []⟩ = pure (ps.zip us))
    (a : PySem.W.nsIn K mainGlobals x = some (some (.ref f))) (l : K.lookup f = some ⟨oc, od, .func (PySem.W.fnOf x x (defArgs st) (defBody st) (defScope st) .none kV doc pm an (.ref c) ct), osl⟩)
    (cc : PySem.W.codeIn K (.ref c) x = true) (k : PySem.W.keepIn K (.ref f) = true) : AtC K mg x st ps c := ⟨f, oc, od, an, osl, kV, doc, pm, ct, l, cc, k, PySem.W.mg_of X G a, (fun_mk l cc k).binds hb⟩
theorem str_mk (X : K.In h) (G : h.Ns mainGlobals mg) {x z : Str} {tk : Tok} (a : PySem.W.nsIn K mainGlobals x = some (some (.str z tk))) : ∃ tk, mg x = some (.str z tk) := ⟨_, PySem.W.mg_of X G a⟩
theorem int_mk (X : K.In h) (G : h.Ns mainGlobals mg) {x : Str} {i : Int} {tk : Tok} (a : PySem.W.nsIn K mainGlobals x = some (some (.int i tk))) : ∃ tk, mg x = some (.int i tk) := ⟨_, PySem.W.mg_of X G a⟩
end
section
variable {l : PySem.W.OpenLaw} {w : World} {K : PySem.W.Frag} {h : Heap} {mg : Str → Option Value} {fa : Addr}
theorem all_mk15 {cI cS lim : Addr} {Pt : Addr × Addr} (hne : Pt.1 ≠ Pt.2) (T : Bt mg) (TL : LimT K mg lim) (ll : PySem.W.exmOne K (.ref lim) (.ref lim) = some true)
    (limE : ExcC K lim) (gG : ∃ Gc : Addr, mg "GuanacoError" = some (.ref Gc) ∧ PySem.W.kitOne K (.ref lim) (.ref Gc) = some true) (gC : ∃ Cc : Addr, mg "CheckError" = some (.ref Cc) ∧ PySem.W.kitOne K (.ref lim) (.ref Cc) = some false)
    (D_fill : At K mg "_law_fill" s_fill ["d"])
    (D_take : At K mg "_law_take" s_take ["d", "many"])
    (D_start : At K mg "_law_start" s_start ["script"])
    (D_parts : At K mg "parts_of" s_parts ["ty"])
    (D_head : At K mg "head_of" s_head ["ty"])
    (D_build : At K mg "build" s_build ["head", "parts"])
    (D_vars : At K mg "variables" s_vars ["ty"])
    (D_fold : At K mg "fold" s_fold ["ty", "combine"])
    (D_inst : AtC K mg "instance" s_inst ["scheme", "types"] cI)
    (D_close : At K mg "close" s_close ["ty"])
    (D_written : At K mg "written" s_written ["ty", "parts"])
    (D_sch : AtC K mg "scheme_ty" s_sch ["scheme"] cS)
    (D_tys : At K mg "ty_scheme" s_tys ["ty"])
    (D_read : At K mg "read_ty" s_read ["ty"])
    (D_lty : At K mg "_law_ty" s_lty ["d", "depth"])
    (D_lsyn : At K mg "_law_syntax" s_lsyn ["ty"])
    (D_llet : At K mg "_law_letters" s_llet ["ty", "found"])
    (D_lren : At K mg "_law_renamed" s_lren ["ty", "letters"])
    (D_lcount : At K mg "_law_count" s_lcount ["ty"])
    (D_ldepth : At K mg "_law_depth" s_ldepth ["ty"])
    (hT : ∀ p ∈ [(cI, Pt.1), (cS, Pt.2)], h.get? p.2 = some { cls := .none, data := .fields #[] }) (hN : ∀ p ∈ [(cI, Pt.1), (cS, Pt.2)], K.lookup p.2 = none) (hC : ∀ p ∈ [(cI, Pt.1), (cS, Pt.2)], PySem.W.CodeHd h p.1 p.2)
    {f : Addr} {oc : Value} {od an : Option Addr} {osl : Array (Option Value)} {kV doc pm cdv ct : Value} (X : K.In h) (G : h.Ns mainGlobals mg) (hfa : mg "law" = some (.ref fa)) (a : PySem.W.nsIn K mainGlobals "law" = some (some (.ref f)))
    (lk : K.lookup f = some ⟨oc, od, .func (PySem.W.fnOf "law" "law" (defArgs s_law) (defBody s_law) (defScope s_law) .none kV doc pm an cdv ct), osl⟩) (c : PySem.W.codeIn K cdv "law" = true) (k : PySem.W.keepIn K (.ref f) = true) :
    LamX.LawAtS l w K CX0 45 63 "script" mg fa h := by
  have e := hfa.symm.trans (PySem.W.mg_of X G a)
  cases e
  refine ⟨_, [(cI, Pt.1), (cS, Pt.2)], spLaw15 K Pt, hT, hN, hC, fun s v => .of_eq rfl, fun H a ns hl _ hcs hS => ⟨a, ns, rfl, hS, hl, fun p hp => ?_, fun _ => rfl⟩, fun base _ _ TBs => ok_law15 (Pt := Pt) (fun_mk (st := s_law) lk c k) T TL ll (su15 T TL limE gG gC (can_hdepth D_ldepth T TL 42)) ?_ ?_ ?_ ?_ ?_ ?_ ?_ ?_ ?_ ?_⟩
  · have none : ∀ (pos : Pos) (cv : Value), codeAmong pos (#[] : Array Value).toList = some cv → ∃ c, cv = .ref c ∧ H c = some (CodeO c (p.2 pos.line pos.col)) := fun pos cv hc => by unfold codeAmong at hc; cases hc
    rcases List.mem_cons.mp hp with e | hp
    · have e1 : p.1 = Pt.1 := by rw [e]
      exact ⟨#[], by rw [e1]; exact hcs (cI, Pt.1) (List.mem_cons_self ..), trivial, none⟩
    · have e1 : p.1 = Pt.2 := by rw [List.mem_singleton.mp hp]
      exact ⟨#[], by rw [e1]; exact hcs (cS, Pt.2) (List.mem_cons_of_mem _ (List.mem_cons_self ..)), trivial, none⟩
  all_goals
    have C_fill := can_fill (P := l.prog) (w := w) (base := base) D_fill T.toBoD
    have C_take := can_take D_take T.toBoD C_fill
    have TBI := TBs (cI, Pt.1) (List.mem_cons_self ..)
    have TBS := TBs (cS, Pt.2) (List.mem_cons_of_mem _ (List.mem_cons_self ..))
  · exact can_start D_start T.toBoD
  · exact C_take
  · exact can_lty D_lty T C_take 5
  · exact can_lcount D_lcount T 42
  · exact can_llet D_llet T 42
  · exact can_sch hne D_sch TBS T TL (can_written (P := l.prog) (w := w) D_written T) fun R Pr hPr => can_foldV GS.mono hPr D_fold T (can_parts D_parts)
  · exact can_ldepth D_ldepth T TL 42
  · exact can_lsyn D_lsyn T 42
  · exact can_lren D_lren T 42
  · have C_inst := can_inst hne D_inst TBI T (can_build (P := l.prog) (w := w) D_build T) (can_head D_head) fun f => can_fold GB.mono D_fold T (can_parts D_parts)
    exact can_tys D_tys (can_close D_close T (can_vars D_vars T (can_parts D_parts)) C_inst) (can_read D_read T 30)
end
end G


open PySem PySem.W PyProof.Rows in
set_option maxRecDepth 100000 in
set_option maxHeartbeats 0 in
theorem PySem.Challenge.cw_guanaco_k15_schemes_as_syntax_holds : PySem.Challenge.rw_guanaco_k15_schemes_as_syntax.Holds := by
  w_on; o_law; k_head; (case hw => w_witness2)
  k_fill
  refine LamX.walk_ofTs (l := PySem.Challenge.rw_guanaco_k15_schemes_as_syntax) (n := 63) (k := 45) (x := "script") (CX := fun _ => L2.CX0) rfl (by decide) rfl ⟨rfl, by decide, by decide⟩ (fun w h Y => PySem.W.km_in_of Y) ?F (fun _ _ _ _ _ h => h)
  case F =>
    intro w mg fa h Y KX GX hmg
    have hT8 := PySem.W.km_tabs_of Y
    refine' G.all_mk15 (Pt := (?P1, ?P2)) ?w_ne ?q_B ?q_L ?w_ll ?w_E ?w_G ?w_H ?D_fill ?D_take ?D_start ?D_parts ?D_head ?D_build ?D_vars ?D_fold ?D_inst ?D_close ?D_written ?D_sch ?D_tys ?D_read ?D_lty ?D_lsyn ?D_llet ?D_lren ?D_lcount ?D_ldepth ?w_T ?w_N ?w_C KX GX hmg ?w_a ?w_l ?w_c ?w_k
    case D_fill =>
      refine' G.at_mk KX GX (fun _ _ _ _ _ _ us hl => match us, hl with | [_], _ => rfl) ?q_a ?q_l ?q_c ?q_k
      (case q_a => k_is)
      (case q_l => k_is)
      (case q_c => k_is)
      (case q_k => k_is)
    case D_take =>
      refine' G.at_mk KX GX (fun _ _ _ _ _ _ us hl => match us, hl with | [_, _], _ => rfl) ?q_a ?q_l ?q_c ?q_k
      (case q_a => k_is)
      (case q_l => k_is)
      (case q_c => k_is)
      (case q_k => k_is)
    case D_start =>
      refine' G.at_mk KX GX (fun _ _ _ _ _ _ us hl => match us, hl with | [_], _ => rfl) ?q_a ?q_l ?q_c ?q_k
      (case q_a => k_is)
      (case q_l => k_is)
      (case q_c => k_is)
      (case q_k => k_is)
    case D_parts =>
      refine' G.at_mk KX GX (fun _ _ _ _ _ _ us hl => match us, hl with | [_], _ => rfl) ?q_a ?q_l ?q_c ?q_k
      (case q_a => k_is)
      (case q_l => k_is)
      (case q_c => k_is)
      (case q_k => k_is)
    case D_head =>
      refine' G.at_mk KX GX (fun _ _ _ _ _ _ us hl => match us, hl with | [_], _ => rfl) ?q_a ?q_l ?q_c ?q_k
      (case q_a => k_is)
      (case q_l => k_is)
      (case q_c => k_is)
      (case q_k => k_is)
    case D_build =>
      refine' G.at_mk KX GX (fun _ _ _ _ _ _ us hl => match us, hl with | [_, _], _ => rfl) ?q_a ?q_l ?q_c ?q_k
      (case q_a => k_is)
      (case q_l => k_is)
      (case q_c => k_is)
      (case q_k => k_is)
    case D_vars =>
      refine' G.at_mk KX GX (fun _ _ _ _ _ _ us hl => match us, hl with | [_], _ => rfl) ?q_a ?q_l ?q_c ?q_k
      (case q_a => k_is)
      (case q_l => k_is)
      (case q_c => k_is)
      (case q_k => k_is)
    case D_fold =>
      refine' G.at_mk KX GX (fun _ _ _ _ _ _ us hl => match us, hl with | [_, _], _ => rfl) ?q_a ?q_l ?q_c ?q_k
      (case q_a => k_is)
      (case q_l => k_is)
      (case q_c => k_is)
      (case q_k => k_is)
    case D_inst =>
      refine' G.atc_mk KX GX (fun _ _ _ _ _ _ us hl => match us, hl with | [_, _], _ => rfl) ?q_a ?q_l ?q_c ?q_k
      (case q_a => k_is)
      (case q_l => k_is)
      (case q_c => k_is)
      (case q_k => k_is)
    case D_close =>
      refine' G.at_mk KX GX (fun _ _ _ _ _ _ us hl => match us, hl with | [_], _ => rfl) ?q_a ?q_l ?q_c ?q_k
      (case q_a => k_is)
      (case q_l => k_is)
      (case q_c => k_is)
      (case q_k => k_is)
    case D_written =>
      refine' G.at_mk KX GX (fun _ _ _ _ _ _ us hl => match us, hl with | [_, _], _ => rfl) ?q_a ?q_l ?q_c ?q_k
      (case q_a => k_is)
      (case q_l => k_is)
      (case q_c => k_is)
      (case q_k => k_is)
    case D_sch =>
      refine' G.atc_mk KX GX (fun _ _ _ _ _ _ us hl => match us, hl with | [_], _ => rfl) ?q_a ?q_l ?q_c ?q_k
      (case q_a => k_is)
      (case q_l => k_is)
      (case q_c => k_is)
      (case q_k => k_is)
    case D_tys =>
      refine' G.at_mk KX GX (fun _ _ _ _ _ _ us hl => match us, hl with | [_], _ => rfl) ?q_a ?q_l ?q_c ?q_k
      (case q_a => k_is)
      (case q_l => k_is)
      (case q_c => k_is)
      (case q_k => k_is)
    case D_read =>
      refine' G.at_mk KX GX (fun _ _ _ _ _ _ us hl => match us, hl with | [_], _ => rfl) ?q_a ?q_l ?q_c ?q_k
      (case q_a => k_is)
      (case q_l => k_is)
      (case q_c => k_is)
      (case q_k => k_is)
    case D_lty =>
      refine' G.at_mk KX GX (fun _ _ _ _ _ _ us hl => match us, hl with | [_, _], _ => rfl) ?q_a ?q_l ?q_c ?q_k
      (case q_a => k_is)
      (case q_l => k_is)
      (case q_c => k_is)
      (case q_k => k_is)
    case D_lsyn =>
      refine' G.at_mk KX GX (fun _ _ _ _ _ _ us hl => match us, hl with | [_], _ => rfl) ?q_a ?q_l ?q_c ?q_k
      (case q_a => k_is)
      (case q_l => k_is)
      (case q_c => k_is)
      (case q_k => k_is)
    case D_llet =>
      refine' G.at_mk KX GX (fun _ _ _ _ _ _ us hl => match us, hl with | [_, _], _ => rfl) ?q_a ?q_l ?q_c ?q_k
      (case q_a => k_is)
      (case q_l => k_is)
      (case q_c => k_is)
      (case q_k => k_is)
    case D_lren =>
      refine' G.at_mk KX GX (fun _ _ _ _ _ _ us hl => match us, hl with | [_, _], _ => rfl) ?q_a ?q_l ?q_c ?q_k
      (case q_a => k_is)
      (case q_l => k_is)
      (case q_c => k_is)
      (case q_k => k_is)
    case D_lcount =>
      refine' G.at_mk KX GX (fun _ _ _ _ _ _ us hl => match us, hl with | [_], _ => rfl) ?q_a ?q_l ?q_c ?q_k
      (case q_a => k_is)
      (case q_l => k_is)
      (case q_c => k_is)
      (case q_k => k_is)
    case D_ldepth =>
      refine' G.at_mk KX GX (fun _ _ _ _ _ _ us hl => match us, hl with | [_], _ => rfl) ?q_a ?q_l ?q_c ?q_k
      (case q_a => k_is)
      (case q_l => k_is)
      (case q_c => k_is)
      (case q_k => k_is)
    case w_a => k_is
    case w_l => k_is
    case w_c => k_is
    case w_k => k_is
    case q_L =>
      refine' { gL := PySem.W.mg_of KX GX ?q_1, limQ := ?q_2, limK := ?q_3, limB := ?q_4, limT := ?q_5, n_max := PySem.W.mg_none_of KX GX ?q_6, MOST := G.int_mk KX GX ?q_7 }
      (case q_1 => k_is)
      (case q_2 => k_exc)
      (case q_3 => k_is)
      (case q_4 => k_is)
      (case q_5 => k_is)
      (case q_6 => k_is)
      (case q_7 => k_is)
    case w_ll =>
      refine' PySem.W.exm_ref ?q_1 ?q_2 ?q_3 ?q_4
      (case q_1 => k_is)
      (case q_2 => k_is)
      (case q_3 => k_is)
      (case q_4 => k_is)
    case w_E =>
      refine' ⟨?q_1, ?q_2, ?q_3, ?q_4, ?q_5, ?q_6, ?q_7, ?q_8⟩
      (case q_1 => k_is)
      (case q_2 => k_is)
      (case q_3 => k_is)
      (case q_4 => k_is)
      (case q_5 => k_is)
      (case q_6 => k_is)
      (case q_7 => k_is)
      (case q_8 => k_is)
    case w_G =>
      refine' ⟨_, PySem.W.mg_of KX GX ?q_1, G.kit_own ?q_5 ?q_2 ?q_3 ?q_4⟩
      (case q_1 => k_is)
      (case q_5 => rfl)
      (case q_2 => k_is)
      (case q_3 => k_is)
      (case q_4 => k_is)
    case w_H =>
      refine' ⟨_, PySem.W.mg_of KX GX ?q_1, G.kit_own ?q_5 ?q_2 ?q_3 ?q_4⟩
      (case q_1 => k_is)
      (case q_5 => rfl)
      (case q_2 => k_is)
      (case q_3 => k_is)
      (case q_4 => k_is)
    case q_B =>
      refine' { n_len := PySem.W.mg_none_of KX GX ?q_z0, n_int := PySem.W.mg_none_of KX GX ?q_z1, n_range := PySem.W.mg_none_of KX GX ?q_z2, n_list := PySem.W.mg_none_of KX GX ?q_z3, n_tuple := PySem.W.mg_none_of KX GX ?q_z4, n_reversed := PySem.W.mg_none_of KX GX ?q_z5, n_isinstance := PySem.W.mg_none_of KX GX ?q_z6, n_sum := PySem.W.mg_none_of KX GX ?q_z7, n_dict := PySem.W.mg_none_of KX GX ?q_z8, n_zip := PySem.W.mg_none_of KX GX ?q_z9, LOWER := G.str_mk KX GX ?q_s0 }
      (case q_z0 => k_is)
      (case q_z1 => k_is)
      (case q_z2 => k_is)
      (case q_z3 => k_is)
      (case q_z4 => k_is)
      (case q_z5 => k_is)
      (case q_z6 => k_is)
      (case q_z7 => k_is)
      (case q_z8 => k_is)
      (case q_z9 => k_is)
      (case q_s0 => k_is)
    case P1 => exact 112
    case P2 => exact 119
    case w_ne => decide
    case w_T =>
      intro p hp
      rcases List.mem_cons.mp hp with rfl | hp
      · exact hT8 _ (by simp)
      · rw [List.mem_singleton.mp hp]
        exact hT8 _ (by simp)
    case w_N =>
      intro p hp
      rcases List.mem_cons.mp hp with rfl | hp
      · kernel_rfl
      · rw [List.mem_singleton.mp hp]
        kernel_rfl
    case w_C =>
      intro p hp
      rcases List.mem_cons.mp hp with rfl | hp
      · exact PySem.W.codeHd_of_K KX (by kernel_rfl)
      · rw [List.mem_singleton.mp hp]
        exact PySem.W.codeHd_of_K KX (by kernel_rfl)
