import PyProof.Rows.All
import Wide.All
import OpenK.AllK
import Wide.FinOn
import HandS.ForMost
import HandS.Evl
import HandS.StrMore
import HandS.Steps
import HandS.Walk
import HandS.IsInst
import HandS.More
import HandS.ExcInit
import HandS.ExcIs
import HandS.ExcField
import HandS.ExcOwn
import HandS.FStr
import HandS.TryMany
import HandS.WordsExc
import HandS.ClsMeth
import HandS.HeadHook2
import HandS.Wide
import KE.KExcIs
import PySem.Challenge.RW_guanaco_k02_token_errors
set_option Elab.async false
set_option linter.all false
set_option maxRecDepth 100000
set_option maxHeartbeats 4000000
namespace G
open PySem PySem.Spec PyProof.Rows L2 Evl
/-! ### what a def of the top is, and its call -/
def top (i : Nat) : Stmt := PySem.Challenge.pw_guanaco_k02_token_errors.main.body.getD i (.Pass ⟨0, 0, 0, 0⟩)
/-- the def x as the top leaves it -/
structure At (K : PySem.W.Frag) (mg : Str → Option Value) (x : Str) (st : Stmt) (ps : List Str) : Prop where
  ex : ∃ (f : Addr) (fd : FuncData), Fun K x x st f fd ∧ mg x = some (.ref f) ∧ Binds K fd ps []
/-- the def x keeps the promise sp -/
structure Can (P : Program) (w : World) (K : PySem.W.Frag) (mg : Str → Option Value) (base : Heap) (CX : CXT) (k : Nat) (x : Str) (ps : List Str) (sp : Sp) : Prop where
  ex : ∃ (f : Addr) (fd : FuncData), FnOk P w K mg base CX k f fd ps sp ∧ mg x = some (.ref f) ∧ PySem.W.keepIn K (.ref f) = true ∧ Binds K fd ps []
theorem Can.up {P : Program} {w : World} {K : PySem.W.Frag} {mg : Str → Option Value} {base : Heap} {CX : CXT} {k m : Nat} {x : Str} {ps : List Str} {sp : Sp} (C : Can P w K mg base CX k x ps sp) (h : k ≤ m) : Can P w K mg base CX m x ps sp := by
  obtain ⟨f, fd, F, a, b, c⟩ := C.ex
  exact ⟨f, fd, F.mono h, a, b, c⟩
theorem pe_can {X : Cx} {CX : CXT} {k : Nat} {x : Str} {ps : List Str} {sp : Sp} {E : XK} {e : Expr} {es : List Expr} {t : TA} {p pos : Pos} (C : Can X.prog X.w X.K X.mg X.base CX k x ps sp) (hr : Room k X.A) (hg : Gl X x) (hx : Passes CX X E) (ha : PA X (e :: es) t)
    (hdb : (x == ("__debug__" : Str)) = false := by decide) (he : starEach (e :: es) X.env = (false, eval e X.env) :: starEach es X.env := by rfl) (hpl : (backTo pos (starEach es X.env)).any (·.1) = false := by rfl) :
    PE X (.Call (.Name x p) (e :: es) [] pos) (tCall sp [] E t) := by
  obtain ⟨f, fd, F, a, b, c⟩ := C.ex
  exact pe_call F hr hg a b c .nil hx ha hdb he hpl
theorem pe_can0 {X : Cx} {CX : CXT} {k : Nat} {x : Str} {ps : List Str} {sp : Sp} {E : XK} {p pos : Pos} (C : Can X.prog X.w X.K X.mg X.base CX k x ps sp) (hr : Room k X.A) (hg : Gl X x) (hx : Passes CX X E)
    (hdb : (x == ("__debug__" : Str)) = false := by decide) :
    PE X (.Call (.Name x p) [] [] pos) (tCall sp [] E tNil) := by
  obtain ⟨f, fd, F, a, b, c⟩ := C.ex
  exact pe_call0 F hr hg a b c .nil hx hdb
/-- a def that lets nothing out: its promise from its body's reading -/
theorem At.can {P : Program} {w : World} {K : PySem.W.Frag} {mg : Str → Option Value} {base : Heap} {x : Str} {st : Stmt} {N ps : List Str} {k : Nat} {sp : Sp} (D : At K mg x st ps) (S : FnScope N ps (defScope st)) (len : ∀ vs H Q E, sp vs H Q E → vs.length = ps.length)
    (hbody : ∀ (f : Addr) (cdv : Value) (A : Around) (outer : List Env) (s : Shared) (H : Hp) (vs : List V) (Q : VK) (E : XK), Room k (A.deeper (envOfC x (defScope st) s.heap.objs.size f cdv)) → sp vs H Q E →
      ∃ t, PSs (cxOf CX0 P w K mg base N x (defScope st) f cdv A outer s H E).nox (defBody st) t ∧ t { nx := fun _ H' => Q .non H', rt := Q } (start N vs) H) : Can P w K mg base CX0 (k + 1) x ps sp := by
  obtain ⟨f, fd, F, a, b⟩ := D.ex
  exact ⟨f, fd, F.ok S len (fun cdv A outer s H vs Q E hr h => hbody f cdv A outer s H vs Q E hr h), a, F.kp, b⟩
/-! ### heaps -/
def Bul (d : Addr) (H H' : Hp) : Prop := ∀ a o, a ≠ d → H a = some o → H' a = some o
theorem Bul.refl {d : Addr} {H : Hp} : Bul d H H := fun _ _ _ h => h
theorem Bul.trans {d : Addr} {H H1 H2 : Hp} (a : Bul d H H1) (b : Bul d H1 H2) : Bul d H H2 := fun x o n h => b x o n (a x o n h)
theorem Bul.set {d : Addr} {H : Hp} {o : HO} : Bul d H (upd H d o) := fun a u n h => by
  rw [upd_ne n]
  exact h
theorem Bul.of {d : Addr} {H H' : Hp} (e : Ex H H') : Bul d H H' := fun a u _ h => e a u h
theorem sql_ne {K : PySem.W.Frag} {H : Hp} {a d : Addr} {xs : List V} {o : HO} (h : SqL K H a xs) (n : a ≠ d) : SqL K (upd H d o) a xs := by
  rcases h with (h | ⟨u, h⟩) | h
  · exact .inl (.inl (by rw [upd_ne n]; exact h))
  · exact .inl (.inr ⟨u, by rw [upd_ne n]; exact h⟩)
  · exact .inr h
theorem Bul.sql {K : PySem.W.Frag} {H H' : Hp} {a d : Addr} {xs : List V} (e : Bul d H H') (n : a ≠ d) (h : SqL K H a xs) : SqL K H' a xs := by
  rcases h with (h | ⟨u, h⟩) | h
  · exact .inl (.inl (e _ _ n h))
  · exact .inl (.inr ⟨u, e _ _ n h⟩)
  · exact .inr h
/-! ### the drawing of numbers: a list of the cells, a place, a rest, a count -/
def DSt (K : PySem.W.Frag) (H : Hp) (d : Addr) : Prop := ∃ (c : Addr) (ns : List Int) (i r k : Int), H d = some (.lst [.ref c, .int i, .int r, .int k]) ∧ H c = some (.lst (ns.map V.int)) ∧ c ≠ d ∧ 0 ≤ i
theorem DSt.ex {K : PySem.W.Frag} {H H' : Hp} {d : Addr} (e : Ex H H') (h : DSt K H d) : DSt K H' d := by
  obtain ⟨c, ns, i, r, k, h1, h2, h3, h4⟩ := h
  exact ⟨c, ns, i, r, k, e _ _ h1, e _ _ h2, h3, h4⟩
/-- a draw: all else is kept, the cells stay where they are -/
structure But (d : Addr) (H H' : Hp) : Prop where
  keep : Bul d H H'
  first : ∀ (c : Addr) (i r k : Int), H d = some (.lst [.ref c, .int i, .int r, .int k]) → ∃ i' r' k' : Int, H' d = some (.lst [.ref c, .int i', .int r', .int k'])
instance {d : Addr} {H H' : Hp} : CoeFun (But d H H') fun _ => ∀ a o, a ≠ d → H a = some o → H' a = some o := ⟨fun b => b.keep⟩
theorem But.refl {d : Addr} {H : Hp} : But d H H := ⟨.refl, fun _ i r k h => ⟨i, r, k, h⟩⟩
theorem But.trans {d : Addr} {H H1 H2 : Hp} (a : But d H H1) (b : But d H1 H2) : But d H H2 := ⟨a.keep.trans b.keep, fun c i r k h => by
  obtain ⟨i1, r1, k1, h1⟩ := a.first c i r k h
  exact b.first c i1 r1 k1 h1⟩
theorem But.of {d : Addr} {H H' : Hp} (e : Ex H H') : But d H H' := ⟨.of e, fun _ i r k h => ⟨i, r, k, e _ _ h⟩⟩
theorem But.mk1 {d c : Addr} {H H' : Hp} {i r k i' r' k' : Int} (b : Bul d H H') (h : H d = some (.lst [.ref c, .int i, .int r, .int k])) (h' : H' d = some (.lst [.ref c, .int i', .int r', .int k'])) : But d H H' := ⟨b, fun c2 i2 r2 k2 h2 => by
  rw [h] at h2
  cases h2
  exact ⟨_, _, _, h'⟩⟩
def spFill (K : PySem.W.Frag) : Sp := fun vs H Q _ => ∃ d : Addr, vs = [.ref d] ∧ DSt K H d ∧ ∀ (v : Int) (H' : Hp), But d H H' → DSt K H' d → Q (.int v) H'
def spTake (K : PySem.W.Frag) : Sp := fun vs H Q _ => ∃ (d : Addr) (many : Int), vs = [.ref d, .int many] ∧ DSt K H d ∧ 0 < many ∧ many < 4611686018427387904 ∧
  ∀ (v : Int) (H' : Hp), But d H H' → DSt K H' d → 0 ≤ v → v < many → Q (.int v) H'
/-! ### texts as lists of signs -/
def S (t : List Nat) : Str := ⟨t.toArray⟩
theorem S_list (t : List Nat) : (S t).cps.toList = t := rfl
theorem S_len (t : List Nat) : (S t).length = t.length := by
  show t.toArray.size = t.length
  simp
theorem S_of (z : Str) : S z.cps.toList = z := by
  obtain ⟨c⟩ := z
  show (⟨c.toList.toArray⟩ : Str) = ⟨c⟩
  simp
theorem S_app (a b : List Nat) : S a ++ S b = S (a ++ b) := by
  show (⟨a.toArray ++ b.toArray⟩ : Str) = ⟨(a ++ b).toArray⟩
  simp
theorem S_inj {a b : List Nat} (h : S a = S b) : a = b := by
  have : (S a).cps.toList = (S b).cps.toList := by rw [h]
  exact this
theorem size_line {n : Nat} (h : n ≤ 100000) : n ≤ sizeLine := Nat.le_trans h (by decide)
section
variable {X : Cx} {x : Str} {pos : Pos} {tk : Tok}
theorem pe_gs {s : Str} (hg : Gl X x) (hm : X.mg x = some (.str s tk)) (hd : (x == ("__debug__" : Str)) = false := by decide) : PE X (.Name x pos) (tC (.str s)) := pe_glob (v := .str s) hg hm ⟨_, rfl⟩ hd
theorem pe_gi {i : Int} (hg : Gl X x) (hm : X.mg x = some (.int i tk)) (hd : (x == ("__debug__" : Str)) = false := by decide) : PE X (.Name x pos) (tC (.int i)) := pe_glob (v := .int i) hg hm ⟨_, rfl⟩ hd
theorem pe_gr {a : Addr} (hg : Gl X x) (hm : X.mg x = some (.ref a)) (hd : (x == ("__debug__" : Str)) = false := by decide) : PE X (.Name x pos) (tC (.ref a)) := pe_glob (v := .ref a) hg hm rfl hd
end
/-! ### values, the heap as it is -/
section
variable {K : PySem.W.Frag} {σ : L2.St} {H : Hp} {ta tb te tc : TE} {x y z v : V} {D : Ends} {t u : TT} {t1 t2 tz : TS}
theorem val_I0 {g : Int → Int → V} {i j : Int} (ha : Val ta σ H (.int i)) (hb : Val tb σ H (.int j)) : Val (tOp (rI0 g) ta tb) σ H (g i j) := fun Q q => ha _ (hb _ ⟨i, j, rfl, rfl, q⟩)
theorem val_I {C : Int → Int → Prop} {g : Int → Int → V} {i j : Int} (ha : Val ta σ H (.int i)) (hb : Val tb σ H (.int j)) (hc : C i j) : Val (tOp (rI C g) ta tb) σ H (g i j) := fun Q q => ha _ (hb _ ⟨i, j, rfl, rfl, hc, q⟩)
theorem val_eq (ha : Val ta σ H x) (hb : Val tb σ H y) (hs : scal x y = true) : Val (tOp rEq ta tb) σ H (.bl (decide (x = y))) := fun Q q => ha _ (hb _ ⟨hs, q⟩)
theorem val_ne (ha : Val ta σ H x) (hb : Val tb σ H y) (hs : scal x y = true) : Val (tOp rNe ta tb) σ H (.bl (!decide (x = y))) := fun Q q => ha _ (hb _ ⟨hs, q⟩)
theorem val_ixL {p : Addr} {xs : List V} {i : Int} (ha : Val ta σ H (.ref p)) (hb : Val tb σ H (.int i)) (h : SqL K H p xs) (hi : atI xs i = some v) : Val (tOp (rIxL K) ta tb) σ H v := fun Q q => ha _ (hb _ ⟨p, xs, i, v, rfl, rfl, h, hi, q⟩)
theorem val_ixT {p : Addr} {xs : List V} {i : Int} (ha : Val ta σ H (.ref p)) (hb : Val tb σ H (.int i)) (h : SqT K H p xs) (hi : atI xs i = some v) : Val (tOp (rIxT K) ta tb) σ H v := fun Q q => ha _ (hb _ ⟨p, xs, i, v, rfl, rfl, h, hi, q⟩)
theorem val_ixS {s : Str} {i : Int} {c : Nat} (ha : Val ta σ H (.str s)) (hb : Val tb σ H (.int i)) (h : s.length ≤ sizeLine) (hi : atI s.cps.toList i = some c) : Val (tOp rIxS ta tb) σ H (.str ⟨#[c]⟩) := fun Q q => ha _ (hb _ ⟨s, i, c, rfl, rfl, h, hi, q⟩)
theorem val_neg {i : Int} (ha : Val ta σ H (.int i)) : Val (tUn (rU fun i => .int (-i)) ta) σ H (.int (-i)) := fun Q q => ha _ ⟨i, rfl, q⟩
theorem val_lenS {s : Str} (ha : Val ta σ H (.str s)) (h : s.length ≤ sizeLine) : Val (tCB (fun xs H Q => ∃ z, xs = [.str z] ∧ z.length ≤ sizeLine ∧ Q (.int z.length) H) (tCons ta tNil)) σ H (.int (s.length : Int)) := fun Q q => ha _ ⟨s, rfl, h, q⟩
theorem val_lenL {p : Addr} {xs : List V} (ha : Val ta σ H (.ref p)) (h : SqL K H p xs) : Val (tCB (fun xs H Q => ∃ p ys, xs = [.ref p] ∧ (SqL K H p ys ∨ SqT K H p ys) ∧ Q (.int ys.length) H) (tCons ta tNil)) σ H (.int (xs.length : Int)) := fun Q q => ha _ ⟨p, xs, rfl, .inl h, q⟩
theorem val_lenT {p : Addr} {xs : List V} (ha : Val ta σ H (.ref p)) (h : SqT K H p xs) : Val (tCB (fun xs H Q => ∃ p ys, xs = [.ref p] ∧ (SqL K H p ys ∨ SqT K H p ys) ∧ Q (.int ys.length) H) (tCons ta tNil)) σ H (.int (xs.length : Int)) := fun Q q => ha _ ⟨p, xs, rfl, .inr h, q⟩
theorem val_int1 {i : Int} (ha : Val ta σ H (.int i)) : Val (tCB (fun xs H Q => (∃ i, xs = [.int i] ∧ Q (.int i) H) ∨ ∃ k, xs = [.bl k] ∧ Q (.int (if k then 1 else 0)) H) (tCons ta tNil)) σ H (.int i) := fun Q q => ha _ (.inl ⟨i, rfl, q⟩)
theorem val_strI {i : Int} (ha : Val ta σ H (.int i)) (h : i.natAbs.log2 < 1920) : Val (tCB (fun xs H Q => ∃ i, xs = [.int i] ∧ i.natAbs.log2 < 1920 ∧ Q (.str (toString i)) H) (tCons ta tNil)) σ H (.str (toString i)) := fun Q q => ha _ ⟨i, rfl, h, q⟩
theorem val_addS {a b : Str} (ha : Val ta σ H (.str a)) (hb : Val tb σ H (.str b)) (h : a.length + b.length ≤ sizeLine) : Val (tOp (fun x y H Q => ∃ i j, x = .str i ∧ y = .str j ∧ i.length + j.length ≤ sizeLine ∧ Q (.str (i ++ j)) H) ta tb) σ H (.str (a ++ b)) := fun Q q => ha _ (hb _ ⟨a, b, rfl, rfl, h, q⟩)
theorem val_inC {c : Nat} {s : Str} (ha : Val ta σ H (.str ⟨#[c]⟩)) (hb : Val tb σ H (.str s)) : Val (tOp (fun x y H Q => ∃ (c : Nat) (z : Str), x = .str ⟨#[c]⟩ ∧ y = .str z ∧ Q (.bl (decide (c ∈ z.cps.toList))) H) ta tb) σ H (.bl (decide (c ∈ s.cps.toList))) := fun Q q => ha _ (hb _ ⟨c, s, rfl, rfl, q⟩)
theorem val_notInC {c : Nat} {s : Str} (ha : Val ta σ H (.str ⟨#[c]⟩)) (hb : Val tb σ H (.str s)) : Val (tOp (fun x y H Q => ∃ (c : Nat) (z : Str), x = .str ⟨#[c]⟩ ∧ y = .str z ∧ Q (.bl (!decide (c ∈ z.cps.toList))) H) ta tb) σ H (.bl (!decide (c ∈ s.cps.toList))) := fun Q q => ha _ (hb _ ⟨c, s, rfl, rfl, q⟩)
theorem val_inT {p : Addr} {xs : List V} (ha : Val ta σ H x) (hb : Val tb σ H (.ref p)) (h : SqL K H p xs ∨ SqT K H p xs) (hx : flatV x = true) (hf : xs.all flatV = true) : Val (tOp (rIn K false) ta tb) σ H (.bl (inV x xs)) := fun Q q => ha _ (hb _ ⟨p, xs, rfl, h, hx, hf, q⟩)
theorem val_andV {a b : Bool} (ha : Val ta σ H (.bl a)) (hb : a = true → Val tb σ H (.bl b)) : Val (tAndV ta tb) σ H (.bl (a && b)) := fun Q q => ha _ ⟨a, rfl, by
  cases a with
  | true => exact hb rfl Q q
  | false => exact q⟩
theorem val_orV {a b : Bool} (ha : Val ta σ H (.bl a)) (hb : a = false → Val tb σ H (.bl b)) : Val (tOrV ta tb) σ H (.bl (a || b)) := fun Q q => ha _ ⟨a, rfl, by
  cases a with
  | true => exact q
  | false => exact hb rfl Q q⟩
theorem val_notV {a : Bool} (ha : Val ta σ H (.bl a)) : Val (tNotV ta) σ H (.bl (!a)) := fun Q q => ha _ ⟨a, rfl, q⟩
theorem val_if {b : Bool} (hc : Ans t σ H b) (h1 : b = true → Val ta σ H v) (h2 : b = false → Val tb σ H v) : Val (tIf t ta tb) σ H v := fun Q q => hc _ (by
  cases b with
  | true => exact h1 rfl Q q
  | false => exact h2 rfl Q q)
theorem Val.is {w : V} (h : Val te σ H v) (e : v = w) : Val te σ H w := e ▸ h
/-! ### tests -/
theorem ans_t {b : Bool} (ha : Val ta σ H (.bl b)) : Ans (tTest ta) σ H b := fun Q q => ha _ ⟨b, rfl, q⟩
theorem ans_or2 {a b : Bool} (h1 : Ans t σ H a) (h2 : a = false → Ans u σ H b) : Ans (tOr t u) σ H (a || b) := fun Q q => h1 _ (by
  cases a with
  | true => exact q
  | false => exact h2 rfl Q q)
theorem ans_and3 {a b : Bool} (h1 : Ans t σ H a) (h2 : a = true → Ans u σ H b) : Ans (tAnd t u) σ H (a && b) := fun Q q => h1 _ (by
  cases a with
  | true => exact h2 rfl Q q
  | false => exact q)
theorem ans_truL {p : Addr} {xs : List V} (ha : Val ta σ H (.ref p)) (h : SqL K H p xs) : Ans (fun σ H Q => ta σ H fun x H' => ∃ k, TruV K x H' k ∧ Q k H') σ H (!xs.isEmpty) := fun Q q => ha _ ⟨_, .inl ⟨xs, h, rfl⟩, q⟩
/-! ### statements -/
theorem st_if {b : Bool} (h : Ans t σ H b) (h1 : b = true → t1 D σ H) (h2 : b = false → t2 D σ H) : tIfS t t1 t2 D σ H := h _ (by
  cases b with
  | true => exact h1 rfl
  | false => exact h2 rfl)
theorem st_setL {l : Addr} {xs : List V} {j : Int} {n : Nat} (h : Val te σ H v) (ho : Val ta σ H (.ref l)) (hi : Val tb σ H (.int j)) (hl : H l = some (.lst xs)) (hj : ixN xs.length j = some n) (k : ∀ H', Bul l H H' → H' l = some (.lst (xs.set n v)) → D.nx σ H') : tAsg te (gSub ta tb rSetL) D σ H :=
  h _ (ho _ (hi _ ⟨l, xs, j, n, rfl, rfl, hl, hj, k _ Bul.set upd_same⟩))
/-- .. where the value comes by a call that changes the heap -/
theorem st_setLH {PV : V → Hp → Prop} {l : Addr} {j : Int} {n : Nat} (h : ValH te σ H PV) (k : ∀ v H1, PV v H1 → ∃ xs, Val ta σ H1 (.ref l) ∧ Val tb σ H1 (.int j) ∧ H1 l = some (.lst xs) ∧ ixN xs.length j = some n ∧ ∀ H', Bul l H1 H' → H' l = some (.lst (xs.set n v)) → D.nx σ H') : tAsg te (gSub ta tb rSetL) D σ H :=
  h _ fun v H1 p => by
    obtain ⟨xs, ho, hi, hl, hj, k⟩ := k v H1 p
    exact ho _ (hi _ ⟨l, xs, j, n, rfl, rfl, hl, hj, k _ Bul.set upd_same⟩)
theorem st_augI {i : Nat} {f : Int → Int → Int} {a b : Int} (hx : σ[i]? = some (some (.int a))) (h : Val te σ H (.int b)) (q : D.nx (σ.set i (some (.int (f a b)))) H) : tAug i te (ipI f) D σ H := ⟨_, hx, h _ ⟨a, b, rfl, rfl, q⟩⟩
/-! ### the same, something behind -/
theorem n_setL {l : Addr} {xs : List V} {j : Int} {n : Nat} (h : Val te σ H v) (ho : Val ta σ H (.ref l)) (hi : Val tb σ H (.int j)) (hl : H l = some (.lst xs)) (hj : ixN xs.length j = some n) (k : ∀ H', Bul l H H' → H' l = some (.lst (xs.set n v)) → tz D σ H') : tSeq (tAsg te (gSub ta tb rSetL)) tz D σ H :=
  st_setL (D := { D with nx := tz D }) h ho hi hl hj k
theorem n_setLH {PV : V → Hp → Prop} {l : Addr} {j : Int} {n : Nat} (h : ValH te σ H PV) (k : ∀ v H1, PV v H1 → ∃ xs, Val ta σ H1 (.ref l) ∧ Val tb σ H1 (.int j) ∧ H1 l = some (.lst xs) ∧ ixN xs.length j = some n ∧ ∀ H', Bul l H1 H' → H' l = some (.lst (xs.set n v)) → tz D σ H') : tSeq (tAsg te (gSub ta tb rSetL)) tz D σ H :=
  st_setLH (D := { D with nx := tz D }) h k
theorem n_set {i : Nat} (h : Val te σ H v) (q : tz D (σ.set i (some v)) H) : tSeq (tAsg te (gName i)) tz D σ H := h _ q
theorem n_setH {i : Nat} {PV : V → Hp → Prop} (h : ValH te σ H PV) (q : ∀ v H', PV v H' → tz D (σ.set i (some v)) H') : tSeq (tAsg te (gName i)) tz D σ H := h _ q
theorem n_call2 {sp : Sp} {i : Nat} {E : XK} (ha : Val ta σ H x) (hb : Val tb σ H y) (h : sp [x, y] H (fun v H' => tz D (σ.set i (some v)) H') E) : tSeq (tAsg (tCall sp [] E (tCons ta (tCons tb tNil))) (gName i)) tz D σ H := ha _ (hb _ h)
theorem n_augI {i : Nat} {f : Int → Int → Int} {a b : Int} (hx : σ[i]? = some (some (.int a))) (h : Val te σ H (.int b)) (q : tz D (σ.set i (some (.int (f a b)))) H) : tSeq (tAug i te (ipI f)) tz D σ H := ⟨_, hx, h _ ⟨a, b, rfl, rfl, q⟩⟩
theorem n_if {b : Bool} (h : Ans t σ H b) (h1 : b = true → t1 { D with nx := tz D } σ H) (h2 : b = false → t2 { D with nx := tz D } σ H) : tSeq (tIfS t t1 t2) tz D σ H := st_if (D := { D with nx := tz D }) h h1 h2
/-- an if without else -/
theorem n_when {b : Bool} (h : Ans t σ H b) (h1 : b = true → t1 { D with nx := tz D } σ H) (h2 : b = false → tz D σ H) : tSeq (tIfS t t1 tNext) tz D σ H := st_if (D := { D with nx := tz D }) h h1 h2
theorem n_while (W : Nat → L2.St → Hp → Prop) (m0 : Nat) (h0 : W m0 σ H) (hs : ∀ m σ' H', W m σ' H' → ∃ b, Ans t σ' H' b ∧ (b = true → t1 ⟨fun σ2 H2 => ∃ m', m' < m ∧ W m' σ2 H2, D.rt, tz D, fun σ2 H2 => ∃ m', m' < m ∧ W m' σ2 H2⟩ σ' H') ∧ (b = false → tz D σ' H')) : tSeq (tWhile t t1) tz D σ H :=
  ⟨W, ⟨m0, h0⟩, fun m σ' H' w => by
    obtain ⟨b, ha, h1, h2⟩ := hs m σ' H' w
    refine ha _ ?_
    cases b with
    | true => exact ⟨_, fun _ _ n => n, h1 rfl⟩
    | false => exact h2 rfl⟩
theorem n_ret (h : Val te σ H v) (q : D.rt v H) : tRet te D σ H := h _ q
/-! ### .. the last one of a block -/
section
variable {F B C : L2.St → Hp → Prop} {R : VK}
theorem e_set {i : Nat} (h : Val te σ H v) (q : F (σ.set i (some v)) H) : tAsg te (gName i) ⟨F, R, B, C⟩ σ H := h _ q
theorem e_setH {i : Nat} {PV : V → Hp → Prop} (h : ValH te σ H PV) (q : ∀ v H', PV v H' → F (σ.set i (some v)) H') : tAsg te (gName i) ⟨F, R, B, C⟩ σ H := h _ q
theorem e_setL {l : Addr} {xs : List V} {j : Int} {n : Nat} (h : Val te σ H v) (ho : Val ta σ H (.ref l)) (hi : Val tb σ H (.int j)) (hl : H l = some (.lst xs)) (hj : ixN xs.length j = some n) (k : ∀ H', Bul l H H' → H' l = some (.lst (xs.set n v)) → F σ H') : tAsg te (gSub ta tb rSetL) ⟨F, R, B, C⟩ σ H := st_setL h ho hi hl hj k
theorem e_setLH {PV : V → Hp → Prop} {l : Addr} {j : Int} {n : Nat} (h : ValH te σ H PV) (k : ∀ v H1, PV v H1 → ∃ xs, Val ta σ H1 (.ref l) ∧ Val tb σ H1 (.int j) ∧ H1 l = some (.lst xs) ∧ ixN xs.length j = some n ∧ ∀ H', Bul l H1 H' → H' l = some (.lst (xs.set n v)) → F σ H') : tAsg te (gSub ta tb rSetL) ⟨F, R, B, C⟩ σ H := st_setLH h k
theorem e_augI {i : Nat} {f : Int → Int → Int} {a b : Int} (hx : σ[i]? = some (some (.int a))) (h : Val te σ H (.int b)) (q : F (σ.set i (some (.int (f a b)))) H) : tAug i te (ipI f) ⟨F, R, B, C⟩ σ H := st_augI hx h q
theorem e_call2 {sp : Sp} {i : Nat} {E : XK} (ha : Val ta σ H x) (hb : Val tb σ H y) (h : sp [x, y] H (fun v H' => F (σ.set i (some v)) H') E) : tAsg (tCall sp [] E (tCons ta (tCons tb tNil))) (gName i) ⟨F, R, B, C⟩ σ H := ha _ (hb _ h)
theorem e_retC2 {sp : Sp} {E : XK} (ha : Val ta σ H x) (hb : Val tb σ H y) (h : sp [x, y] H R E) : tRet (tCall sp [] E (tCons ta (tCons tb tNil))) ⟨F, R, B, C⟩ σ H := ha _ (hb _ h)
theorem e_when {b : Bool} (h : Ans t σ H b) (h1 : b = true → t1 ⟨F, R, B, C⟩ σ H) (h2 : b = false → F σ H) : tIfS t t1 tNext ⟨F, R, B, C⟩ σ H := st_if h h1 h2
theorem e_next (h : F σ H) : tNext ⟨F, R, B, C⟩ σ H := h
theorem e_brk (h : B σ H) : tBreak ⟨F, R, B, C⟩ σ H := h
theorem e_ret (h : Val te σ H v) (q : R v H) : tRet te ⟨F, R, B, C⟩ σ H := h _ q
theorem e_retH {PV : V → Hp → Prop} (h : ValH te σ H PV) (q : ∀ v H', PV v H' → R v H') : tRet te ⟨F, R, B, C⟩ σ H := h _ q
theorem e_drop (h : Val te σ H v) (q : F σ H) : tDrop te ⟨F, R, B, C⟩ σ H := h _ q
theorem e_dropH {PV : V → Hp → Prop} (h : ValH te σ H PV) (q : ∀ v H', PV v H' → F σ H') : tDrop te ⟨F, R, B, C⟩ σ H := h _ q
end
end
theorem cmul_r {i j : Int} (h1 : -18446744073709551616 < j) (h2 : j < 18446744073709551616) : CMul i j := Or.inr ⟨h1, h2⟩
theorem cmul_l {i j : Int} (h1 : -18446744073709551616 < i) (h2 : i < 18446744073709551616) : CMul i j := Or.inl ⟨h1, h2⟩
theorem cdiv_w {i j : Int} (h1 : 0 < j) (h2 : j < 4611686018427387904) : CDivW i j := ⟨h1, by
  have hz : j.natAbs ≠ 0 := by omega
  have := (Nat.log2_lt (n := j.natAbs) (k := 62) hz).mpr (by omega)
  omega⟩
theorem cdiv_l {i j : Int} (h1 : 0 < j) (h2 : j < 1073741824) : CDiv i j := ⟨h1, h2⟩
theorem cpow_l {i j : Int} (h1 : 0 ≤ j) (h2 : j ≤ 1000000) (h3 : i.natAbs < 18446744073709551616) : CPow i j := ⟨h1, h2, h3⟩
/-- a value, by its make; what is left open is asked -/
local macro_rules | `(tactic| walk_at "sql") => `(tactic| first
  | with_reducible assumption
  | exact SqL.of upd_same
  | exact SqL.of (by assumption)
  | assumption)
local macro_rules | `(tactic| walk_at "line") => `(tactic| ((with_reducible show _ ≤ sizeLine); refine size_line ?_; (try rw [S_len]); omega))
local macro_rules | `(tactic| walk_at "cond") => `(tactic| first
  | (with_reducible show CMul _ _; first | exact cmul_r (by omega) (by omega) | exact cmul_l (by omega) (by omega))
  | (with_reducible show CPow _ _; exact cpow_l (by decide) (by decide) (by decide))
  | (with_reducible show CDivW _ _; exact cdiv_w (by first | decide | assumption) (by first | decide | assumption))
  | (with_reducible show CDiv _ _; exact cdiv_l (by first | decide | assumption) (by first | decide | assumption))
  | (with_reducible show (0 : Int) < _; first | decide | assumption))
local macro_rules | `(tactic| walk_at "val") => `(tactic| first
  | with_reducible assumption
  | exact val_var rfl
  | exact val_c
  | ((with_reducible apply val_I0) <;> walk_at "val")
  | ((with_reducible apply val_I) <;> (first | walk_at "cond" | walk_at "val"))
  | ((with_reducible apply val_eq) <;> (first | rfl | walk_at "val"))
  | ((with_reducible apply val_ne) <;> (first | rfl | walk_at "val"))
  | ((with_reducible apply val_int1) <;> walk_at "val")
  | ((with_reducible apply val_neg) <;> walk_at "val")
  | ((with_reducible apply val_ixL) <;> (first | walk_at "val" | walk_at "sql" | rfl))
  | ((with_reducible apply val_lenL) <;> (first | walk_at "val" | walk_at "sql"))
  | ((with_reducible apply val_lenS) <;> (first | walk_at "val" | walk_at "line"))
  | ((with_reducible apply val_ixS) <;> (first | walk_at "val" | walk_at "line" | assumption))
  | ((with_reducible apply val_inC) <;> walk_at "val")
  | ((with_reducible apply val_notInC) <;> walk_at "val")
  | ((with_reducible apply ans_val) <;> walk_at "val")
  | ((with_reducible apply ans_not) <;> walk_at "val")
  | ((with_reducible apply ans_t) <;> walk_at "val"))
abbrev s_fill : Stmt := top 28
theorem sc_fill : FnScope ["d", "number"] ["d"] (defScope s_fill) := ⟨rfl, rfl, rfl, by decide +kernel, rfl, by decide +kernel, by decide +kernel⟩
theorem atI_int {ns : List Int} {i : Int} (h0 : 0 ≤ i) (h : i < (ns.length : Int)) : atI (ns.map V.int) i = some (.int (ns.getD i.toNat 0)) := by
  obtain ⟨n, rfl⟩ : ∃ n : Nat, i = (n : Int) := ⟨i.toNat, by omega⟩
  have hi : n < ns.length := by omega
  refine atI_nat ?_
  rw [List.getElem?_map, List.getElem?_eq_getElem hi]
  simp [List.getD, hi]
theorem atI_end {ns : List Int} (h : ns ≠ []) : atI (ns.map V.int) (-1) = some (.int (ns.getLast h)) := by
  rw [show ns.map V.int = (ns.dropLast.map V.int) ++ [V.int (ns.getLast h)] by
    rw [← List.map_singleton, ← List.map_append, List.dropLast_concat_getLast]]
  exact atI_last _ _
structure BoD (mg : Str → Option Value) : Prop where
  n_len : mg "len" = none
  n_int : mg "int" = none
section
variable {P : Program} {w : World} {K : PySem.W.Frag} {mg : Str → Option Value} {base : Heap}
theorem can_fill (D : At K mg "_law_fill" s_fill ["d"]) (T : BoD mg) : Can P w K mg base CX0 1 "_law_fill" ["d"] (spFill K) := by
  have sc := sc_fill
  refine D.can sc (fun vs H Q E h => ?_) (fun f cdv A outer s H vs Q E hr h => ?_)
  · obtain ⟨d, rfl, _⟩ := h
    rfl
  · obtain ⟨d, rfl, ⟨c, ns, i, r, k, hd, hc, hcd, hi⟩, q⟩ := h
    refine ⟨_, (pss_cons (ps_asg (pe_op op_add (pe_ix ix_list (pv 0) pe_int (fun _ _ => rfl)) pe_int) (pg_sub (pv 0) pe_int set_list))
    (pss_cons (ps_set (i := 1) sc.nd rfl (.inl rfl) (pe_op op_add (pe_op op_mul (pe_ix ix_list (pv 0) pe_int (fun _ _ => rfl)) pe_int) pe_int))
    (pss_cut (ps_if (pt_cmpR op_lt (pe_ix ix_list (pv 0) pe_int (fun _ _ => rfl)) (pe_callB call_len_seq (by rfl) T.n_len PySem.boot_len (pa_cons (pe_ix ix_list (pv 0) pe_int (fun _ _ => rfl)) pa_nil)) (nomark _)) (pss_cons (ps_set (i := 1) sc.nd rfl (.inl rfl) (pe_ix ix_list (pe_ix ix_list (pv 0) pe_int (fun _ _ => rfl)) (pe_ix ix_list (pv 0) pe_int (fun _ _ => rfl)) (fun _ _ => rfl)))
    (pss_cons (ps_asg (pe_op op_add (pe_ix ix_list (pv 0) pe_int (fun _ _ => rfl)) pe_int) (pg_sub (pv 0) pe_int set_list))
    (pss_cons (ps_if (pt_cmpR op_lt (pv 1) pe_int (nomark _)) (pss_one (ps_set (i := 1) sc.nd rfl (.inl rfl) (pe_op op_sub (pe_un un_neg pe_int) (pv 1)))) pss_nil)
    (pss_one (ps_if (pt_cmpR op_ge (pv 1) (pe_op op_pow pe_int pe_int) (nomark _)) (pss_one (ps_ret (pv 1))) pss_nil))))) pss_nil)
    (pss_cut (ps_if (PW.pt (pw_and (pt_truth (pe_ix ix_list (pv 0) pe_int (fun _ _ => rfl)) (by intro _; rfl)) (pw_and1 (pt_cmpR op_ge (pe_ix ix_list (pv 0) pe_int (fun _ _ => rfl)) (pe_callB call_len_seq (by rfl) T.n_len PySem.boot_len (pa_cons (pe_ix ix_list (pv 0) pe_int (fun _ _ => rfl)) pa_nil)) (nomark _))))) (pss_one (ps_set (i := 1) sc.nd rfl (.inl rfl) (pe_op op_add (pv 1) (pe_op op_mod (pe_callTy call_int1 (by rfl) T.n_int (by decide +kernel) (pa_cons (pe_ix ix_list (pe_ix ix_list (pv 0) pe_int (fun _ _ => rfl)) (pe_un un_neg pe_int) (fun _ _ => rfl)) pa_nil)) pe_int)))) pss_nil)
    (pss_cons (ps_set (i := 1) sc.nd rfl (.inl rfl) (pe_op op_mod (pe_callTy call_int1 (by rfl) T.n_int (by decide +kernel) (pa_cons (pe_op op_add (pe_op op_mul (pv 1) pe_int) (pe_op op_mul (pe_ix ix_list (pv 0) pe_int (fun _ _ => rfl)) pe_int)) pa_nil)) pe_int))
    (pss_one (ps_ret (pe_op op_add (pe_op op_mod (pe_callTy call_int1 (by rfl) T.n_int (by decide +kernel) (pa_cons (pe_op op_add (pe_op op_add (pe_op op_mul (pv 1) (pv 1)) (pe_op op_mul (pe_ix ix_list (pv 0) pe_int (fun _ _ => rfl)) pe_int)) pe_int) pa_nil)) pe_int) pe_int)))))))), ?_⟩
    have hd0 := hd
    -- d[3] = d[3] + 1
    refine (n_setL (l := d) (by walk_at "val") (by walk_at "val") (by walk_at "val") hd rfl fun H1 b1 hd => ?_)
    have hc := b1 _ _ hcd hc
    -- number = d[3] * 69621 + 12345
    refine (n_set (by walk_at "val") ?_)
    -- if d[1] < len(d[0])
    refine q_cut (M := fun σ' H' => ∃ (n i r k : Int), σ' = [some (.ref d), some (.int n)] ∧ Bul d H1 H' ∧ H' d = some (.lst [.ref c, .int i, .int r, .int k]) ∧ 0 ≤ i) ?_ ?_
    · refine e_when (by walk_at "val") (fun hb => ?_) (fun hb => ?_)
      · have hb : i < (ns.length : Int) := by
          have := of_decide_eq_true hb
          rw [List.length_map] at this
          exact this
        refine n_set (val_ixL (p := c) (i := i) (by walk_at "val") (by walk_at "val") (SqL.of hc) (atI_int hi hb)) ?_
        refine (n_setL (l := d) (by walk_at "val") (by walk_at "val") (by walk_at "val") hd rfl fun H2 b2 hd => ?_)
        refine n_when (by walk_at "val") (fun _ => ?_) (fun _ => ?_)
        · refine e_set (by walk_at "val") ?_
          refine e_when (by walk_at "val") (fun _ => ?_) (fun _ => ?_)
          · exact e_ret (by walk_at "val") (q _ _ (.mk1 (b1.trans b2) hd0 hd) ⟨c, ns, _, _, _, hd, b2 _ _ hcd hc, hcd, by omega⟩)
          · exact ⟨_, _, _, _, rfl, b2, hd, by omega⟩
        · refine e_when (by walk_at "val") (fun _ => ?_) (fun _ => ?_)
          · exact e_ret (by walk_at "val") (q _ _ (.mk1 (b1.trans b2) hd0 hd) ⟨c, ns, _, _, _, hd, b2 _ _ hcd hc, hcd, by omega⟩)
          · exact ⟨_, _, _, _, rfl, b2, hd, by omega⟩
      · exact ⟨_, i, r, _, rfl, .refl, hd, hi⟩
    · rintro σ' H2 ⟨n, i, r, k, rfl, b2, hd, hi⟩
      have hc := b2 _ _ hcd hc
      refine q_cut (M := fun σ' H' => ∃ (n : Int), σ' = [some (.ref d), some (.int n)] ∧ H' = H2) ?_ ?_
      · have key : Ans (tTest (tOp (rI0 fun i j => V.bl (decide (j ≤ i))) (tOp (rIxL K) (tVar 0) (tC (V.int 1))) (tCB (fun xs H Q => ∃ p ys, xs = [.ref p] ∧ (SqL K H p ys ∨ SqT K H p ys) ∧ Q (.int ys.length) H) (tCons (tOp (rIxL K) (tVar 0) (tC (V.int 0))) tNil)))) [some (.ref d), some (.int n)] H2 (decide ((ns.map V.int).length ≤ i)) := by walk_at "val"
        refine e_when (ans_and3 (ans_truL (p := c) (by walk_at "val") (SqL.of hc)) fun _ => key) (fun hb => ?_) (fun _ => ?_)
        · have hne : ns ≠ [] := by
            rintro rfl
            simp at hb
          exact e_set (val_I0 (by walk_at "val") (val_I (val_int1 (val_ixL (p := c) (by walk_at "val") (by walk_at "val") (SqL.of hc) (atI_end hne))) val_c (by walk_at "cond"))) ⟨_, rfl, rfl⟩
        · exact ⟨_, rfl, rfl⟩
      · rintro σ' H3 ⟨n, rfl, rfl⟩
        refine n_set (by walk_at "val") ?_
        refine e_ret (val_I0 (val_I (val_int1 (val_I0 (val_I0 (val_I (val_var rfl) (val_var rfl) (cmul_l ?_ ?_)) (by walk_at "val")) (by walk_at "val"))) val_c (by walk_at "cond")) val_c) (q _ _ (.mk1 (b1.trans b2) hd0 hd) ⟨c, ns, _, _, _, hd, hc, hcd, hi⟩)
        · omega
        · omega
end
abbrev s_take : Stmt := top 29
theorem sc_take : FnScope ["d", "many", "answer"] ["d", "many"] (defScope s_take) := ⟨rfl, rfl, rfl, by decide +kernel, rfl, by decide +kernel, by decide +kernel⟩
abbrev s_start : Stmt := top 27
theorem sc_start : FnScope ["script", "cell"] ["script"] (defScope s_start) := ⟨rfl, rfl, rfl, by decide +kernel, rfl, by decide +kernel, by decide +kernel⟩
/-- a call by a promise -/
theorem valH_can1 {sp : Sp} {ta : TE} {σ : L2.St} {H : Hp} {x : V} {PV : V → Hp → Prop} {E : XK} (ha : Val ta σ H x) (h : ∀ Q : VK, (∀ v H', PV v H' → Q v H') → sp [x] H Q E) : ValH (tCall sp [] E (tCons ta tNil)) σ H PV := fun Q q => ha _ (h Q q)
theorem valH_can2 {sp : Sp} {ta tb : TE} {σ : L2.St} {H : Hp} {x y : V} {PV : V → Hp → Prop} {E : XK} (ha : Val ta σ H x) (hb : Val tb σ H y) (h : ∀ Q : VK, (∀ v H', PV v H' → Q v H') → sp [x, y] H Q E) : ValH (tCall sp [] E (tCons ta (tCons tb tNil))) σ H PV := fun Q q => ha _ (hb _ (h Q q))
theorem val_can1 {sp : Sp} {ta : TE} {σ : L2.St} {H : Hp} {x v : V} {E : XK} (ha : Val ta σ H x) (h : ∀ Q : VK, Q v H → sp [x] H Q E) : Val (tCall sp [] E (tCons ta tNil)) σ H v := fun Q q => ha _ (h Q q)
theorem val_can2 {sp : Sp} {ta tb : TE} {σ : L2.St} {H : Hp} {x y v : V} {E : XK} (ha : Val ta σ H x) (hb : Val tb σ H y) (h : ∀ Q : VK, Q v H → sp [x, y] H Q E) : Val (tCall sp [] E (tCons ta (tCons tb tNil))) σ H v := fun Q q => ha _ (hb _ (h Q q))
/-- what a draw leaves -/
def Drawn1 (K : PySem.W.Frag) (d : Addr) (H : Hp) (many : Int) (v : V) (H' : Hp) : Prop := ∃ i : Int, v = .int i ∧ 0 ≤ i ∧ i < many ∧ But d H H' ∧ DSt K H' d
theorem valH_take {K : PySem.W.Frag} {ta tb : TE} {σ : L2.St} {H : Hp} {d : Addr} {many : Int} {E : XK} (ha : Val ta σ H (.ref d)) (hb : Val tb σ H (.int many)) (S : DSt K H d) (h0 : 0 < many) (h1 : many < 4611686018427387904) :
    ValH (tCall (spTake K) [] E (tCons ta (tCons tb tNil))) σ H (Drawn1 K d H many) :=
  valH_can2 ha hb fun Q q => ⟨d, many, rfl, S, h0, h1, fun v H' b s l1 l2 => q _ _ ⟨v, rfl, l1, l2, b, s⟩⟩
section
variable {P : Program} {w : World} {K : PySem.W.Frag} {mg : Str → Option Value} {base : Heap}
theorem can_take (D : At K mg "_law_take" s_take ["d", "many"]) (T : BoD mg) (C__law_fill : Can P w K mg base CX0 1 "_law_fill" ["d"] (spFill K)) : Can P w K mg base CX0 2 "_law_take" ["d", "many"] (spTake K) := by
  have sc := sc_take
  refine D.can sc (fun vs H Q E h => ?_) (fun f cdv A outer s H vs Q E hr h => ?_)
  · obtain ⟨d, m, rfl, _⟩ := h
    rfl
  · obtain ⟨d, m, rfl, ⟨c, ns, i, r, k, hd, hc, hcd, hi⟩, m0, m1, q⟩ := h
    have hr1 := hr
    refine ⟨_, (pss_cut (ps_if (pt_cmpR op_lt (pe_ix ix_list (pv 0) pe_int (fun _ _ => rfl)) (pv 1) (nomark _)) (pss_one (ps_asg (pe_can C__law_fill (hr.mono (by omega)) rfl pass0 (pa_cons (pv 0) pa_nil)) (pg_sub (pv 0) pe_int set_list))) pss_nil)
    (pss_cons (ps_set (i := 2) sc.nd rfl (.inl rfl) (pe_op op_mod (pe_callTy call_int1 (by rfl) T.n_int (by decide +kernel) (pa_cons (pe_ix ix_list (pv 0) pe_int (fun _ _ => rfl)) pa_nil)) (pv 1)))
    (pss_cons (ps_asg (pe_op op_fdivW (pe_ix ix_list (pv 0) pe_int (fun _ _ => rfl)) (pv 1)) (pg_sub (pv 0) pe_int set_list))
    (pss_one (ps_ret (pv 2)))))), ?_⟩
    -- if d[2] < many: d[2] = _law_fill(d)
    refine q_cut (M := fun σ' H' => ∃ (c : Addr) (ns : List Int) (i r k : Int), σ' = [some (.ref d), some (.int m), none] ∧ But d H H' ∧ H' d = some (.lst [.ref c, .int i, .int r, .int k]) ∧ H' c = some (.lst (ns.map V.int)) ∧ c ≠ d ∧ 0 ≤ i) ?_ ?_
    · refine e_when (by walk_at "val") (fun _ => ?_) (fun _ => ⟨c, ns, i, r, k, rfl, .refl, hd, hc, hcd, hi⟩)
      refine e_setLH (j := 2) (n := 2) (PV := fun v H' => ∃ n : Int, v = .int n ∧ But d H H' ∧ DSt K H' d) (l := d) (valH_can1 (by walk_at "val") fun Q q => ⟨d, rfl, ⟨c, ns, i, r, k, hd, hc, hcd, hi⟩, fun v H' b S => q _ _ ⟨v, rfl, b, S⟩⟩) ?_
      rintro v H1 ⟨n, rfl, b1, c, ns, i, r, k, hd, hc, hcd, hi⟩
      have hd0 := hd
      refine ⟨_, by walk_at "val", by walk_at "val", hd, rfl, fun H2 b2 hd => ?_⟩
      exact ⟨c, ns, i, n, k, rfl, b1.trans (.mk1 b2 hd0 hd), hd, b2 _ _ hcd hc, hcd, hi⟩
    · rintro σ' H1 ⟨c, ns, i, r, k, rfl, b1, hd, hc, hcd, hi⟩
      refine n_set (by walk_at "val") ?_
      have hd0 := hd
      refine n_setL (l := d) (by walk_at "val") (by walk_at "val") (by walk_at "val") hd rfl fun H2 b2 hd => ?_
      refine e_ret (by walk_at "val") (q _ _ (b1.trans (.mk1 b2 hd0 hd)) ⟨c, ns, _, _, _, hd, b2 _ _ hcd hc, hcd, hi⟩ (Int.emod_nonneg _ (by omega)) (Int.emod_lt_of_pos _ m0))
/-- _law_start(script): the drawing of the script's numbers -/
def spStart (K : PySem.W.Frag) : Sp := fun vs H Q _ => ∃ (a : Addr) (ns : List Int), vs = [.ref a] ∧ SqL K H a (ns.map V.int) ∧ ns.length ≤ 63 ∧ ∀ (d : Addr) (H' : Hp), H d = none → Ex H H' → DSt K H' d → Q (.ref d) H'
theorem can_start (D : At K mg "_law_start" s_start ["script"]) (T : BoD mg) : Can P w K mg base CX0 1 "_law_start" ["script"] (spStart K) := by
  have sc := sc_start
  refine D.can sc (fun vs H Q E h => ?_) (fun f cdv A outer s H vs Q E hr h => ?_)
  · obtain ⟨a, ns, rfl, _⟩ := h
    rfl
  · obtain ⟨a, ns, rfl, ha, hl, q⟩ := h
    refine ⟨_, pss_one (ps_ret (pe_lst (pa_cons (pe_lc (own := [("cell", 1)]) (g := gName 1) (tt := tYes) rfl sc.nd (pi_list (pe_slice sl_list (pv 0) po_none (po_some pe_int))) (blkOk_by (N := ["script", "cell"]) (sc := defScope s_start) (by decide +kernel)) (fun _ _ _ _ _ => pg_name (i := 1) sc.nd rfl (Or.inl rfl)) (fun _ _ _ _ _ => pts_nil)
      (fun _ _ _ _ _ => (pe_callTy call_int1 (by rfl) T.n_int (by decide +kernel) (pa_cons (pv 1) pa_nil)))) (pa_cons pe_int (pa_cons pe_int (pa_cons pe_int pa_nil)))))), ?_⟩
    refine ⟨.ref a, rfl, 63, rfl, a, _, rfl, ha, fun p hp => ?_⟩
    have hcut : cutV (ns.map V.int) none (some 63) = ns.map V.int := by
      unfold cutV
      rw [HT.sIx_none, show HT.sIx (ns.map V.int).length (ns.map V.int).length (some 63) = min 63 (ns.map V.int).length from HT.sIx_nat _ _ 63]
      rw [Nat.min_eq_right (by rw [List.length_map]; exact hl), List.drop_zero, Nat.sub_zero, List.take_length]
    rw [hcut]
    refine ⟨p, rfl, ⟨_, SqL.of upd_same⟩, fun D hD => ?_⟩
    have nDp : D ≠ p := fun e => by
      rw [e, upd_same] at hD
      cases hD
    have hDH : H D = Option.none := by
      rw [upd_ne nDp] at hD
      exact hD
    refine lc_list (xs := ns.map V.int) (fun i H' => Ex H H' ∧ H' p = some (.lst (ns.map V.int)) ∧ H' D = some (.lst ((ns.take i).map V.int))) ⟨?_, ?_, upd_same⟩ (fun i H' _ ⟨_, h, _⟩ => SqL.of h) ?_ ?_
    · intro b o e
      rw [upd_ne (ne_of_none e hDH), upd_ne (ne_of_none e hp)]
      exact e
    · rw [upd_ne nDp.symm, upd_same]
    · rintro i x H' hx ⟨hE, h1, h2⟩
      obtain ⟨n, hn, rfl⟩ : ∃ n, ns[i]? = some n ∧ x = V.int n := by
        rw [List.getElem?_map] at hx
        cases e : ns[i]? with
        | none => rw [e] at hx; cases hx
        | some n => rw [e] at hx; exact ⟨n, rfl, (Option.some.inj hx).symm⟩
      refine ⟨rfl, ?_⟩
      refine ⟨_, rfl, .inl ⟨n, rfl, ?_⟩⟩
      refine ⟨_, h2, ?_, ?_, ?_, ?_⟩
      · rw [List.length_map, List.length_take]
        exact Nat.lt_of_le_of_lt (Nat.min_le_right _ _) (Nat.lt_of_le_of_lt hl (by decide))
      · intro b o e
        rw [upd_ne (ne_of_none e hDH)]
        exact hE _ _ e
      · rw [upd_ne nDp.symm]
        exact h1
      · rw [upd_same, List.take_add_one, hn, List.map_append]
        rfl
    · rintro H' ⟨hE, h1, h2⟩
      rw [List.length_map, List.take_length] at h2
      refine ⟨by show 4 ≤ sizeLine; decide, fun d hd => ?_⟩
      have ndD : D ≠ d := ne_of_none h2 hd
      refine q d _ (fresh_back hE hd) (hE.trans (Ex.new hd)) ⟨D, ns, 0, 0, 0, upd_same, by rw [upd_ne ndD]; exact h2, ndD, by omega⟩
end
theorem cut_S (t : List Nat) (a b : Nat) : cutS (S t) (some (a : Int)) (some (b : Int)) = S ((t.drop a).take (b - a)) := by
  unfold cutS
  rw [S_list, S_len, HT.sIx_nat, HT.sIx_nat]
  show S _ = S _
  congr 1
  by_cases ha : a ≤ t.length
  · have e1 : min a t.length = a := Nat.min_eq_left ha
    rw [e1]
    by_cases hb : b ≤ t.length
    · have e2 : min b t.length = b := Nat.min_eq_left hb
      rw [e2]
    · have e2 : min b t.length = t.length := Nat.min_eq_right (by omega)
      rw [e2, List.take_of_length_le (by rw [List.length_drop]; omega), List.take_of_length_le (by rw [List.length_drop]; omega)]
  · have e1 : min a t.length = t.length := Nat.min_eq_right (by omega)
    rw [e1, List.drop_eq_nil_of_le (Nat.le_refl _), List.drop_eq_nil_of_le (by omega)]
    simp
theorem at_S {t : List Nat} {k : Nat} {c : Nat} {r : List Nat} (h : t.drop k = c :: r) : atI (S t).cps.toList (k : Int) = some c := by
  rw [S_list]
  refine atI_nat ?_
  have := congrArg List.head? h
  rw [List.head?_drop] at this
  exact this
theorem drop_next {t : List Nat} {k c : Nat} {r : List Nat} (h : t.drop k = c :: r) : t.drop (k + 1) = r := by
  rw [← List.tail_drop, h]
  rfl
theorem drop_lt {t : List Nat} {k c : Nat} {r : List Nat} (h : t.drop k = c :: r) : k < t.length := by
  have := congrArg List.length h
  rw [List.length_drop, List.length_cons] at this
  omega
theorem drop_some {t : List Nat} {k : Nat} (h : k < t.length) : ∃ c r, t.drop k = c :: r := by
  cases e : t.drop k with
  | nil =>
    have := congrArg List.length e
    rw [List.length_drop, List.length_nil] at this
    omega
  | cons c r => exact ⟨c, r, rfl⟩
theorem drop_none {t : List Nat} {k : Nat} (h : ¬ k < t.length) : t.drop k = [] := List.drop_eq_nil_of_le (by omega)
/-- the place at which a rest begins -/
def pl (t r : List Nat) : Nat := t.length - r.length
theorem pl_drop {t : List Nat} {k : Nat} (h : k ≤ t.length) : pl t (t.drop k) = k := by
  unfold pl
  rw [List.length_drop]
  omega
def starts2 (a b : Nat) (l : List Nat) : Bool := decide (l.head? = some a ∧ l.tail.head? = some b)
theorem sw_S (t : List Nat) (a b k : Nat) : Txt.startswith3 (S t) (S [a, b]) (k : Int) = starts2 a b (t.drop k) := by
  unfold Txt.startswith3
  have e : fromIndex (S t).length (k : Int) = k := by
    unfold fromIndex
    rw [if_neg (by omega)]
    omega
  rw [e, S_len, S_len]
  unfold Builtin.Str.subAt
  rw [S_len]
  show (decide (k + 2 ≤ t.length) && (t.toArray.extract k (k + 2) == [a, b].toArray)) = _
  rw [List.extract_toArray]
  have hx : ((List.extract t k (k + 2)).toArray == [a, b].toArray) = (List.extract t k (k + 2) == [a, b]) := by
    rw [Bool.eq_iff_iff]
    simp
  rw [hx]
  have hy : List.extract t k (k + 2) = (t.drop k).take 2 := by
    simp [List.extract]
  rw [hy]
  unfold starts2
  cases e1 : t.drop k with
  | nil =>
    have : t.length ≤ k := by
      have := congrArg List.length e1
      rw [List.length_drop, List.length_nil] at this
      omega
    rw [Bool.eq_iff_iff]
    simp
  | cons c r =>
    have hl := congrArg List.length e1
    rw [List.length_drop, List.length_cons] at hl
    cases r with
    | nil =>
      rw [Bool.eq_iff_iff]
      simp
    | cons c2 r2 =>
      rw [List.length_cons] at hl
      rw [Bool.eq_iff_iff]
      simp
      omega
/-! ### what the program reads -/
def sLOWER : Str := "abcdefghijklmnopqrstuvwxyz"
def sUPPER : Str := "ABCDEFGHIJKLMNOPQRSTUVWXYZ"
def sLETTERS : Str := "abcdefghijklmnopqrstuvwxyzABCDEFGHIJKLMNOPQRSTUVWXYZ"
def sDIGITS : Str := "0123456789"
def sTAIL : Str := "abcdefghijklmnopqrstuvwxyzABCDEFGHIJKLMNOPQRSTUVWXYZ0123456789_'"
def sSHORT : Str := "()[],;:=|_.*+-^<>!~"
def lWORDS : List Str := ["and", "andalso", "case", "datatype", "div", "else", "end", "exception", "fn", "fun", "functor", "handle", "if", "in", "let", "mod", "of", "open", "orelse", "raise", "sig", "signature", "struct", "structure", "then", "type", "val", "where"]
def lLONG : List Str := [":>", "=>", "->", "::", "<=", ">=", "<>", ":="]
def inS (c : Nat) (z : Str) : Bool := decide (c ∈ z.cps.toList)
def tailN : List Nat → Nat
  | [] => 0
  | c :: r => if inS c sTAIL = true then tailN r + 1 else 0
theorem tailN_le : ∀ l, tailN l ≤ l.length
  | [] => Nat.le_refl _
  | c :: r => by
    unfold tailN
    split
    · rw [List.length_cons]
      exact Nat.succ_le_succ (tailN_le r)
    · exact Nat.zero_le _
/-- the rest behind blanks and comments: st is where the outermost comment begins, d how many are open; true: the next sign belongs to the one ahead -/
def blanks : List Nat → Nat → Bool → List Nat → Except (List Nat) (List Nat)
  | st, _, true, [] => .error st
  | st, d, true, _ :: r => blanks st d false r
  | _, 0, false, [] => .ok []
  | st, 0, false, c :: r => if c = 32 ∨ c = 10 then blanks st 0 false r else if starts2 40 42 (c :: r) = true then blanks (c :: r) 1 true r else .ok (c :: r)
  | st, _ + 1, false, [] => .error st
  | st, d + 1, false, c :: r => if starts2 40 42 (c :: r) = true then blanks st (d + 2) true r else if starts2 42 41 (c :: r) = true then blanks st d true r else blanks st (d + 1) false r
/-- the rest behind a comment of which d are open -/
def comm : Nat → Bool → List Nat → Option (List Nat)
  | _, true, [] => none
  | d, true, _ :: r => comm d false r
  | 0, false, l => some l
  | _ + 1, false, [] => none
  | d + 1, false, c :: r => if starts2 40 42 (c :: r) = true then comm (d + 2) true r else if starts2 42 41 (c :: r) = true then comm d true r else comm (d + 1) false r
theorem comm0 (l : List Nat) : comm 0 false l = some l := by
  cases l <;> rfl
theorem blanks_comm (st : List Nat) : ∀ (l : List Nat) (d : Nat) (b : Bool), blanks st d b l = (match comm d b l with | some r => blanks st 0 false r | none => .error st)
  | [], d, true => rfl
  | c :: r, d, true => by
    show blanks st d false r = match comm d false r with | some r => blanks st 0 false r | none => .error st
    exact blanks_comm st r d false
  | l, 0, false => by rw [comm0]
  | [], d + 1, false => rfl
  | c :: r, d + 1, false => by
    have i1 := blanks_comm st r (d + 2) true
    have i2 := blanks_comm st r d true
    have i3 := blanks_comm st r (d + 1) false
    by_cases h1 : starts2 40 42 (c :: r) = true
    · have e1 : blanks st (d + 1) false (c :: r) = blanks st (d + 2) true r := if_pos h1
      have e2 : comm (d + 1) false (c :: r) = comm (d + 2) true r := if_pos h1
      rw [e1, e2, i1]
    · by_cases h2 : starts2 42 41 (c :: r) = true
      · have e1 : blanks st (d + 1) false (c :: r) = blanks st d true r := (if_neg h1).trans (if_pos h2)
        have e2 : comm (d + 1) false (c :: r) = comm d true r := (if_neg h1).trans (if_pos h2)
        rw [e1, e2, i2]
      · have e1 : blanks st (d + 1) false (c :: r) = blanks st (d + 1) false r := (if_neg h1).trans (if_neg h2)
        have e2 : comm (d + 1) false (c :: r) = comm (d + 1) false r := (if_neg h1).trans (if_neg h2)
        rw [e1, e2, i3]
theorem blanks_st (st st' : List Nat) : ∀ (l : List Nat), blanks st 0 false l = blanks st' 0 false l
  | [] => rfl
  | c :: r => by
    show (if c = 32 ∨ c = 10 then blanks st 0 false r else _) = (if c = 32 ∨ c = 10 then blanks st' 0 false r else _)
    rw [blanks_st st st' r]
/-! ### errors: where their classes stand -/
class ErrA where
  tok : Addr
  lim : Addr
section
variable {X : Cx} {o e : Expr} {es : List Expr} {to te : TE} {ta : TA} {p p1 p2 pos : Pos}
/-- Own.__init__(self, ..), the own class's __init__ that of ValueError -/
theorem pe_ginit {pl : Sem Bool} {x : Str} {Gc : Addr} (hg : Gl X x) (hm : X.mg x = some (.ref Gc)) (r : ClX.CRead X.K Gc (.type "type")) (vV : PySem.W.findCls X.K (.ref Gc) (.type "type") "__init__" = some (.val (.builtin "ValueError.__init__"))) (ha : PA X (e :: es) ta)
    (hdb : (x == ("__debug__" : Str)) = false := by decide)
    (hc : eval (.Call (.Attribute (.Name x p1) "__init__" p2) (e :: es) [] pos) X.env = (do
      let ov ← eval (.Name x p1) X.env
      standAt p2.atName
      let (f, first) ← holding [ov] (getMethod ov "__init__" pl)
      callWith pos f first (backTo pos (starEach (e :: es) X.env)) (backToKw pos (keywordEach [] X.env))) := by rfl)
    (he : starEach (e :: es) X.env = (false, eval e X.env) :: starEach es X.env := by rfl) (hpl : (backTo pos (starEach es X.env)).any (·.1) = false := by rfl) :
    PE X (.Call (.Attribute (.Name x p1) "__init__" p2) (e :: es) [] pos) (tVeI X.K ta) := by
  refine ⟨fun pins s σ H Q I h => ?_⟩
  refine PySem.W.methodCall_KW (ld_glob I hg hm ?_ hdb) hc
  refine PySem.W.method_cls I.kIn r.ga (PySem.W.cls_value I.kIn r.rd vV (by decide +kernel) ?_)
  show wpAny _ _ (callWith pos (Value.builtin "ValueError.__init__") [] (backTo pos (starEach (e :: es) X.env)) []) _ _ _
  refine PyProof.Rows.callWith_method1 (thn (ha.run pos pins _ σ H _ (I.tok _) h) fun us s1 ⟨vs, H1, I1, r1, a, C, ws, ev, hl, T, ea, q⟩ => ?_) he hpl
  subst ev
  cases r1 with
  | @cons _ u0 _ ur ra rw' =>
    obtain rfl : u0 = Value.ref a := ra
    have hlen : ur.length ≤ sizeLine := by
      rw [← Paired.length rw', sizeLine_eq]
      omega
    exact oinit_ok T I1 ea hlen fun s' J => ⟨.non, H1, J, rfl, q⟩
end
variable [ErrA]
abbrev CXv (P : Program) (w : World) : CXT := L2.CX P w
/-- a token error at k may leave, whatever has been made -/
def Er (E : XK) (k : Int) (H : Hp) : Prop := k.natAbs.log2 < 1920 ∧ ∀ (H' : Hp) (d : Addr), Ex H H' → H' d = none → E (.ref ErrA.tok) (some d) (upd H' d (.xd [("at", .int k)]))
theorem er_up {E : XK} {k : Int} {H : Hp} (h : Er E k H) : Er E k H := h
theorem er_ex {E : XK} {k : Int} {H H2 : Hp} (e : Ex H H2) (h : Er E k H) : Er E k H2 := ⟨h.1, fun H' d e' n => h.2 H' d (fun a o z => e' a o (e a o z)) n⟩
/-- a limit error may leave -/
def Er2 (E : XK) (H : Hp) : Prop := E (.ref ErrA.lim) none H
/-! ### TokenError.__init__ -/
abbrev s_tinit : Stmt := inClass (top 3) 0
theorem sc_tinit : FnScope ["self", "at"] ["self", "at"] (defScope s_tinit) := ⟨rfl, rfl, rfl, by decide +kernel, rfl, by decide +kernel, by decide +kernel⟩
def spTinit : Sp := fun vs H Q _ => ∃ (a : Addr) (k : Int), vs = [.ref a, .int k] ∧ k.natAbs.log2 < 1920 ∧ H a = some (exo a ErrA.tok none) ∧ ∀ dx, H dx = none → dx ≠ a → Q .non (upd (upd H dx (exd dx [("at", .int k)])) a (exo a ErrA.tok (some dx)))
def tRt (E : XK) (te : TE) : TS := fun _ σ H => tMkO ErrA.tok spTinit [] (tCons te tNil) σ H fun cls d H' => E cls d H'
def tRl (E : XK) : TS := fun _ _ H => E (.ref ErrA.lim) none H
theorem er_go {E : XK} {k : Int} {H : Hp} {D : Ends} {σ : L2.St} {te : TE} (h : Er E k H) (hv : Val te σ H (.int k) := by exact val_var rfl) : tRt E te D σ H := hv _ ⟨by show 1 ≤ 1000; decide, fun a ha => ⟨a, k, rfl, h.1, upd_same, fun dx hdx hne => by
  have hd : H dx = none := by rwa [upd_ne hne] at hdx
  refine ⟨rfl, dx, [("at", .int k)], upd_same, by rw [upd_ne hne, upd_same], hd, ?_⟩
  have e : upd (del (upd (upd (upd H a (exo a ErrA.tok none)) dx (exd dx [("at", .int k)])) a (exo a ErrA.tok (some dx))) a) dx (.xd [("at", .int k)]) = upd H dx (.xd [("at", .int k)]) := by
    funext b
    by_cases hb : b = dx
    · rw [hb, upd_same, upd_same]
    · rw [upd_ne hb, upd_ne hb]
      by_cases hba : b = a
      · rw [hba, del_same, ha]
      · rw [del_ne hba, upd_ne hba, upd_ne hb, upd_ne hba]
  rw [e]
  exact h.2 H dx (Ex.refl H) hd⟩⟩
theorem er2_go {E : XK} {H : Hp} {D : Ends} {σ : L2.St} (h : Er2 E H) : tRl E D σ H := h
/-- what the top says of the errors -/
structure Tke (w : World) (K : PySem.W.Frag) (mg : Str → Option Value) : Prop where
  gT : mg "TokenError" = some (.ref ErrA.tok)
  gL : mg "LimitError" = some (.ref ErrA.lim)
  oex : OexC K ErrA.tok
  noat : PySem.W.findIn K (.ref ErrA.tok) "at" = some none
  ini : ∃ (f : Addr) (fd : FuncData), Fun K "__init__" "TokenError.__init__" s_tinit f fd ∧ Binds K fd ["self", "at"] [] ∧ PySem.W.findIn K (.ref ErrA.tok) "__init__" = some (some (.ref f)) ∧ PySem.W.typeIn K (.ref f) = some (.type "function")
  gG : ∃ G : Addr, mg "GuanacoError" = some (.ref G) ∧ ClX.CRead K G (.type "type") ∧ PySem.W.findCls K (.ref G) (.type "type") "__init__" = some (.val (.builtin "ValueError.__init__"))
  limQ : PySem.W.excIn K ErrA.lim He.veBase "ValueError.__new__" = true
  limK : PySem.W.keepIn K (.ref ErrA.lim) = true
  limB : PySem.W.subIn K (.ref ErrA.lim) (.type "BaseException") = some true
  limT : PySem.W.typeIn K (.ref ErrA.lim) = some (.type "type")
theorem len_app (a b : Str) : (a ++ b).length = a.length + b.length := by
  rw [← S_of a, ← S_of b, S_app, S_len, S_len, S_len, List.length_append]
section
variable {P : Program} {w : World} {K : PySem.W.Frag} {mg : Str → Option Value} {base : Heap}
theorem ok_tinit {f : Addr} {fd : FuncData} (F : Fun K "__init__" "TokenError.__init__" s_tinit f fd) (T : Tke w K mg) : FnOk P w K mg base CX0 1 f fd ["self", "at"] spTinit := by
  have sc := sc_tinit
  obtain ⟨G, gG, gr, gv⟩ := T.gG
  refine F.ok sc (fun vs H Q E h => ?_) (fun cdv A outer s H vs Q E hr h => ?_)
  · obtain ⟨a, k, rfl, _⟩ := h
    rfl
  · obtain ⟨a, k, rfl, hk, ha, q⟩ := h
    refine ⟨_, pss_cons (ps_expr (pe_ginit rfl gG gr gv (pa_cons (pv 0) (pa_cons (pe_joined (.cons pe_str (.cons (pe_fmt (pv 1)) .nil))) pa_nil)))) (pss_one (ps_ost (pv 0) (pv 1) rfl)), ?_⟩
    refine ⟨_, rfl, _, rfl, by decide +kernel, _, rfl, .inr ⟨k, rfl, hk, _, rfl, ?_, a, _, _, rfl, (by show 1 ≤ 1000; decide), T.oex, ha, ?_⟩⟩
    · rw [len_app]
      have h1 := PyProof.Rows.int_text_len_1921 hk
      have h2 : ((Str.empty ++ "no token can be read at " : Str)).length ≤ 100 := by decide +kernel
      exact size_line (by omega)
    · exact ⟨_, rfl, _, rfl, a, _, rfl, T.oex, T.noat, .inl ⟨ha, fun dx n ne => q dx n ne⟩⟩
theorem ps_rtok {N : List Str} {x : Str} {scope : Scope} {f : Addr} {cdv : Value} {A : Around} {outer : List Env} {s : Shared} {H : Hp} {E : XK} {k : Nat} {e : Expr} {te : TE} {p pos pos' : Pos} (T : Tke w K mg) (hr : Room (k + 2) (A.deeper (envOfC x scope s.heap.objs.size f cdv)))
    (hg : Gl (cxOf (L2.CX P w) P w K mg base N x scope f cdv A outer s H E) "TokenError") (he : PE (cxOf (L2.CX P w) P w K mg base N x scope f cdv A outer s H E) e te)
    (hes : starEach [e] (cxOf (L2.CX P w) P w K mg base N x scope f cdv A outer s H E).env = (false, eval e (cxOf (L2.CX P w) P w K mg base N x scope f cdv A outer s H E).env) :: starEach [] (cxOf (L2.CX P w) P w K mg base N x scope f cdv A outer s H E).env := by rfl) :
    PS (cxOf (L2.CX P w) P w K mg base N x scope f cdv A outer s H E) (.Raise (some (.Call (.Name "TokenError" p) [e] [] pos)) none pos') (tRt E te) := by
  obtain ⟨fI, fd, F, b, iC, tI⟩ := T.ini
  have G1 := ok_tinit (P := P) (base := base) F T
  exact ps_raise (pos := pos') rfl (takes_of rfl rfl rfl rfl) (pmk_oex (X := cxOf (L2.CX P w) P w K mg base N x scope f cdv A outer s H E) (es := []) (p := p) (pos := pos) T.oex iC tI G1 (hr.mono (by omega)) b .nil pass0 hg T.gT (pa_cons he pa_nil hes) (by decide) hes rfl)
theorem ps_rlim {N : List Str} {x m : Str} {j : Nat} {scope : Scope} {f : Addr} {cdv : Value} {A : Around} {outer : List Env} {s : Shared} {H : Hp} {E : XK} {p p2 pos pos' : Pos} (T : Tke w K mg)
    (hg : Gl (cxOf (L2.CX P w) P w K mg base N x scope f cdv A outer s H E) "LimitError") :
    PS (cxOf (L2.CX P w) P w K mg base N x scope f cdv A outer s H E) (.Raise (some (.Call (.Name "LimitError" p) [.Constant (.str m) j p2] [] pos)) none pos') (tRl E) := by
  have r := ps_raise (pos := pos') rfl (takes_of rfl rfl rfl rfl) (pmk_own (X := cxOf (L2.CX P w) P w K mg base N x scope f cdv A outer s H E) (m := m) (j := j) (p := p) (p2 := p2) (pos := pos) F.excBase_ValueError T.limQ T.gL T.limK (raises_own T.limB T.limT) hg (by decide))
  exact ⟨fun pins s σ H D I h => r.run pins s σ H D I h⟩
/-- what a callee lets out goes on -/
theorem passV {N : List Str} {x : Str} {scope : Scope} {f : Addr} {cdv : Value} {A : Around} {outer : List Env} {s : Shared} {H : Hp} {E : XK} : Passes (L2.CX P w) (cxOf (L2.CX P w) P w K mg base N x scope f cdv A outer s H E) E := passes_call (takes_of rfl rfl rfl rfl) fun _ _ _ _ h => h
theorem At.canV {x : Str} {st : Stmt} {N ps : List Str} {k : Nat} {sp : Sp} (D : At K mg x st ps) (S : FnScope N ps (defScope st)) (len : ∀ vs H Q E, sp vs H Q E → vs.length = ps.length)
    (hbody : ∀ (f : Addr) (cdv : Value) (A : Around) (outer : List Env) (s : Shared) (H : Hp) (vs : List V) (Q : VK) (E : XK), Room k (A.deeper (envOfC x (defScope st) s.heap.objs.size f cdv)) → sp vs H Q E →
      ∃ t, PSs (cxOf (L2.CX P w) P w K mg base N x (defScope st) f cdv A outer s H E) (defBody st) t ∧ t { nx := fun _ H' => Q .non H', rt := Q } (start N vs) H) : Can P w K mg base (CXv P w) (k + 1) x ps sp := by
  obtain ⟨f, fd, F, a, b⟩ := D.ex
  exact ⟨f, fd, F.okX S len (fun cdv A outer s H vs Q E hr h => hbody f cdv A outer s H vs Q E hr h), a, F.kp, b⟩
end
/-- the names of the top that are not defs -/
def escOf (t1 t2 t3 : Tok) (z : Str) : Option Value := if z = "n" then some (.str "\n" t1) else if z = "\\" then some (.str "\\" t2) else if z = "\"" then some (.str "\"" t3) else none
structure Bo0 (w : World) (K : PySem.W.Frag) (mg : Str → Option Value) : Prop extends BoD mg where
  n_any : mg "any" = none
  n_range : mg "range" = none
  n_str : mg "str" = none
  n_isinstance : mg "isinstance" = none
  n_list : mg "list" = none
  n_tuple : mg "tuple" = none
  n_bool : mg "bool" = none
  TAIL : ∃ tk, mg "TAIL" = some (.str sTAIL tk)
  LETTERS : ∃ tk, mg "LETTERS" = some (.str sLETTERS tk)
  DIGITS : ∃ tk, mg "DIGITS" = some (.str sDIGITS tk)
  UPPER : ∃ tk, mg "UPPER" = some (.str sUPPER tk)
  LOWER : ∃ tk, mg "LOWER" = some (.str sLOWER tk)
  SHORT_SIGNS : ∃ tk, mg "SHORT_SIGNS" = some (.str sSHORT tk)
  LONGEST_TEXT : ∃ tk, mg "LONGEST_TEXT" = some (.int 4000 tk)
  LONGEST_IDENTIFIER : ∃ tk, mg "LONGEST_IDENTIFIER" = some (.int 24 tk)
  MOST_DIGITS : ∃ tk, mg "MOST_DIGITS" = some (.int 18 tk)
  WORDS : ∃ a, mg "WORDS" = some (.ref a) ∧ ∀ H, SqT K H a (lWORDS.map V.str)
  LONG_SIGNS : ∃ a, mg "LONG_SIGNS" = some (.ref a) ∧ ∀ H, SqT K H a (lLONG.map V.str)
  ESCAPES : ∃ (a : Addr) (es : Array DictEntry) (n : Nat) (t1 t2 t3 : Tok), mg "ESCAPES" = some (.ref a) ∧ KDict K w a es n ∧ ∀ z, PySem.W.nsIn K a z = some (escOf t1 t2 t3 z)
structure Bo (w : World) (K : PySem.W.Frag) (mg : Str → Option Value) : Prop extends Bo0 w K mg, Tke w K mg
abbrev s_tail : Stmt := top 21
theorem sc_tail : FnScope ["text", "at"] ["text", "at"] (defScope s_tail) := ⟨rfl, rfl, rfl, by decide +kernel, rfl, by decide +kernel, by decide +kernel⟩
def spTail : Sp := fun vs H Q _ => ∃ (t : List Nat) (k : Nat), vs = [.str (S t), .int k] ∧ t.length ≤ 5000 ∧ k ≤ t.length ∧ Q (.int ((k + tailN (t.drop k) : Nat) : Int)) H
theorem val_tail {ta tb : TE} {σ : L2.St} {H : Hp} {t : List Nat} {k : Nat} {E : XK} (ha : Val ta σ H (.str (S t))) (hb : Val tb σ H (.int (k : Int))) (h1 : t.length ≤ 5000) (h2 : k ≤ t.length) :
    Val (tCall spTail [] E (tCons ta (tCons tb tNil))) σ H (.int ((k + tailN (t.drop k) : Nat) : Int)) := val_can2 ha hb fun Q q => ⟨t, k, rfl, h1, h2, q⟩
abbrev s_comm : Stmt := top 19
theorem sc_comm : FnScope ["text", "start", "depth", "at"] ["text", "start"] (defScope s_comm) := ⟨rfl, rfl, rfl, by decide +kernel, rfl, by decide +kernel, by decide +kernel⟩
def spComm : Sp := fun vs H Q E => ∃ (t : List Nat) (k : Nat), vs = [.str (S t), .int k] ∧ t.length ≤ 5000 ∧ k + 2 ≤ t.length ∧
  (∀ r, comm 1 false (t.drop (k + 2)) = some r → Q (.int (pl t r : Int)) H) ∧ (comm 1 false (t.drop (k + 2)) = none → Er E k H)
section
variable {P : Program} {w : World} {K : PySem.W.Frag} {mg : Str → Option Value} {base : Heap}
theorem can_tail (D : At K mg "tail_end" s_tail ["text", "at"]) (T : Bo w K mg) : Can P w K mg base CX0 1 "tail_end" ["text", "at"] spTail := by
  have sc := sc_tail
  refine D.can sc (fun vs H Q E h => ?_) (fun f cdv A outer s H vs Q E hr h => ?_)
  · obtain ⟨t, k, rfl, _⟩ := h
    rfl
  · obtain ⟨t, k, rfl, ht, hk, q⟩ := h
    obtain ⟨tk, m_TAIL⟩ := T.TAIL
    refine ⟨_, (pss_cons (ps_while PassesOwn.never (PW.pt (pw_and (pt_cmpR op_lt (pv 1) (pe_callB call_len_str (by rfl) T.n_len PySem.boot_len (pa_cons (pv 0) pa_nil)) (nomark _)) (pw_and1 (pt_cmpR op_in_sign (pe_ix ix_str (pv 0) (pv 1) (fun _ _ => rfl)) (pe_gs rfl m_TAIL) (by rfl))))) (pss_one (ps_aug (i := 1) sc.nd rfl (.inl rfl) pe_int ip_add)))
    (pss_one (ps_ret (pv 1)))), ?_⟩
    refine n_while (fun m σ' H' => ∃ j : Nat, σ' = [some (.str (S t)), some (.int j)] ∧ H' = H ∧ j ≤ t.length ∧ m = t.length - j ∧ j + tailN (t.drop j) = k + tailN (t.drop k)) (t.length - k) ⟨k, rfl, rfl, hk, rfl, rfl⟩ ?_
    rintro m σ' H' ⟨j, rfl, rfl, hj, rfl, e⟩
    by_cases hlt : j < t.length
    · obtain ⟨c, r, hd⟩ := drop_some hlt
      have hc := at_S hd
      have et : tailN (t.drop j) = if inS c sTAIL = true then tailN (t.drop (j + 1)) + 1 else 0 := by
        rw [hd, drop_next hd]
        rfl
      refine ⟨_, ans_and3 (by walk_at "val") fun _ => (by walk_at "val"), fun hb => ?_, fun hb => ?_⟩
      · have hb2 : inS c sTAIL = true := (Bool.and_eq_true _ _ ▸ hb).2
        rw [if_pos hb2] at et
        exact e_augI rfl val_c ⟨t.length - (j + 1), by omega, j + 1, rfl, rfl, by omega, rfl, by omega⟩
      · have hb2 : ¬ inS c sTAIL = true := fun h => by
          have h1 : decide ((j : Int) < ((S t).length : Int)) = true := decide_eq_true (by rw [S_len]; omega)
          have h2 : decide (c ∈ sTAIL.cps.toList) = true := h
          rw [h1, h2] at hb
          exact Bool.noConfusion hb
        rw [if_neg hb2] at et
        exact e_ret (Val.is (val_var rfl) (show V.int (j : Int) = V.int ((k + tailN (t.drop k) : Nat) : Int) by rw [← e, et]; rfl)) q
    · have h1 : decide ((j : Int) < ((S t).length : Int)) = false := decide_eq_false (by rw [S_len]; omega)
      refine ⟨false, ?_, fun hb => Bool.noConfusion hb, fun _ => ?_⟩
      · refine ans_and0 ?_
        rw [← h1]
        walk_at "val"
      · have et : tailN (t.drop j) = 0 := by rw [drop_none hlt]; rfl
        exact e_ret (Val.is (val_var rfl) (show V.int (j : Int) = V.int ((k + tailN (t.drop k) : Nat) : Int) by rw [← e, et]; rfl)) q
end
theorem val_sw {K : PySem.W.Frag} {σ : L2.St} {H : Hp} {ta tc : TE} {t : List Nat} {k a b : Nat} {z : Str} (ha : Val ta σ H (.str (S t))) (hc : Val tc σ H (.int (k : Int))) (hz : z = S [a, b]) :
    Val (tBM K "str" (fun x xs H Q => ∃ (a b : Str) (i : Int), x = .str a ∧ xs = [.str b, .int i] ∧ Q (.bl (Txt.startswith3 a b i)) H) ta (tCons (tC (.str z)) (tCons tc tNil))) σ H (.bl (starts2 a b (t.drop k))) := fun Q q =>
  ha _ ⟨rfl, hc _ ⟨S t, z, k, rfl, rfl, by
    rw [hz, sw_S]
    exact q⟩⟩
theorem lit_oc : ("(*" : Str) = S [40, 42] := by decide +kernel
theorem lit_co : ("*)" : Str) = S [42, 41] := by decide +kernel
theorem comm_next {d c : Nat} {r : List Nat} : comm (d + 1) false (c :: r) = if starts2 40 42 (c :: r) = true then comm (d + 2) true r else if starts2 42 41 (c :: r) = true then comm d true r else comm (d + 1) false r := rfl
theorem starts2_two {a b c : Nat} {r : List Nat} (h : starts2 a b (c :: r) = true) : c = a ∧ ∃ r2, r = b :: r2 := by
  unfold starts2 at h
  have h := of_decide_eq_true h
  refine ⟨Option.some.inj h.1, ?_⟩
  cases r with
  | nil => cases h.2
  | cons x r2 => exact ⟨r2, by rw [Option.some.inj h.2]⟩
section
variable {P : Program} {w : World} {K : PySem.W.Frag} {mg : Str → Option Value} {base : Heap}
theorem can_comm (D : At K mg "skip_comment" s_comm ["text", "start"]) (T : Bo w K mg) : Can P w K mg base (CXv P w) 3 "skip_comment" ["text", "start"] spComm := by
  have sc := sc_comm
  refine D.canV sc (fun vs H Q E h => ?_) (fun f cdv A outer s H vs Q E hr h => ?_)
  · obtain ⟨t, k, rfl, _⟩ := h
    rfl
  · obtain ⟨t, k, rfl, ht, hk, q, qe⟩ := h
    refine ⟨_, (pss_cons (ps_set (i := 2) sc.nd rfl (.inl rfl) pe_int)
    (pss_cons (ps_set (i := 3) sc.nd rfl (.inl rfl) (pe_op op_add (pv 1) pe_int))
    (pss_cons (ps_while (passes_of rfl) (pt_cmpR op_gt (pv 2) pe_int (nomark _)) (pss_cons (ps_if (pt_cmpR op_ge (pv 3) (pe_callB call_len_str (by rfl) T.n_len PySem.boot_len (pa_cons (pv 0) pa_nil)) (nomark _)) (pss_one (ps_rtok (k := 0) T.toTke (hr.mono (by decide)) rfl (pv 1))) pss_nil)
    (pss_one (ps_if (pt_val (pe_bm PySem.F.plainAttrs_str PySem.F.slot_str_startswith PySem.F.type_str_startswith mt_startswith3 (pv 0) (pa_cons pe_str (pa_cons (pv 3) pa_nil)))) (pss_cons (ps_aug (i := 2) sc.nd rfl (.inl rfl) pe_int ip_add)
    (pss_one (ps_aug (i := 3) sc.nd rfl (.inl rfl) pe_int ip_add))) (pss_one (ps_if (pt_val (pe_bm PySem.F.plainAttrs_str PySem.F.slot_str_startswith PySem.F.type_str_startswith mt_startswith3 (pv 0) (pa_cons pe_str (pa_cons (pv 3) pa_nil)))) (pss_cons (ps_aug (i := 2) sc.nd rfl (.inl rfl) pe_int ip_sub)
    (pss_one (ps_aug (i := 3) sc.nd rfl (.inl rfl) pe_int ip_add))) (pss_one (ps_aug (i := 3) sc.nd rfl (.inl rfl) pe_int ip_add))))))))
    (pss_one (ps_ret (pv 3)))))), ?_⟩
    refine n_set (by walk_at "val") ?_
    refine n_set (by walk_at "val") ?_
    refine n_while (fun m σ' H' => ∃ d j : Nat, σ' = [some (.str (S t)), some (.int k), some (.int d), some (.int j)] ∧ H' = H ∧ j ≤ t.length ∧ m = t.length - j ∧ comm d false (t.drop j) = comm 1 false (t.drop (k + 2))) (t.length - (k + 2)) ⟨1, k + 2, rfl, rfl, hk, rfl, rfl⟩ ?_
    rintro m σ' H' ⟨d, j, rfl, rfl, hj, rfl, e⟩
    refine ⟨_, by walk_at "val", fun hb => ?_, fun hb => ?_⟩
    · have hd : (0 : Int) < d := of_decide_eq_true hb
      obtain ⟨d, rfl⟩ : ∃ d', d = d' + 1 := ⟨d - 1, by omega⟩
      refine n_when (by walk_at "val") (fun hb => ?_) (fun hb => ?_)
      · have hge : ¬ j < t.length := by
          have := of_decide_eq_true hb
          rw [S_len] at this
          omega
        refine er_go (qe ?_)
        rw [← e, drop_none hge]
        rfl
      · have hlt : j < t.length := by
          have := of_decide_eq_false hb
          rw [S_len] at this
          omega
        obtain ⟨c, r, hdr⟩ := drop_some hlt
        refine st_if (ans_val (val_sw (by walk_at "val") (by walk_at "val") lit_oc)) (fun h1 => ?_) (fun h1 => ?_)
        · rw [hdr] at h1
          obtain ⟨rfl, r2, rfl⟩ := starts2_two h1
          have e2 := drop_next (drop_next hdr ▸ rfl : t.drop (j + 1) = 42 :: r2)
          refine n_augI rfl val_c ?_
          refine e_augI rfl val_c ⟨t.length - (j + 2), by omega, d + 2, j + 2, rfl, rfl, ?_, rfl, ?_⟩
          · have := congrArg List.length hdr
            rw [List.length_drop, List.length_cons, List.length_cons] at this
            omega
          · rw [← e, hdr, comm_next, if_pos h1, show t.drop (j + 2) = r2 from e2]
            rfl
        · refine st_if (ans_val (val_sw (by walk_at "val") (by walk_at "val") lit_co)) (fun h2 => ?_) (fun h2 => ?_)
          · rw [hdr] at h1 h2
            obtain ⟨rfl, r2, rfl⟩ := starts2_two h2
            have e2 := drop_next (drop_next hdr ▸ rfl : t.drop (j + 1) = 41 :: r2)
            refine n_augI rfl val_c ?_
            refine e_augI rfl val_c ⟨t.length - (j + 2), by omega, d, j + 2, ?_, rfl, ?_, rfl, ?_⟩
            · show [some (V.str (S t)), some (V.int k), some (V.int ((d : Int) + 1 - 1)), some (V.int (j + 2))] = _
              rw [show (d : Int) + 1 - 1 = d by omega]
              rfl
            · have := congrArg List.length hdr
              rw [List.length_drop, List.length_cons, List.length_cons] at this
              omega
            · rw [← e, hdr, comm_next, if_neg (by rw [h1]; exact Bool.false_ne_true), if_pos h2, show t.drop (j + 2) = r2 from e2]
              rfl
          · rw [hdr] at h1 h2
            refine e_augI rfl val_c ⟨t.length - (j + 1), by omega, d + 1, j + 1, rfl, rfl, by omega, rfl, ?_⟩
            rw [← e, hdr, comm_next, if_neg (by rw [h1]; exact Bool.false_ne_true), if_neg (by rw [h2]; exact Bool.false_ne_true), drop_next hdr]
    · have hd : d = 0 := by
        have := of_decide_eq_false hb
        omega
      subst hd
      rw [comm0] at e
      refine e_ret (Val.is (val_var rfl) ?_) (q _ e.symm)
      rw [pl_drop hj]
end
abbrev s_blanks : Stmt := top 18
theorem sc_blanks : FnScope ["text", "at"] ["text", "at"] (defScope s_blanks) := ⟨rfl, rfl, rfl, by decide +kernel, rfl, by decide +kernel, by decide +kernel⟩
def spBlanks : Sp := fun vs H Q E => ∃ (t : List Nat) (k : Nat), vs = [.str (S t), .int k] ∧ t.length ≤ 5000 ∧ k ≤ t.length ∧
  (∀ r, blanks [] 0 false (t.drop k) = .ok r → Q (.int (pl t r : Int)) H) ∧ (∀ e, blanks [] 0 false (t.drop k) = .error e → Er E (pl t e) H)
theorem comm_len : ∀ (l : List Nat) (d : Nat) (b : Bool) (r : List Nat), comm d b l = some r → ∃ p, l = p ++ r
  | [], _, true, _, h => by cases h
  | c :: l, d, true, r, h => by
    obtain ⟨p, e⟩ := comm_len l d false r h
    exact ⟨c :: p, by rw [e]; rfl⟩
  | l, 0, false, r, h => by
    rw [comm0] at h
    cases h
    exact ⟨[], rfl⟩
  | [], _ + 1, false, _, h => by cases h
  | c :: l, d + 1, false, r, h => by
    rw [comm_next] at h
    split at h
    · obtain ⟨p, e⟩ := comm_len l _ _ r h
      exact ⟨c :: p, by rw [e]; rfl⟩
    · split at h
      · obtain ⟨p, e⟩ := comm_len l _ _ r h
        exact ⟨c :: p, by rw [e]; rfl⟩
      · obtain ⟨p, e⟩ := comm_len l _ _ r h
        exact ⟨c :: p, by rw [e]; rfl⟩
theorem drop_app {t p r : List Nat} {k : Nat} (h : t.drop k = p ++ r) : t.drop (pl t r) = r ∧ pl t r ≤ t.length ∧ (k ≤ t.length → pl t r = k + p.length) := by
  have hl := congrArg List.length h
  rw [List.length_drop, List.length_append] at hl
  by_cases hk : k ≤ t.length
  · have e : pl t r = k + p.length := by
      unfold pl
      omega
    refine ⟨?_, by omega, fun _ => e⟩
    rw [e, ← List.drop_drop, h, List.drop_left]
  · have : p = [] ∧ r = [] := by
      have e : p ++ r = [] := by rw [← h]; exact drop_none (by omega)
      exact List.append_eq_nil_iff.mp e
    obtain ⟨rfl, rfl⟩ := this
    unfold pl
    exact ⟨by simp, by simp, fun z => absurd z hk⟩
theorem blanks_next {st : List Nat} {c : Nat} {r : List Nat} : blanks st 0 false (c :: r) = if c = 32 ∨ c = 10 then blanks st 0 false r else if starts2 40 42 (c :: r) = true then blanks (c :: r) 1 true r else .ok (c :: r) := rfl
theorem in_blank (c : Nat) : decide (c ∈ (" \n" : Str).cps.toList) = decide (c = 32 ∨ c = 10) := by
  have e : (" \n" : Str).cps.toList = [32, 10] := by decide +kernel
  rw [e]
  simp
section
variable {P : Program} {w : World} {K : PySem.W.Frag} {mg : Str → Option Value} {base : Heap}
theorem can_blanks (D : At K mg "skip_blanks" s_blanks ["text", "at"]) (T : Bo w K mg) (C_skip_comment : Can P w K mg base (CXv P w) 3 "skip_comment" ["text", "start"] spComm) : Can P w K mg base (CXv P w) 4 "skip_blanks" ["text", "at"] spBlanks := by
  have sc := sc_blanks
  refine D.canV sc (fun vs H Q E h => ?_) (fun f cdv A outer s H vs Q E hr h => ?_)
  · obtain ⟨t, k, rfl, _⟩ := h
    rfl
  · obtain ⟨t, k, rfl, ht, hk, q, qe⟩ := h
    have hr1 := hr
    refine ⟨_, (pss_cons (ps_while (passes_of rfl) (pt_cmpR op_lt (pv 1) (pe_callB call_len_str (by rfl) T.n_len PySem.boot_len (pa_cons (pv 0) pa_nil)) (nomark _)) (pss_one (ps_if (pt_cmpR op_in_sign (pe_ix ix_str (pv 0) (pv 1) (fun _ _ => rfl)) pe_str (by rfl)) (pss_one (ps_aug (i := 1) sc.nd rfl (.inl rfl) pe_int ip_add)) (pss_one (ps_if (pt_val (pe_bm PySem.F.plainAttrs_str PySem.F.slot_str_startswith PySem.F.type_str_startswith mt_startswith3 (pv 0) (pa_cons pe_str (pa_cons (pv 1) pa_nil)))) (pss_one (ps_set (i := 1) sc.nd rfl (.inl rfl) (pe_can C_skip_comment (hr.mono (by omega)) rfl passV (pa_cons (pv 0) (pa_cons (pv 1) pa_nil))))) (pss_one ps_break))))))
    (pss_one (ps_ret (pv 1)))), ?_⟩
    refine n_while (fun m σ' H' => ∃ j : Nat, σ' = [some (.str (S t)), some (.int j)] ∧ H' = H ∧ j ≤ t.length ∧ m = t.length - j ∧ blanks [] 0 false (t.drop j) = blanks [] 0 false (t.drop k)) (t.length - k) ⟨k, rfl, rfl, hk, rfl, rfl⟩ ?_
    rintro m σ' H' ⟨j, rfl, rfl, hj, rfl, e⟩
    have fin : ∀ l, t.drop j = l → blanks [] 0 false l = .ok l → Q (V.int (j : Int)) H' := fun l hl hb => by
      have := q l (by rw [← e, hl]; exact hb)
      rw [← hl, pl_drop hj] at this
      exact this
    refine ⟨_, by walk_at "val", fun hb => ?_, fun hb => ?_⟩
    · have hlt : j < t.length := by
        have := of_decide_eq_true hb
        rw [S_len] at this
        omega
      obtain ⟨c, r, hdr⟩ := drop_some hlt
      have hc := at_S hdr
      refine st_if (by walk_at "val") (fun h1 => ?_) (fun h1 => ?_)
      · rw [in_blank] at h1
        refine e_augI rfl val_c ⟨t.length - (j + 1), by omega, j + 1, rfl, rfl, by omega, rfl, ?_⟩
        rw [← e, hdr, blanks_next, if_pos (of_decide_eq_true h1), drop_next hdr]
      · rw [in_blank] at h1
        have h1 := of_decide_eq_false h1
        refine st_if (ans_val (val_sw (by walk_at "val") (by walk_at "val") lit_oc)) (fun h2 => ?_) (fun h2 => ?_)
        · rw [hdr] at h2
          have eb : blanks [] 0 false (t.drop k) = blanks (c :: r) 1 true r := by
            rw [← e, hdr, blanks_next, if_neg h1, if_pos h2]
          obtain ⟨rfl, r2, rfl⟩ := starts2_two h2
          have e2 := drop_next (drop_next hdr ▸ rfl : t.drop (j + 1) = 42 :: r2)
          have eb2 : blanks [] 0 false (t.drop k) = match comm 1 false r2 with | some r => blanks (40 :: 42 :: r2) 0 false r | none => .error (40 :: 42 :: r2) := by
            rw [eb]
            exact blanks_comm _ r2 1 false
          have hl2 : j + 2 ≤ t.length := by
            have := congrArg List.length hdr
            rw [List.length_drop, List.length_cons, List.length_cons] at this
            omega
          refine e_call2 (val_var rfl) (val_var rfl) ⟨t, j, rfl, ht, hl2, fun r3 h3 => ?_, fun h3 => ?_⟩
          · rw [show t.drop (j + 2) = r2 from e2] at h3
            obtain ⟨p, hp⟩ := comm_len r2 1 false r3 h3
            obtain ⟨x1, x2, x3⟩ := drop_app (t := t) (k := j + 2) (p := p) (r := r3) ((show t.drop (j + 2) = r2 from e2).trans hp)
            refine ⟨t.length - pl t r3, by have := x3 hl2; omega, pl t r3, rfl, rfl, x2, rfl, ?_⟩
            rw [x1, eb2, h3]
            exact blanks_st _ _ _
          · rw [show t.drop (j + 2) = r2 from e2] at h3
            have := qe (40 :: 42 :: r2) (by rw [eb2, h3])
            rw [← hdr, pl_drop hj] at this
            exact er_up this
        · rw [hdr] at h2
          refine e_brk (e_ret (val_var rfl) (fin _ hdr ?_))
          rw [blanks_next, if_neg h1, if_neg (by rw [h2]; exact Bool.false_ne_true)]
    · have hge : ¬ j < t.length := by
        have := of_decide_eq_false hb
        rw [S_len] at this
        omega
      exact e_ret (val_var rfl) (fin [] (drop_none hge) rfl)
end
/-! ### single tokens -/
def kindW (w : List Nat) : Str := if S w ∈ lWORDS then "word" else if inS (w.headD 0) sUPPER = true then "high" else "low"
def tokW (l : List Nat) : Except (List Nat) (Str × List Nat × List Nat) := if 24 < tailN l then .error l else .ok (kindW (l.take (tailN l)), l.take (tailN l), l.drop (tailN l))
def tokN (l : List Nat) : Except (List Nat) (Str × List Nat × List Nat) :=
  if ((l.take (tailN l)).any (fun c => !inS c sDIGITS) || (decide (l.headD 0 = 48) && decide (1 < tailN l)) || decide (18 < tailN l)) = true then .error l else .ok ("int", l.take (tailN l), l.drop (tailN l))
def tokV (l : List Nat) : Except (List Nat) (Str × List Nat × List Nat) :=
  if (!decide (tailN l.tail = 1) || !inS (l.tail.headD 0) sLOWER) = true then .error l else .ok ("var", l.tail.take 1, l.tail.drop 1)
def RetTok (H : Hp) (Q : VK) (kind : Str) (text : List Nat) (k behind : Nat) : Prop := ∀ (p q : Addr) (H' : Hp), Ex H H' → H p = none → H' p = some (.tup [.ref q, .int behind]) → H' q = some (.tup [.str kind, .str (S text), .int k]) → Q (.ref p) H'
def spTok (pre : List Nat → Prop) (f : List Nat → Except (List Nat) (Str × List Nat × List Nat)) : Sp := fun vs H Q E => ∃ (t : List Nat) (k : Nat), vs = [.str (S t), .int k] ∧ t.length ≤ 5000 ∧ k < t.length ∧ pre (t.drop k) ∧
  (∀ kd tx r, f (t.drop k) = .ok (kd, tx, r) → RetTok H Q kd tx k (pl t r)) ∧ (∀ e, f (t.drop k) = .error e → Er E (pl t e) H)
theorem val_slS {σ : L2.St} {H : Hp} {ta tb tc : TE} {t : List Nat} {a b : Nat} (ha : Val ta σ H (.str (S t))) (hb : Val tb σ H (.int (a : Int))) (hc : Val tc σ H (.int (b : Int))) (hl : t.length ≤ 5000) : Val (tSl rSlS ta (tPart tb) (tPart tc)) σ H (.str (S ((t.drop a).take (b - a)))) := fun Q q =>
  ha _ (hb _ ⟨a, rfl, hc _ ⟨b, rfl, S t, rfl, size_line (by rw [S_len]; omega), by
    rw [cut_S]
    exact q⟩⟩)
theorem inV_str (x : Str) : ∀ ws : List Str, inV (.str x) (ws.map V.str) = decide (x ∈ ws)
  | [] => rfl
  | y :: ws => by
    show (eqV (.str y) (.str x) || inV (.str x) (ws.map V.str)) = _
    rw [inV_str x ws, Bool.eq_iff_iff]
    show ((y == x) || decide (x ∈ ws)) = true ↔ decide (x ∈ y :: ws) = true
    rw [Bool.or_eq_true, beq_iff_eq, decide_eq_true_iff, decide_eq_true_iff, List.mem_cons]
    exact ⟨fun h => h.imp Eq.symm id, fun h => h.imp Eq.symm id⟩
theorem flat_str : ∀ ws : List Str, (ws.map V.str).all flatV = true
  | [] => rfl
  | y :: ws => by
    show (true && (ws.map V.str).all flatV) = true
    rw [flat_str ws]
    rfl
theorem val_inWs {K : PySem.W.Frag} {σ : L2.St} {H : Hp} {ta tb : TE} {x : Str} {p : Addr} {ws : List Str} (ha : Val ta σ H (.str x)) (hb : Val tb σ H (.ref p)) (h : SqT K H p (ws.map V.str)) : Val (tOp (rIn K false) ta tb) σ H (.bl (decide (x ∈ ws))) := by
  rw [← inV_str]
  exact val_inT ha hb (.inr h) rfl (flat_str ws)
theorem e_tok {σ : L2.St} {H H0 : Hp} {kind : Str} {te tk tb : TE} {text : List Nat} {k b : Nat} {F B C : L2.St → Hp → Prop} {R : VK} (h1 : Val te σ H (.str (S text))) (h2 : Val tk σ H (.int (k : Int))) (h3 : ∀ H', Val tb σ H' (.int (b : Int))) (he : Ex H0 H) (q : RetTok H0 R kind text k b) :
    tRet (tTup (tCons (tTup (tCons (tC (.str kind)) (tCons te (tCons tk tNil)))) (tCons tb tNil))) ⟨F, R, B, C⟩ σ H :=
  h1 _ (h2 _ ⟨(by show 3 ≤ sizeLine; decide), fun y hy => h3 _ _ ⟨(by show 2 ≤ sizeLine; decide), fun p hp => by
    have npy : y ≠ p := fun z => by
      rw [← z, upd_same] at hp
      cases hp
    have hpH : H p = Option.none := by
      rw [upd_ne npy.symm] at hp
      exact hp
    refine q p y _ (fun a o e => ?_) (fresh_back he hpH) upd_same (by rw [upd_ne npy, upd_same])
    rw [upd_ne (ne_of_none (he _ _ e) hpH), upd_ne (ne_of_none (he _ _ e) hy)]
    exact he _ _ e⟩⟩)
abbrev s_word : Stmt := top 22
theorem sc_word : FnScope ["text", "at", "behind", "word"] ["text", "at"] (defScope s_word) := ⟨rfl, rfl, rfl, by decide +kernel, rfl, by decide +kernel, by decide +kernel⟩
abbrev s_number : Stmt := top 23
theorem sc_number : FnScope ["text", "at", "behind", "digits", "wrong_sign", "leading_zero", "sign"] ["text", "at"] (defScope s_number) := ⟨rfl, rfl, rfl, by decide +kernel, rfl, by decide +kernel, by decide +kernel⟩
abbrev s_variable : Stmt := top 24
theorem sc_variable : FnScope ["text", "at", "behind", "letter"] ["text", "at"] (defScope s_variable) := ⟨rfl, rfl, rfl, by decide +kernel, rfl, by decide +kernel, by decide +kernel⟩
theorem pl_tail {t : List Nat} {k : Nat} (hk : k < t.length) : pl t ((t.drop k).drop (tailN (t.drop k))) = k + tailN (t.drop k) := by
  have h := tailN_le (t.drop k)
  rw [List.length_drop] at h
  rw [List.drop_drop, pl_drop (by omega)]
section
variable {P : Program} {w : World} {K : PySem.W.Frag} {mg : Str → Option Value} {base : Heap}
theorem can_word (D : At K mg "read_word" s_word ["text", "at"]) (T : Bo w K mg) (C_tail_end : Can P w K mg base CX0 1 "tail_end" ["text", "at"] spTail) : Can P w K mg base (CXv P w) 4 "read_word" ["text", "at"] (spTok (fun l => 0 < tailN l) tokW) := by
  have sc := sc_word
  refine D.canV sc (fun vs H Q E h => ?_) (fun f cdv A outer s H vs Q E hr h => ?_)
  · obtain ⟨t, k, rfl, _⟩ := h
    rfl
  · obtain ⟨t, k, rfl, ht, hk, hp, q, qe⟩ := h
    have hr1 := hr
    obtain ⟨_, m_LONGEST_IDENTIFIER⟩ := T.LONGEST_IDENTIFIER
    obtain ⟨_, m_UPPER⟩ := T.UPPER
    obtain ⟨aw, m_WORDS, hW⟩ := T.WORDS
    refine ⟨_, (pss_cons (ps_set (i := 2) sc.nd rfl (.inl rfl) (pe_can C_tail_end (hr.mono (by omega)) rfl pass0 (pa_cons (pv 0) (pa_cons (pv 1) pa_nil))))
    (pss_cons (ps_set (i := 3) sc.nd rfl (.inl rfl) (pe_slice sl_str (pv 0) (po_some (pv 1)) (po_some (pv 2))))
    (pss_cons (ps_if (pt_cmpR op_gt (pe_callB call_len_str (by rfl) T.n_len PySem.boot_len (pa_cons (pv 3) pa_nil)) (pe_gi rfl m_LONGEST_IDENTIFIER) (nomark _)) (pss_one (ps_rtok (k := 0) T.toTke (hr.mono (by decide)) rfl (pv 1))) pss_nil)
    (pss_cons (ps_if (pt_cmpR op_in_seq (pv 3) (pe_gr rfl m_WORDS) (by rfl)) (pss_one (ps_ret (pe_tup (pa_cons (pe_tup (pa_cons pe_str (pa_cons (pv 3) (pa_cons (pv 1) pa_nil)))) (pa_cons (pv 2) pa_nil))))) pss_nil)
    (pss_cons (ps_if (pt_cmpR op_in_sign (pe_ix ix_str (pv 3) pe_int (fun _ _ => rfl)) (pe_gs rfl m_UPPER) (by rfl)) (pss_one (ps_ret (pe_tup (pa_cons (pe_tup (pa_cons pe_str (pa_cons (pv 3) (pa_cons (pv 1) pa_nil)))) (pa_cons (pv 2) pa_nil))))) pss_nil)
    (pss_one (ps_ret (pe_tup (pa_cons (pe_tup (pa_cons pe_str (pa_cons (pv 3) (pa_cons (pv 1) pa_nil)))) (pa_cons (pv 2) pa_nil)))))))))), ?_⟩
    have hn := tailN_le (t.drop k)
    rw [List.length_drop] at hn
    have epl := pl_tail hk
    generalize en : tailN (t.drop k) = n at *
    refine n_set (v := .int ((k + n : Nat) : Int)) (by rw [← en]; exact val_tail (val_var rfl) (val_var rfl) ht (by omega)) ?_
    refine n_set (v := .str (S ((t.drop k).take n))) (Val.is (val_slS (val_var rfl) (val_var rfl) (val_var rfl) ht) (by rw [Nat.add_sub_cancel_left])) ?_
    have hlen : ((t.drop k).take n).length = n := by
      rw [List.length_take, List.length_drop]
      omega
    refine n_when (by walk_at "val") (fun hb => ?_) (fun hb => ?_)
    · have hb := of_decide_eq_true hb
      rw [S_len, hlen] at hb
      have := qe (t.drop k) (by unfold tokW; rw [en, if_pos (by omega)])
      rw [pl_drop (by omega)] at this
      exact er_go this
    · have hb := of_decide_eq_false hb
      rw [S_len, hlen] at hb
      have q := q _ _ _ (by unfold tokW; rw [en, if_neg (by omega)])
      rw [epl] at q
      refine n_when (ans_t (val_inWs (val_var rfl) val_c (hW _))) (fun h1 => ?_) (fun h1 => ?_)
      · have h1 := of_decide_eq_true h1
        refine e_tok (val_var rfl) (val_var rfl) (fun _ => val_var rfl) (Ex.refl H) ?_
        rw [show kindW ((t.drop k).take n) = "word" from if_pos h1] at q
        exact q
      · have h1 := of_decide_eq_false h1
        obtain ⟨c, r, hdr⟩ : ∃ c r, (t.drop k).take n = c :: r := by
          cases e : (t.drop k).take n with
          | nil =>
            rw [e] at hlen
            simp at hlen
            omega
          | cons c r => exact ⟨c, r, rfl⟩
        have hc : atI (S ((t.drop k).take n)).cps.toList 0 = some c := at_S (k := 0) (r := r) (by rw [List.drop_zero]; exact hdr)
        have hl2 : (S ((t.drop k).take n)).length ≤ sizeLine := size_line (by rw [S_len, hlen]; omega)
        refine n_when (ans_t (val_inC (val_ixS (val_var rfl) val_c hl2 hc) val_c)) (fun h2 => ?_) (fun h2 => ?_)
        · refine e_tok (val_var rfl) (val_var rfl) (fun _ => val_var rfl) (Ex.refl H) ?_
          rw [show kindW ((t.drop k).take n) = "high" from (if_neg h1).trans (if_pos (by rw [hdr]; exact h2))] at q
          exact q
        · refine e_tok (val_var rfl) (val_var rfl) (fun _ => val_var rfl) (Ex.refl H) ?_
          rw [show kindW ((t.drop k).take n) = "low" from (if_neg h1).trans (if_neg (by rw [hdr]; exact fun z => Bool.noConfusion (h2.symm.trans z)))] at q
          exact q
end
theorem yes_go {σ : L2.St} {H : Hp} {Q : Bool → Hp → Prop} (h : Q true H) : tYes σ H Q := h
theorem val_go {te : TE} {σ : L2.St} {H : Hp} {v : V} {Q : VK} (h : Val te σ H v) (q : Q v H) : te σ H Q := h Q q
theorem sign_eq (c d : Nat) : decide (V.str ⟨#[c]⟩ = V.str ⟨#[d]⟩) = decide (c = d) := by
  rw [Bool.eq_iff_iff, decide_eq_true_iff, decide_eq_true_iff]
  constructor
  · intro h
    have h := V.str.inj h
    have h := congrArg (fun z : Str => z.cps.toList) h
    simpa using h
  · rintro rfl
    rfl
theorem lit_0 : ("0" : Str) = ⟨#[48]⟩ := by decide +kernel
section
variable {P : Program} {w : World} {K : PySem.W.Frag} {mg : Str → Option Value} {base : Heap}
theorem any_take {f : Nat → Bool} (l : List Nat) : ((l.map fun c => f c).any id) = l.any f := by
  induction l with
  | nil => rfl
  | cons c r ih =>
    show (f c || (r.map fun c => f c).any id) = (f c || r.any f)
    rw [ih]
theorem can_number (D : At K mg "read_number" s_number ["text", "at"]) (T : Bo w K mg) (C_tail_end : Can P w K mg base CX0 1 "tail_end" ["text", "at"] spTail) : Can P w K mg base (CXv P w) 4 "read_number" ["text", "at"] (spTok (fun l => 0 < tailN l) tokN) := by
  have sc := sc_number
  refine D.canV sc (fun vs H Q E h => ?_) (fun f cdv A outer s H vs Q E hr h => ?_)
  · obtain ⟨t, k, rfl, _⟩ := h
    rfl
  · obtain ⟨t, k, rfl, ht, hk, hp, q, qe⟩ := h
    have hr1 := hr
    obtain ⟨_, m_MOST_DIGITS⟩ := T.MOST_DIGITS
    obtain ⟨_, m_DIGITS⟩ := T.DIGITS
    refine ⟨_, (pss_cons (ps_set (i := 2) sc.nd rfl (.inl rfl) (pe_can C_tail_end (hr.mono (by omega)) rfl pass0 (pa_cons (pv 0) (pa_cons (pv 1) pa_nil))))
    (pss_cons (ps_set (i := 3) sc.nd rfl (.inl rfl) (pe_slice sl_str (pv 0) (po_some (pv 1)) (po_some (pv 2))))
    (pss_cons (ps_set (i := 4) sc.nd rfl (.inl rfl) (pe_callB (cr_any rfl) (by rfl) T.n_any (by decide +kernel) (pa_cons (pe_lc (own := [("sign", 6)]) (g := gName 6) (tt := tYes) rfl sc.nd (pi_str (pv 3)) (blkOk_by (N := ["text", "at", "behind", "digits", "wrong_sign", "leading_zero", "sign"]) (sc := defScope s_number) (by decide +kernel)) (fun _ _ _ _ _ => pg_name (i := 6) sc.nd rfl (Or.inl rfl)) (fun _ _ _ _ _ => pts_nil) (fun _ _ _ _ _ => (pe_cmpR op_notIn_sign (pv 6) (pe_gs rfl m_DIGITS) (by rfl)))) pa_nil)))
    (pss_cons (ps_set (i := 5) sc.nd rfl (.inl rfl) (pe_and (pe_cmpR op_eq (pe_ix ix_str (pv 3) pe_int (fun _ _ => rfl)) pe_str (nomark _)) (pe_one (pe_cmpR op_gt (pe_callB call_len_str (by rfl) T.n_len PySem.boot_len (pa_cons (pv 3) pa_nil)) pe_int (nomark _)))))
    (pss_cons (ps_if (PW.pt (pw_or (pt_val (pv 4)) (pw_or (pt_val (pv 5)) (pw_or1 (pt_cmpR op_gt (pe_callB call_len_str (by rfl) T.n_len PySem.boot_len (pa_cons (pv 3) pa_nil)) (pe_gi rfl m_MOST_DIGITS) (nomark _)))))) (pss_one (ps_rtok (k := 0) T.toTke (hr.mono (by decide)) rfl (pv 1))) pss_nil)
    (pss_one (ps_ret (pe_tup (pa_cons (pe_tup (pa_cons pe_str (pa_cons (pv 3) (pa_cons (pv 1) pa_nil)))) (pa_cons (pv 2) pa_nil)))))))))), ?_⟩
    have hn := tailN_le (t.drop k)
    rw [List.length_drop] at hn
    have epl := pl_tail hk
    obtain ⟨c0, r0, hd0⟩ := drop_some hk
    have hhead : (t.drop k).headD 0 = c0 := by rw [hd0]; rfl
    generalize en : tailN (t.drop k) = n at *
    refine n_set (v := .int ((k + n : Nat) : Int)) (by rw [← en]; exact val_tail (val_var rfl) (val_var rfl) ht (by omega)) ?_
    refine n_set (v := .str (S ((t.drop k).take n))) (Val.is (val_slS (val_var rfl) (val_var rfl) (val_var rfl) ht) (by rw [Nat.add_sub_cancel_left])) ?_
    have hlen : ((t.drop k).take n).length = n := by
      rw [List.length_take, List.length_drop]
      omega
    obtain ⟨r1, hdr⟩ : ∃ r, (t.drop k).take n = c0 :: r := by
      rw [hd0]
      cases n with
      | zero => omega
      | succ n => exact ⟨_, rfl⟩
    generalize eds : (t.drop k).take n = ds at *
    have hl2 : (S ds).length ≤ sizeLine := size_line (by rw [S_len, hlen]; omega)
    refine n_setH (PV := fun v H' => v = .bl (ds.any fun c => !inS c sDIGITS) ∧ Ex H H') (fun Q' q' => ?_) ?_
    · refine ⟨_, rfl, S ds, rfl, fun Dl hD => ?_⟩
      refine lc_it (walk_str (z := S ds)) (fun i H' => Ex H H' ∧ H' Dl = some (.lst ((ds.take i).map fun c => V.bl (!inS c sDIGITS)))) ⟨Ex.new hD, upd_same⟩ (fun _ _ _ _ => True.intro) ?_ ?_
      · rintro i x H1 H2 hi ⟨hE, h2⟩ ⟨rfl, c, hc, rfl⟩
        have hc' : ds[i]? = some c := by
          rw [← Array.getElem?_toList] at hc
          exact hc
        refine ⟨rfl, ?_⟩
        refine yes_go ?_
        refine iteT ?_
        refine val_go (val_notInC (c := c) (val_var rfl) val_c) ⟨_, h2, ?_, ?_, ?_⟩
        · rw [List.length_map, List.length_take]
          exact Nat.lt_of_le_of_lt (Nat.min_le_right _ _) (Nat.lt_of_le_of_lt (show ds.length ≤ 5000 by omega) (by decide))
        · intro b o e
          rw [upd_ne (ne_of_none e hD)]
          exact hE _ _ e
        · rw [upd_same, List.take_add_one, hc', List.map_append]
          rfl
      · rintro H1 ⟨hE, h2⟩
        have ez : (S ds).cps.size = ds.length := S_len ds
        rw [ez, List.take_length] at h2
        refine ⟨Dl, ds.map fun c => !inS c sDIGITS, rfl, SqL.of (by rw [h2, List.map_map]; rfl), q' _ _ ⟨?_, hE⟩⟩
        rw [any_take (f := fun c => !inS c sDIGITS)]
    · rintro v H1 ⟨rfl, hE⟩
      have hc : atI (S ds).cps.toList 0 = some c0 := at_S (k := 0) (r := r1) (by rw [List.drop_zero]; exact hdr)
      refine n_set (v := .bl (decide (c0 = 48) && decide (1 < n))) (Val.is (val_andV (val_eq (val_ixS (val_var rfl) val_c hl2 hc) val_c rfl) fun _ => (val_I0 (val_lenS (val_var rfl) hl2) val_c)) ?_) ?_
      · rw [lit_0, sign_eq, S_len, hlen]
        congr 2
        rw [Bool.eq_iff_iff, decide_eq_true_iff, decide_eq_true_iff]
        omega
      · refine n_when (b := (ds.any fun c => !inS c sDIGITS) || ((decide (c0 = 48) && decide (1 < n)) || decide (18 < n))) ?_ (fun hb => ?_) (fun hb => ?_)
        · refine ans_or2 (ans_val (val_var rfl)) fun _ => ans_or2 (ans_val (val_var rfl)) fun _ => Ans.to (ans_t (val_I0 (val_lenS (val_var rfl) hl2) val_c)) ?_
          rw [S_len, hlen, Bool.eq_iff_iff, decide_eq_true_iff, decide_eq_true_iff]
          omega
        · rw [← Bool.or_assoc] at hb
          have := qe (t.drop k) (by unfold tokN; rw [en, hhead, eds, if_pos hb])
          rw [pl_drop (by omega)] at this
          exact er_go (er_ex hE this)
        · rw [← Bool.or_assoc] at hb
          have q := q _ _ _ (by unfold tokN; rw [en, hhead, eds, if_neg (by rw [hb]; exact Bool.false_ne_true)])
          rw [epl] at q
          exact e_tok (val_var rfl) (val_var rfl) (fun _ => val_var rfl) hE q
theorem can_variable (D : At K mg "read_variable" s_variable ["text", "at"]) (T : Bo w K mg) (C_tail_end : Can P w K mg base CX0 1 "tail_end" ["text", "at"] spTail) : Can P w K mg base (CXv P w) 4 "read_variable" ["text", "at"] (spTok (fun _ => True) tokV) := by
  have sc := sc_variable
  refine D.canV sc (fun vs H Q E h => ?_) (fun f cdv A outer s H vs Q E hr h => ?_)
  · obtain ⟨t, k, rfl, _⟩ := h
    rfl
  · obtain ⟨t, k, rfl, ht, hk, hp, q, qe⟩ := h
    have hr1 := hr
    obtain ⟨_, m_LOWER⟩ := T.LOWER
    refine ⟨_, (pss_cons (ps_set (i := 2) sc.nd rfl (.inl rfl) (pe_can C_tail_end (hr.mono (by omega)) rfl pass0 (pa_cons (pv 0) (pa_cons (pe_op op_add (pv 1) pe_int) pa_nil))))
    (pss_cons (ps_set (i := 3) sc.nd rfl (.inl rfl) (pe_slice sl_str (pv 0) (po_some (pe_op op_add (pv 1) pe_int)) (po_some (pv 2))))
    (pss_cons (ps_if (PW.pt (pw_or (pt_cmpR op_ne (pe_callB call_len_str (by rfl) T.n_len PySem.boot_len (pa_cons (pv 3) pa_nil)) pe_int (nomark _)) (pw_or1 (pt_cmpR op_notIn_sign (pv 3) (pe_gs rfl m_LOWER) (by rfl))))) (pss_one (ps_rtok (k := 0) T.toTke (hr.mono (by decide)) rfl (pv 1))) pss_nil)
    (pss_one (ps_ret (pe_tup (pa_cons (pe_tup (pa_cons pe_str (pa_cons (pv 3) (pa_cons (pv 1) pa_nil)))) (pa_cons (pv 2) pa_nil)))))))), ?_⟩
    have etl : (t.drop k).tail = t.drop (k + 1) := List.tail_drop
    have hn := tailN_le (t.drop (k + 1))
    rw [List.length_drop] at hn
    generalize en : tailN (t.drop (k + 1)) = n at *
    have hv : ∀ H', Val (tOp (rI0 fun i j => V.int (i + j)) (tVar 1) (tC (V.int 1))) (start ["text", "at", "behind", "letter"] [V.str (S t), V.int (k : Int)]) H' (.int ((k + 1 : Nat) : Int)) := fun H' => Val.is (v := V.int ((k : Int) + 1)) (val_I0 (val_var rfl) val_c) rfl
    refine n_set (v := .int ((k + 1 + n : Nat) : Int)) (by rw [← en]; exact val_tail (val_var rfl) (hv _) ht (by omega)) ?_
    refine n_set (v := .str (S ((t.drop (k + 1)).take n))) (Val.is (val_slS (a := k + 1) (val_var rfl) (Val.is (v := V.int ((k : Int) + 1)) (val_I0 (val_var rfl) val_c) rfl) (val_var rfl) ht) (by rw [Nat.add_sub_cancel_left])) ?_
    have hlen : ((t.drop (k + 1)).take n).length = n := by
      rw [List.length_take, List.length_drop]
      omega
    have hl2 : (S ((t.drop (k + 1)).take n)).length ≤ sizeLine := size_line (by rw [S_len, hlen]; omega)
    refine n_when (b := !decide (n = 1) || !inS ((t.drop (k + 1)).headD 0) sLOWER) ?_ (fun hb => ?_) (fun hb => ?_)
    · refine ans_or2 (Ans.to (ans_t (val_ne (val_lenS (val_var rfl) hl2) val_c rfl)) ?_) fun h1 => ?_
      · rw [S_len, hlen]
        congr 1
        rw [Bool.eq_iff_iff, decide_eq_true_iff, decide_eq_true_iff]
        constructor
        · intro h
          have := V.int.inj h
          omega
        · rintro rfl
          rfl
      · have h1 : n = 1 := of_decide_eq_true (by simpa using h1)
        subst h1
        obtain ⟨c, r, hdr⟩ : ∃ c r, t.drop (k + 1) = c :: r := drop_some (by omega)
        rw [hdr]
        exact ans_t (val_notInC (c := c) (val_var rfl) val_c)
    · have := qe (t.drop k) (by unfold tokV; rw [etl, en, if_pos hb])
      rw [pl_drop (by omega)] at this
      exact er_go this
    · have hb2 := hb
      rw [Bool.or_eq_false_iff] at hb2
      have h1 : n = 1 := of_decide_eq_true (by simpa using hb2.1)
      have q := q _ _ _ (by unfold tokV; rw [etl, en, if_neg (by rw [hb]; exact Bool.false_ne_true)])
      rw [List.drop_drop, pl_drop (by omega)] at q
      subst h1
      exact e_tok (val_var rfl) (val_var rfl) (fun _ => val_var rfl) (Ex.refl H) q
end
/-! ### strings -/
def unesc (o : Option Nat) : Option Nat := if o = some 110 then some 10 else if o = some 92 then some 92 else if o = some 34 then some 34 else none
def strB : List Nat → List Nat → Bool → List Nat → Except (List Nat) (List Nat × List Nat)
  | st, _, true, [] => .error st
  | st, acc, true, _ :: r => strB st acc false r
  | st, _, false, [] => .error st
  | st, acc, false, c :: r => if c = 34 then .ok (acc, r) else if c = 10 then .error (c :: r) else if c = 92 then (match unesc r.head? with | some x => strB st (acc ++ [x]) true r | none => .error (c :: r)) else strB st (acc ++ [c]) false r
theorem strB_next {st acc r : List Nat} {c : Nat} : strB st acc false (c :: r) = if c = 34 then .ok (acc, r) else if c = 10 then .error (c :: r) else if c = 92 then (match unesc r.head? with | some x => strB st (acc ++ [x]) true r | none => .error (c :: r)) else strB st (acc ++ [c]) false r := rfl
def tokS (l : List Nat) : Except (List Nat) (Str × List Nat × List Nat) := match strB l [] false l.tail with
  | .ok p => .ok ("string", p.1, p.2)
  | .error e => .error e
theorem strB_len (st : List Nat) : ∀ (l acc : List Nat) (b : Bool) (p : List Nat × List Nat), strB st acc b l = .ok p → ∃ q, l = q ++ p.2
  | [], _, true, _, h => by cases h
  | c :: l, acc, true, p, h => by
    obtain ⟨q, e⟩ := strB_len st l acc false p h
    exact ⟨c :: q, by rw [e]; rfl⟩
  | [], _, false, _, h => by cases h
  | c :: l, acc, false, p, h => by
    rw [strB_next] at h
    split at h
    · cases h
      exact ⟨[c], rfl⟩
    · split at h
      · cases h
      · split at h
        · split at h
          · obtain ⟨q, e⟩ := strB_len st l _ _ p h
            exact ⟨c :: q, by rw [e]; rfl⟩
          · cases h
        · obtain ⟨q, e⟩ := strB_len st l _ _ p h
          exact ⟨c :: q, by rw [e]; rfl⟩
theorem lit_q : ("\"" : Str) = ⟨#[34]⟩ := by decide +kernel
theorem lit_nl : ("\n" : Str) = ⟨#[10]⟩ := by decide +kernel
theorem lit_bs : ("\\" : Str) = ⟨#[92]⟩ := by decide +kernel
theorem lit_n : ("n" : Str) = ⟨#[110]⟩ := by decide +kernel
theorem one_inj {c d : Nat} : S [c] = ⟨#[d]⟩ ↔ c = d := by
  constructor
  · intro h
    have h : [c] = [d] := congrArg (fun z : Str => z.cps.toList) h
    simpa using h
  · rintro rfl
    rfl
theorem esc_some {t1 t2 t3 : Tok} {l : List Nat} {x : Nat} (h : unesc l.head? = some x) : ∃ tk, escOf t1 t2 t3 (S (l.take 1)) = some (.str (S [x]) tk) := by
  cases l with
  | nil => cases h
  | cons c r =>
    show ∃ tk, escOf t1 t2 t3 (S [c]) = some (.str (S [x]) tk)
    unfold escOf
    rw [lit_n, lit_bs, lit_q, lit_nl]
    unfold unesc at h
    simp only [List.head?_cons, Option.some.injEq] at h
    by_cases h1 : c = 110
    · rw [if_pos h1] at h
      cases h
      exact ⟨t1, if_pos (one_inj.mpr h1)⟩
    · rw [if_neg h1] at h
      rw [if_neg (fun z => h1 (one_inj.mp z))]
      by_cases h2 : c = 92
      · rw [if_pos h2] at h
        cases h
        exact ⟨t2, if_pos (one_inj.mpr h2)⟩
      · rw [if_neg h2] at h
        rw [if_neg (fun z => h2 (one_inj.mp z))]
        by_cases h3 : c = 34
        · rw [if_pos h3] at h
          cases h
          exact ⟨t3, if_pos (one_inj.mpr h3)⟩
        · rw [if_neg h3] at h
          cases h
theorem nil_one {d : Nat} : ¬ S [] = ⟨#[d]⟩ := fun h => by
  have h : ([] : List Nat) = [d] := congrArg (fun z : Str => z.cps.toList) h
  cases h
theorem esc_none {t1 t2 t3 : Tok} {l : List Nat} (h : unesc l.head? = none) : escOf t1 t2 t3 (S (l.take 1)) = none := by
  cases l with
  | nil =>
    show escOf t1 t2 t3 (S []) = none
    unfold escOf
    rw [lit_n, lit_bs, lit_q, if_neg nil_one, if_neg nil_one, if_neg nil_one]
  | cons c r =>
    show escOf t1 t2 t3 (S [c]) = none
    unfold escOf
    rw [lit_n, lit_bs, lit_q]
    unfold unesc at h
    simp only [List.head?_cons, Option.some.injEq] at h
    by_cases h1 : c = 110
    · rw [if_pos h1] at h
      cases h
    · rw [if_neg h1] at h
      rw [if_neg (fun z => h1 (one_inj.mp z))]
      by_cases h2 : c = 92
      · rw [if_pos h2] at h
        cases h
      · rw [if_neg h2] at h
        rw [if_neg (fun z => h2 (one_inj.mp z))]
        by_cases h3 : c = 34
        · rw [if_pos h3] at h
          cases h
        · rw [if_neg (fun z => h3 (one_inj.mp z))]
theorem join_signs : ∀ l : List Nat, Txt.join "" (l.map fun c => S [c]) = S l := by
  intro l
  have e0 : ("" : Str) = ⟨#[]⟩ := by decide +kernel
  show Builtin.Str.glued "" _ = _
  rw [StrLaws.glued_eq_join, e0]
  induction l with
  | nil => rfl
  | cons c r ih =>
    rw [List.map_cons, PyProof.Rows.join_nil_cons, ih, S_app]
    rfl
theorem sum_ones : ∀ l : List Nat, ((l.map fun c => S [c]).map (·.length)).sum = l.length
  | [] => rfl
  | c :: r => by
    rw [List.map_cons, List.map_cons, List.sum_cons, sum_ones r, S_len, List.length_cons]
    show 1 + r.length = r.length + 1
    omega
theorem ex_but {H0 H H' : Hp} {l : Addr} (e : Ex H0 H) (n : H0 l = none) (b : Bul l H H') : Ex H0 H' := fun a o h => b a o (ne_of_none h n) (e a o h)
section
variable {K : PySem.W.Frag} {σ : L2.St} {H : Hp} {ta te : TE} {v : V} {D : Ends} {tz : TS} {l : Addr} {xs : List V} {F B C : L2.St → Hp → Prop} {R : VK}
theorem n_app (hl : H l = some (.lst xs)) (ha : Val ta σ H (.ref l)) (h : Val te σ H v) (hz : xs.length ≤ 50000) (k : ∀ H', Bul l H H' → H' l = some (.lst (xs ++ [v])) → tz D σ H') : tSeq (tDrop (tBM K "list" rAppend ta (tCons te tNil))) tz D σ H :=
  ha _ ⟨.inl ⟨rfl, xs, SqL.of hl⟩, h _ ⟨l, xs, v, rfl, rfl, hl, Nat.lt_of_le_of_lt hz (by decide), k _ Bul.set upd_same⟩⟩
theorem e_app (hl : H l = some (.lst xs)) (ha : Val ta σ H (.ref l)) (h : Val te σ H v) (hz : xs.length ≤ 50000) (k : ∀ H', Bul l H H' → H' l = some (.lst (xs ++ [v])) → F σ H') : tDrop (tBM K "list" rAppend ta (tCons te tNil)) ⟨F, R, B, C⟩ σ H :=
  ha _ ⟨.inl ⟨rfl, xs, SqL.of hl⟩, h _ ⟨l, xs, v, rfl, rfl, hl, Nat.lt_of_le_of_lt hz (by decide), k _ Bul.set upd_same⟩⟩
theorem val_join {acc : List Nat} (ha : Val ta σ H (.ref l)) (hl : H l = some (.lst (acc.map fun c => V.str (S [c])))) (hz : acc.length ≤ 50000) :
    Val (tBM K "str" (fun x xs H Q => ∃ a p, ∃ ys : List Str, x = .str a ∧ xs = [.ref p] ∧ (SqL K H p (ys.map V.str) ∨ SqT K H p (ys.map V.str)) ∧ (ys.map (·.length)).sum + ys.length * a.length ≤ 16777216 ∧ Q (.str (Txt.join a ys)) H) (tC (.str "")) (tCons ta tNil)) σ H (.str (S acc)) := fun Q q =>
  ⟨rfl, ha _ ⟨"", l, acc.map fun c => S [c], rfl, rfl, .inl (SqL.of (by rw [hl, List.map_map]; rfl)), by
    rw [sum_ones, List.length_map, show ("" : Str).length = 0 by decide +kernel]
    omega, by
    rw [join_signs]
    exact q⟩⟩
theorem n_newL {i : Nat} (k : ∀ p H', H p = none → Ex H H' → H' p = some (.lst []) → tz D (σ.set i (some (.ref p))) H') : tSeq (tAsg (tLst tNil) (gName i)) tz D σ H :=
  ⟨Nat.zero_le _, fun p hp => k p _ hp (Ex.new hp) upd_same⟩
end
abbrev s_string : Stmt := top 25
theorem sc_string : FnScope ["text", "start", "found", "at", "sign", "escaped"] ["text", "start"] (defScope s_string) := ⟨rfl, rfl, rfl, by decide +kernel, rfl, by decide +kernel, by decide +kernel⟩
section
variable {P : Program} {w : World} {K : PySem.W.Frag} {mg : Str → Option Value} {base : Heap}
theorem can_string (D : At K mg "read_string" s_string ["text", "start"]) (T : Bo w K mg) : Can P w K mg base (CXv P w) 4 "read_string" ["text", "start"] (spTok (fun _ => True) tokS) := by
  have sc := sc_string
  refine D.canV sc (fun vs H Q E h => ?_) (fun f cdv A outer s H vs Q E hr h => ?_)
  · obtain ⟨t, k, rfl, _⟩ := h
    rfl
  · obtain ⟨t, k, rfl, ht, hk, hp, q, qe⟩ := h
    obtain ⟨ae, es, ne, t1, t2, t3, m_ESCAPES, kd, hE⟩ := T.ESCAPES
    refine ⟨_, (pss_cons (ps_set (i := 2) sc.nd rfl (.inl rfl) (pe_lst pa_nil))
    (pss_cons (ps_set (i := 3) sc.nd rfl (.inl rfl) (pe_op op_add (pv 1) pe_int))
    (pss_cons (ps_while (passes_of rfl) (pt_cmpR op_lt (pv 3) (pe_callB call_len_str (by rfl) T.n_len PySem.boot_len (pa_cons (pv 0) pa_nil)) (nomark _)) (pss_cons (ps_set (i := 4) sc.nd rfl (.inl rfl) (pe_ix ix_str (pv 0) (pv 3) (fun _ _ => rfl)))
    (pss_cons (ps_if (pt_cmpR op_eq (pv 4) pe_str (nomark _)) (pss_one (ps_ret (pe_tup (pa_cons (pe_tup (pa_cons pe_str (pa_cons (pe_bm PySem.F.plainAttrs_str PySem.F.slot_str_join PySem.F.type_str_join mt_join pe_str (pa_cons (pv 2) pa_nil)) (pa_cons (pv 1) pa_nil)))) (pa_cons (pe_op op_add (pv 3) pe_int) pa_nil))))) pss_nil)
    (pss_cons (ps_if (pt_cmpR op_eq (pv 4) pe_str (nomark _)) (pss_one (ps_rtok (k := 0) T.toTke (hr.mono (by decide)) rfl (pv 3))) pss_nil)
    (pss_one (ps_if (pt_cmpR op_eq (pv 4) pe_str (nomark _)) (pss_cons (ps_set (i := 5) sc.nd rfl (.inl rfl) (pe_slice sl_str (pv 0) (po_some (pe_op op_add (pv 3) pe_int)) (po_some (pe_op op_add (pv 3) pe_int))))
    (pss_cons (ps_if (pt_cmpR (op_notIn_kd kd) (pv 5) (pe_gr rfl m_ESCAPES) (by rfl)) (pss_one (ps_rtok (k := 0) T.toTke (hr.mono (by decide)) rfl (pv 3))) pss_nil)
    (pss_cons (ps_expr (pe_bm PySem.F.plainAttrs_list PySem.F.slot_list_append PySem.F.type_list_append mt_append (pv 2) (pa_cons (pe_ix ix_kdict (pe_gr rfl m_ESCAPES) (pv 5) (fun _ _ => rfl)) pa_nil)))
    (pss_one (ps_aug (i := 3) sc.nd rfl (.inl rfl) pe_int ip_add))))) (pss_cons (ps_expr (pe_bm PySem.F.plainAttrs_list PySem.F.slot_list_append PySem.F.type_list_append mt_append (pv 2) (pa_cons (pv 4) pa_nil)))
    (pss_one (ps_aug (i := 3) sc.nd rfl (.inl rfl) pe_int ip_add)))))))))
    (pss_one (ps_rtok (k := 0) T.toTke (hr.mono (by decide)) rfl (pv 1)))))), ?_⟩
    have etl : (t.drop k).tail = t.drop (k + 1) := List.tail_drop
    refine n_newL fun p H1 hpn e1 hp1 => ?_
    refine n_set (v := .int ((k + 1 : Nat) : Int)) (Val.is (v := V.int ((k : Int) + 1)) (val_I0 (val_var rfl) val_c) rfl) ?_
    refine n_while (fun m σ' H' => ∃ (j : Nat) (acc : List Nat) (y4 y5 : Option V), σ' = [some (.str (S t)), some (.int k), some (.ref p), some (.int j), y4, y5] ∧ Ex H H' ∧ H' p = some (.lst (acc.map fun c => V.str (S [c]))) ∧ acc.length ≤ j ∧ j ≤ t.length ∧ m = t.length - j ∧
      strB (t.drop k) acc false (t.drop j) = strB (t.drop k) [] false (t.drop (k + 1))) (t.length - (k + 1)) ⟨k + 1, [], none, none, rfl, e1, hp1, Nat.zero_le _, hk, rfl, rfl⟩ ?_
    rintro m σ' H' ⟨j, acc, y4, y5, rfl, hEx, hpl, haj, hj, rfl, e⟩
    have hae : (acc.map fun c => V.str (S [c])).length ≤ 50000 := by rw [List.length_map]; omega
    refine ⟨_, by walk_at "val", fun hb => ?_, fun hb => ?_⟩
    · have hlt : j < t.length := by
        have := of_decide_eq_true hb
        rw [S_len] at this
        omega
      obtain ⟨c, r, hdr⟩ := drop_some hlt
      have hc := at_S hdr
      have er : t.drop (j + 1) = r := drop_next hdr
      rw [hdr, strB_next] at e
      refine n_set (v := .str ⟨#[c]⟩) (by walk_at "val") ?_
      refine n_when (b := decide (c = 34)) (Ans.to (ans_t (val_eq (val_var rfl) val_c rfl)) (by rw [lit_q, sign_eq])) (fun h1 => ?_) (fun h1 => ?_)
      · have h1 := of_decide_eq_true h1
        rw [if_pos h1] at e
        have q := q _ _ _ (by unfold tokS; rw [etl, ← e])
        have e3 : pl t r = j + 1 := by rw [← er, pl_drop (by omega)]
        rw [e3] at q
        exact e_tok (val_join (val_var rfl) hpl (by omega)) (val_var rfl) (fun _ => Val.is (v := V.int ((j : Int) + 1)) (val_I0 (val_var rfl) val_c) rfl) hEx q
      · have h1 := of_decide_eq_false h1
        rw [if_neg h1] at e
        refine n_when (b := decide (c = 10)) (Ans.to (ans_t (val_eq (val_var rfl) val_c rfl)) (by rw [lit_nl, sign_eq])) (fun h2 => ?_) (fun h2 => ?_)
        · have h2 := of_decide_eq_true h2
          rw [if_pos h2] at e
          have := qe (c :: r) (by unfold tokS; rw [etl, ← e])
          rw [← hdr, pl_drop hj] at this
          exact er_go (er_ex hEx this)
        · have h2 := of_decide_eq_false h2
          rw [if_neg h2] at e
          refine st_if (b := decide (c = 92)) (Ans.to (ans_t (val_eq (val_var rfl) val_c rfl)) (by rw [lit_bs, sign_eq])) (fun h3 => ?_) (fun h3 => ?_)
          · have h3 := of_decide_eq_true h3
            rw [if_pos h3] at e
            refine n_set (v := .str (S ((t.drop (j + 1)).take 1))) (Val.is (val_slS (a := j + 1) (b := j + 2) (val_var rfl) (Val.is (v := V.int ((j : Int) + 1)) (val_I0 (val_var rfl) val_c) rfl) (Val.is (v := V.int ((j : Int) + 2)) (val_I0 (val_var rfl) val_c) rfl) ht) (by rw [show j + 2 - (j + 1) = 1 by omega])) ?_
            rw [er]
            have hes := hE (S (r.take 1))
            cases hu : unesc r.head? with
            | none =>
              rw [hu] at e
              rw [esc_none hu] at hes
              refine n_when (b := true) (fun Q' q' => ⟨_, rfl, S (r.take 1), none, rfl, rfl, hes, true, rfl, q'⟩) (fun _ => ?_) (fun h => Bool.noConfusion h)
              have := qe (c :: r) (by unfold tokS; rw [etl, ← e])
              rw [← hdr, pl_drop hj] at this
              exact er_go (er_ex hEx this)
            | some x =>
              rw [hu] at e
              obtain ⟨tk, hx⟩ := esc_some (t1 := t1) (t2 := t2) (t3 := t3) hu
              rw [hx] at hes
              refine n_when (b := false) (fun Q' q' => ⟨_, rfl, S (r.take 1), _, rfl, rfl, hes, false, rfl, q'⟩) (fun h => Bool.noConfusion h) (fun _ => ?_)
              have hval : ∀ {r' : V → V → Hp → VK → Prop}, True := fun {_} => trivial
              refine n_app (v := .str (S [x])) hpl (val_var rfl) (fun Q' q' => ⟨_, rfl, ae, S (r.take 1), .str (S [x]), rfl, rfl, ⟨es, ne, _, kd.at_, kd.lit, hes, ⟨_, rfl⟩⟩, q'⟩) hae fun H2 b2 hp2 => ?_
              obtain ⟨c2, r2, rfl⟩ : ∃ c2 r2, r = c2 :: r2 := by
                cases r with
                | nil => cases hu
                | cons c2 r2 => exact ⟨c2, r2, rfl⟩
              have e2 : t.drop (j + 2) = r2 := drop_next er
              have hl2 : j + 2 ≤ t.length := by
                have := congrArg List.length hdr
                rw [List.length_drop, List.length_cons, List.length_cons] at this
                omega
              refine e_augI rfl val_c ⟨t.length - (j + 2), by omega, j + 2, acc ++ [x], _, _, rfl, ex_but hEx hpn b2, ?_, ?_, hl2, rfl, ?_⟩
              · rw [hp2, List.map_append]
                rfl
              · rw [List.length_append, List.length_singleton]
                omega
              · rw [e2, ← e]
                rfl
          · have h3 := of_decide_eq_false h3
            rw [if_neg h3] at e
            refine n_app (v := .str (S [c])) hpl (val_var rfl) (val_var rfl) hae fun H2 b2 hp2 => ?_
            refine e_augI rfl val_c ⟨t.length - (j + 1), by omega, j + 1, acc ++ [c], _, _, rfl, ex_but hEx hpn b2, ?_, ?_, by omega, rfl, ?_⟩
            · rw [hp2, List.map_append]
              rfl
            · rw [List.length_append, List.length_singleton]
              omega
            · rw [er, e]
    · have hge : ¬ j < t.length := by
        have := of_decide_eq_false hb
        rw [S_len] at this
        omega
      rw [drop_none hge] at e
      have := qe (t.drop k) (by unfold tokS; rw [etl, ← e]; rfl)
      rw [pl_drop (by omega)] at this
      exact er_go (er_ex hEx this)
end
/-! ### one token, all tokens -/
def tok1 : List Nat → Except (List Nat) (Str × List Nat × List Nat)
  | [] => .error []
  | c :: r => if inS c sLETTERS = true then tokW (c :: r) else if inS c sDIGITS = true then tokN (c :: r) else if c = 39 then tokV (c :: r) else if c = 34 then tokS (c :: r)
    else if S ((c :: r).take 2) ∈ lLONG then .ok ("sign", (c :: r).take 2, (c :: r).drop 2) else if inS c sSHORT = true then .ok ("sign", [c], r) else .error (c :: r)
theorem tail_letters {c : Nat} (h : inS c sLETTERS = true) : inS c sTAIL = true := by
  have key : (sLETTERS.cps.toList.all fun c => inS c sTAIL) = true := by decide +kernel
  exact List.all_eq_true.mp key c (of_decide_eq_true h)
theorem tail_digits {c : Nat} (h : inS c sDIGITS = true) : inS c sTAIL = true := by
  have key : (sDIGITS.cps.toList.all fun c => inS c sTAIL) = true := by decide +kernel
  exact List.all_eq_true.mp key c (of_decide_eq_true h)
theorem tailN_pos {c : Nat} {r : List Nat} (h : inS c sTAIL = true) : 0 < tailN (c :: r) := by
  show 0 < if inS c sTAIL = true then tailN r + 1 else 0
  rw [if_pos h]
  omega
theorem long_two {l : List Nat} (h : S l ∈ lLONG) : l.length = 2 := by
  have key : (lLONG.all fun z => decide (z.length = 2)) = true := by decide +kernel
  have := of_decide_eq_true (List.all_eq_true.mp key _ h)
  rw [S_len] at this
  exact this
/-- what is read of a rest is a beginning of it, of one sign at least -/
theorem tok1_len {l tx r : List Nat} {kd : Str} (h : tok1 l = .ok (kd, tx, r)) : ∃ c p, l = c :: p ++ r := by
  cases l with
  | nil => cases h
  | cons c l =>
    have cut : ∀ n, 0 < n → n ≤ (c :: l).length → ∃ c2 p, c :: l = c2 :: p ++ (c :: l).drop n := fun n hn hl => by
      obtain ⟨m, rfl⟩ : ∃ m, n = m + 1 := ⟨n - 1, by omega⟩
      exact ⟨c, l.take m, by show c :: l = c :: (l.take m ++ l.drop m); rw [List.take_append_drop]⟩
    unfold tok1 at h
    dsimp only at h
    split at h
    · rename_i h1
      unfold tokW at h
      split at h
      · cases h
      · cases h
        exact cut _ (tailN_pos (tail_letters h1)) (tailN_le _)
    · split at h
      · rename_i h1
        unfold tokN at h
        split at h
        · cases h
        · cases h
          exact cut _ (tailN_pos (tail_digits h1)) (tailN_le _)
      · split at h
        · unfold tokV at h
          split at h
          · cases h
          · rename_i hv
            cases h
            have hv : tailN l = 1 := of_decide_eq_true (by
              have := Bool.eq_false_iff.mpr hv
              rw [Bool.or_eq_false_iff] at this
              have h2 := this.1
              cases hz : decide (tailN (c :: l).tail = 1) with
              | true => exact hz
              | false => rw [hz] at h2; cases h2)
            have := tailN_le l
            exact ⟨c, l.take 1, by show c :: l = c :: (l.take 1 ++ l.drop 1); rw [List.take_append_drop]⟩
        · split at h
          · unfold tokS at h
            split at h
            · rename_i p hp
              cases h
              obtain ⟨q, e⟩ := strB_len _ _ _ _ _ hp
              exact ⟨c, q, by show c :: l = c :: (q ++ p.2); rw [← e]; rfl⟩
            · cases h
          · split at h
            · rename_i hl
              cases h
              have := long_two hl
              rw [List.length_take] at this
              exact cut 2 (by omega) (by omega)
            · split at h
              · cases h
                exact ⟨c, [], rfl⟩
              · cases h
theorem blanks_len : ∀ (l st : List Nat) (d : Nat) (b : Bool) (r : List Nat), blanks st d b l = .ok r → ∃ p, l = p ++ r
  | [], _, _, true, _, h => by cases h
  | c :: l, st, d, true, r, h => by
    obtain ⟨p, e⟩ := blanks_len l st d false r h
    exact ⟨c :: p, by rw [e]; rfl⟩
  | [], _, 0, false, _, h => by
    cases h
    exact ⟨[], rfl⟩
  | [], _, _ + 1, false, _, h => by cases h
  | c :: l, st, 0, false, r, h => by
    rw [blanks_next] at h
    split at h
    · obtain ⟨p, e⟩ := blanks_len l _ _ _ r h
      exact ⟨c :: p, by rw [e]; rfl⟩
    · split at h
      · obtain ⟨p, e⟩ := blanks_len l _ _ _ r h
        exact ⟨c :: p, by rw [e]; rfl⟩
      · cases h
        exact ⟨[], rfl⟩
  | c :: l, st, d + 1, false, r, h => by
    have h : (if starts2 40 42 (c :: l) = true then blanks st (d + 2) true l else if starts2 42 41 (c :: l) = true then blanks st d true l else blanks st (d + 1) false l) = .ok r := h
    split at h
    · obtain ⟨p, e⟩ := blanks_len l _ _ _ r h
      exact ⟨c :: p, by rw [e]; rfl⟩
    · split at h
      · obtain ⟨p, e⟩ := blanks_len l _ _ _ r h
        exact ⟨c :: p, by rw [e]; rfl⟩
      · obtain ⟨p, e⟩ := blanks_len l _ _ _ r h
        exact ⟨c :: p, by rw [e]; rfl⟩
/-- a kind, a text, the rest at the token's beginning -/
abbrev Tk := Str × List Nat × List Nat
def lexA : Nat → List Nat → Except (List Nat) (List Tk)
  | 0, _ => .ok []
  | _ + 1, [] => .ok []
  | f + 1, c :: r => match tok1 (c :: r) with
    | .error e => .error e
    | .ok p => match blanks [] 0 false p.2.2 with
      | .error e => .error e
      | .ok l => match lexA f l with
        | .error e => .error e
        | .ok ts => .ok ((p.1, p.2.1, c :: r) :: ts)
def lex (t : List Nat) : Except (List Nat) (List Tk) := match blanks [] 0 false t with
  | .error e => .error e
  | .ok l => lexA (t.length + 1) l
inductive Toks (t : List Nat) (H : Hp) : List V → List Tk → Prop where
  | nil : Toks t H [] []
  | cons {q : Addr} {kd : Str} {tx r : List Nat} {vs : List V} {ts : List Tk} : H q = some (.tup [.str kd, .str (S tx), .int (pl t r : Int)]) → Toks t H vs ts → Toks t H (.ref q :: vs) ((kd, tx, r) :: ts)
theorem Toks.mono {t : List Nat} {H H' : Hp} {vs : List V} {ts : List Tk} (e : ∀ a xs, H a = some (.tup xs) → H' a = some (.tup xs)) (h : Toks t H vs ts) : Toks t H' vs ts := by
  induction h with
  | nil => exact .nil
  | cons h _ ih => exact .cons (e _ _ h) ih
theorem Toks.snoc {t : List Nat} {H : Hp} {vs : List V} {ts : List Tk} (h : Toks t H vs ts) {q : Addr} {kd : Str} {tx r : List Nat} (hq : H q = some (.tup [.str kd, .str (S tx), .int (pl t r : Int)])) : Toks t H (vs ++ [.ref q]) (ts ++ [(kd, tx, r)]) := by
  induction h with
  | nil => exact .cons hq .nil
  | cons h _ ih => exact .cons h ih
theorem Toks.length {t : List Nat} {H : Hp} {vs : List V} {ts : List Tk} (h : Toks t H vs ts) : vs.length = ts.length := by
  induction h with
  | nil => rfl
  | cons _ _ ih => rw [List.length_cons, List.length_cons, ih]
def spToks : Sp := fun vs H Q E => ∃ t : List Nat, vs = [.str (S t)] ∧ t.length ≤ 5000 ∧
  (t.length ≤ 4000 → (∀ ts, lex t = .ok ts → ∀ (p : Addr) (xs : List V) (H' : Hp), Ex H H' → H p = none → H' p = some (.lst xs) → Toks t H' xs ts → Q (.ref p) H') ∧ (∀ e, lex t = .error e → Er E (pl t e) H)) ∧
  (4000 < t.length → Er2 E H)
section
variable {σ : L2.St} {H : Hp} {ta tb : TE} {x y : V} {D : Ends} {tz : TS}
theorem n_call2g {sp : Sp} {g : TG} {E : XK} (ha : Val ta σ H x) (hb : Val tb σ H y) (h : sp [x, y] H (fun v H' => g v σ H' (tz D)) E) : tSeq (tAsg (tCall sp [] E (tCons ta (tCons tb tNil))) g) tz D σ H := ha _ (hb _ h)
end
theorem lit_sq : ("'" : Str) = ⟨#[39]⟩ := by decide +kernel
abbrev s_token : Stmt := top 20
theorem sc_token : FnScope ["text", "at", "first"] ["text", "at"] (defScope s_token) := ⟨rfl, rfl, rfl, by decide +kernel, rfl, by decide +kernel, by decide +kernel⟩
abbrev s_tokens : Stmt := top 17
theorem sc_tokens : FnScope ["text", "tokens", "at", "token", "behind"] ["text"] (defScope s_tokens) := ⟨rfl, rfl, rfl, by decide +kernel, rfl, by decide +kernel, by decide +kernel⟩
section
variable {P : Program} {w : World} {K : PySem.W.Frag} {mg : Str → Option Value} {base : Heap}
theorem can_token (D : At K mg "read_token" s_token ["text", "at"]) (T : Bo w K mg) (C_read_word : Can P w K mg base (CXv P w) 4 "read_word" ["text", "at"] (spTok (fun l => 0 < tailN l) tokW))
    (C_read_number : Can P w K mg base (CXv P w) 4 "read_number" ["text", "at"] (spTok (fun l => 0 < tailN l) tokN)) (C_read_variable : Can P w K mg base (CXv P w) 4 "read_variable" ["text", "at"] (spTok (fun _ => True) tokV))
    (C_read_string : Can P w K mg base (CXv P w) 4 "read_string" ["text", "start"] (spTok (fun _ => True) tokS)) : Can P w K mg base (CXv P w) 5 "read_token" ["text", "at"] (spTok (fun _ => True) tok1) := by
  have sc := sc_token
  refine D.canV sc (fun vs H Q E h => ?_) (fun f cdv A outer s H vs Q E hr h => ?_)
  · obtain ⟨t, k, rfl, _⟩ := h
    rfl
  · obtain ⟨t, k, rfl, ht, hk, hp, q, qe⟩ := h
    have hr1 := hr
    obtain ⟨_, m_LETTERS⟩ := T.LETTERS
    obtain ⟨_, m_DIGITS⟩ := T.DIGITS
    obtain ⟨_, m_SHORT_SIGNS⟩ := T.SHORT_SIGNS
    obtain ⟨al, m_LONG_SIGNS, hL⟩ := T.LONG_SIGNS
    refine ⟨_, (pss_cons (ps_set (i := 2) sc.nd rfl (.inl rfl) (pe_ix ix_str (pv 0) (pv 1) (fun _ _ => rfl)))
    (pss_cons (ps_if (pt_cmpR op_in_sign (pv 2) (pe_gs rfl m_LETTERS) (by rfl)) (pss_one (ps_ret (pe_can C_read_word (hr.mono (by omega)) rfl passV (pa_cons (pv 0) (pa_cons (pv 1) pa_nil))))) pss_nil)
    (pss_cons (ps_if (pt_cmpR op_in_sign (pv 2) (pe_gs rfl m_DIGITS) (by rfl)) (pss_one (ps_ret (pe_can C_read_number (hr.mono (by omega)) rfl passV (pa_cons (pv 0) (pa_cons (pv 1) pa_nil))))) pss_nil)
    (pss_cons (ps_if (pt_cmpR op_eq (pv 2) pe_str (nomark _)) (pss_one (ps_ret (pe_can C_read_variable (hr.mono (by omega)) rfl passV (pa_cons (pv 0) (pa_cons (pv 1) pa_nil))))) pss_nil)
    (pss_cons (ps_if (pt_cmpR op_eq (pv 2) pe_str (nomark _)) (pss_one (ps_ret (pe_can C_read_string (hr.mono (by omega)) rfl passV (pa_cons (pv 0) (pa_cons (pv 1) pa_nil))))) pss_nil)
    (pss_cons (ps_if (pt_cmpR op_in_seq (pe_slice sl_str (pv 0) (po_some (pv 1)) (po_some (pe_op op_add (pv 1) pe_int))) (pe_gr rfl m_LONG_SIGNS) (by rfl)) (pss_one (ps_ret (pe_tup (pa_cons (pe_tup (pa_cons pe_str (pa_cons (pe_slice sl_str (pv 0) (po_some (pv 1)) (po_some (pe_op op_add (pv 1) pe_int))) (pa_cons (pv 1) pa_nil)))) (pa_cons (pe_op op_add (pv 1) pe_int) pa_nil))))) pss_nil)
    (pss_cons (ps_if (pt_cmpR op_in_sign (pv 2) (pe_gs rfl m_SHORT_SIGNS) (by rfl)) (pss_one (ps_ret (pe_tup (pa_cons (pe_tup (pa_cons pe_str (pa_cons (pv 2) (pa_cons (pv 1) pa_nil)))) (pa_cons (pe_op op_add (pv 1) pe_int) pa_nil))))) pss_nil)
    (pss_one (ps_rtok (k := 0) T.toTke (hr.mono (by decide)) rfl (pv 1)))))))))), ?_⟩
    obtain ⟨c, r, hdr⟩ := drop_some hk
    have hc := at_S hdr
    have er : t.drop (k + 1) = r := drop_next hdr
    have e1 : tok1 (t.drop k) = if inS c sLETTERS = true then tokW (t.drop k) else if inS c sDIGITS = true then tokN (t.drop k) else if c = 39 then tokV (t.drop k) else if c = 34 then tokS (t.drop k)
        else if S ((t.drop k).take 2) ∈ lLONG then .ok ("sign", (t.drop k).take 2, (t.drop k).drop 2) else if inS c sSHORT = true then .ok ("sign", [c], r) else .error (t.drop k) := by
      rw [hdr]
      rfl
    have hx : ∀ H', Val (tOp (rI0 fun i j => V.int (i + j)) (tVar 1) (tC (V.int 2))) (start ["text", "at", "first"] [V.str (S t), V.int (k : Int)] |>.set 2 (some (.str ⟨#[c]⟩))) H' (.int ((k + 2 : Nat) : Int)) := fun H' => Val.is (v := V.int ((k : Int) + 2)) (val_I0 (val_var rfl) val_c) rfl
    have hx1 : ∀ H', Val (tOp (rI0 fun i j => V.int (i + j)) (tVar 1) (tC (V.int 1))) (start ["text", "at", "first"] [V.str (S t), V.int (k : Int)] |>.set 2 (some (.str ⟨#[c]⟩))) H' (.int ((k + 1 : Nat) : Int)) := fun H' => Val.is (v := V.int ((k : Int) + 1)) (val_I0 (val_var rfl) val_c) rfl
    refine n_set (v := .str ⟨#[c]⟩) (by walk_at "val") ?_
    refine n_when (b := inS c sLETTERS) (ans_t (val_inC (val_var rfl) val_c)) (fun h => ?_) (fun h => ?_)
    · rw [if_pos h] at e1
      exact e_retC2 (val_var rfl) (val_var rfl) ⟨t, k, rfl, ht, hk, by rw [hdr]; exact tailN_pos (tail_letters h), fun kd tx r2 z => q kd tx r2 (e1.trans z), fun e z => er_up (qe e (e1.trans z))⟩
    rw [if_neg (by rw [h]; exact Bool.false_ne_true)] at e1
    refine n_when (b := inS c sDIGITS) (ans_t (val_inC (val_var rfl) val_c)) (fun h => ?_) (fun h => ?_)
    · rw [if_pos h] at e1
      exact e_retC2 (val_var rfl) (val_var rfl) ⟨t, k, rfl, ht, hk, by rw [hdr]; exact tailN_pos (tail_digits h), fun kd tx r2 z => q kd tx r2 (e1.trans z), fun e z => er_up (qe e (e1.trans z))⟩
    rw [if_neg (by rw [h]; exact Bool.false_ne_true)] at e1
    refine n_when (b := decide (c = 39)) (Ans.to (ans_t (val_eq (val_var rfl) val_c rfl)) (by rw [lit_sq, sign_eq])) (fun h => ?_) (fun h => ?_)
    · rw [if_pos (of_decide_eq_true h)] at e1
      exact e_retC2 (val_var rfl) (val_var rfl) ⟨t, k, rfl, ht, hk, trivial, fun kd tx r2 z => q kd tx r2 (e1.trans z), fun e z => er_up (qe e (e1.trans z))⟩
    rw [if_neg (of_decide_eq_false h)] at e1
    refine n_when (b := decide (c = 34)) (Ans.to (ans_t (val_eq (val_var rfl) val_c rfl)) (by rw [lit_q, sign_eq])) (fun h => ?_) (fun h => ?_)
    · rw [if_pos (of_decide_eq_true h)] at e1
      exact e_retC2 (val_var rfl) (val_var rfl) ⟨t, k, rfl, ht, hk, trivial, fun kd tx r2 z => q kd tx r2 (e1.trans z), fun e z => er_up (qe e (e1.trans z))⟩
    rw [if_neg (of_decide_eq_false h)] at e1
    have hs : ∀ H', Val (tSl rSlS (tVar 0) (tPart (tVar 1)) (tPart (tOp (rI0 fun i j => V.int (i + j)) (tVar 1) (tC (V.int 2))))) (start ["text", "at", "first"] [V.str (S t), V.int (k : Int)] |>.set 2 (some (.str ⟨#[c]⟩))) H' (.str (S ((t.drop k).take 2))) := fun H' =>
      Val.is (val_slS (val_var rfl) (val_var rfl) (hx H') ht) (by rw [Nat.add_sub_cancel_left])
    refine n_when (b := decide (S ((t.drop k).take 2) ∈ lLONG)) (ans_t (val_inWs (hs _) val_c (hL _))) (fun h => ?_) (fun h => ?_)
    · have h := of_decide_eq_true h
      rw [if_pos h] at e1
      have h2 := long_two h
      rw [List.length_take, List.length_drop] at h2
      have q := q _ _ _ e1
      rw [List.drop_drop, pl_drop (by omega)] at q
      exact e_tok (hs _) (val_var rfl) (fun _ => hx _) (Ex.refl H) q
    rw [if_neg (of_decide_eq_false h)] at e1
    refine n_when (b := inS c sSHORT) (ans_t (val_inC (val_var rfl) val_c)) (fun h => ?_) (fun h => ?_)
    · rw [if_pos h] at e1
      have q := q _ _ _ e1
      rw [← er, pl_drop (by omega)] at q
      exact e_tok (val_var rfl) (val_var rfl) (fun _ => hx1 _) (Ex.refl H) q
    · rw [if_neg (by rw [h]; exact Bool.false_ne_true)] at e1
      have := qe _ e1
      rw [pl_drop (by omega)] at this
      exact er_go this
end
section
variable {σ : L2.St} {H : Hp} {ta tb : TE} {x y : V} {D : Ends} {tz : TS}
theorem lexA_end : ∀ f, lexA f [] = .ok []
  | 0 => rfl
  | _ + 1 => rfl
theorem lexA_next {f c : Nat} {r : List Nat} : lexA (f + 1) (c :: r) = match tok1 (c :: r) with
    | .error e => .error e
    | .ok p => match blanks [] 0 false p.2.2 with
      | .error e => .error e
      | .ok l => match lexA f l with
        | .error e => .error e
        | .ok ts => .ok ((p.1, p.2.1, c :: r) :: ts) := rfl
end
section
variable {P : Program} {w : World} {K : PySem.W.Frag} {mg : Str → Option Value} {base : Heap}
theorem can_tokens (D : At K mg "read_tokens" s_tokens ["text"]) (T : Bo w K mg) (C_read_token : Can P w K mg base (CXv P w) 5 "read_token" ["text", "at"] (spTok (fun _ => True) tok1)) (C_skip_blanks : Can P w K mg base (CXv P w) 4 "skip_blanks" ["text", "at"] spBlanks) :
    Can P w K mg base (CXv P w) 6 "read_tokens" ["text"] spToks := by
  have sc := sc_tokens
  refine D.canV sc (fun vs H Q E h => ?_) (fun f cdv A outer s H vs Q E hr h => ?_)
  · obtain ⟨t, rfl, _⟩ := h
    rfl
  · obtain ⟨t, rfl, ht, q, ql⟩ := h
    have hr1 : Room 2 _ := hr.mono (by decide)
    obtain ⟨_, m_LONGEST_TEXT⟩ := T.LONGEST_TEXT
    refine ⟨_, (pss_cons (ps_if (pt_cmpR op_gt (pe_callB call_len_str (by rfl) T.n_len PySem.boot_len (pa_cons (pv 0) pa_nil)) (pe_gi rfl m_LONGEST_TEXT) (nomark _)) (pss_one (ps_rlim T.toTke rfl)) pss_nil)
    (pss_cons (ps_set (i := 1) sc.nd rfl (.inl rfl) (pe_lst pa_nil))
    (pss_cons (ps_set (i := 2) sc.nd rfl (.inl rfl) (pe_can C_skip_blanks (hr.mono (by omega)) rfl passV (pa_cons (pv 0) (pa_cons pe_int pa_nil))))
    (pss_cons (ps_while (passes_of rfl) (pt_cmpR op_lt (pv 2) (pe_callB call_len_str (by rfl) T.n_len PySem.boot_len (pa_cons (pv 0) pa_nil)) (nomark _)) (pss_cons (ps_asg (pe_can C_read_token (hr.mono (by omega)) rfl passV (pa_cons (pv 0) (pa_cons (pv 2) pa_nil))) (pg_tup rfl (pgs_cons (pg_name (i := 3) sc.nd rfl (.inl rfl)) (pgs_cons (pg_name (i := 4) sc.nd rfl (.inl rfl)) pgs_nil))))
    (pss_cons (ps_expr (pe_bm PySem.F.plainAttrs_list PySem.F.slot_list_append PySem.F.type_list_append mt_append (pv 1) (pa_cons (pv 3) pa_nil)))
    (pss_one (ps_set (i := 2) sc.nd rfl (.inl rfl) (pe_can C_skip_blanks (hr.mono (by omega)) rfl passV (pa_cons (pv 0) (pa_cons (pv 4) pa_nil))))))))
    (pss_one (ps_ret (pv 1))))))), ?_⟩
    refine n_when (by walk_at "val") (fun hb => ?_) (fun hb => ?_)
    · have hb := of_decide_eq_true hb
      rw [S_len] at hb
      exact er2_go (ql (by omega))
    have hb := of_decide_eq_false hb
    rw [S_len] at hb
    obtain ⟨q, qe⟩ := q (by omega)
    refine n_newL fun p H1 hpn e1 hp1 => ?_
    refine n_call2 (x := V.str (S t)) (y := V.int ((0 : Nat) : Int)) (val_var rfl) (Val.is val_c rfl) ⟨t, 0, rfl, ht, Nat.zero_le _, fun l0 hl0 => ?_, fun e he => ?_⟩
    · rw [List.drop_zero] at hl0
      obtain ⟨p0, hp0⟩ := blanks_len _ _ _ _ _ hl0
      obtain ⟨x1, x2, -⟩ := drop_app (t := t) (k := 0) (p := p0) (r := l0) (by rw [List.drop_zero]; exact hp0)
      refine n_while (fun m σ' H' => ∃ (j f : Nat) (xs : List V) (ts : List Tk) (y3 y4 : Option V), σ' = [some (.str (S t)), some (.ref p), some (.int j), y3, y4] ∧ Ex H H' ∧ H' p = some (.lst xs) ∧ Toks t H' xs ts ∧ ts.length ≤ j ∧ j ≤ t.length ∧ t.length - j < f ∧ m = t.length - j ∧
        (∀ ts', lexA f (t.drop j) = .ok ts' → lex t = .ok (ts ++ ts')) ∧ (∀ e, lexA f (t.drop j) = .error e → lex t = .error e)) (t.length - pl t l0) ⟨pl t l0, t.length + 1, [], [], none, none, rfl, e1, hp1, .nil, Nat.zero_le _, x2, by omega, rfl, ?_, ?_⟩ ?_
      · intro ts' h
        rw [x1] at h
        unfold lex
        rw [hl0]
        exact h
      · intro e h
        rw [x1] at h
        unfold lex
        rw [hl0]
        exact h
      · rintro m σ' H' ⟨j, f, xs, ts, y3, y4, rfl, hEx, hpl, hts, hlj, hj, hf, rfl, g1, g2⟩
        refine ⟨_, by walk_at "val", fun hb => ?_, fun hb => ?_⟩
        · have hlt : j < t.length := by
            have := of_decide_eq_true hb
            rw [S_len] at this
            omega
          obtain ⟨c, r, hdr⟩ := drop_some hlt
          obtain ⟨f, rfl⟩ : ∃ f', f = f' + 1 := ⟨f - 1, by omega⟩
          rw [hdr, lexA_next] at g1 g2
          refine n_call2g (val_var rfl) (val_var rfl) ⟨t, j, rfl, ht, hlt, trivial, fun kd tx r2 hk a b H2 he2 _ ha hb2 => ?_, fun e he => ?_⟩
          · rw [hdr] at hk
            obtain ⟨c3, p3, hp3⟩ := tok1_len hk
            rw [hk] at g1 g2
            dsimp only at g1 g2
            obtain ⟨z1, z2, z3⟩ := drop_app (t := t) (k := j) (p := c3 :: p3) (r := r2) (hdr.trans hp3)
            have z3 := z3 (by omega)
            rw [List.length_cons] at z3
            refine ⟨a, _, rfl, SqT.of ha, rfl, .ref b, [.int (pl t r2 : Int)], rfl, .int (pl t r2 : Int), [], rfl, rfl, ?_⟩
            have hbp : b ≠ p := ne_of hb2 (he2 _ _ hpl) (by intro z; cases z)
            have hxs : xs.length ≤ 50000 := by rw [hts.length]; omega
            refine n_app (v := .ref b) (he2 _ _ hpl) (val_var rfl) (val_var rfl) hxs fun H3 b3 hp3' => ?_
            have hE3 : Ex H H3 := ex_but (hEx.trans he2) hpn b3
            have hb3 : H3 b = some (.tup [.str kd, .str (S tx), .int (pl t (c :: r) : Int)]) := by
              rw [← hdr, pl_drop hj]
              exact b3 _ _ hbp hb2
            have hts3 : Toks t H3 (xs ++ [.ref b]) (ts ++ [(kd, tx, c :: r)]) := Toks.snoc (hts.mono fun a2 xs2 h2 => b3 _ _ (ne_of (he2 _ _ h2) (he2 _ _ hpl) (by intro z; cases z)) (he2 _ _ h2)) hb3
            refine e_call2 (val_var rfl) (val_var rfl) ⟨t, pl t r2, rfl, ht, z2, fun l hl => ?_, fun e he => ?_⟩
            · rw [z1] at hl
              rw [hl] at g1 g2
              dsimp only at g1 g2
              obtain ⟨p4, hp4⟩ := blanks_len _ _ _ _ _ hl
              obtain ⟨w1, w2, w3⟩ := drop_app (t := t) (k := pl t r2) (p := p4) (r := l) (z1.trans hp4)
              have w3 := w3 z2
              refine ⟨t.length - pl t l, by omega, pl t l, f, xs ++ [.ref b], ts ++ [(kd, tx, c :: r)], _, _, rfl, hE3, hp3', hts3, ?_, w2, by omega, rfl, ?_, ?_⟩
              · rw [List.length_append, List.length_singleton]
                omega
              · intro ts' h
                rw [w1] at h
                rw [h] at g1
                rw [g1 _ rfl, List.append_assoc]
                rfl
              · intro e h
                rw [w1] at h
                rw [h] at g2
                exact g2 e rfl
            · rw [z1] at he
              rw [he] at g2
              exact er_up (er_ex hE3 (qe e (g2 e rfl)))
          · rw [hdr] at he
            rw [he] at g2
            exact er_up (er_ex hEx (qe e (g2 e rfl)))
        · have hge : ¬ j < t.length := by
            have := of_decide_eq_false hb
            rw [S_len] at this
            omega
          rw [drop_none hge, lexA_end] at g1
          have := g1 [] rfl
          rw [List.append_nil] at this
          exact e_ret (val_var rfl) (q ts this p xs H' hEx hpn hpl hts)
    · rw [List.drop_zero] at he
      exact er_up (er_ex e1 (qe e (by unfold lex; rw [he])))
end
/-! ### texts that are read to given tokens -/
def lSIGNS : List Str := ["(", ")", "[", "]", ",", ";", ":", ":>", "=", "=>", "->", "|", "_", ".", "*", "+", "-", "^", "::", "<", "<=", ">", ">=", "<>", ":=", "!", "~"]
def escS : List Nat → List Nat
  | [] => []
  | c :: r => if c = 10 then 92 :: 110 :: escS r else if c = 92 ∨ c = 34 then 92 :: c :: escS r else c :: escS r
structure Ident (fs x : List Nat) : Prop where
  ex : ∃ c r, x = c :: r ∧ c ∈ fs ∧ ∀ y ∈ r, inS y sTAIL = true
  le : x.length ≤ 24
  no : ¬ S x ∈ lWORDS
structure Digs (x : List Nat) : Prop where
  ex : ∃ c r, x = c :: r ∧ (c = 48 → r = []) ∧ ∀ y ∈ c :: r, inS y sDIGITS = true
  le : x.length ≤ 18
inductive TokSrc : Str → List Nat → List Nat → Prop where
  | low {x : List Nat} : Ident sLOWER.cps.toList x → TokSrc "low" x x
  | high {x : List Nat} : Ident sUPPER.cps.toList x → TokSrc "high" x x
  | var {c : Nat} : inS c sLOWER = true → TokSrc "var" [c] [39, c]
  | int {x : List Nat} : Digs x → TokSrc "int" x x
  | string {x : List Nat} : (∀ c ∈ x, c < 128) → TokSrc "string" x (34 :: (escS x ++ [34]))
  | word {x : List Nat} : S x ∈ lWORDS → TokSrc "word" x x
  | sign {x : List Nat} : S x ∈ lSIGNS → TokSrc "sign" x x
/-- the end, or a separator's first sign -/
def Sep (r : List Nat) : Prop := r = [] ∨ ∃ g r', r = g :: r' ∧ (g = 32 ∨ g = 10 ∨ g = 40)
def six : List Str := ["(", ")", "]", ",", ";", "["]
/-- what may stand behind a token -/
def Behind (kd : Str) (tx r : List Nat) : Prop := if kd = "string" then True else if kd = "sign" then Sep r ∨ (S tx ∈ six ∧ (tx = [40] → r.head? ≠ some 42)) else tailN r = 0
theorem tailN_app : ∀ (x r : List Nat), (∀ y ∈ x, inS y sTAIL = true) → tailN r = 0 → tailN (x ++ r) = x.length
  | [], r, _, h => h
  | c :: x, r, h, h0 => by
    show (if inS c sTAIL = true then tailN (x ++ r) + 1 else 0) = x.length + 1
    rw [if_pos (h c (List.mem_cons_self ..)), tailN_app x r (fun y hy => h y (List.mem_cons_of_mem _ hy)) h0]
theorem sep_tail {r : List Nat} (h : Sep r) : tailN r = 0 := by
  rcases h with rfl | ⟨g, r', rfl, h⟩
  · rfl
  · rcases h with rfl | rfl | rfl <;> rfl
theorem take_app {x r : List Nat} : (x ++ r).take x.length = x := by simp
theorem drop_app' {x r : List Nat} : (x ++ r).drop x.length = r := by simp
theorem lower_letters {c : Nat} (h : c ∈ sLOWER.cps.toList) : inS c sLETTERS = true ∧ inS c sUPPER = false ∧ inS c sDIGITS = false := by
  have key : (sLOWER.cps.toList.all fun c => inS c sLETTERS && !inS c sUPPER && !inS c sDIGITS) = true := by decide +kernel
  have := List.all_eq_true.mp key c h
  simpa [and_assoc] using this
theorem upper_letters {c : Nat} (h : c ∈ sUPPER.cps.toList) : inS c sLETTERS = true ∧ inS c sUPPER = true := by
  have key : (sUPPER.cps.toList.all fun c => inS c sLETTERS && inS c sUPPER) = true := by decide +kernel
  have := List.all_eq_true.mp key c h
  simpa [and_assoc] using this
theorem digit_no {c : Nat} (h : inS c sDIGITS = true) : inS c sLETTERS = false := by
  have key : (sDIGITS.cps.toList.all fun c => !inS c sLETTERS) = true := by decide +kernel
  simpa using List.all_eq_true.mp key c (of_decide_eq_true h)
theorem word_facts {x : List Nat} (h : S x ∈ lWORDS) : ∃ c r, x = c :: r ∧ inS c sLETTERS = true ∧ (∀ y ∈ c :: r, inS y sTAIL = true) ∧ x.length ≤ 9 ∧ 95 ∉ x := by
  have key : (lWORDS.all fun z => (match z.cps.toList with | [] => false | c :: _ => inS c sLETTERS) && (z.cps.toList.all fun y => inS y sTAIL) && decide (z.length ≤ 9) && !decide (95 ∈ z.cps.toList)) = true := by decide +kernel
  have hx := List.all_eq_true.mp key _ h
  rw [S_list, S_len] at hx
  simp only [Bool.and_eq_true, decide_eq_true_eq, Bool.not_eq_true', decide_eq_false_iff_not] at hx
  obtain ⟨⟨⟨h1, h2⟩, h3⟩, h4⟩ := hx
  cases x with
  | nil => cases h1
  | cons c r => exact ⟨c, r, rfl, h1, fun y hy => List.all_eq_true.mp h2 y hy, h3, h4⟩
theorem tok1_letters {c : Nat} {r : List Nat} (h : inS c sLETTERS = true) : tok1 (c :: r) = tokW (c :: r) := if_pos h
theorem tokW_app {x r : List Nat} (hx : ∀ y ∈ x, inS y sTAIL = true) (hl : x.length ≤ 24) (h0 : tailN r = 0) : tokW (x ++ r) = .ok (kindW x, x, r) := by
  unfold tokW
  rw [tailN_app x r hx h0, if_neg (by omega), take_app, drop_app']
theorem esc_read (st r : List Nat) : ∀ (x acc : List Nat), strB st acc false (escS x ++ 34 :: r) = .ok (acc ++ x, r)
  | [], acc => by
    rw [List.append_nil]
    rfl
  | c :: x, acc => by
    have ih : ∀ y, strB st (acc ++ [y]) false (escS x ++ 34 :: r) = .ok (acc ++ y :: x, r) := fun y => by
      rw [esc_read st r x, List.append_assoc]
      rfl
    unfold escS
    by_cases h1 : c = 10
    · rw [if_pos h1]
      subst h1
      exact ih 10
    · rw [if_neg h1]
      by_cases h2 : c = 92 ∨ c = 34
      · rw [if_pos h2]
        rcases h2 with rfl | rfl
        · exact ih 92
        · exact ih 34
      · rw [if_neg h2]
        have h3 : c ≠ 92 := fun z => h2 (.inl z)
        have h4 : c ≠ 34 := fun z => h2 (.inr z)
        show strB st acc false (c :: (escS x ++ 34 :: r)) = _
        rw [strB_next, if_neg h4, if_neg h1, if_neg h3]
        exact ih c
/-- signs: their beginnings -/
theorem sign_facts {x : List Nat} (h : S x ∈ lSIGNS) : ∃ c s, x = c :: s ∧ inS c sLETTERS = false ∧ inS c sDIGITS = false ∧ c ≠ 39 ∧ c ≠ 34 ∧ c ≠ 32 ∧ c ≠ 10 ∧ (inS c sTAIL = true → x = [95]) ∧
    ((s = [] ∧ inS c sSHORT = true ∧ (∀ g, g = 32 ∨ g = 10 ∨ g = 40 → ¬ S [c, g] ∈ lLONG)) ∨ (S x ∈ lLONG ∧ ∃ c2, s = [c2])) ∧ (c = 40 → s = []) ∧ (c = 42 → x = [42]) := by
  have key : (lSIGNS.all fun z => match z.cps.toList with
    | [] => false
    | c :: s => !inS c sLETTERS && !inS c sDIGITS && decide (c ≠ 39) && decide (c ≠ 34) && decide (c ≠ 32) && decide (c ≠ 10) && (!inS c sTAIL || decide (c :: s = [95])) &&
      ((decide (s = []) && inS c sSHORT && !decide (S [c, 32] ∈ lLONG) && !decide (S [c, 10] ∈ lLONG) && !decide (S [c, 40] ∈ lLONG)) || (decide (z ∈ lLONG) && decide (s.length = 1))) && (!decide (c = 40) || decide (s = [])) && (!decide (c = 42) || decide (s = []))) = true := by decide +kernel
  have hx := List.all_eq_true.mp key _ h
  rw [S_list] at hx
  cases x with
  | nil => cases hx
  | cons c s =>
    simp only [Bool.and_eq_true, Bool.or_eq_true, decide_eq_true_eq, Bool.not_eq_true', decide_eq_false_iff_not] at hx
    obtain ⟨⟨⟨⟨⟨⟨⟨⟨⟨a1, a2⟩, a3⟩, a4⟩, a5⟩, a6⟩, a7⟩, a8⟩, a9⟩, a10⟩ := hx
    refine ⟨c, s, rfl, a1, a2, a3, a4, a5, a6, fun z => ?_, ?_, fun z => ?_, fun z => ?_⟩
    · rcases a7 with a7 | a7
      · rw [a7] at z
        cases z
      · exact a7
    · rcases a8 with ⟨⟨⟨⟨b1, b2⟩, b3⟩, b4⟩, b5⟩ | ⟨b1, b2⟩
      · refine .inl ⟨b1, b2, fun g hg => ?_⟩
        rcases hg with rfl | rfl | rfl
        · exact b3
        · exact b4
        · exact b5
      · refine .inr ⟨b1, ?_⟩
        cases s with
        | nil => cases b2
        | cons c2 s2 =>
          cases s2 with
          | nil => exact ⟨c2, rfl⟩
          | cons _ _ => simp at b2
    · rcases a9 with a9 | a9
      · exact absurd z a9
      · exact a9
    · rcases a10 with a10 | a10
      · exact absurd z a10
      · rw [z, a10]
theorem six_facts {c : Nat} {s : List Nat} (h : S (c :: s) ∈ six) : s = [] ∧ ∀ g, ¬ S [c, g] ∈ lLONG := by
  have key : (six.all fun z => match z.cps.toList with | [] => false | c :: s => decide (s = []) && lLONG.all fun y => decide (y.cps.toList.head? ≠ some c)) = true := by decide +kernel
  have hx := List.all_eq_true.mp key _ h
  rw [S_list] at hx
  simp only [Bool.and_eq_true, decide_eq_true_eq] at hx
  refine ⟨hx.1, fun g hg => ?_⟩
  have := of_decide_eq_true (List.all_eq_true.mp hx.2 _ hg)
  exact this rfl
/-- THE READING of a token -/
theorem tok1_src {kd : Str} {tx src r : List Nat} (h : TokSrc kd tx src) (hb : Behind kd tx r) : tok1 (src ++ r) = .ok (kd, tx, r) := by
  cases h with
  | low h =>
    have h0 : tailN r = 0 := hb
    obtain ⟨c, s, rfl, hc, hs⟩ := h.ex
    obtain ⟨f1, f2, f3⟩ := lower_letters hc
    have hk : kindW (c :: s) = "low" := (if_neg h.no).trans (if_neg (by show ¬ inS c sUPPER = true; rw [f2]; exact Bool.false_ne_true))
    have := tokW_app (x := c :: s) (r := r) (fun y hy => by
      rcases List.mem_cons.mp hy with rfl | hy
      · exact tail_letters f1
      · exact hs y hy) h.le h0
    rw [hk] at this
    rw [← this]
    exact tok1_letters f1
  | high h =>
    have h0 : tailN r = 0 := hb
    obtain ⟨c, s, rfl, hc, hs⟩ := h.ex
    obtain ⟨f1, f2⟩ := upper_letters hc
    have hk : kindW (c :: s) = "high" := (if_neg h.no).trans (if_pos f2)
    have := tokW_app (x := c :: s) (r := r) (fun y hy => by
      rcases List.mem_cons.mp hy with rfl | hy
      · exact tail_letters f1
      · exact hs y hy) h.le h0
    rw [hk] at this
    rw [← this]
    exact tok1_letters f1
  | word h =>
    have h0 : tailN r = 0 := hb
    obtain ⟨c, s, rfl, f1, hs, hl, _⟩ := word_facts h
    have hk : kindW (c :: s) = "word" := if_pos h
    have := tokW_app (x := c :: s) (r := r) hs (by omega) h0
    rw [hk] at this
    rw [← this]
    exact tok1_letters f1
  | var h =>
    rename_i c
    have h0 : tailN r = 0 := hb
    have hc := tail_letters (lower_letters (of_decide_eq_true h)).1
    show tok1 (39 :: c :: r) = _
    have e1 : tailN (c :: r) = 1 := by
      show (if inS c sTAIL = true then tailN r + 1 else 0) = 1
      rw [if_pos hc, h0]
    show tokV (39 :: c :: r) = _
    unfold tokV
    rw [show (39 :: c :: r).tail = c :: r from rfl, e1]
    rw [if_neg (by show ¬ (!decide (1 = 1) || !inS c sLOWER) = true; rw [h]; decide)]
    rfl
  | int h =>
    have h0 : tailN r = 0 := hb
    obtain ⟨c, s, rfl, hz, hs⟩ := h.ex
    have hc := hs c (List.mem_cons_self ..)
    have e1 : tailN ((c :: s) ++ r) = (c :: s).length := tailN_app _ r (fun y hy => tail_digits (hs y hy)) h0
    have e2 : tok1 ((c :: s) ++ r) = tokN ((c :: s) ++ r) := by
      show (if inS c sLETTERS = true then _ else if inS c sDIGITS = true then _ else _) = _
      rw [if_neg (by rw [digit_no hc]; exact Bool.false_ne_true), if_pos hc]
      rfl
    rw [e2]
    unfold tokN
    rw [e1, take_app, drop_app']
    have n1 : ((c :: s).any fun y => !inS y sDIGITS) = false := by
      rw [List.any_eq_false]
      intro y hy
      rw [hs y hy]
      exact Bool.false_ne_true
    have n2 : (decide (((c :: s) ++ r).headD 0 = 48) && decide (1 < (c :: s).length)) = false := by
      show (decide (c = 48) && decide (1 < (c :: s).length)) = false
      by_cases hc8 : c = 48
      · rw [hz hc8]
        simp
      · rw [decide_eq_false hc8]
        rfl
    have n3 : decide (18 < (c :: s).length) = false := decide_eq_false (by have := h.le; omega)
    rw [n1, n2, n3]
    rfl
  | string =>
    show tokS (34 :: ((escS tx ++ [34]) ++ r)) = _
    unfold tokS
    rw [show (34 :: ((escS tx ++ [34]) ++ r)).tail = escS tx ++ 34 :: r by simp, esc_read]
    rfl
  | sign h =>
    obtain ⟨c, s, rfl, a1, a2, a3, a4, a5, a6, a7, a8, a9, a10⟩ := sign_facts h
    have e1 : ∀ q, tok1 (c :: q) = if S ((c :: q).take 2) ∈ lLONG then .ok ("sign", (c :: q).take 2, (c :: q).drop 2) else if inS c sSHORT = true then .ok ("sign", [c], q) else .error (c :: q) := fun q => by
      show (if inS c sLETTERS = true then _ else if inS c sDIGITS = true then _ else if c = 39 then _ else if c = 34 then _ else _) = _
      rw [if_neg (by rw [a1]; exact Bool.false_ne_true), if_neg (by rw [a2]; exact Bool.false_ne_true), if_neg a3, if_neg a4]
    show tok1 (c :: (s ++ r)) = _
    rw [e1]
    rcases a8 with ⟨rfl, b2, b3⟩ | ⟨b1, c2, rfl⟩
    · have hb : Sep r ∨ (S [c] ∈ six ∧ ([c] = [40] → r.head? ≠ some 42)) := hb
      have hno : ¬ S ((c :: ([] ++ r)).take 2) ∈ lLONG := by
        cases r with
        | nil =>
          intro z
          have := long_two z
          cases this
        | cons g r' =>
          show ¬ S [c, g] ∈ lLONG
          rcases hb with hb | hb
          · rcases hb with hb | ⟨g', r'', hb, hg⟩
            · cases hb
            · cases hb
              exact b3 g hg
          · exact (six_facts hb.1).2 g
      rw [if_neg hno, if_pos b2]
      rfl
    · rw [if_pos (show S ((c :: ([c2] ++ r)).take 2) ∈ lLONG from b1)]
      rfl
/-! ### separators; a text of tokens and separators -/
/-- within a comment: neutral, whatever follows -/
def Neu (x : List Nat) : Prop := ∀ d r, comm (d + 1) false (x ++ r) = comm (d + 1) false r
theorem Neu.nil : Neu [] := fun _ _ => rfl
theorem Neu.app {x y : List Nat} (a : Neu x) (b : Neu y) : Neu (x ++ y) := fun d r => by rw [List.append_assoc, a, b]
structure Cmt (x : List Nat) : Prop where
  ex : ∃ b, x = 40 :: 42 :: b ∧ ∀ d r, comm (d + 1) false (b ++ r) = comm d false r
theorem Cmt.neu {x : List Nat} (h : Cmt x) : Neu x := fun d r => by
  obtain ⟨b, rfl, hb⟩ := h.ex
  show comm (d + 1) false (40 :: 42 :: (b ++ r)) = _
  rw [comm_next, if_pos (by rfl)]
  show comm (d + 2) false (b ++ r) = _
  rw [hb]
theorem cmt_mk {x y : List Nat} (h : Neu x) (hy : y = [] ∨ y = [32] ∨ y = [42]) : Cmt (40 :: 42 :: (x ++ (y ++ [42, 41]))) := by
  refine ⟨_, rfl, fun d r => ?_⟩
  rw [List.append_assoc, h]
  have e : comm (d + 1) false (42 :: 41 :: r) = comm d false r := by
    rw [comm_next, if_neg (by show ¬ starts2 40 42 (42 :: 41 :: r) = true; unfold starts2; simp), if_pos (by unfold starts2; simp)]
    rfl
  rcases hy with rfl | rfl | rfl
  · exact e
  · show comm (d + 1) false (32 :: 42 :: 41 :: r) = _
    rw [comm_next, if_neg (by unfold starts2; simp), if_neg (by unfold starts2; simp), e]
  · show comm (d + 1) false (42 :: 42 :: 41 :: r) = _
    rw [comm_next, if_neg (by unfold starts2; simp), if_neg (by unfold starts2; simp), e]
/-- the pieces of the law's comments -/
def lPIECES : List Str := [" ", "\n", "a", "\" ", "' ", "\\", "# ", "( ", " ) ", "val", "** ", "1a"]
theorem neu_one {c : Nat} (h1 : c ≠ 40) (h2 : c ≠ 42) : Neu [c] := fun d r => by
  show comm (d + 1) false (c :: r) = _
  rw [comm_next, if_neg (by unfold starts2; simp; intro z; exact absurd z h1), if_neg (by unfold starts2; simp; intro z; exact absurd z h2)]
theorem neu_plain : ∀ {x : List Nat}, (∀ c ∈ x, c ≠ 40 ∧ c ≠ 42) → Neu x
  | [], _ => Neu.nil
  | c :: x, h => by
    have a := neu_one (h c (List.mem_cons_self ..)).1 (h c (List.mem_cons_self ..)).2
    exact Neu.app (x := [c]) a (neu_plain fun y hy => h y (List.mem_cons_of_mem _ hy))
theorem neu_piece {x : List Nat} (h : S x ∈ lPIECES) : Neu x ∧ x.length ≤ 3 := by
  have hl : x.length ≤ 3 := by
    have key : (lPIECES.all fun z => decide (z.length ≤ 3)) = true := by decide +kernel
    have := of_decide_eq_true (List.all_eq_true.mp key _ h)
    rwa [S_len] at this
  refine ⟨?_, hl⟩
  have key : (lPIECES.all fun z => (z.cps.toList.all fun c => decide (c ≠ 40 ∧ c ≠ 42)) || decide (z = S [40, 32]) || decide (z = S [42, 42, 32])) = true := by decide +kernel
  have hx := List.all_eq_true.mp key _ h
  rw [S_list] at hx
  simp only [Bool.or_eq_true, decide_eq_true_eq] at hx
  rcases hx with (hx | hx) | hx
  · exact neu_plain fun c hc => of_decide_eq_true (List.all_eq_true.mp hx c hc)
  · have := S_inj hx
    subst this
    intro d r
    show comm (d + 1) false (40 :: 32 :: r) = _
    rw [comm_next, if_neg (by unfold starts2; simp), if_neg (by unfold starts2; simp)]
    exact neu_one (by decide) (by decide) d r
  · have := S_inj hx
    subst this
    intro d r
    show comm (d + 1) false (42 :: 42 :: 32 :: r) = _
    rw [comm_next, if_neg (by unfold starts2; simp), if_neg (by unfold starts2; simp), comm_next, if_neg (by unfold starts2; simp), if_neg (by unfold starts2; simp)]
    exact neu_one (by decide) (by decide) d r
/-- a separator -/
structure Gap (x : List Nat) : Prop where
  ne : ∃ g r, x = g :: r ∧ (g = 32 ∨ g = 10 ∨ g = 40)
  skip : ∀ r, blanks [] 0 false (x ++ r) = blanks [] 0 false r
theorem Gap.app {x y : List Nat} (a : Gap x) (b : Gap y) : Gap (x ++ y) := by
  obtain ⟨g, r, rfl, h⟩ := a.ne
  exact ⟨⟨g, r ++ y, rfl, h⟩, fun s => by rw [List.append_assoc, a.skip, b.skip]⟩
theorem gap_one {c : Nat} (h : c = 32 ∨ c = 10) : Gap [c] := ⟨⟨c, [], rfl, h.imp id .inl⟩, fun r => by
  show blanks [] 0 false (c :: r) = _
  rw [blanks_next, if_pos h]⟩
theorem Cmt.gap {x : List Nat} (h : Cmt x) : Gap x := by
  obtain ⟨b, rfl, hb⟩ := h.ex
  refine ⟨⟨40, 42 :: b, rfl, .inr (.inr rfl)⟩, fun r => ?_⟩
  show blanks [] 0 false (40 :: 42 :: (b ++ r)) = _
  rw [blanks_next, if_neg (by decide), if_pos (by unfold starts2; simp)]
  show blanks (40 :: 42 :: (b ++ r)) 1 false (b ++ r) = _
  rw [blanks_comm, hb 0 r, comm0]
  exact blanks_st _ _ _
/-- a separator, a kind, a text, what stands for it -/
abbrev Pc := List Nat × Str × List Nat × List Nat
def glue : List Pc → List Nat → List Nat
  | [], e => e
  | p :: ps, e => p.1 ++ (p.2.2.2 ++ glue ps e)
theorem glue_snoc (p : Pc) (e : List Nat) : ∀ ps, glue (ps ++ [p]) e = glue ps (p.1 ++ (p.2.2.2 ++ e))
  | [] => rfl
  | q :: ps => by
    show q.1 ++ (q.2.2.2 ++ glue (ps ++ [p]) e) = q.1 ++ (q.2.2.2 ++ glue ps _)
    rw [glue_snoc p e ps]
theorem glue_app (e : List Nat) : ∀ ps, glue ps e = glue ps [] ++ e
  | [] => rfl
  | q :: ps => by
    show q.1 ++ (q.2.2.2 ++ glue ps e) = q.1 ++ (q.2.2.2 ++ glue ps []) ++ e
    rw [glue_app e ps]
    simp
/-- the tokens stand so that each is read alone -/
def Stand : List Pc → List Nat → Prop
  | [], e => e = [] ∨ Gap e
  | p :: ps, e => (p.1 = [] ∨ Gap p.1) ∧ TokSrc p.2.1 p.2.2.1 p.2.2.2 ∧ Behind p.2.1 p.2.2.1 (glue ps e) ∧ Stand ps e
theorem src_head {kd : Str} {tx src : List Nat} (h : TokSrc kd tx src) : ∃ c s, src = c :: s ∧ c ≠ 32 ∧ c ≠ 10 ∧ (c = 40 → s = []) := by
  cases h with
  | low h =>
    obtain ⟨c, s, rfl, hc, _⟩ := h.ex
    have key : (sLOWER.cps.toList.all fun c => decide (c ≠ 32 ∧ c ≠ 10 ∧ c ≠ 40)) = true := by decide +kernel
    have := of_decide_eq_true (List.all_eq_true.mp key c hc)
    exact ⟨c, s, rfl, this.1, this.2.1, fun z => absurd z this.2.2⟩
  | high h =>
    obtain ⟨c, s, rfl, hc, _⟩ := h.ex
    have key : (sUPPER.cps.toList.all fun c => decide (c ≠ 32 ∧ c ≠ 10 ∧ c ≠ 40)) = true := by decide +kernel
    have := of_decide_eq_true (List.all_eq_true.mp key c hc)
    exact ⟨c, s, rfl, this.1, this.2.1, fun z => absurd z this.2.2⟩
  | word h =>
    obtain ⟨c, s, rfl, hc, _⟩ := word_facts h
    have key : (sLETTERS.cps.toList.all fun c => decide (c ≠ 32 ∧ c ≠ 10 ∧ c ≠ 40)) = true := by decide +kernel
    have := of_decide_eq_true (List.all_eq_true.mp key c (of_decide_eq_true hc))
    exact ⟨c, s, rfl, this.1, this.2.1, fun z => absurd z this.2.2⟩
  | var h => exact ⟨39, _, rfl, by decide, by decide, fun z => absurd z (by decide)⟩
  | int h =>
    obtain ⟨c, s, rfl, _, hs⟩ := h.ex
    have key : (sDIGITS.cps.toList.all fun c => decide (c ≠ 32 ∧ c ≠ 10 ∧ c ≠ 40)) = true := by decide +kernel
    have := of_decide_eq_true (List.all_eq_true.mp key c (of_decide_eq_true (hs c (List.mem_cons_self ..))))
    exact ⟨c, s, rfl, this.1, this.2.1, fun z => absurd z this.2.2⟩
  | string => exact ⟨34, _, rfl, by decide, by decide, fun z => absurd z (by decide)⟩
  | sign h =>
    obtain ⟨c, s, rfl, _, _, _, _, a5, a6, _, _, a9, _⟩ := sign_facts h
    exact ⟨c, s, rfl, a5, a6, a9⟩
theorem skip_src {kd : Str} {tx src r : List Nat} (h : TokSrc kd tx src) (hb : Behind kd tx r) : blanks [] 0 false (src ++ r) = .ok (src ++ r) := by
  obtain ⟨c, s, rfl, h1, h2, h3⟩ := src_head h
  show blanks [] 0 false (c :: (s ++ r)) = _
  rw [blanks_next, if_neg (fun z => z.elim h1 h2)]
  have hn : ¬ starts2 40 42 (c :: (s ++ r)) = true := fun z => by
    obtain ⟨rfl, r2, hr⟩ := starts2_two z
    have hs := h3 rfl
    subst hs
    cases h with
    | low h => obtain ⟨c, s, e, hc, _⟩ := h.ex; cases e; revert hc; decide +kernel
    | high h => obtain ⟨c, s, e, hc, _⟩ := h.ex; cases e; revert hc; decide +kernel
    | word h => obtain ⟨c, s, e, hc, _⟩ := word_facts h; cases e; revert hc; decide +kernel
    | int h => obtain ⟨c, s, e, _, hc⟩ := h.ex; cases e; have := hc 40 (List.mem_cons_self ..); revert this; decide +kernel
    | sign h =>
      have hb : Sep r ∨ (S [40] ∈ six ∧ ([40] = [40] → r.head? ≠ some 42)) := hb
      have hr : r = 42 :: r2 := hr
      rcases hb with hb | hb
      · rcases hb with hb | ⟨g, r', hb, hg⟩
        · rw [hr] at hb; cases hb
        · rw [hr] at hb
          cases hb
          revert hg
          decide
      · have := hb.2 rfl
        rw [hr] at this
        exact this rfl
  rw [if_neg hn]
  rfl
theorem skip_gap {g r : List Nat} (h : g = [] ∨ Gap g) : blanks [] 0 false (g ++ r) = blanks [] 0 false r := by
  rcases h with rfl | h
  · rfl
  · exact h.skip r
/-- a kind, a text, a place -/
abbrev Rw := Str × List Nat × Nat
def rowsAt : Nat → List Pc → List Rw
  | _, [] => []
  | n, p :: ps => (p.2.1, p.2.2.1, n + p.1.length) :: rowsAt (n + p.1.length + p.2.2.2.length) ps
theorem rowsAt_snoc (p : Pc) : ∀ (ps : List Pc) (n : Nat), rowsAt n (ps ++ [p]) = rowsAt n ps ++ [(p.2.1, p.2.2.1, n + (glue ps []).length + p.1.length)]
  | [], n => rfl
  | q :: ps, n => by
    show (q.2.1, q.2.2.1, n + q.1.length) :: rowsAt (n + q.1.length + q.2.2.2.length) (ps ++ [p]) = _
    rw [rowsAt_snoc p ps]
    show _ = (q.2.1, q.2.2.1, n + q.1.length) :: (rowsAt (n + q.1.length + q.2.2.2.length) ps ++ [(p.2.1, p.2.2.1, n + (q.1 ++ (q.2.2.2 ++ glue ps [])).length + p.1.length)])
    rw [List.length_append, List.length_append, show n + q.1.length + q.2.2.2.length + (glue ps []).length + p.1.length = n + (q.1.length + (q.2.2.2.length + (glue ps []).length)) + p.1.length by omega]
def rowOf (t : List Nat) (k : Tk) : Rw := (k.1, k.2.1, pl t k.2.2)
theorem lexA_glue (t : List Nat) : ∀ (ps : List Pc) (e a l : List Nat) (f : Nat), Stand ps e → t = a ++ glue ps e → blanks [] 0 false (glue ps e) = .ok l → l.length < f → ∃ ts, lexA f l = .ok ts ∧ ts.map (rowOf t) = rowsAt a.length ps
  | [], e, a, l, f, h, ht, hl, hf => by
    have : l = [] := by
      have e2 : blanks [] 0 false (e ++ []) = blanks [] 0 false [] := skip_gap h
      rw [List.append_nil] at e2
      have hl : blanks [] 0 false e = .ok l := hl
      rw [e2] at hl
      cases hl
      rfl
    subst this
    exact ⟨[], lexA_end f, rfl⟩
  | p :: ps, e, a, l, f, h, ht, hl, hf => by
    obtain ⟨g, kd, tx, src⟩ := p
    obtain ⟨h1, h2, h3, h4⟩ := h
    dsimp only at h1 h2 h3
    have hl2 : l = src ++ glue ps e := by
      have hl : blanks [] 0 false (g ++ (src ++ glue ps e)) = .ok l := hl
      rw [skip_gap h1, skip_src h2 h3] at hl
      cases hl
      rfl
    subst hl2
    have ht1 := tok1_src h2 h3
    obtain ⟨c, s, hcs, _⟩ := src_head h2
    -- what is behind is read on
    have hbl : ∃ l2, blanks [] 0 false (glue ps e) = .ok l2 := by
      cases ps with
      | nil =>
        have e2 : blanks [] 0 false (e ++ []) = blanks [] 0 false [] := skip_gap h4
        rw [List.append_nil] at e2
        exact ⟨[], e2⟩
      | cons p2 ps2 =>
        obtain ⟨g2, kd2, tx2, src2⟩ := p2
        obtain ⟨k1, k2, k3, _⟩ := h4
        dsimp only at k1 k2 k3
        refine ⟨src2 ++ glue ps2 e, ?_⟩
        show blanks [] 0 false (g2 ++ (src2 ++ glue ps2 e)) = _
        rw [skip_gap k1, skip_src k2 k3]
    obtain ⟨l2, hl2⟩ := hbl
    obtain ⟨f, rfl⟩ : ∃ f', f = f' + 1 := ⟨f - 1, by omega⟩
    obtain ⟨q2, hq2⟩ := blanks_len _ _ _ _ _ hl2
    have hlen : l2.length < f := by
      have := congrArg List.length hq2
      rw [List.length_append] at this
      rw [hcs, List.length_append, List.length_cons] at hf
      omega
    have ht' : t = (a ++ g ++ src) ++ glue ps e := by
      rw [ht]
      show a ++ (g ++ (src ++ glue ps e)) = _
      simp
    obtain ⟨ts, hts, hrows⟩ := lexA_glue t ps e (a ++ g ++ src) l2 f h4 ht' hl2 hlen
    refine ⟨(kd, tx, src ++ glue ps e) :: ts, ?_, ?_⟩
    · rw [hcs] at ht1 ⊢
      show lexA (f + 1) (c :: (s ++ glue ps e)) = _
      have ht1 : tok1 (c :: (s ++ glue ps e)) = .ok (kd, tx, glue ps e) := ht1
      rw [lexA_next, ht1]
      dsimp only
      rw [hl2]
      dsimp only
      rw [hts]
      rfl
    · rw [List.map_cons, hrows]
      show (kd, tx, pl t (src ++ glue ps e)) :: rowsAt (a ++ g ++ src).length ps = (kd, tx, a.length + g.length) :: rowsAt (a.length + g.length + src.length) ps
      have e1 : pl t (src ++ glue ps e) = a.length + g.length := by
        unfold pl
        rw [ht]
        show (a ++ (g ++ (src ++ glue ps e))).length - _ = _
        rw [List.length_append, List.length_append]
        omega
      rw [e1, List.length_append, List.length_append]
theorem lex_glue {ps : List Pc} {e : List Nat} (h : Stand ps e) : ∃ ts, lex (glue ps e) = .ok ts ∧ ts.map (rowOf (glue ps e)) = rowsAt 0 ps := by
  have hbl : ∃ l2, blanks [] 0 false (glue ps e) = .ok l2 := by
    cases ps with
    | nil =>
      have e2 : blanks [] 0 false (e ++ []) = blanks [] 0 false [] := skip_gap h
      rw [List.append_nil] at e2
      exact ⟨[], e2⟩
    | cons p2 ps2 =>
      obtain ⟨g2, kd2, tx2, src2⟩ := p2
      obtain ⟨k1, k2, k3, _⟩ := h
      dsimp only at k1 k2 k3
      refine ⟨src2 ++ glue ps2 e, ?_⟩
      show blanks [] 0 false (g2 ++ (src2 ++ glue ps2 e)) = _
      rw [skip_gap k1, skip_src k2 k3]
  obtain ⟨l2, hl2⟩ := hbl
  obtain ⟨q2, hq2⟩ := blanks_len _ _ _ _ _ hl2
  have hlen : l2.length < (glue ps e).length + 1 := by
    have := congrArg List.length hq2
    rw [List.length_append] at this
    omega
  obtain ⟨ts, h1, h2⟩ := lexA_glue (glue ps e) ps e [] l2 _ h rfl hl2 hlen
  refine ⟨ts, ?_, h2⟩
  unfold lex
  rw [hl2]
  exact h1
/-! ### one token more -/
def Stand0 : List Pc → List Nat → Prop
  | [], _ => True
  | p :: ps, e => (p.1 = [] ∨ Gap p.1) ∧ TokSrc p.2.1 p.2.2.1 p.2.2.2 ∧ Behind p.2.1 p.2.2.1 (glue ps e) ∧ Stand0 ps e
theorem Stand0.stand : ∀ {ps : List Pc} {e : List Nat}, Stand0 ps e → (e = [] ∨ Gap e) → Stand ps e
  | [], _, _, h => h
  | _ :: _, _, ⟨a, b, c, d⟩, h => ⟨a, b, c, Stand0.stand d h⟩
theorem stand_snoc {p : Pc} {e : List Nat} : ∀ {ps : List Pc}, Stand0 ps (p.1 ++ (p.2.2.2 ++ e)) → (p.1 = [] ∨ Gap p.1) → TokSrc p.2.1 p.2.2.1 p.2.2.2 → Behind p.2.1 p.2.2.1 e → Stand0 (ps ++ [p]) e
  | [], _, a, b, c => ⟨a, b, c, True.intro⟩
  | q :: ps, ⟨x, y, z, u⟩, a, b, c => ⟨x, y, (glue_snoc p e ps).symm ▸ z, stand_snoc u a b c⟩
theorem behind_sep {kd : Str} {tx src r : List Nat} (h : TokSrc kd tx src) (hr : Sep r) : Behind kd tx r := by
  cases h with
  | string => exact True.intro
  | sign _ => exact Or.inl hr
  | low _ => exact sep_tail hr
  | high _ => exact sep_tail hr
  | var _ => exact sep_tail hr
  | int _ => exact sep_tail hr
  | word _ => exact sep_tail hr
theorem gap_sep {g r : List Nat} (h : Gap g) : Sep (g ++ r) := by
  obtain ⟨c, s, rfl, hc⟩ := h.ne
  exact .inr ⟨c, s ++ r, rfl, hc⟩
/-- the law's word on two tokens beside each other -/
def apartM (l r : Option (Str × Str)) : Bool := match l, r with
  | some l, some r => if l.1 = "string" then decide (r.1 = "sign") else if l.1 ≠ "sign" then ((decide (r.1 = "sign") && !decide (r.2 = "_")) || decide (r.1 = "string"))
    else if l.2 = "(" then (!decide (r.2 = "*") || !decide (r.1 = "sign")) else (decide (l.2 = ")") || decide (l.2 = "]") || decide (l.2 = ",") || decide (l.2 = ";") || decide (l.2 = "["))
  | _, _ => true
theorem tail_src {kd tx src r} (h : TokSrc kd tx src) (h2 : ((decide (kd = "sign") && !decide (S tx = "_")) || decide (kd = "string")) = true) : tailN (src ++ r) = 0 := by
  cases h with
  | string => rfl
  | sign h =>
    obtain ⟨c, s, rfl, _, _, _, _, _, _, a7, _⟩ := sign_facts h
    have hc : ¬ inS c sTAIL = true := fun z => by
      have e := a7 z
      rw [e] at h2
      revert h2
      decide +kernel
    show (if inS c sTAIL = true then _ else 0) = 0
    rw [if_neg hc]
  | low _ => revert h2; simp only [show decide (("low" : Str) = "sign") = false by decide +kernel, show decide (("low" : Str) = "string") = false by decide +kernel, Bool.false_and, Bool.or_false, Bool.false_eq_true, false_implies]
  | high _ => revert h2; simp only [show decide (("high" : Str) = "sign") = false by decide +kernel, show decide (("high" : Str) = "string") = false by decide +kernel, Bool.false_and, Bool.or_false, Bool.false_eq_true, false_implies]
  | var _ => revert h2; simp only [show decide (("var" : Str) = "sign") = false by decide +kernel, show decide (("var" : Str) = "string") = false by decide +kernel, Bool.false_and, Bool.or_false, Bool.false_eq_true, false_implies]
  | int _ => revert h2; simp only [show decide (("int" : Str) = "sign") = false by decide +kernel, show decide (("int" : Str) = "string") = false by decide +kernel, Bool.false_and, Bool.or_false, Bool.false_eq_true, false_implies]
  | word _ => revert h2; simp only [show decide (("word" : Str) = "sign") = false by decide +kernel, show decide (("word" : Str) = "string") = false by decide +kernel, Bool.false_and, Bool.or_false, Bool.false_eq_true, false_implies]
theorem apart_word {kd : Str} {x : Str} {r : Str × Str} (h1 : kd ≠ "string") (h2 : kd ≠ "sign") (h : apartM (some (kd, x)) (some r) = true) : ((decide (r.1 = "sign") && !decide (r.2 = "_")) || decide (r.1 = "string")) = true := by
  unfold apartM at h
  dsimp only at h
  rw [if_neg h1, if_pos h2] at h
  exact h
theorem head_42 {kd : Str} {tx src e : List Nat} (h : TokSrc kd tx src) (hh : (src ++ e).head? = some 42) : kd = "sign" ∧ tx = [42] := by
  obtain ⟨c, s, hs, _⟩ := src_head h
  rw [hs] at hh
  have hc : c = 42 := Option.some.inj hh
  subst hc
  cases h with
  | sign h =>
    subst hs
    obtain ⟨c2, s2, e2, _, _, _, _, _, _, _, _, _, a10⟩ := sign_facts h
    cases e2
    exact ⟨rfl, a10 rfl⟩
  | string => cases hs
  | var _ => cases hs
  | low h => obtain ⟨c, s', e', hc, _⟩ := h.ex; rw [hs] at e'; cases e'; exact absurd hc (by decide +kernel)
  | high h => obtain ⟨c, s', e', hc, _⟩ := h.ex; rw [hs] at e'; cases e'; exact absurd hc (by decide +kernel)
  | word h => obtain ⟨c, s', e', hc, _⟩ := word_facts h; rw [hs] at e'; cases e'; exact absurd hc (by decide +kernel)
  | int h => obtain ⟨c, s', e', _, hc⟩ := h.ex; rw [hs] at e'; cases e'; exact absurd (hc 42 (List.mem_cons_self ..)) (by decide +kernel)
theorem behind_apart {kd kd2 : Str} {tx src tx2 src2 e : List Nat} (h : TokSrc kd tx src) (h2 : TokSrc kd2 tx2 src2) (ha : apartM (some (kd, S tx)) (some (kd2, S tx2)) = true) : Behind kd tx (src2 ++ e) := by
  cases h with
  | string => exact True.intro
  | low _ => exact tail_src h2 (apart_word (by decide +kernel) (by decide +kernel) ha)
  | high _ => exact tail_src h2 (apart_word (by decide +kernel) (by decide +kernel) ha)
  | var _ => exact tail_src h2 (apart_word (by decide +kernel) (by decide +kernel) ha)
  | int _ => exact tail_src h2 (apart_word (by decide +kernel) (by decide +kernel) ha)
  | word _ => exact tail_src h2 (apart_word (by decide +kernel) (by decide +kernel) ha)
  | sign _ =>
    refine Or.inr ?_
    unfold apartM at ha
    dsimp only at ha
    rw [if_neg (by decide +kernel), if_neg (fun z => z rfl)] at ha
    by_cases h1 : S tx = "("
    · rw [if_pos h1] at ha
      refine ⟨by rw [h1]; decide +kernel, fun _ hh => ?_⟩
      obtain ⟨rfl, rfl⟩ := head_42 h2 hh
      revert ha
      decide +kernel
    · rw [if_neg h1] at ha
      refine ⟨?_, fun z => absurd (by rw [z]; decide +kernel) h1⟩
      simp only [Bool.or_eq_true, decide_eq_true_eq] at ha
      rcases ha with (((ha | ha) | ha) | ha) | ha <;> (rw [ha]; decide +kernel)
def lGAPS : List Str := [" ", "\n", "  ", " \n ", "(* a *)", "(**)", "(* (* val *) end *)", "(* \" *)", "(*)*)", "(* \\ ' 01 *)"]
theorem gap_all {x : List Nat} (h : S x ∈ lGAPS) : Gap x ∧ x.length ≤ 20 := by
  have cm : ∀ b : List Nat, (∀ d r, comm (d + 1) false (b ++ r) = comm d false r) → Gap (40 :: 42 :: b) := fun b hb => Cmt.gap ⟨⟨b, rfl, hb⟩⟩
  have hx := h
  unfold lGAPS at hx
  simp only [List.mem_cons, List.mem_nil_iff, or_false] at hx
  have key : ∀ {y : Str} {l : List Nat}, S x = y → y = S l → x = l := fun a b => S_inj (a.trans b)
  rcases hx with hx | hx | hx | hx | hx | hx | hx | hx | hx | hx
  · rw [key (l := [32]) hx (by decide +kernel)]
    exact ⟨gap_one (.inl rfl), by decide⟩
  · rw [key (l := [10]) hx (by decide +kernel)]
    exact ⟨gap_one (.inr rfl), by decide⟩
  · rw [key (l := [32] ++ [32]) hx (by decide +kernel)]
    exact ⟨(gap_one (.inl rfl)).app (gap_one (.inl rfl)), by decide⟩
  · rw [key (l := [32] ++ ([10] ++ [32])) hx (by decide +kernel)]
    exact ⟨(gap_one (.inl rfl)).app ((gap_one (.inr rfl)).app (gap_one (.inl rfl))), by decide⟩
  · rw [key (l := 40 :: 42 :: [32, 97, 32, 42, 41]) hx (by decide +kernel)]
    exact ⟨cm _ fun d r => rfl, by decide⟩
  · rw [key (l := 40 :: 42 :: [42, 41]) hx (by decide +kernel)]
    exact ⟨cm _ fun d r => rfl, by decide⟩
  · rw [key (l := 40 :: 42 :: [32, 40, 42, 32, 118, 97, 108, 32, 42, 41, 32, 101, 110, 100, 32, 42, 41]) hx (by decide +kernel)]
    exact ⟨cm _ fun d r => rfl, by decide⟩
  · rw [key (l := 40 :: 42 :: [32, 34, 32, 42, 41]) hx (by decide +kernel)]
    exact ⟨cm _ fun d r => rfl, by decide⟩
  · rw [key (l := 40 :: 42 :: [41, 42, 41]) hx (by decide +kernel)]
    exact ⟨cm _ fun d r => rfl, by decide⟩
  · rw [key (l := 40 :: 42 :: [32, 92, 32, 39, 32, 48, 49, 32, 42, 41]) hx (by decide +kernel)]
    exact ⟨cm _ fun d r => rfl, by decide⟩
/-- texts of signs as the model wants them, to be compared -/
def okRow (r : Rw) : Prop := PyData.strOk r.1 = true ∧ PyData.strOk (S r.2.1) = true
theorem ok_small {x : List Nat} (h : ∀ c ∈ x, c < 128) : PyData.strOk (S x) = true := by
  show x.toArray.all (fun c => decide (c < 0x110000)) = true
  simp only [List.all_toArray, List.all_eq_true, decide_eq_true_eq]
  intro c hc
  have := h c hc
  omega
theorem tail_small {c : Nat} (h : inS c sTAIL = true) : c < 128 := by
  have key : (sTAIL.cps.toList.all fun c => decide (c < 128)) = true := by decide +kernel
  exact of_decide_eq_true (List.all_eq_true.mp key c (of_decide_eq_true h))
theorem tok_ok {kd : Str} {tx src : List Nat} (h : TokSrc kd tx src) : PyData.strOk kd = true ∧ PyData.strOk (S tx) = true := by
  cases h with
  | string h => exact ⟨by decide +kernel, ok_small h⟩
  | low h =>
    obtain ⟨c, s, rfl, hc, hs⟩ := h.ex
    refine ⟨by decide +kernel, ok_small fun y hy => ?_⟩
    rcases List.mem_cons.mp hy with rfl | hy
    · exact tail_small (tail_letters (lower_letters hc).1)
    · exact tail_small (hs y hy)
  | high h =>
    obtain ⟨c, s, rfl, hc, hs⟩ := h.ex
    refine ⟨by decide +kernel, ok_small fun y hy => ?_⟩
    rcases List.mem_cons.mp hy with rfl | hy
    · exact tail_small (tail_letters (upper_letters hc).1)
    · exact tail_small (hs y hy)
  | word h =>
    obtain ⟨c, s, rfl, _, hs, _⟩ := word_facts h
    exact ⟨by decide +kernel, ok_small fun y hy => tail_small (hs y hy)⟩
  | int h =>
    obtain ⟨c, s, rfl, _, hs⟩ := h.ex
    exact ⟨by decide +kernel, ok_small fun y hy => tail_small (tail_digits (hs y hy))⟩
  | var h =>
    refine ⟨by decide +kernel, ok_small fun y hy => ?_⟩
    rw [List.mem_singleton.mp hy]
    exact tail_small (tail_letters (lower_letters (of_decide_eq_true h)).1)
  | sign h =>
    refine ⟨by decide +kernel, ?_⟩
    have key : (lSIGNS.all fun z => PyData.strOk z) = true := by decide +kernel
    exact List.all_eq_true.mp key _ h
theorem rows_ok {e : List Nat} : ∀ {ps : List Pc} {n : Nat}, Stand0 ps e → ∀ r ∈ rowsAt n ps, okRow r
  | [], _, _, r, h => nomatch h
  | p :: ps, n, ⟨_, b, _, d⟩, r, h => by
    rcases List.mem_cons.mp h with rfl | h
    · exact tok_ok b
    · exact rows_ok d r h
/-! ### texts that aren't read: good tokens, then a fault -/
def Bad (x e : List Nat) : Prop := blanks [] 0 false x = .error e ∨ (∃ c l, x = c :: l ∧ blanks [] 0 false x = .ok x ∧ tok1 x = .error e)
/-- a kind, a text, what stands for it, a gap behind -/
abbrev Gp := Str × List Nat × List Nat × List Nat
def gtext : List Gp → List Nat → List Nat
  | [], e => e
  | p :: ps, e => p.2.2.1 ++ (p.2.2.2 ++ gtext ps e)
def GoodP (ps : List Gp) : Prop := ∀ p ∈ ps, TokSrc p.1 p.2.1 p.2.2.1 ∧ Gap p.2.2.2
theorem gtext_app (e : List Nat) : ∀ ps, gtext ps e = gtext ps [] ++ e
  | [] => rfl
  | p :: ps => by
    show p.2.2.1 ++ (p.2.2.2 ++ gtext ps e) = p.2.2.1 ++ (p.2.2.2 ++ gtext ps []) ++ e
    rw [gtext_app e ps]
    simp
theorem gtext_snoc (p : Gp) (e : List Nat) : ∀ ps, gtext (ps ++ [p]) e = gtext ps (p.2.2.1 ++ (p.2.2.2 ++ e))
  | [] => rfl
  | q :: ps => by
    show q.2.2.1 ++ (q.2.2.2 ++ gtext (ps ++ [p]) e) = q.2.2.1 ++ (q.2.2.2 ++ gtext ps _)
    rw [gtext_snoc p e ps]
theorem good_cons {p : Gp} {ps : List Gp} (h : GoodP (p :: ps)) (x : List Nat) : blanks [] 0 false (gtext (p :: ps) x) = .ok (gtext (p :: ps) x) ∧ (∃ c s, gtext (p :: ps) x = c :: s ∧ (p.2.2.2 ++ gtext ps x).length < (c :: s).length) ∧ tok1 (gtext (p :: ps) x) = .ok (p.1, p.2.1, p.2.2.2 ++ gtext ps x) ∧ blanks [] 0 false (p.2.2.2 ++ gtext ps x) = blanks [] 0 false (gtext ps x) := by
  obtain ⟨h1, h2⟩ := h p (List.mem_cons_self ..)
  have hb : Behind p.1 p.2.1 (p.2.2.2 ++ gtext ps x) := behind_sep h1 (gap_sep h2)
  refine ⟨skip_src h1 hb, ?_, tok1_src h1 hb, h2.skip _⟩
  obtain ⟨c, s, hs, _⟩ := src_head h1
  refine ⟨c, s ++ (p.2.2.2 ++ gtext ps x), ?_, ?_⟩
  · show p.2.2.1 ++ _ = _
    rw [hs]
    rfl
  · rw [List.length_cons, List.length_append (as := s)]
    omega
theorem lexA_bad {x e : List Nat} (hx : Bad x e) : ∀ (ps : List Gp) (f : Nat) (l : List Nat), GoodP ps → blanks [] 0 false (gtext ps x) = .ok l → l.length < f → lexA f l = .error e
  | ps, 0, l, _, _, h => absurd h (Nat.not_lt_zero _)
  | [], f + 1, l, _, hb, _ => by
    rcases hx with h | ⟨c, l', rfl, h1, h2⟩
    · rw [show gtext [] x = x from rfl, h] at hb
      cases hb
    · rw [show gtext [] (c :: l') = c :: l' from rfl, h1] at hb
      cases hb
      rw [lexA_next, h2]
  | p :: ps, f + 1, l, hg, hb, hf => by
    obtain ⟨g1, ⟨c, s, g2, g3⟩, g4, g5⟩ := good_cons hg x
    rw [g1] at hb
    cases hb
    rw [g2] at g4 ⊢
    rw [lexA_next, g4]
    dsimp only
    rw [g5]
    cases hl : blanks [] 0 false (gtext ps x) with
    | error e2 =>
      dsimp only
      cases ps with
      | nil =>
        rcases hx with h | ⟨c, l', rfl, h1, h2⟩
        · rw [show gtext [] x = x from rfl, h] at hl
          cases hl
          rfl
        · rw [show gtext [] (c :: l') = c :: l' from rfl, h1] at hl
          cases hl
      | cons p2 ps =>
        rw [(good_cons (fun q hq => hg q (List.mem_cons_of_mem _ hq)) x).1] at hl
        cases hl
    | ok l2 =>
      dsimp only
      obtain ⟨q, hq⟩ := blanks_len _ _ _ _ _ hl
      have hq := congrArg List.length hq
      rw [List.length_append] at hq
      rw [g2] at hf
      rw [List.length_append] at g3
      rw [lexA_bad hx ps f l2 (fun q hq => hg q (List.mem_cons_of_mem _ hq)) hl (by omega)]
theorem lex_bad {x e : List Nat} (hx : Bad x e) {ps : List Gp} (hg : GoodP ps) : lex (gtext ps x) = .error e := by
  unfold lex
  cases hl : blanks [] 0 false (gtext ps x) with
  | error e2 =>
    dsimp only
    cases ps with
    | nil =>
      rcases hx with h | ⟨c, l', rfl, h1, h2⟩
      · rw [show gtext [] x = x from rfl, h] at hl
        cases hl
        rfl
      · rw [show gtext [] (c :: l') = c :: l' from rfl, h1] at hl
        cases hl
    | cons p2 ps =>
      rw [(good_cons hg x).1] at hl
      cases hl
  | ok l2 =>
    dsimp only
    obtain ⟨q, hq⟩ := blanks_len _ _ _ _ _ hl
    have hq := congrArg List.length hq
    rw [List.length_append] at hq
    exact lexA_bad hx ps _ l2 hg hl (by omega)
theorem lexA_fine : ∀ (ps : List Gp) (f : Nat) (l : List Nat), GoodP ps → blanks [] 0 false (gtext ps []) = .ok l → l.length < f → ∃ ts, lexA f l = .ok ts
  | ps, 0, l, _, _, h => absurd h (Nat.not_lt_zero _)
  | [], f + 1, l, _, hb, _ => by
    cases hb
    exact ⟨[], lexA_end _⟩
  | p :: ps, f + 1, l, hg, hb, hf => by
    obtain ⟨g1, ⟨c, s, g2, g3⟩, g4, g5⟩ := good_cons hg []
    rw [g1] at hb
    cases hb
    rw [g2] at g4 ⊢
    rw [lexA_next, g4]
    dsimp only
    rw [g5]
    cases hl : blanks [] 0 false (gtext ps []) with
    | error e2 =>
      cases ps with
      | nil => cases hl
      | cons p2 ps =>
        rw [(good_cons (fun q hq => hg q (List.mem_cons_of_mem _ hq)) []).1] at hl
        cases hl
    | ok l2 =>
      dsimp only
      obtain ⟨q, hq⟩ := blanks_len _ _ _ _ _ hl
      have hq := congrArg List.length hq
      rw [List.length_append] at hq
      rw [g2] at hf
      rw [List.length_append] at g3
      obtain ⟨ts, h⟩ := lexA_fine ps f l2 (fun q hq => hg q (List.mem_cons_of_mem _ hq)) hl (by omega)
      rw [h]
      exact ⟨_, rfl⟩
theorem lex_fine {ps : List Gp} (hg : GoodP ps) : ∃ ts, lex (gtext ps []) = .ok ts := by
  unfold lex
  cases hl : blanks [] 0 false (gtext ps []) with
  | error e2 =>
    cases ps with
    | nil => cases hl
    | cons p2 ps =>
      rw [(good_cons hg []).1] at hl
      cases hl
  | ok l2 =>
    dsimp only
    obtain ⟨q, hq⟩ := blanks_len _ _ _ _ _ hl
    have hq := congrArg List.length hq
    rw [List.length_append] at hq
    exact lexA_fine ps _ l2 hg hl (by omega)
/-- a fault: what it is, where it is told, whether more may stand behind it -/
def FF (f : List Nat) (off : Nat) (b : Bool) : Prop := (b = true ∧ ∀ r, ∃ e, Bad (f ++ 32 :: r) e ∧ e.length + off = (f ++ 32 :: r).length) ∨ (b = false ∧ ∃ e, Bad f e ∧ e.length + off = f.length)
theorem blanks_at {c : Nat} {l : List Nat} (h1 : c ≠ 32) (h2 : c ≠ 10) (h3 : c = 40 → l.head? ≠ some 42) : blanks [] 0 false (c :: l) = .ok (c :: l) := by
  rw [blanks_next, if_neg (by rintro (z | z); exact h1 z; exact h2 z), if_neg]
  intro z
  have := of_decide_eq_true z
  exact h3 (Option.some.inj this.1) this.2
theorem ff_here {f : List Nat} (hf : f ≠ []) (h : ∀ r c l, f ++ 32 :: r = c :: l → blanks [] 0 false (c :: l) = .ok (c :: l) ∧ tok1 (c :: l) = .error (c :: l)) : FF f 0 true := by
  refine .inl ⟨rfl, fun r => ?_⟩
  cases hx : f ++ 32 :: r with
  | nil => cases f <;> cases hx
  | cons c l =>
    obtain ⟨a, b⟩ := h r c l hx
    exact ⟨c :: l, .inr ⟨c, l, rfl, a, b⟩, rfl⟩

theorem tok1_eq (c : Nat) (r : List Nat) : tok1 (c :: r) = if inS c sLETTERS = true then tokW (c :: r) else if inS c sDIGITS = true then tokN (c :: r) else if c = 39 then tokV (c :: r) else if c = 34 then tokS (c :: r)
    else if S ((c :: r).take 2) ∈ lLONG then .ok ("sign", (c :: r).take 2, (c :: r).drop 2) else if inS c sSHORT = true then .ok ("sign", [c], r) else .error (c :: r) := rfl
theorem tailN_ge : ∀ (x r : List Nat), (∀ y ∈ x, inS y sTAIL = true) → x.length ≤ tailN (x ++ r)
  | [], r, _ => Nat.zero_le _
  | c :: x, r, h => by
    show x.length + 1 ≤ if inS c sTAIL = true then tailN (x ++ r) + 1 else 0
    rw [if_pos (h c (List.mem_cons_self ..))]
    exact Nat.succ_le_succ (tailN_ge x r fun y hy => h y (List.mem_cons_of_mem _ hy))
theorem digit_is {c : Nat} (h : inS c sDIGITS = true) : c ≠ 32 ∧ c ≠ 10 ∧ c ≠ 40 := by
  refine ⟨?_, ?_, ?_⟩ <;> (rintro rfl; revert h; decide +kernel)
theorem letter_is {c : Nat} (h : inS c sLETTERS = true) : c ≠ 32 ∧ c ≠ 10 ∧ c ≠ 40 := by
  refine ⟨?_, ?_, ?_⟩ <;> (rintro rfl; revert h; decide +kernel)
/-- a number that is none -/
theorem ff_num {c : Nat} {x : List Nat} (hc : inS c sDIGITS = true) (h : ∀ r, ((((c :: x ++ 32 :: r).take (tailN (c :: x ++ 32 :: r))).any fun c => !inS c sDIGITS) || (decide (c = 48) && decide (1 < tailN (c :: x ++ 32 :: r))) || decide (18 < tailN (c :: x ++ 32 :: r))) = true) : FF (c :: x) 0 true :=
  ff_here (by simp) fun r c' l e => by
    have e' : c' :: l = c :: (x ++ 32 :: r) := e.symm
    cases e'
    obtain ⟨d1, d2, d3⟩ := digit_is hc
    refine ⟨blanks_at d1 d2 fun z => absurd z d3, ?_⟩
    show (if inS c sLETTERS = true then _ else if inS c sDIGITS = true then tokN (c :: (x ++ 32 :: r)) else _) = _
    rw [if_neg (by rw [digit_no hc]; exact Bool.false_ne_true), if_pos hc]
    unfold tokN
    rw [if_pos]
    exact h r
theorem ff_zero {x : List Nat} (hx : ∃ c s, x = c :: s ∧ inS c sTAIL = true) : FF (48 :: x) 0 true := ff_num (by decide +kernel) fun r => by
  obtain ⟨c, s, rfl, hc⟩ := hx
  have h1 := tailN_ge [48, c] (s ++ 32 :: r) (fun y hy => by
    rcases List.mem_cons.mp hy with rfl | hy
    · decide +kernel
    · rw [List.mem_singleton.mp hy]; exact hc)
  have h2 : 1 < tailN (48 :: c :: s ++ 32 :: r) := h1
  rw [decide_eq_true h2]
  simp
theorem ff_many {c : Nat} {x : List Nat} (hc : inS c sDIGITS = true) (hx : ∀ y ∈ x, inS y sDIGITS = true) (hl : 18 ≤ x.length) : FF (c :: x) 0 true := ff_num hc fun r => by
  have h1 := tailN_ge (c :: x) (32 :: r) (fun y hy => tail_digits (by
    rcases List.mem_cons.mp hy with rfl | hy
    · exact hc
    · exact hx y hy))
  rw [List.length_cons] at h1
  rw [decide_eq_true (show 18 < tailN (c :: x ++ 32 :: r) by omega)]
  simp
theorem ff_mixed {c b : Nat} {x y : List Nat} (hc : inS c sDIGITS = true) (hx : ∀ z ∈ x, inS z sTAIL = true) (hb : inS b sTAIL = true) (hb2 : inS b sDIGITS = false) : FF (c :: (x ++ b :: y)) 0 true := ff_num hc fun r => by
  have h1 := tailN_ge (c :: (x ++ [b])) (y ++ 32 :: r) (fun z hz => by
    rcases List.mem_cons.mp hz with rfl | hz
    · exact tail_digits hc
    · rcases List.mem_append.mp hz with hz | hz
      · exact hx z hz
      · rw [List.mem_singleton.mp hz]; exact hb)
  have e : c :: (x ++ b :: y) ++ 32 :: r = c :: (x ++ [b]) ++ (y ++ 32 :: r) := by simp
  have h2 : (((c :: (x ++ b :: y) ++ 32 :: r).take (tailN (c :: (x ++ b :: y) ++ 32 :: r))).any fun c => !inS c sDIGITS) = true := by
    rw [e]
    refine List.any_eq_true.mpr ⟨b, ?_, by rw [hb2]; rfl⟩
    have h3 : (c :: (x ++ [b]) ++ (y ++ 32 :: r)).take (tailN (c :: (x ++ [b]) ++ (y ++ 32 :: r))) = (c :: (x ++ [b])) ++ (y ++ 32 :: r).take (tailN (c :: (x ++ [b]) ++ (y ++ 32 :: r)) - (c :: (x ++ [b])).length) := by
      rw [List.take_append, List.take_of_length_le h1]
    rw [h3]
    simp
  rw [h2]
  rfl
/-- a word that is too long -/
theorem ff_word {c : Nat} {x : List Nat} (hc : inS c sLETTERS = true) (hx : ∀ y ∈ x, inS y sTAIL = true) (hl : 24 ≤ x.length) : FF (c :: x) 0 true :=
  ff_here (by simp) fun r c' l e => by
    have e' : c' :: l = c :: (x ++ 32 :: r) := e.symm
    cases e'
    obtain ⟨d1, d2, d3⟩ := letter_is hc
    refine ⟨blanks_at d1 d2 fun z => absurd z d3, ?_⟩
    rw [tok1_letters hc]
    unfold tokW
    have h1 := tailN_ge (c :: x) (32 :: r) (fun y hy => by
      rcases List.mem_cons.mp hy with rfl | hy
      · exact tail_letters hc
      · exact hx y hy)
    rw [List.length_cons] at h1
    exact if_pos (show 24 < tailN (c :: (x ++ 32 :: r)) from by have : 25 ≤ tailN (c :: (x ++ 32 :: r)) := Nat.le_trans (by omega) h1; omega)
/-- a sign that is none -/
theorem ff_sign {c : Nat} (hc : c ∈ [35, 36, 38, 47, 63, 64, 92, 96, 123, 125]) : FF [c] 0 true :=
  ff_here (by simp) fun r c' l e => by
    have e' : c' :: l = c :: (32 :: r) := e.symm
    cases e'
    have key : ∀ c ∈ [35, 36, 38, 47, 63, 64, 92, 96, 123, 125], (c ≠ 32 ∧ c ≠ 10 ∧ c ≠ 40) ∧ inS c sLETTERS = false ∧ inS c sDIGITS = false ∧ c ≠ 39 ∧ c ≠ 34 ∧ ¬ S [c, 32] ∈ lLONG ∧ inS c sSHORT = false := by decide +kernel
    obtain ⟨⟨d1, d2, d3⟩, k1, k2, k3, k4, k5, k6⟩ := key c hc
    refine ⟨blanks_at d1 d2 fun z => absurd z d3, ?_⟩
    rw [tok1_eq, if_neg (by rw [k1]; exact Bool.false_ne_true), if_neg (by rw [k2]; exact Bool.false_ne_true), if_neg k3, if_neg k4, if_neg (show ¬ S (List.take 2 (c :: 32 :: r)) ∈ lLONG from k5), if_neg (by rw [k6]; exact Bool.false_ne_true)]
/-- a type variable that is none -/
theorem ff_var {x : List Nat} (h : ∀ r, tailN (x ++ 32 :: r) ≠ 1 ∨ inS ((x ++ 32 :: r).headD 0) sLOWER = false) : FF (39 :: x) 0 true :=
  ff_here (by simp) fun r c' l e => by
    have e' : c' :: l = 39 :: (x ++ 32 :: r) := e.symm
    cases e'
    refine ⟨blanks_at (by decide) (by decide) (fun z => nomatch z), ?_⟩
    rw [tok1_eq, if_neg (by decide +kernel), if_neg (by decide +kernel), if_pos rfl]
    unfold tokV
    rw [if_pos]
    show (!decide (tailN (x ++ 32 :: r) = 1) || !inS ((x ++ 32 :: r).headD 0) sLOWER) = true
    rcases h r with h | h
    · rw [decide_eq_false h]; rfl
    · rw [h]; simp
/-- within a string -/
structure Inn (x : List Nat) : Prop where
  go : ∃ y, ∀ st acc r, strB st acc false (x ++ r) = strB st (acc ++ y) false r
theorem Inn.nil : Inn [] := ⟨[], fun _ _ _ => by rw [List.append_nil]; rfl⟩
theorem Inn.app {x y : List Nat} (a : Inn x) (b : Inn y) : Inn (x ++ y) := by
  obtain ⟨u, hu⟩ := a.go
  obtain ⟨v, hv⟩ := b.go
  exact ⟨u ++ v, fun st acc r => by rw [List.append_assoc, hu, hv, List.append_assoc]⟩
theorem Inn.one {c : Nat} (h1 : c ≠ 34) (h2 : c ≠ 10) (h3 : c ≠ 92) : Inn [c] := ⟨[c], fun st acc r => by
  show strB st acc false (c :: r) = _
  rw [strB_next, if_neg h1, if_neg h2, if_neg h3]⟩
theorem Inn.esc {c : Nat} (h : c = 110 ∨ c = 92 ∨ c = 34) : Inn [92, c] := by
  rcases h with rfl | rfl | rfl <;> exact ⟨_, fun st acc r => rfl⟩
theorem Inn.list {x : List Nat} (h : ∀ c ∈ x, c ≠ 34 ∧ c ≠ 10 ∧ c ≠ 92) : Inn x := by
  induction x with
  | nil => exact Inn.nil
  | cons c x ih =>
    obtain ⟨a, b, d⟩ := h c (List.mem_cons_self ..)
    exact (Inn.one a b d).app (ih fun y hy => h y (List.mem_cons_of_mem _ hy))
theorem tok1_str (l : List Nat) : tok1 (34 :: l) = match strB (34 :: l) [] false l with | .ok p => .ok ("string", p.1, p.2) | .error e => .error e := by
  rw [tok1_eq, if_neg (by decide +kernel), if_neg (by decide +kernel), if_neg (by decide), if_pos rfl]
  rfl
/-- a string without an end -/
theorem ff_open {x : List Nat} (h : Inn x) : FF (34 :: x) 0 false := by
  refine .inr ⟨rfl, 34 :: x, .inr ⟨34, x, rfl, blanks_at (by decide) (by decide) (fun z => by cases z), ?_⟩, rfl⟩
  obtain ⟨y, hy⟩ := h.go
  have := hy (34 :: x) [] []
  rw [List.append_nil] at this
  rw [tok1_str, this]
  rfl
/-- a newline in a string -/
theorem ff_line {x y : List Nat} (h : Inn x) : FF (34 :: (x ++ 10 :: y)) (1 + x.length) true := by
  refine .inl ⟨rfl, fun r => ⟨10 :: (y ++ 32 :: r), .inr ⟨34, x ++ 10 :: y ++ 32 :: r, rfl, blanks_at (by decide) (by decide) (fun z => by cases z), ?_⟩, by simp; omega⟩⟩
  obtain ⟨u, hu⟩ := h.go
  show tok1 (34 :: (x ++ 10 :: y ++ 32 :: r)) = _
  rw [tok1_str, List.append_assoc, hu]
  rfl
/-- a wrong escape -/
theorem ff_esc {x y : List Nat} {b : Nat} (h : Inn x) (hb : b ≠ 110 ∧ b ≠ 92 ∧ b ≠ 34) : FF (34 :: (x ++ 92 :: b :: y)) (1 + x.length) true := by
  refine .inl ⟨rfl, fun r => ⟨92 :: b :: (y ++ 32 :: r), .inr ⟨34, x ++ 92 :: b :: y ++ 32 :: r, rfl, blanks_at (by decide) (by decide) (fun z => by cases z), ?_⟩, by simp; omega⟩⟩
  obtain ⟨u, hu⟩ := h.go
  show tok1 (34 :: (x ++ 92 :: b :: y ++ 32 :: r)) = _
  rw [tok1_str, List.append_assoc, hu]
  have e : unesc (some b) = none := by
    unfold unesc
    rw [if_neg (by simpa using hb.1), if_neg (by simpa using hb.2.1), if_neg (by simpa using hb.2.2)]
  have e2 : ∀ st acc : List Nat, strB st acc false (92 :: b :: y ++ 32 :: r) = Except.error (92 :: b :: (y ++ 32 :: r)) := fun st acc => by
    show strB st acc false (92 :: (b :: (y ++ 32 :: r))) = _
    rw [strB_next, if_neg (by decide), if_neg (by decide), if_pos rfl]
    show (match unesc (some b) with | some x => strB st (acc ++ [x]) true (b :: (y ++ 32 :: r)) | none => Except.error (92 :: b :: (y ++ 32 :: r))) = _
    rw [e]
  rw [e2]
/-- a comment without an end -/
theorem ff_comm {x : List Nat} (h : comm 1 true (42 :: x) = none) : FF (40 :: 42 :: x) 0 false := by
  refine .inr ⟨rfl, 40 :: 42 :: x, .inl ?_, rfl⟩
  rw [blanks_next, if_neg (by decide), if_pos (by rfl), blanks_comm, h]
/-! ### draws within expressions -/
theorem atI_at {α : Type} {xs : List α} {i : Int} (h0 : 0 ≤ i) (h : i.toNat < xs.length) : atI xs i = some xs[i.toNat] := by
  obtain ⟨n, rfl⟩ : ∃ n : Nat, i = (n : Int) := ⟨i.toNat, by omega⟩
  exact atI_nat (j := n) (List.getElem?_eq_getElem h)
section
variable {K : PySem.W.Frag} {σ : L2.St} {H : Hp} {ta tb td tn te : TE} {x y v : V} {d : Addr} {n : Int} {E : XK} {D : Ends} {tz t1 : TS} {F B C : L2.St → Hp → Prop} {R : VK}
/-- a sign of a text, drawn -/
theorem valH_pickS {l : List Nat} (ha : Val ta σ H (.str (S l))) (hd : Val td σ H (.ref d)) (hn : Val tn σ H (.int n)) (SD : DSt K H d) (hl : (l.length : Int) = n) (h0 : 0 < n) (h1 : n < 4611686018427387904) (hz : l.length ≤ 50000) :
    ValH (tOp rIxS ta (tCall (spTake K) [] E (tCons td (tCons tn tNil)))) σ H (fun v H' => ∃ c ∈ l, v = .str (S [c]) ∧ But d H H' ∧ DSt K H' d) := fun Q q =>
  ha _ (valH_take hd hn SD h0 h1 _ fun v H' ⟨i, e, i0, i1, b, S1⟩ => by
    subst e
    have hi : i.toNat < l.length := by omega
    have hg : l[i.toNat]? = some l[i.toNat] := List.getElem?_eq_getElem hi
    refine ⟨S l, i, l[i.toNat], rfl, rfl, size_line (by rw [S_len]; omega), ?_, q _ _ ⟨_, List.getElem_mem hi, rfl, b, S1⟩⟩
    exact atI_at i0 hi)
/-- .. put behind a text -/
theorem valH_addS {PV : V → Hp → Prop} {a : Str} (ha : Val ta σ H (.str a)) (hb : ValH tb σ H PV) (hv : ∀ v H', PV v H' → ∃ b : Str, v = .str b ∧ a.length + b.length ≤ sizeLine) :
    ValH (tOp (fun x y H Q => ∃ i j, x = .str i ∧ y = .str j ∧ i.length + j.length ≤ sizeLine ∧ Q (.str (i ++ j)) H) ta tb) σ H (fun v H' => ∃ b, PV (.str b) H' ∧ v = .str (a ++ b)) := fun Q q =>
  ha _ (hb _ fun v H' p => by
    obtain ⟨b, rfl, hl⟩ := hv v H' p
    exact ⟨a, b, rfl, rfl, hl, q _ _ ⟨b, p, rfl⟩⟩)
/-- an item of a written list of texts, drawn -/
def ValA (ta : TA) (σ : L2.St) (vs : List V) : Prop := ∀ (H : Hp) (Q : List V → Hp → Prop), Q vs H → ta σ H Q
theorem va_nil : ValA tNil σ [] := fun _ _ q => q
theorem va_c {tr : TA} {vs : List V} (h : ValA tr σ vs) : ValA (tCons (tC v) tr) σ (v :: vs) := fun H _ q => h H _ q
theorem va_v {tr : TA} {vs : List V} {i : Nat} (e : σ[i]? = some (some v)) (h : ValA tr σ vs) : ValA (tCons (tVar i) tr) σ (v :: vs) := fun H _ q => ⟨v, e, h H _ q⟩
theorem valH_pickL {ta : TA} {vs : List V} (ha : ValA ta σ vs) (hd : ∀ H, Val td σ H (.ref d)) (hn : ∀ H, Val tn σ H (.int n)) (SD : DSt K H d) (hl : (vs.length : Int) = n) (h0 : 0 < n) (h1 : n < 1000) :
    ValH (tOp (rIxL K) (tLst ta) (tCall (spTake K) [] E (tCons td (tCons tn tNil)))) σ H (fun v H' => v ∈ vs ∧ But d H H' ∧ DSt K H' d) := fun Q q =>
  ha H _ ⟨size_line (by omega), fun p hp => valH_take (hd _) (hn _) (SD.ex (Ex.new hp)) h0 (by omega) _ fun v H' ⟨i, e, i0, i1, b, S1⟩ => by
    subst e
    have hi : i.toNat < vs.length := by omega
    have hg : vs[i.toNat]? = some vs[i.toNat] := List.getElem?_eq_getElem hi
    obtain ⟨c, ns, i2, r, k, hd2, _⟩ := SD
    have npd : p ≠ d := (ne_of_none hd2 hp).symm
    refine ⟨p, vs, i, vs[i.toNat], rfl, rfl, SqL.of (b _ _ npd upd_same), ?_, q _ _ ⟨List.getElem_mem hi, (But.of (Ex.new hp)).trans b, S1⟩⟩
    exact atI_at i0 hi⟩
/-- an item of a list that stands, drawn -/
theorem valH_pickV {a : Addr} {vs : List V} (ha : Val ta σ H (.ref a)) (hL : H a = some (.lst vs)) (nad : a ≠ d) (hd : Val td σ H (.ref d)) (hn : Val tn σ H (.int n)) (SD : DSt K H d) (hl : (vs.length : Int) = n) (h0 : 0 < n) (h1 : n < 4611686018427387904) :
    ValH (tOp (rIxL K) ta (tCall (spTake K) [] E (tCons td (tCons tn tNil)))) σ H (fun v H' => v ∈ vs ∧ But d H H' ∧ DSt K H' d) := fun Q q =>
  ha _ (valH_take hd hn SD h0 h1 _ fun v H' ⟨i, e, i0, i1, b, S1⟩ => by
    subst e
    have hi : i.toNat < vs.length := by omega
    have hg : vs[i.toNat]? = some vs[i.toNat] := List.getElem?_eq_getElem hi
    refine ⟨a, vs, i, vs[i.toNat], rfl, rfl, SqL.of (b _ _ nad hL), ?_, q _ _ ⟨List.getElem_mem hi, b, S1⟩⟩
    exact atI_at i0 hi)
theorem digit_str (i : Int) (h0 : 0 ≤ i) (h1 : i < 10) : ∃ c, (Str.ofString (toString i)) = S [c] ∧ inS c sDIGITS = true ∧ (c = 48 ↔ i = 0) := by
  have h : i = 0 ∨ i = 1 ∨ i = 2 ∨ i = 3 ∨ i = 4 ∨ i = 5 ∨ i = 6 ∨ i = 7 ∨ i = 8 ∨ i = 9 := by omega
  rcases h with rfl | rfl | rfl | rfl | rfl | rfl | rfl | rfl | rfl | rfl
  · exact ⟨48, by decide +kernel, by decide +kernel, by decide⟩
  · exact ⟨49, by decide +kernel, by decide +kernel, by decide⟩
  · exact ⟨50, by decide +kernel, by decide +kernel, by decide⟩
  · exact ⟨51, by decide +kernel, by decide +kernel, by decide⟩
  · exact ⟨52, by decide +kernel, by decide +kernel, by decide⟩
  · exact ⟨53, by decide +kernel, by decide +kernel, by decide⟩
  · exact ⟨54, by decide +kernel, by decide +kernel, by decide⟩
  · exact ⟨55, by decide +kernel, by decide +kernel, by decide⟩
  · exact ⟨56, by decide +kernel, by decide +kernel, by decide⟩
  · exact ⟨57, by decide +kernel, by decide +kernel, by decide⟩
theorem log_small {i : Int} (h0 : 0 ≤ i) (h1 : i < 100000) : i.natAbs.log2 < 1920 := by
  have h : i.natAbs < 2 ^ 17 := by omega
  have := (Nat.log2_lt (n := i.natAbs) (k := 17))
  by_cases hz : i.natAbs = 0
  · rw [hz]
    decide
  · have := (Nat.log2_lt hz).mpr h
    omega
/-- str of a drawn digit -/
theorem valH_strD (hd : Val td σ H (.ref d)) (hn : Val tn σ H (.int 10)) (SD : DSt K H d) :
    ValH (tCB (fun xs H Q => ∃ i, xs = [.int i] ∧ i.natAbs.log2 < 1920 ∧ Q (.str (toString i)) H) (tCons (tCall (spTake K) [] E (tCons td (tCons tn tNil))) tNil)) σ H (fun v H' => ∃ c, v = .str (S [c]) ∧ inS c sDIGITS = true ∧ But d H H' ∧ DSt K H' d) := fun Q q =>
  valH_take hd hn SD (by decide) (by decide) _ fun v H' ⟨i, e, i0, i1, b, S1⟩ => by
    subst e
    obtain ⟨c, hc, h2, _⟩ := digit_str i i0 i1
    exact ⟨i, rfl, log_small i0 (by omega), q _ _ ⟨c, by rw [← hc], h2, b, S1⟩⟩
/-- for k in range(n) -/
theorem n_forR {j : Nat} (h : Val te σ H (.int n)) (h0 : 0 ≤ n) (h1 : n ≤ 100000) (Pv : Nat → L2.St → Hp → Prop) (hs0 : Pv 0 σ H) (hs : ∀ (i : Nat) σ' H', (i : Int) < n → Pv i σ' H' → t1 ⟨Pv (i + 1), D.rt, tz D, Pv (i + 1)⟩ (σ'.set j (some (.int (i : Int)))) H')
    (hd : ∀ σ' H', Pv n.toNat σ' H' → tz D σ' H') : tSeq (tFor (iRng1 (tCons te tNil)) (gName j) t1) tz D σ H :=
  h _ ⟨n, rfl, by omega, by omega, for_range (lo := 0) (n := n.toNat) Pv hs0 (fun i σ' H' hi p => by
    have e0 : (0 : Int) + (i : Int) = (i : Int) := Int.zero_add _
    show t1 _ (σ'.set j (some (.int ((0 : Int) + (i : Int))))) H'
    rw [e0]
    exact hs i σ' H' (by omega) p) hd⟩
theorem n_forRH {j : Nat} {PV : V → Hp → Prop} (h : ValH te σ H PV) (k : ∀ v H1, PV v H1 → ∃ n : Int, v = .int n ∧ 0 ≤ n ∧ n ≤ 100000 ∧ ∃ Pv : Nat → L2.St → Hp → Prop, Pv 0 σ H1 ∧ (∀ (i : Nat) σ' H', (i : Int) < n → Pv i σ' H' → t1 ⟨Pv (i + 1), D.rt, tz D, Pv (i + 1)⟩ (σ'.set j (some (.int (i : Int)))) H') ∧ ∀ σ' H', Pv n.toNat σ' H' → tz D σ' H') : tSeq (tFor (iRng1 (tCons te tNil)) (gName j) t1) tz D σ H :=
  h _ fun v H1 p => by
    obtain ⟨n, rfl, h0, h1, Pv, hs0, hs, hd⟩ := k v H1 p
    refine ⟨n, rfl, by omega, by omega, for_range (lo := 0) (n := n.toNat) Pv hs0 (fun i σ' H' hi p => ?_) hd⟩
    have e0 : (0 : Int) + (i : Int) = (i : Int) := Int.zero_add _
    show t1 _ (σ'.set j (some (.int ((0 : Int) + (i : Int))))) H'
    rw [e0]
    exact hs i σ' H' (by omega) p
theorem n_whenH {b : Bool} {t : TT} {PH : Bool → Hp → Prop} (h : ∀ Q : Bool → Hp → Prop, (∀ b H', PH b H' → Q b H') → t σ H Q) (h1 : ∀ H', PH true H' → t1 { D with nx := tz D } σ H') (h2 : ∀ H', PH false H' → tz D σ H') : tSeq (tIfS t t1 tNext) tz D σ H := h _ fun b H' p => by
  cases b with
  | true => exact h1 H' p
  | false => exact h2 H' p
end
def lTOK : List Str := ["x", "val", "F", "0", "12", "(", ")", "=>", "*", "a'b", "_", ":>", "'t", "~", "::", "\"s\"", "fun", "900"]
def lGAP3 : List Str := [" ", "\n", " (* c *) "]
theorem strs_of {x : List Nat} {y : Str} {l : List Nat} (a : S x = y) (b : y = S l) : x = l := S_inj (a.trans b)
theorem tok_all {x : List Nat} (h : S x ∈ lTOK) : (∃ kd tx, TokSrc kd tx x) ∧ x.length ≤ 3 := by
  have idl : ∀ {x : List Nat}, Ident sLOWER.cps.toList x → x.length ≤ 3 → (∃ kd tx, TokSrc kd tx x) ∧ x.length ≤ 3 := fun h l => ⟨⟨_, _, .low h⟩, l⟩
  have sg : ∀ {x : List Nat}, S x ∈ lSIGNS → x.length ≤ 3 → (∃ kd tx, TokSrc kd tx x) ∧ x.length ≤ 3 := fun h l => ⟨⟨_, _, .sign h⟩, l⟩
  have wd : ∀ {x : List Nat}, S x ∈ lWORDS → x.length ≤ 3 → (∃ kd tx, TokSrc kd tx x) ∧ x.length ≤ 3 := fun h l => ⟨⟨_, _, .word h⟩, l⟩
  have dg : ∀ {x : List Nat}, Digs x → x.length ≤ 3 → (∃ kd tx, TokSrc kd tx x) ∧ x.length ≤ 3 := fun h l => ⟨⟨_, _, .int h⟩, l⟩
  unfold lTOK at h
  simp only [List.mem_cons, List.mem_nil_iff, or_false] at h
  rcases h with h | h | h | h | h | h | h | h | h | h | h | h | h | h | h | h | h | h
  · rw [strs_of (l := [120]) h (by decide +kernel)]
    exact idl ⟨⟨120, [], rfl, by decide +kernel, by decide +kernel⟩, by decide, by decide +kernel⟩ (by decide)
  · rw [strs_of (l := [118, 97, 108]) h (by decide +kernel)]
    exact wd (by decide +kernel) (by decide)
  · rw [strs_of (l := [70]) h (by decide +kernel)]
    exact ⟨⟨_, _, .high ⟨⟨70, [], rfl, by decide +kernel, by decide +kernel⟩, by decide, by decide +kernel⟩⟩, by decide⟩
  · rw [strs_of (l := [48]) h (by decide +kernel)]
    exact dg ⟨⟨48, [], rfl, (fun _ => rfl), by decide +kernel⟩, by decide⟩ (by decide)
  · rw [strs_of (l := [49, 50]) h (by decide +kernel)]
    exact dg ⟨⟨49, [50], rfl, (fun z => nomatch z), by decide +kernel⟩, by decide⟩ (by decide)
  · rw [strs_of (l := [40]) h (by decide +kernel)]
    exact sg (by decide +kernel) (by decide)
  · rw [strs_of (l := [41]) h (by decide +kernel)]
    exact sg (by decide +kernel) (by decide)
  · rw [strs_of (l := [61, 62]) h (by decide +kernel)]
    exact sg (by decide +kernel) (by decide)
  · rw [strs_of (l := [42]) h (by decide +kernel)]
    exact sg (by decide +kernel) (by decide)
  · rw [strs_of (l := [97, 39, 98]) h (by decide +kernel)]
    exact idl ⟨⟨97, [39, 98], rfl, by decide +kernel, by decide +kernel⟩, by decide, by decide +kernel⟩ (by decide)
  · rw [strs_of (l := [95]) h (by decide +kernel)]
    exact sg (by decide +kernel) (by decide)
  · rw [strs_of (l := [58, 62]) h (by decide +kernel)]
    exact sg (by decide +kernel) (by decide)
  · rw [strs_of (l := [39, 116]) h (by decide +kernel)]
    exact ⟨⟨_, _, .var (c := 116) (by decide +kernel)⟩, by decide⟩
  · rw [strs_of (l := [126]) h (by decide +kernel)]
    exact sg (by decide +kernel) (by decide)
  · rw [strs_of (l := [58, 58]) h (by decide +kernel)]
    exact sg (by decide +kernel) (by decide)
  · rw [strs_of (l := [34, 115, 34]) h (by decide +kernel)]
    exact ⟨⟨_, _, TokSrc.string (x := [115]) (by decide)⟩, by decide⟩
  · rw [strs_of (l := [102, 117, 110]) h (by decide +kernel)]
    exact wd (by decide +kernel) (by decide)
  · rw [strs_of (l := [57, 48, 48]) h (by decide +kernel)]
    exact dg ⟨⟨57, [48, 48], rfl, (fun z => nomatch z), by decide +kernel⟩, by decide⟩ (by decide)
theorem gap3_all {x : List Nat} (h : S x ∈ lGAP3) : Gap x ∧ x.length ≤ 9 := by
  unfold lGAP3 at h
  simp only [List.mem_cons, List.mem_nil_iff, or_false] at h
  rcases h with h | h | h
  · rw [strs_of (l := [32]) h (by decide +kernel)]
    exact ⟨gap_one (.inl rfl), by decide⟩
  · rw [strs_of (l := [10]) h (by decide +kernel)]
    exact ⟨gap_one (.inr rfl), by decide⟩
  · rw [strs_of (l := [32] ++ ((40 :: 42 :: [32, 99, 32, 42, 41]) ++ [32])) h (by decide +kernel)]
    exact ⟨(gap_one (.inl rfl)).app ((Cmt.gap ⟨⟨_, rfl, fun d r => rfl⟩⟩).app (gap_one (.inl rfl))), by decide⟩
theorem strs_mem {z : V} {l : List Str} (h : z ∈ l.map V.str) : ∃ x : List Nat, z = .str (S x) ∧ S x ∈ l := by
  obtain ⟨y, hy, rfl⟩ := List.mem_map.mp h
  exact ⟨y.cps.toList, by rw [S_of], by rw [S_of]; exact hy⟩
section
variable {K : PySem.W.Frag} {σ : L2.St} {H : Hp} {ta tb te : TE} {D : Ends} {v : V}
theorem valH_add2 {PV PQ : V → Hp → Prop} (ha : ValH ta σ H PV) (k : ∀ v H1, PV v H1 → ∃ a, v = .str a ∧ ValH tb σ H1 (fun w H2 => ∃ b, w = .str b ∧ a.length + b.length ≤ sizeLine ∧ PQ (.str (a ++ b)) H2)) :
    ValH (tOp (fun x y H Q => ∃ i j, x = .str i ∧ y = .str j ∧ i.length + j.length ≤ sizeLine ∧ Q (.str (i ++ j)) H) ta tb) σ H PQ := fun Q q =>
  ha _ fun v H1 p => by
    obtain ⟨a, rfl, hb⟩ := k v H1 p
    exact hb _ fun w H2 ⟨b, e, hl, pq⟩ => by
      subst e
      exact ⟨a, b, rfl, rfl, hl, q _ _ pq⟩
theorem ValH.mono {PV PW : V → Hp → Prop} (h : ValH te σ H PV) (k : ∀ v H', PV v H' → PW v H') : ValH te σ H PW := fun Q q => h Q fun v H' p => q v H' (k v H' p)
theorem ValH.of {PV : V → Hp → Prop} (h : Val te σ H v) (p : PV v H) : ValH te σ H PV := fun Q q => h Q (q _ _ p)
theorem lit_S {z : Str} {l : List Nat} (h : z = S l) : Val (tC (.str z)) σ H (.str (S l)) := Val.is val_c (by rw [h])
end
abbrev s_good : Stmt := top 30
theorem sc_good : FnScope ["d", "tokens", "text", "k"] ["d"] (defScope s_good) := ⟨rfl, rfl, rfl, by decide +kernel, rfl, by decide +kernel, by decide +kernel⟩
def IsGood (x : List Nat) : Prop := ∃ ps, GoodP ps ∧ x = gtext ps [] ∧ x.length ≤ 200
def RetS (K : PySem.W.Frag) (d : Addr) (H : Hp) (Q : VK) (P : List Nat → Prop) : Prop := ∀ (x : List Nat) (H' : Hp), P x → But d H H' → DSt K H' d → Q (.str (S x)) H'
def spGood (K : PySem.W.Frag) : Sp := fun vs H Q _ => ∃ d : Addr, vs = [.ref d] ∧ DSt K H d ∧ RetS K d H Q IsGood
abbrev s_letters : Stmt := top 31
theorem sc_letters : FnScope ["d", "many", "text", "k"] ["d", "many"] (defScope s_letters) := ⟨rfl, rfl, rfl, by decide +kernel, rfl, by decide +kernel, by decide +kernel⟩
def spLetters (K : PySem.W.Frag) : Sp := fun vs H Q _ => ∃ (d : Addr) (m : Nat), vs = [.ref d, .int (m : Int)] ∧ DSt K H d ∧ m ≤ 100 ∧ RetS K d H Q (fun x => x.length = m ∧ ∀ c ∈ x, inS c sTAIL = true)
section
variable {P : Program} {w : World} {K : PySem.W.Frag} {mg : Str → Option Value} {base : Heap}
theorem can_letters (D : At K mg "_law_letters" s_letters ["d", "many"]) (T : Bo w K mg) (C__law_take : Can P w K mg base CX0 2 "_law_take" ["d", "many"] (spTake K)) : Can P w K mg base CX0 3 "_law_letters" ["d", "many"] (spLetters K) := by
  have sc := sc_letters
  refine D.can sc (fun vs H Q E h => ?_) (fun f cdv A outer s H vs Q E hr h => ?_)
  · obtain ⟨d, m, rfl, _⟩ := h
    rfl
  · obtain ⟨d, m, rfl, SD, hm, q⟩ := h
    refine ⟨_, (pss_cons (ps_set (i := 2) sc.nd rfl (.inl rfl) pe_str)
    (pss_cons (ps_for PassesOwn.never rfl (pi_range1 rfl T.n_range (pa_cons (pv 1) pa_nil)) (pg_name (i := 3) sc.nd rfl (.inl rfl)) (pss_one (ps_set (i := 2) sc.nd rfl (.inl rfl) (pe_op op_add_str (pv 2) (pe_ix ix_str pe_str (pe_can C__law_take (hr.mono (by omega)) rfl pass0 (pa_cons (pv 0) (pa_cons pe_int pa_nil))) (fun _ _ => rfl))))))
    (pss_one (ps_ret (pv 2))))), ?_⟩
    refine n_set (v := .str (S [])) (lit_S (by decide +kernel)) ?_
    refine n_forR (n := (m : Int)) (val_var rfl) (by omega) (by omega) (fun i σ' H' => ∃ (x : List Nat) (y3 : Option V), σ' = [some (.ref d), some (.int (m : Int)), some (.str (S x)), y3] ∧ x.length = i ∧ (∀ c ∈ x, inS c sTAIL = true) ∧ But d H H' ∧ DSt K H' d) ⟨[], none, rfl, rfl, (fun _ h => nomatch h), .refl, SD⟩ ?_ ?_
    · rintro i σ' H' hi ⟨x, y3, rfl, hx, hxt, b, s⟩
      refine e_setH (valH_addS (val_var rfl) (valH_pickS (l := sTAIL.cps.toList) (lit_S (S_of sTAIL).symm) (val_var rfl) val_c s (by decide +kernel) (by decide) (by decide) (by decide +kernel)) fun v H2 ⟨c, _, e, _⟩ => ⟨_, e, size_line (by rw [S_len, S_len]; show x.length + 1 ≤ 100000; omega)⟩) ?_
      rintro v H2 ⟨_, ⟨c, hc, e, b2, s2⟩, rfl⟩
      cases e
      refine ⟨x ++ [c], _, by rw [S_app]; rfl, by rw [List.length_append, hx]; rfl, fun y hy => ?_, b.trans b2, s2⟩
      rcases List.mem_append.mp hy with hy | hy
      · exact hxt y hy
      · rw [List.mem_singleton.mp hy]
        exact decide_eq_true hc
    · rintro σ' H' ⟨x, y3, rfl, hx, hxt, b, s⟩
      exact e_ret (val_var rfl) (q x H' ⟨by omega, hxt⟩ b s)
theorem can_good (D : At K mg "_law_good" s_good ["d"]) (T : Bo w K mg) (C__law_take : Can P w K mg base CX0 2 "_law_take" ["d", "many"] (spTake K)) : Can P w K mg base CX0 3 "_law_good" ["d"] (spGood K) := by
  have sc := sc_good
  refine D.can sc (fun vs H Q E h => ?_) (fun f cdv A outer s H vs Q E hr h => ?_)
  · obtain ⟨d, rfl, _⟩ := h
    rfl
  · obtain ⟨d, rfl, SD, q⟩ := h
    refine ⟨_, (pss_cons (ps_set (i := 1) sc.nd rfl (.inl rfl) (pe_lst (pa_cons pe_str (pa_cons pe_str (pa_cons pe_str (pa_cons pe_str (pa_cons pe_str (pa_cons pe_str (pa_cons pe_str (pa_cons pe_str (pa_cons pe_str (pa_cons pe_str (pa_cons pe_str (pa_cons pe_str (pa_cons pe_str (pa_cons pe_str (pa_cons pe_str (pa_cons pe_str (pa_cons pe_str (pa_cons pe_str pa_nil))))))))))))))))))))
    (pss_cons (ps_set (i := 2) sc.nd rfl (.inl rfl) pe_str)
    (pss_cons (ps_for PassesOwn.never rfl (pi_range1 rfl T.n_range (pa_cons (pe_can C__law_take (hr.mono (by omega)) rfl pass0 (pa_cons (pv 0) (pa_cons pe_int pa_nil))) pa_nil)) (pg_name (i := 3) sc.nd rfl (.inl rfl)) (pss_one (ps_set (i := 2) sc.nd rfl (.inl rfl) (pe_op op_add_str (pe_op op_add_str (pv 2) (pe_ix ix_list (pv 1) (pe_can C__law_take (hr.mono (by omega)) rfl pass0 (pa_cons (pv 0) (pa_cons pe_int pa_nil))) (fun _ _ => rfl))) (pe_ix ix_list (pe_lst (pa_cons pe_str (pa_cons pe_str (pa_cons pe_str pa_nil)))) (pe_can C__law_take (hr.mono (by omega)) rfl pass0 (pa_cons (pv 0) (pa_cons pe_int pa_nil))) (fun _ _ => rfl))))))
    (pss_one (ps_ret (pv 2)))))), ?_⟩
    refine ⟨by show 18 ≤ sizeLine; decide, fun p hp => ?_⟩
    have hpl : upd H p (.lst (lTOK.map V.str)) p = some (.lst (lTOK.map V.str)) := upd_same
    have SD0 : DSt K (upd H p (.lst (lTOK.map V.str))) d := SD.ex (Ex.new hp)
    have npd : p ≠ d := by
      obtain ⟨c, ns, i, r, k, hd, _⟩ := SD
      exact (ne_of_none hd hp).symm
    have b0 : But d H (upd H p (.lst (lTOK.map V.str))) := But.of (Ex.new hp)
    show tSeq _ _ _ _ (upd H p (.lst (lTOK.map V.str)))
    generalize upd H p (.lst (lTOK.map V.str)) = H1 at *
    refine n_set (v := .str (S [])) (lit_S (by decide +kernel)) ?_
    refine n_forRH (valH_take (val_var rfl) val_c SD0 (by decide) (by decide)) ?_
    rintro v H2 ⟨m, rfl, m0, m1, b1, SD1⟩
    refine ⟨m, rfl, m0, by omega, fun i σ' H' => ∃ (ps : List Gp) (y3 : Option V), σ' = [some (.ref d), some (.ref p), some (.str (S (gtext ps []))), y3] ∧ GoodP ps ∧ (gtext ps []).length ≤ i * 12 ∧ H' p = some (.lst (lTOK.map V.str)) ∧ But d H H' ∧ DSt K H' d,
      ⟨[], none, rfl, (fun _ h => nomatch h), Nat.zero_le _, b1 _ _ npd hpl, b0.trans b1, SD1⟩, ?_, ?_⟩
    · rintro i σ' H3 hi ⟨ps, y3, rfl, hps, hlen, hp3, b3, SD3⟩
      have hl60 : (gtext ps []).length ≤ 60 := Nat.le_trans hlen (by omega)
      refine e_setH (PV := fun v H' => ∃ x g : List Nat, v = .str (S (gtext ps [] ++ x ++ g)) ∧ S x ∈ lTOK ∧ S g ∈ lGAP3 ∧ But d H3 H' ∧ DSt K H' d) (valH_add2 (valH_addS (val_var rfl) (valH_pickV (val_var rfl) hp3 npd (val_var rfl) val_c SD3 rfl (by decide) (by decide)) fun v H' ⟨hv, _⟩ => ?_) ?_) ?_
      · obtain ⟨x, rfl, hx⟩ := strs_mem hv
        have := (tok_all hx).2
        exact ⟨_, rfl, size_line (by rw [S_len, S_len]; omega)⟩
      · rintro v H4 ⟨b, ⟨hb, b4, SD4⟩, rfl⟩
        obtain ⟨x, hx0, hx⟩ := strs_mem hb
        cases hx0
        have hx3 := (tok_all hx).2
        refine ⟨_, rfl, ValH.mono (valH_pickL (vs := lGAP3.map V.str) (va_c (va_c (va_c va_nil))) (fun _ => val_var rfl) (fun _ => val_c) SD4 rfl (by decide) (by decide)) fun w H5 ⟨hw, b5, SD5⟩ => ?_⟩
        obtain ⟨g, rfl, hg⟩ := strs_mem hw
        have hg9 := (gap3_all hg).2
        exact ⟨_, rfl, size_line (by rw [S_app, S_len, S_len, List.length_append]; omega), x, g, by rw [S_app, S_app], hx, hg, b4.trans b5, SD5⟩
      · rintro v H4 ⟨x, g, rfl, hx, hg, b4, SD4⟩
        obtain ⟨⟨kd, tx, ht⟩, hx3⟩ := tok_all hx
        obtain ⟨hgg, hg9⟩ := gap3_all hg
        have e : gtext ps [] ++ x ++ g = gtext (ps ++ [((kd, tx, x, g) : Gp)]) [] := by
          rw [gtext_snoc]
          show _ = gtext ps (x ++ (g ++ []))
          rw [gtext_app (x ++ (g ++ []))]
          simp
        refine ⟨ps ++ [(kd, tx, x, g)], _, by rw [← e]; rfl, fun p' hp' => ?_, ?_, b4 _ _ npd hp3, b3.trans b4, SD4⟩
        · rcases List.mem_append.mp hp' with h | h
          · exact hps _ h
          · rw [List.mem_singleton.mp h]
            exact ⟨ht, hgg⟩
        · rw [← e, List.length_append, List.length_append, Nat.succ_mul]
          omega
    · rintro σ' H3 ⟨ps, y3, rfl, hps, hlen, _, b3, SD3⟩
      exact e_ret (val_var rfl) (q _ H3 ⟨ps, hps, rfl, by omega⟩ b3 SD3)
end
theorem nat_str (n : Nat) : ∃ ds : List Nat, Str.ofString (toString (n : Int)) = S ds ∧ (∀ c ∈ ds, inS c sDIGITS = true) ∧ ds ≠ [] ∧ (∀ k, 0 < k → 10 ^ k ≤ n → k < ds.length) ∧ (∀ k, 0 < k → n < 10 ^ k → ds.length ≤ k) := by
  refine ⟨(Nat.toDigits 10 n).map (·.val.toNat), ?_, fun c hc => ?_, ?_, fun k hk h => ?_, fun k hk h => ?_⟩
  · show Str.ofString (Nat.repr n) = _
    rw [Str.ofString_eq_toList]
    unfold Nat.repr
    rw [String.toList_ofList]
    rfl
  · obtain ⟨ch, hch, rfl⟩ := List.mem_map.mp hc
    have := Nat.isDigit_of_mem_toDigits (by decide) (by decide) hch
    have h2 : 48 ≤ ch.val.toNat ∧ ch.val.toNat ≤ 57 := by
      unfold Char.isDigit at this
      simp only [Bool.and_eq_true, decide_eq_true_eq] at this
      exact ⟨this.1, this.2⟩
    have h3 : ∀ m, m < 58 → 48 ≤ m → inS m sDIGITS = true := by decide +kernel
    exact h3 _ (by omega) h2.1
  · intro z
    have := congrArg List.length z
    rw [List.length_map] at this
    have h2 := Nat.length_toDigits_pos (b := 10) (n := n)
    rw [this] at h2
    exact absurd h2 (by decide)
  · rw [List.length_map]
    exact Nat.lt_of_not_le fun z => absurd ((Nat.length_toDigits_le_iff (b := 10) (n := n) (k := k) (by decide) hk).mp z) (Nat.not_lt.mpr h)
  · rw [List.length_map]
    exact (Nat.length_toDigits_le_iff (b := 10) (n := n) (k := k) (by decide) hk).mpr h
theorem upper_low : ∀ c ∈ sLOWER.cps.toList, Txt.upper (S [c]) = S [c - 32] ∧ inS (c - 32) sLETTERS = true ∧ (c - 32) ≠ 110 ∧ (c - 32) ≠ 92 ∧ (c - 32) ≠ 34 := by decide +kernel
theorem low_facts : ∀ c ∈ sLOWER.cps.toList, inS c sLETTERS = true ∧ inS c sTAIL = true ∧ inS c sDIGITS = false ∧ c ≠ 34 ∧ c ≠ 10 ∧ c ≠ 92 := by decide +kernel
theorem dig_facts : ∀ c ∈ sDIGITS.cps.toList, inS c sTAIL = true ∧ inS c sLOWER = false ∧ c ≠ 34 ∧ c ≠ 10 ∧ c ≠ 92 ∧ c ≠ 110 := by decide +kernel
abbrev s_fault : Stmt := top 32
theorem sc_fault : FnScope ["d", "kind", "low", "digit", "rest", "inner", "bad"] ["d"] (defScope s_fault) := ⟨rfl, rfl, rfl, by decide +kernel, rfl, by decide +kernel, by decide +kernel⟩
def RetF (K : PySem.W.Frag) (d : Addr) (H : Hp) (Q : VK) : Prop := ∀ (f : List Nat) (off : Nat) (b : Bool) (p : Addr) (H' : Hp), FF f off b → f.length ≤ 100 → But d H H' → DSt K H' d → H' p = some (.lst [.str (S f), .int (off : Int), .bl b]) → Q (.ref p) H'
def spFault (K : PySem.W.Frag) : Sp := fun vs H Q _ => ∃ d : Addr, vs = [.ref d] ∧ DSt K H d ∧ RetF K d H Q
section
variable {K : PySem.W.Frag} {σ : L2.St} {H H0 : Hp} {ta tb te td tn tx : TE} {D : Ends} {v : V} {d : Addr} {n : Int} {E : XK} {off : Nat} {b : Bool} {Q : VK}
/-- a text as wished, d drawn on -/
abbrev PF (K : PySem.W.Frag) (d : Addr) (H0 : Hp) (off : Nat) (b : Bool) : V → Hp → Prop := fun v H' => ∃ f, v = .str (S f) ∧ FF f off b ∧ f.length ≤ 100 ∧ But d H0 H' ∧ DSt K H' d
theorem ret_F (q : RetF K d H0 D.rt) (ha : ValH ta σ H (PF K d H0 off b)) (hb : ∀ H', Val tb σ H' (.int (off : Int))) : tRet (tLst (tCons ta (tCons tb (tCons (tC (.bl b)) tNil)))) D σ H :=
  ha _ fun v H' ⟨f, e, hf, hl, hb', hs⟩ => by
    subst e
    exact hb _ _ ⟨by show 3 ≤ sizeLine; decide, fun p hp => q f off b p _ hf hl (hb'.trans (But.of (Ex.new hp))) (hs.ex (Ex.new hp)) upd_same⟩
/-- str(i), i = a number and a draw -/
theorem valH_strN {tk : TE} {PV : V → Hp → Prop} (h : ValH tk σ H PV) (k : ∀ v H', PV v H' → ∃ m : Nat, v = .int (m : Int) ∧ m < 4611686018427387904) :
    ValH (tCB (fun xs H Q => ∃ i, xs = [.int i] ∧ i.natAbs.log2 < 1920 ∧ Q (.str (toString i)) H) (tCons tk tNil)) σ H (fun v H' => ∃ (m : Nat) (ds : List Nat), PV (.int (m : Int)) H' ∧ v = .str (S ds) ∧ (∀ c ∈ ds, inS c sDIGITS = true) ∧ ds ≠ [] ∧ (∀ k, 0 < k → 10 ^ k ≤ m → k < ds.length) ∧ (∀ k, 0 < k → m < 10 ^ k → ds.length ≤ k)) := fun Q q =>
  h _ fun v H' p => by
    obtain ⟨m, rfl, hm⟩ := k v H' p
    obtain ⟨ds, e, h1, h2, h3, h4⟩ := nat_str m
    refine ⟨(m : Int), rfl, ?_, q _ _ ⟨m, ds, p, by rw [← e], h1, h2, h3, h4⟩⟩
    by_cases hz : (m : Int).natAbs = 0
    · rw [hz]
      decide
    · have := (Nat.log2_lt (n := (m : Int).natAbs) (k := 62) hz).mpr (by omega)
      omega
end
local macro_rules | `(tactic| walk_at "no") => `(tactic| (refine n_when (b := false) (Ans.to (ans_t (val_eq (val_var rfl) val_c rfl)) (by decide +kernel)) (fun h => Bool.noConfusion h) (fun _ => ?_)))
local macro_rules | `(tactic| walk_at "yes") => `(tactic| (refine n_when (b := true) (Ans.to (ans_t (val_eq (val_var rfl) val_c rfl)) (by decide +kernel)) (fun _ => ?_) (fun h => Bool.noConfusion h)))
theorem va_x {σ : L2.St} {te : TE} {tr : TA} {v : V} {vs : List V} (a : ∀ H, Val te σ H v) (h : ValA tr σ vs) : ValA (tCons te tr) σ (v :: vs) := fun H Q q => a H _ (h H _ q)
theorem val_cat1 {σ : L2.St} {H : Hp} {ta tb : TE} {a b : List Nat} (ha : Val ta σ H (.str (S a))) (hb : Val tb σ H (.str (S b))) (h : a.length + b.length ≤ 50000) : Val (tOp (fun x y H Q => ∃ i j, x = .str i ∧ y = .str j ∧ i.length + j.length ≤ sizeLine ∧ Q (.str (i ++ j)) H) ta tb) σ H (.str (S (a ++ b))) :=
  Val.is (val_addS ha hb (size_line (by rw [S_len, S_len]; omega))) (by rw [S_app])
/-- a const in front -/
theorem valH_pre {σ : L2.St} {H : Hp} {ta tb : TE} {PV PQ : V → Hp → Prop} {a : List Nat} (ha : Val ta σ H (.str (S a))) (hb : ValH tb σ H PV) (k : ∀ v H', PV v H' → ∃ b : List Nat, v = .str (S b) ∧ a.length + b.length ≤ 50000 ∧ PQ (.str (S (a ++ b))) H') :
    ValH (tOp (fun x y H Q => ∃ i j, x = .str i ∧ y = .str j ∧ i.length + j.length ≤ sizeLine ∧ Q (.str (i ++ j)) H) ta tb) σ H PQ := fun Q q =>
  ha _ (hb _ fun v H' p => by
    obtain ⟨b, rfl, hl, pq⟩ := k v H' p
    exact ⟨S a, S b, rfl, rfl, size_line (by rw [S_len, S_len]; omega), by rw [S_app]; exact q _ _ pq⟩)
section
variable {K : PySem.W.Frag} {σ : L2.St} {H H0 : Hp} {ta tb te td tm : TE} {D : Ends} {tz : TS} {v : V} {d : Addr} {E : XK} {Q : VK}
theorem valH_let {lo hi : Nat} (hd : Val td σ H (.ref d)) (hm : ValH tm σ H (fun v H' => ∃ m : Nat, v = .int (m : Int) ∧ lo ≤ m ∧ m ≤ hi ∧ But d H H' ∧ DSt K H' d)) (hh : hi ≤ 100) :
    ValH (tCall (spLetters K) [] E (tCons td (tCons tm tNil))) σ H (fun v H' => ∃ x : List Nat, v = .str (S x) ∧ (∀ c ∈ x, inS c sTAIL = true) ∧ lo ≤ x.length ∧ x.length ≤ hi ∧ But d H H' ∧ DSt K H' d) := fun Q q =>
  hd _ (hm _ fun v H' ⟨m, e, h1, h2, b, s⟩ => by
    subst e
    exact ⟨d, m, rfl, s, by omega, fun x H2 ⟨hx, ht⟩ b2 s2 => q _ _ ⟨x, rfl, ht, by omega, by omega, b.trans b2, s2⟩⟩)
theorem n_lstA {i : Nat} {tl : TA} {vs : List V} (h : ValA tl σ vs) (hz : vs.length ≤ 1000) (k : ∀ p H', H p = none → Ex H H' → H' p = some (.lst vs) → tz D (σ.set i (some (.ref p))) H') : tSeq (tAsg (tLst tl) (gName i)) tz D σ H := h H _ ⟨size_line (by omega), fun p hp => k p _ hp (Ex.new hp) upd_same⟩
theorem up_val {c : Nat} (hc : c ∈ sLOWER.cps.toList) (h : Val ta σ H (.str (S [c]))) : Val (tBM0 K "str" (fun x xs H Q => ∃ a, x = .str a ∧ xs = [] ∧ a.length ≤ 5592405 ∧ Q (.str (Txt.upper a)) H) ta) σ H (.str (S [c - 32])) := fun Q q => h _ ⟨rfl, _, rfl, rfl, by rw [S_len]; show 1 ≤ 5592405; decide, by rw [(upper_low c hc).1]; exact q⟩
end
theorem tail_stop (r : List Nat) {c : Nat} (hc : inS c sTAIL = false) : tailN (c :: r) = 0 := by
  show (if inS c sTAIL = true then _ else 0) = 0
  rw [if_neg (by rw [hc]; exact Bool.false_ne_true)]
theorem var_two {a b : Nat} (ha : inS a sTAIL = true) (hb : inS b sTAIL = true) : FF (39 :: ([a] ++ [b])) 0 true := ff_var fun r => .inl (by
  have := tailN_ge [a, b] (32 :: r) (fun y hy => by
    rcases List.mem_cons.mp hy with rfl | hy
    · exact ha
    · rw [List.mem_singleton.mp hy]; exact hb)
  have h2 : 2 ≤ tailN ([a] ++ [b] ++ 32 :: r) := this
  omega)
theorem var_one {a : Nat} (ha : inS a sLOWER = false) : FF (39 :: [a]) 0 true := ff_var fun _ => .inr ha
section
variable {P : Program} {w : World} {K : PySem.W.Frag} {mg : Str → Option Value} {base : Heap}
theorem can_fault (D : At K mg "_law_fault" s_fault ["d"]) (T : Bo w K mg) (C__law_take : Can P w K mg base CX0 2 "_law_take" ["d", "many"] (spTake K)) (C__law_letters : Can P w K mg base CX0 3 "_law_letters" ["d", "many"] (spLetters K)) : Can P w K mg base CX0 4 "_law_fault" ["d"] (spFault K) := by
  have sc := sc_fault
  refine D.can sc (fun vs H Q E h => ?_) (fun f cdv A outer s H vs Q E hr h => ?_)
  · obtain ⟨d, rfl, _⟩ := h
    rfl
  · obtain ⟨d, rfl, SD, q⟩ := h
    refine ⟨_, (pss_cons (ps_set (i := 1) sc.nd rfl (.inl rfl) (pe_can C__law_take (hr.mono (by omega)) rfl pass0 (pa_cons (pv 0) (pa_cons pe_int pa_nil))))
    (pss_cons (ps_set (i := 2) sc.nd rfl (.inl rfl) (pe_ix ix_str pe_str (pe_can C__law_take (hr.mono (by omega)) rfl pass0 (pa_cons (pv 0) (pa_cons pe_int pa_nil))) (fun _ _ => rfl)))
    (pss_cons (ps_set (i := 3) sc.nd rfl (.inl rfl) (pe_callTy call_str_int (by rfl) T.n_str (by decide +kernel) (pa_cons (pe_op op_add pe_int (pe_can C__law_take (hr.mono (by omega)) rfl pass0 (pa_cons (pv 0) (pa_cons pe_int pa_nil)))) pa_nil)))
    (pss_cons (ps_if (pt_cmpR op_eq (pv 1) pe_int (nomark _)) (pss_one (ps_ret (pe_lst (pa_cons (pe_ix ix_str pe_str (pe_can C__law_take (hr.mono (by omega)) rfl pass0 (pa_cons (pv 0) (pa_cons pe_int pa_nil))) (fun _ _ => rfl)) (pa_cons pe_int (pa_cons pe_bl pa_nil)))))) pss_nil)
    (pss_cons (ps_if (pt_cmpR op_eq (pv 1) pe_int (nomark _)) (pss_one (ps_ret (pe_lst (pa_cons (pe_op op_add_str pe_str (pe_callTy call_str_int (by rfl) T.n_str (by decide +kernel) (pa_cons (pe_can C__law_take (hr.mono (by omega)) rfl pass0 (pa_cons (pv 0) (pa_cons (pe_op op_pow pe_int pe_int) pa_nil))) pa_nil))) (pa_cons pe_int (pa_cons pe_bl pa_nil)))))) pss_nil)
    (pss_cons (ps_if (pt_cmpR op_eq (pv 1) pe_int (nomark _)) (pss_one (ps_ret (pe_lst (pa_cons (pe_op op_add_str (pv 3) (pe_callTy call_str_int (by rfl) T.n_str (by decide +kernel) (pa_cons (pe_op op_add (pe_op op_pow pe_int pe_int) (pe_can C__law_take (hr.mono (by omega)) rfl pass0 (pa_cons (pv 0) (pa_cons (pe_op op_pow pe_int pe_int) pa_nil)))) pa_nil))) (pa_cons pe_int (pa_cons pe_bl pa_nil)))))) pss_nil)
    (pss_cons (ps_if (pt_cmpR op_eq (pv 1) pe_int (nomark _)) (pss_one (ps_ret (pe_lst (pa_cons (pe_op op_add_str (pe_op op_add_str (pe_op op_add_str (pv 3) (pe_callTy call_str_int (by rfl) T.n_str (by decide +kernel) (pa_cons (pe_can C__law_take (hr.mono (by omega)) rfl pass0 (pa_cons (pv 0) (pa_cons pe_int pa_nil))) pa_nil))) (pe_ix ix_list (pe_lst (pa_cons pe_str (pa_cons pe_str (pa_cons pe_str (pa_cons (pv 2) pa_nil))))) (pe_can C__law_take (hr.mono (by omega)) rfl pass0 (pa_cons (pv 0) (pa_cons pe_int pa_nil))) (fun _ _ => rfl))) (pe_can C__law_letters (hr.mono (by omega)) rfl pass0 (pa_cons (pv 0) (pa_cons (pe_can C__law_take (hr.mono (by omega)) rfl pass0 (pa_cons (pv 0) (pa_cons pe_int pa_nil))) pa_nil)))) (pa_cons pe_int (pa_cons pe_bl pa_nil)))))) pss_nil)
    (pss_cons (ps_if (pt_cmpR op_eq (pv 1) pe_int (nomark _)) (pss_one (ps_ret (pe_lst (pa_cons (pe_op op_add_str (pv 2) (pe_can C__law_letters (hr.mono (by omega)) rfl pass0 (pa_cons (pv 0) (pa_cons (pe_op op_add pe_int (pe_can C__law_take (hr.mono (by omega)) rfl pass0 (pa_cons (pv 0) (pa_cons pe_int pa_nil)))) pa_nil)))) (pa_cons pe_int (pa_cons pe_bl pa_nil)))))) pss_nil)
    (pss_cons (ps_if (pt_cmpR op_eq (pv 1) pe_int (nomark _)) (pss_one (ps_ret (pe_lst (pa_cons (pe_op op_add_str (pe_bm0 PySem.F.plainAttrs_str PySem.F.slot_str_upper PySem.F.type_str_upper mt_upper (pv 2) ) (pe_can C__law_letters (hr.mono (by omega)) rfl pass0 (pa_cons (pv 0) (pa_cons (pe_op op_add pe_int (pe_can C__law_take (hr.mono (by omega)) rfl pass0 (pa_cons (pv 0) (pa_cons pe_int pa_nil)))) pa_nil)))) (pa_cons pe_int (pa_cons pe_bl pa_nil)))))) pss_nil)
    (pss_cons (ps_if (pt_cmpR op_eq (pv 1) pe_int (nomark _)) (pss_cons (ps_set (i := 4) sc.nd rfl (.inl rfl) (pe_lst (pa_cons pe_str (pa_cons pe_str (pa_cons (pv 3) (pa_cons pe_str (pa_cons pe_str (pa_cons (pe_op op_add_str (pv 2) (pv 2)) (pa_cons (pe_op op_add_str (pv 2) pe_str) (pa_cons (pe_op op_add_str (pv 2) (pv 3)) (pa_cons (pe_op op_add_str (pv 2) pe_str) (pa_cons (pe_op op_add_str (pv 2) pe_str) (pa_cons (pe_op op_add_str pe_str (pv 2)) (pa_cons pe_str pa_nil))))))))))))))
    (pss_one (ps_ret (pe_lst (pa_cons (pe_op op_add_str pe_str (pe_ix ix_list (pv 4) (pe_can C__law_take (hr.mono (by omega)) rfl pass0 (pa_cons (pv 0) (pa_cons pe_int pa_nil))) (fun _ _ => rfl))) (pa_cons pe_int (pa_cons pe_bl pa_nil))))))) pss_nil)
    (pss_cons (ps_if (pt_cmpR op_eq (pv 1) pe_int (nomark _)) (pss_cons (ps_set (i := 4) sc.nd rfl (.inl rfl) (pe_lst (pa_cons pe_str (pa_cons pe_str (pa_cons pe_str (pa_cons pe_str (pa_cons pe_str (pa_cons pe_str (pa_cons pe_str (pa_cons pe_str pa_nil))))))))))
    (pss_one (ps_ret (pe_lst (pa_cons (pe_op op_add_str pe_str (pe_ix ix_list (pv 4) (pe_can C__law_take (hr.mono (by omega)) rfl pass0 (pa_cons (pv 0) (pa_cons pe_int pa_nil))) (fun _ _ => rfl))) (pa_cons pe_int (pa_cons pe_bl pa_nil))))))) pss_nil)
    (pss_cons (ps_if (pt_cmpR op_eq (pv 1) pe_int (nomark _)) (pss_one (ps_ret (pe_lst (pa_cons (pe_op op_add_str pe_str (pe_ix ix_list (pe_lst (pa_cons pe_str (pa_cons (pv 2) (pa_cons pe_str (pa_cons pe_str (pa_cons pe_str (pa_cons (pe_op op_add_str pe_str (pv 3)) pa_nil))))))) (pe_can C__law_take (hr.mono (by omega)) rfl pass0 (pa_cons (pv 0) (pa_cons pe_int pa_nil))) (fun _ _ => rfl))) (pa_cons pe_int (pa_cons pe_bl pa_nil)))))) pss_nil)
    (pss_cons (ps_set (i := 5) sc.nd rfl (.inl rfl) (pe_ix ix_list (pe_lst (pa_cons pe_str (pa_cons (pv 2) (pa_cons (pe_op op_add_str (pv 3) pe_str) (pa_cons pe_str (pa_cons pe_str (pa_cons pe_str (pa_cons pe_str pa_nil)))))))) (pe_can C__law_take (hr.mono (by omega)) rfl pass0 (pa_cons (pv 0) (pa_cons pe_int pa_nil))) (fun _ _ => rfl)))
    (pss_cons (ps_if (pt_cmpR op_eq (pv 1) pe_int (nomark _)) (pss_one (ps_ret (pe_lst (pa_cons (pe_op op_add_str (pe_op op_add_str (pe_op op_add_str (pe_op op_add_str pe_str (pv 5)) pe_str) (pv 2)) pe_str) (pa_cons (pe_op op_add pe_int (pe_callB call_len_str (by rfl) T.n_len PySem.boot_len (pa_cons (pv 5) pa_nil))) (pa_cons pe_bl pa_nil)))))) pss_nil)
    (pss_cons (ps_set (i := 6) sc.nd rfl (.inl rfl) (pe_ix ix_list (pe_lst (pa_cons pe_str (pa_cons pe_str (pa_cons pe_str (pa_cons pe_str (pa_cons pe_str (pa_cons pe_str (pa_cons pe_str (pa_cons pe_str (pa_cons (pe_bm0 PySem.F.plainAttrs_str PySem.F.slot_str_upper PySem.F.type_str_upper mt_upper (pv 2) ) (pa_cons (pv 3) pa_nil))))))))))) (pe_can C__law_take (hr.mono (by omega)) rfl pass0 (pa_cons (pv 0) (pa_cons pe_int pa_nil))) (fun _ _ => rfl)))
    (pss_one (ps_ret (pe_lst (pa_cons (pe_op op_add_str (pe_op op_add_str (pe_op op_add_str (pe_op op_add_str (pe_op op_add_str pe_str (pv 5)) pe_str) (pv 6)) (pv 2)) pe_str) (pa_cons (pe_op op_add pe_int (pe_callB call_len_str (by rfl) T.n_len PySem.boot_len (pa_cons (pv 5) pa_nil))) (pa_cons pe_bl pa_nil))))))))))))))))))))), ?_⟩
    refine n_setH (valH_take (val_var rfl) val_c SD (by decide) (by decide)) ?_
    rintro v H1 ⟨k, rfl, k0, k1, b1, SD1⟩
    refine n_setH (valH_pickS (l := sLOWER.cps.toList) (lit_S (S_of sLOWER).symm) (val_var rfl) val_c SD1 (by decide +kernel) (by decide) (by decide) (by decide +kernel)) ?_
    rintro v H2 ⟨lo, hlo, rfl, b2, SD2⟩
    obtain ⟨lo1, lo2, lo3, lo4, lo5, lo6⟩ := low_facts lo hlo
    refine n_setH (PV := fun v H' => ∃ c, v = .str (S [c]) ∧ c ∈ sDIGITS.cps.toList ∧ But d H2 H' ∧ DSt K H' d) (fun Q' q' => valH_take (val_var rfl) val_c SD2 (by decide) (by decide) _ fun v H' ⟨i, e, i0, i1, b, s⟩ => by
      subst e
      obtain ⟨c, hc, h2, _⟩ := digit_str (1 + i) (by omega) (by omega)
      exact ⟨1, i, rfl, rfl, 1 + i, rfl, log_small (by omega) (by omega), q' _ _ ⟨c, by rw [← hc], of_decide_eq_true h2, b, s⟩⟩) ?_
    rintro v H3 ⟨di, rfl, hdi, b3, SD3⟩
    obtain ⟨di1, di2, di3, di4, di5, di6⟩ := dig_facts di hdi
    have di0 : inS di sDIGITS = true := decide_eq_true hdi
    have b123 : But d H H3 := (b1.trans b2).trans b3
    have q3 : RetF K d H3 Q := fun f off b p H' h1 h2 h3 h4 h5 => q f off b p H' h1 h2 (b123.trans h3) h4 h5
    have hk : k = 0 ∨ k = 1 ∨ k = 2 ∨ k = 3 ∨ k = 4 ∨ k = 5 ∨ k = 6 ∨ k = 7 ∨ k = 8 ∨ (k = 9 ∨ (k ≠ 0 ∧ k ≠ 1 ∧ k ≠ 2 ∧ k ≠ 3 ∧ k ≠ 4 ∧ k ≠ 5 ∧ k ≠ 6 ∧ k ≠ 7 ∧ k ≠ 8 ∧ k ≠ 9)) := by omega
    rcases hk with rfl | rfl | rfl | rfl | rfl | rfl | rfl | rfl | rfl | hk
    · walk_at "yes"
      exact ret_F (off := 0) q3 (ValH.mono (valH_pickS (l := [35, 36, 38, 47, 63, 64, 92, 96, 123, 125]) (lit_S (by decide +kernel)) (val_var rfl) val_c SD3 rfl (by decide) (by decide) (by decide)) fun v H' ⟨c, hc, e, b, s⟩ => ⟨[c], e, ff_sign hc, by show 1 ≤ 100; decide, b, s⟩) fun _ => val_c
    · walk_at "no"
      walk_at "yes"
      refine ret_F (off := 0) q3 (valH_pre (a := [48]) (lit_S (by decide +kernel)) (valH_strN (valH_take (many := 1000000) (val_var rfl) (Val.is (val_I val_c val_c (cpow_l (by decide) (by decide) (by decide))) rfl) SD3 (by decide) (by decide)) fun v H' ⟨i, e, i0, i1, _⟩ => ⟨i.toNat, by rw [e]; exact congrArg V.int (by omega), by omega⟩) ?_) fun _ => val_c
      rintro v H' ⟨m, ds, ⟨i, e, i0, i1, b, s⟩, rfl, h1, h2, h3, h4⟩
      cases e
      have hl := h4 6 (by decide) (by omega)
      obtain ⟨c, r, rfl⟩ : ∃ c r, ds = c :: r := by
        cases ds with
        | nil => exact absurd rfl h2
        | cons c r => exact ⟨c, r, rfl⟩
      exact ⟨_, rfl, by show 1 + _ ≤ 50000; omega, _, rfl, ff_zero ⟨c, r, rfl, tail_digits (h1 c (List.mem_cons_self ..))⟩, by show (c :: r).length + 1 ≤ 100; omega, b, s⟩
    · walk_at "no"
      walk_at "no"
      walk_at "yes"
      refine ret_F (off := 0) q3 (valH_pre (a := [di]) (val_var rfl) (valH_strN (PV := fun v H' => ∃ m : Nat, v = .int (m : Int) ∧ 100000000000000000 ≤ m ∧ m < 4611686018427387904 ∧ But d H3 H' ∧ DSt K H' d) (fun Q' q' => (Val.is (w := .int 100000000000000000) (val_I val_c val_c (cpow_l (by decide) (by decide) (by decide))) rfl) _ (valH_take (many := 1000000000000000000) (val_var rfl) (Val.is (val_I val_c val_c (cpow_l (by decide) (by decide) (by decide))) rfl) SD3 (by decide) (by decide) _ fun v H' ⟨i, e, i0, i1, b, s⟩ => by
        subst e
        exact ⟨100000000000000000, i, rfl, rfl, q' _ _ ⟨(100000000000000000 + i).toNat, congrArg V.int (by omega), by omega, by omega, b, s⟩⟩)) fun v H' ⟨m, e, _, h, _⟩ => ⟨m, e, h⟩) ?_) fun _ => val_c
      rintro v H' ⟨m, ds, ⟨m', e, i0, i1, b, s⟩, rfl, h1, h2, h3, h4⟩
      have : m = m' := by
        have := V.int.inj e
        omega
      subst this
      have hl := h4 20 (by decide) (by omega)
      have hg := h3 17 (by decide) (by omega)
      exact ⟨ds, rfl, by show 1 + ds.length ≤ 50000; omega, di :: ds, rfl, ff_many di0 h1 (by omega), by show ds.length + 1 ≤ 100; omega, b, s⟩
    · walk_at "no"
      walk_at "no"
      walk_at "no"
      walk_at "yes"
      refine ret_F (off := 0) q3 (valH_add2 (PV := fun v H' => ∃ (x : List Nat) (b : Nat), v = .str (S (di :: (x ++ [b]))) ∧ (∀ c ∈ x, inS c sTAIL = true) ∧ x.length ≤ 3 ∧ inS b sTAIL = true ∧ inS b sDIGITS = false ∧ But d H3 H' ∧ DSt K H' d)
        (valH_add2 (PV := fun v H' => ∃ x : List Nat, v = .str (S (di :: x)) ∧ (∀ c ∈ x, inS c sTAIL = true) ∧ x.length ≤ 3 ∧ But d H3 H' ∧ DSt K H' d) (valH_pre (a := [di]) (val_var rfl) (valH_strN (valH_take (many := 100) (val_var rfl) val_c SD3 (by decide) (by decide)) fun v H' ⟨i, e, i0, i1, _⟩ => ⟨i.toNat, by rw [e]; exact congrArg V.int (by omega), by omega⟩) ?_) ?_) ?_) fun _ => val_c
      · rintro v H' ⟨m, ds, ⟨i, e, i0, i1, b, s⟩, rfl, h1, h2, h3, h4⟩
        cases e
        have hl := h4 2 (by decide) (by omega)
        exact ⟨ds, rfl, by show 1 + ds.length ≤ 50000; omega, ds, rfl, fun c hc => tail_digits (h1 c hc), by omega, b, s⟩
      · rintro v H4 ⟨x, rfl, hx, hxl, b4, SD4⟩
        refine ⟨_, rfl, ValH.mono (valH_pickL (vs := [.str "_", .str "'", .str "A", .str (S [lo])]) (va_c (va_c (va_c (va_v rfl va_nil)))) (fun _ => val_var rfl) (fun _ => val_c) SD4 rfl (by decide) (by decide)) fun w H5 ⟨hw, b5, SD5⟩ => ?_⟩
        have hb : ∃ b, w = .str (S [b]) ∧ inS b sTAIL = true ∧ inS b sDIGITS = false := by
          simp only [List.mem_cons, List.mem_nil_iff, or_false] at hw
          rcases hw with rfl | rfl | rfl | rfl
          · exact ⟨95, by rw [show ("_" : Str) = S [95] by decide +kernel], by decide +kernel, by decide +kernel⟩
          · exact ⟨39, by rw [show ("'" : Str) = S [39] by decide +kernel], by decide +kernel, by decide +kernel⟩
          · exact ⟨65, by rw [show ("A" : Str) = S [65] by decide +kernel], by decide +kernel, by decide +kernel⟩
          · exact ⟨lo, rfl, lo2, lo3⟩
        obtain ⟨b, rfl, hb1, hb2⟩ := hb
        exact ⟨_, rfl, size_line (by rw [S_len, S_len]; show x.length + 1 + 1 ≤ 100000; omega), x, b, by rw [S_app]; rfl, hx, hxl, hb1, hb2, b4.trans b5, SD5⟩
      · rintro v H4 ⟨x, b, rfl, hx, hxl, hb1, hb2, b4, SD4⟩
        refine ⟨_, rfl, ValH.mono (valH_let (lo := 0) (hi := 2) (val_var rfl) (fun Q' q' => valH_take (val_var rfl) val_c SD4 (by decide) (by decide) _ fun v H' ⟨i, e, i0, i1, b, s⟩ => q' _ _ ⟨i.toNat, by rw [e]; exact congrArg V.int (by omega), by omega, by omega, b, s⟩) (by decide)) fun w H5 ⟨y, e, hy, _, hyl, b5, SD5⟩ => ?_⟩
        subst e
        have hl : (di :: (x ++ [b])).length ≤ 5 := by rw [List.length_cons, List.length_append]; show x.length + 1 + 1 ≤ 5; omega
        refine ⟨_, rfl, size_line (by rw [S_len, S_len]; omega), di :: (x ++ b :: y), by rw [S_app]; simp, ff_mixed di0 hx hb1 hb2, ?_, b4.trans b5, SD5⟩
        simp
        omega
    · walk_at "no"
      walk_at "no"
      walk_at "no"
      walk_at "no"
      walk_at "yes"
      refine ret_F (off := 0) q3 (valH_pre (a := [lo]) (val_var rfl) (PV := fun v H' => ∃ x : List Nat, v = .str (S x) ∧ (∀ c ∈ x, inS c sTAIL = true) ∧ 24 ≤ x.length ∧ x.length ≤ 40 ∧ But d H3 H' ∧ DSt K H' d) ?_ ?_) fun _ => val_c
      · exact valH_let (lo := 24) (hi := 40) (val_var rfl) (fun Q' q' => valH_take (val_var rfl) val_c SD3 (by decide) (by decide) _ fun v H' ⟨i, e, i0, i1, b, s⟩ => by
          subst e
          exact ⟨24, i, rfl, rfl, q' _ _ ⟨(24 + i).toNat, congrArg V.int (by omega), by omega, by omega, b, s⟩⟩) (by decide)
      · rintro v H' ⟨x, rfl, h1, h2, h3, b, s⟩
        exact ⟨x, rfl, by show 1 + _ ≤ 50000; omega, _, rfl, ff_word lo1 h1 h2, by show x.length + 1 ≤ 100; omega, b, s⟩
    · walk_at "no"
      walk_at "no"
      walk_at "no"
      walk_at "no"
      walk_at "no"
      walk_at "yes"
      refine ret_F (off := 0) q3 (valH_pre (a := [lo - 32]) (up_val hlo (val_var rfl)) (valH_let (lo := 24) (hi := 40) (val_var rfl) (fun Q' q' => valH_take (val_var rfl) val_c SD3 (by decide) (by decide) _ fun v H' ⟨i, e, i0, i1, b, s⟩ => by
          subst e
          exact ⟨24, i, rfl, rfl, q' _ _ ⟨(24 + i).toNat, congrArg V.int (by omega), by omega, by omega, b, s⟩⟩) (by decide)) ?_) fun _ => val_c
      rintro v H' ⟨x, rfl, h1, h2, h3, b, s⟩
      exact ⟨x, rfl, by show 1 + _ ≤ 50000; omega, _, rfl, ff_word (upper_low lo hlo).2.1 h1 h2, by rw [List.length_append]; show 1 + x.length ≤ 100; omega, b, s⟩
    · walk_at "no"
      walk_at "no"
      walk_at "no"
      walk_at "no"
      walk_at "no"
      walk_at "no"
      walk_at "yes"
      refine n_lstA (vs := [.str "", .str "A", .str (S [di]), .str "_", .str "'", .str (S ([lo] ++ [lo])), .str (S ([lo] ++ [65])), .str (S ([lo] ++ [di])), .str (S ([lo] ++ [95])), .str (S ([lo] ++ [39])), .str (S ([32] ++ [lo])), .str "("])
        (va_c (va_c (va_v rfl (va_c (va_c (va_x (fun _ => val_cat1 (val_var rfl) (val_var rfl) (by show 1 + 1 ≤ 50000; decide)) (va_x (fun _ => val_cat1 (val_var rfl) (lit_S (by decide +kernel)) (by show 1 + 1 ≤ 50000; decide)) (va_x (fun _ => val_cat1 (val_var rfl) (val_var rfl) (by show 1 + 1 ≤ 50000; decide)) (va_x (fun _ => val_cat1 (val_var rfl) (lit_S (by decide +kernel)) (by show 1 + 1 ≤ 50000; decide)) (va_x (fun _ => val_cat1 (val_var rfl) (lit_S (by decide +kernel)) (by show 1 + 1 ≤ 50000; decide)) (va_x (fun _ => val_cat1 (lit_S (by decide +kernel)) (val_var rfl) (by show 1 + 1 ≤ 50000; decide)) (va_c va_nil)))))))))))) (by show 12 ≤ 1000; decide) fun p H4 hpn e4 hp => ?_
      have npd : p ≠ d := by
        obtain ⟨c, ns, i, r, k, hd, _⟩ := SD3
        exact (ne_of_none hd hpn).symm
      refine ret_F (off := 0) q3 (valH_pre (a := [39]) (lit_S (by decide +kernel)) (valH_pickV (val_var rfl) hp npd (val_var rfl) val_c (SD3.ex e4) rfl (by decide) (by decide)) ?_) fun _ => val_c
      rintro v H5 ⟨hv, b5, SD5⟩
      have key : ∃ x : List Nat, v = .str (S x) ∧ x.length ≤ 2 ∧ FF (39 :: x) 0 true := by
        simp only [List.mem_cons, List.mem_nil_iff, or_false] at hv
        rcases hv with rfl | rfl | rfl | rfl | rfl | rfl | rfl | rfl | rfl | rfl | rfl | rfl
        · exact ⟨[], by rw [show ("" : Str) = S [] by decide +kernel], by decide, ff_var fun r => .inl (by rw [List.nil_append, tail_stop r (by decide +kernel)]; decide)⟩
        · exact ⟨[65], by rw [show ("A" : Str) = S [65] by decide +kernel], by decide, var_one (by decide +kernel)⟩
        · exact ⟨[di], rfl, by show 1 ≤ 2; decide, var_one di2⟩
        · exact ⟨[95], by rw [show ("_" : Str) = S [95] by decide +kernel], by decide, var_one (by decide +kernel)⟩
        · exact ⟨[39], by rw [show ("'" : Str) = S [39] by decide +kernel], by decide, var_one (by decide +kernel)⟩
        · exact ⟨_, rfl, by show 2 ≤ 2; decide, var_two lo2 lo2⟩
        · exact ⟨_, rfl, by show 2 ≤ 2; decide, var_two lo2 (by decide +kernel)⟩
        · exact ⟨_, rfl, by show 2 ≤ 2; decide, var_two lo2 di1⟩
        · exact ⟨_, rfl, by show 2 ≤ 2; decide, var_two lo2 (by decide +kernel)⟩
        · exact ⟨_, rfl, by show 2 ≤ 2; decide, var_two lo2 (by decide +kernel)⟩
        · exact ⟨_, rfl, by show 2 ≤ 2; decide, ff_var fun r => .inl (by show tailN (32 :: (lo :: 32 :: r)) ≠ 1; rw [tail_stop _ (by decide +kernel)]; decide)⟩
        · exact ⟨[40], by rw [show ("(" : Str) = S [40] by decide +kernel], by decide, ff_var fun r => .inl (by show tailN (40 :: 32 :: r) ≠ 1; rw [tail_stop _ (by decide +kernel)]; decide)⟩
      obtain ⟨x, rfl, hx, hf⟩ := key
      exact ⟨x, rfl, by show 1 + _ ≤ 50000; omega, _, rfl, hf, by rw [List.length_append]; show 1 + x.length ≤ 100; omega, (But.of e4).trans b5, SD5⟩
    · walk_at "no"
      walk_at "no"
      walk_at "no"
      walk_at "no"
      walk_at "no"
      walk_at "no"
      walk_at "no"
      walk_at "yes"
      refine n_lstA (vs := [.str "", .str " a", .str " (* *)", .str "(* b *", .str " (* (* *) c", .str ")", .str " *", .str " \" *"]) (va_c (va_c (va_c (va_c (va_c (va_c (va_c (va_c va_nil)))))))) (by show 8 ≤ 1000; decide) fun p H4 hpn e4 hp => ?_
      have npd : p ≠ d := by
        obtain ⟨c, ns, i, r, k, hd, _⟩ := SD3
        exact (ne_of_none hd hpn).symm
      refine ret_F (off := 0) q3 (valH_pre (a := [40, 42]) (lit_S (by decide +kernel)) (valH_pickV (val_var rfl) hp npd (val_var rfl) val_c (SD3.ex e4) rfl (by decide) (by decide)) ?_) fun _ => val_c
      rintro v H5 ⟨hv, b5, SD5⟩
      have key : ∃ x : List Nat, v = .str (S x) ∧ x.length ≤ 20 ∧ FF (40 :: 42 :: x) 0 false := by
        have mk : ∀ {z : Str} {x : List Nat}, z = S x → x.length ≤ 20 → comm 1 true (42 :: x) = none → ∃ x : List Nat, V.str z = .str (S x) ∧ x.length ≤ 20 ∧ FF (40 :: 42 :: x) 0 false := fun {z x} h1 h2 h3 => ⟨x, by rw [h1], h2, ff_comm h3⟩
        simp only [List.mem_cons, List.mem_nil_iff, or_false] at hv
        rcases hv with rfl | rfl | rfl | rfl | rfl | rfl | rfl | rfl
        · exact mk (x := []) (by decide +kernel) (by decide) rfl
        · exact mk (x := [32, 97]) (by decide +kernel) (by decide) rfl
        · exact mk (x := [32, 40, 42, 32, 42, 41]) (by decide +kernel) (by decide) rfl
        · exact mk (x := [40, 42, 32, 98, 32, 42]) (by decide +kernel) (by decide) rfl
        · exact mk (x := [32, 40, 42, 32, 40, 42, 32, 42, 41, 32, 99]) (by decide +kernel) (by decide) rfl
        · exact mk (x := [41]) (by decide +kernel) (by decide) rfl
        · exact mk (x := [32, 42]) (by decide +kernel) (by decide) rfl
        · exact mk (x := [32, 34, 32, 42]) (by decide +kernel) (by decide) rfl
      obtain ⟨x, rfl, hx, hf⟩ := key
      exact ⟨x, rfl, by show 2 + _ ≤ 50000; omega, _, rfl, hf, by rw [List.length_append]; show 2 + x.length ≤ 100; omega, (But.of e4).trans b5, SD5⟩
    · walk_at "no"
      walk_at "no"
      walk_at "no"
      walk_at "no"
      walk_at "no"
      walk_at "no"
      walk_at "no"
      walk_at "no"
      walk_at "yes"
      refine ret_F (off := 0) q3 (valH_pre (a := [34]) (lit_S (by decide +kernel)) (valH_pickL (vs := [.str "", .str (S [lo]), .str "(* *)", .str "\\\\", .str "\\\"", .str (S ([32] ++ [di]))]) (va_c (va_v rfl (va_c (va_c (va_c (va_x (fun _ => val_cat1 (lit_S (by decide +kernel)) (val_var rfl) (by show 1 + 1 ≤ 50000; decide)) va_nil)))))) (fun _ => val_var rfl) (fun _ => val_c) SD3 rfl (by decide) (by decide)) ?_) fun _ => val_c
      rintro v H5 ⟨hv, b5, SD5⟩
      have key : ∃ x : List Nat, v = .str (S x) ∧ x.length ≤ 20 ∧ Inn x := by
        simp only [List.mem_cons, List.mem_nil_iff, or_false] at hv
        rcases hv with rfl | rfl | rfl | rfl | rfl | rfl
        · exact ⟨[], by rw [show ("" : Str) = S [] by decide +kernel], by decide, Inn.nil⟩
        · exact ⟨[lo], rfl, by show 1 ≤ 20; decide, Inn.one lo4 lo5 lo6⟩
        · exact ⟨[40, 42, 32, 42, 41], by rw [show ("(* *)" : Str) = S [40, 42, 32, 42, 41] by decide +kernel], by decide, Inn.list (by decide)⟩
        · exact ⟨[92, 92], by rw [show ("\\\\" : Str) = S [92, 92] by decide +kernel], by decide, Inn.esc (.inr (.inl rfl))⟩
        · exact ⟨[92, 34], by rw [show ("\\\"" : Str) = S [92, 34] by decide +kernel], by decide, Inn.esc (.inr (.inr rfl))⟩
        · exact ⟨_, rfl, by show 2 ≤ 20; decide, (Inn.one (by decide) (by decide) (by decide)).app (Inn.one di3 di4 di5)⟩
      obtain ⟨x, rfl, hx, hf⟩ := key
      exact ⟨x, rfl, by show 1 + _ ≤ 50000; omega, _, rfl, ff_open hf, by rw [List.length_append]; show 1 + x.length ≤ 100; omega, b5, SD5⟩
    · have no : ∀ (j : Int) {σ : L2.St} {H : Hp}, k ≠ j → σ[1]? = some (some (.int k)) → Ans (tTest (tOp rEq (tVar 1) (tC (.int j)))) σ H false := fun j {σ H} hj e => Ans.to (ans_t (val_eq (val_var e) val_c rfl)) (decide_eq_false fun z => hj (V.int.inj z))
      refine n_when (b := false) (no 0 (by omega) rfl) (fun h => Bool.noConfusion h) (fun _ => ?_)
      refine n_when (b := false) (no 1 (by omega) rfl) (fun h => Bool.noConfusion h) (fun _ => ?_)
      refine n_when (b := false) (no 2 (by omega) rfl) (fun h => Bool.noConfusion h) (fun _ => ?_)
      refine n_when (b := false) (no 3 (by omega) rfl) (fun h => Bool.noConfusion h) (fun _ => ?_)
      refine n_when (b := false) (no 4 (by omega) rfl) (fun h => Bool.noConfusion h) (fun _ => ?_)
      refine n_when (b := false) (no 5 (by omega) rfl) (fun h => Bool.noConfusion h) (fun _ => ?_)
      refine n_when (b := false) (no 6 (by omega) rfl) (fun h => Bool.noConfusion h) (fun _ => ?_)
      refine n_when (b := false) (no 7 (by omega) rfl) (fun h => Bool.noConfusion h) (fun _ => ?_)
      refine n_when (b := false) (no 8 (by omega) rfl) (fun h => Bool.noConfusion h) (fun _ => ?_)
      refine n_setH (PV := fun v H' => ∃ x : List Nat, v = .str (S x) ∧ x.length ≤ 20 ∧ Inn x ∧ But d H3 H' ∧ DSt K H' d) (ValH.mono (valH_pickL (vs := [.str "", .str (S [lo]), .str (S ([di] ++ [32])), .str "\\n", .str "\\\\", .str "\\\"a", .str "(*"]) (va_c (va_v rfl (va_x (fun _ => val_cat1 (val_var rfl) (lit_S (by decide +kernel)) (by show 1 + 1 ≤ 50000; decide)) (va_c (va_c (va_c (va_c va_nil))))))) (fun _ => val_var rfl) (fun _ => val_c) SD3 rfl (by decide) (by decide)) ?_) ?_
      · rintro v H5 ⟨hv, b5, SD5⟩
        simp only [List.mem_cons, List.mem_nil_iff, or_false] at hv
        rcases hv with rfl | rfl | rfl | rfl | rfl | rfl | rfl
        · exact ⟨[], by rw [show ("" : Str) = S [] by decide +kernel], by decide, Inn.nil, b5, SD5⟩
        · exact ⟨[lo], rfl, by show 1 ≤ 20; decide, Inn.one lo4 lo5 lo6, b5, SD5⟩
        · exact ⟨_, rfl, by show 2 ≤ 20; decide, (Inn.one di3 di4 di5).app (Inn.one (by decide) (by decide) (by decide)), b5, SD5⟩
        · exact ⟨[92, 110], by rw [show ("\\n" : Str) = S [92, 110] by decide +kernel], by decide, Inn.esc (.inl rfl), b5, SD5⟩
        · exact ⟨[92, 92], by rw [show ("\\\\" : Str) = S [92, 92] by decide +kernel], by decide, Inn.esc (.inr (.inl rfl)), b5, SD5⟩
        · exact ⟨[92, 34] ++ [97], by rw [show ("\\\"a" : Str) = S ([92, 34] ++ [97]) by decide +kernel], by decide, (Inn.esc (.inr (.inr rfl))).app (Inn.one (by decide) (by decide) (by decide)), b5, SD5⟩
        · exact ⟨[40, 42], by rw [show ("(*" : Str) = S [40, 42] by decide +kernel], by decide, Inn.list (by decide), b5, SD5⟩
      rintro v H5 ⟨x, rfl, hx, hi, b5, SD5⟩
      have offv : ∀ {σ : L2.St} {H' : Hp}, σ[5]? = some (some (.str (S x))) → Val (tOp (rI0 fun i j => .int (i + j)) (tC (.int 1)) (tCB (fun xs H Q => ∃ z, xs = [.str z] ∧ z.length ≤ sizeLine ∧ Q (.int z.length) H) (tCons (tVar 5) tNil))) σ H' (.int ((1 + x.length : Nat) : Int)) := fun {σ H'} e => Val.is (val_I0 val_c (val_lenS (val_var e) (size_line (by rw [S_len]; omega)))) (congrArg V.int (by rw [S_len]; omega))
      have q5 : RetF K d H5 Q := fun f off b p H' h1 h2 h3 h4 h5 => q3 f off b p H' h1 h2 (b5.trans h3) h4 h5
      by_cases h9 : k = 9
      · refine n_when (b := true) (Ans.to (ans_t (val_eq (val_var rfl) val_c rfl)) (decide_eq_true (congrArg V.int h9))) (fun _ => ?_) (fun h => Bool.noConfusion h)
        refine ret_F (off := 1 + x.length) q5 (ValH.of (val_cat1 (val_cat1 (val_cat1 (val_cat1 (a := [34]) (lit_S (by decide +kernel)) (val_var rfl) (by show 1 + _ ≤ 50000; omega)) (lit_S (l := [10]) (by decide +kernel)) ?_) (val_var rfl) ?_) (lit_S (l := [34]) (by decide +kernel)) ?_) ⟨34 :: (x ++ 10 :: [lo, 34]), ?_, ff_line hi, ?_, .refl, SD5⟩) fun _ => offv rfl
        · rw [List.length_append]; show 1 + x.length + 1 ≤ 50000; omega
        · rw [List.length_append, List.length_append]; show 1 + x.length + 1 + 1 ≤ 50000; omega
        · rw [List.length_append, List.length_append, List.length_append]; show 1 + x.length + 1 + 1 + 1 ≤ 50000; omega
        · simp
        · simp
          omega
      · refine n_when (b := false) (no 9 h9 rfl) (fun h => Bool.noConfusion h) (fun _ => ?_)
        refine n_setH (PV := fun v H' => ∃ b : Nat, v = .str (S [b]) ∧ (b ≠ 110 ∧ b ≠ 92 ∧ b ≠ 34) ∧ But d H5 H' ∧ DSt K H' d) (ValH.mono (valH_pickL (vs := [.str "t", .str "0", .str " ", .str "'", .str "(", .str "N", .str "r", .str "x", .str (S [lo - 32]), .str (S [di])]) (va_c (va_c (va_c (va_c (va_c (va_c (va_c (va_c (va_x (fun _ => up_val hlo (val_var rfl)) (va_v rfl va_nil)))))))))) (fun _ => val_var rfl) (fun _ => val_c) SD5 rfl (by decide) (by decide)) ?_) ?_
        · rintro v H6 ⟨hv, b6, SD6⟩
          have mk : ∀ {z : Str} {b : Nat}, z = S [b] → (b ≠ 110 ∧ b ≠ 92 ∧ b ≠ 34) → ∃ b : Nat, V.str z = .str (S [b]) ∧ (b ≠ 110 ∧ b ≠ 92 ∧ b ≠ 34) ∧ But d H5 H6 ∧ DSt K H6 d := fun {z b} h1 h2 => ⟨b, by rw [h1], h2, b6, SD6⟩
          simp only [List.mem_cons, List.mem_nil_iff, or_false] at hv
          rcases hv with rfl | rfl | rfl | rfl | rfl | rfl | rfl | rfl | rfl | rfl
          · exact mk (b := 116) (by decide +kernel) (by decide)
          · exact mk (b := 48) (by decide +kernel) (by decide)
          · exact mk (b := 32) (by decide +kernel) (by decide)
          · exact mk (b := 39) (by decide +kernel) (by decide)
          · exact mk (b := 40) (by decide +kernel) (by decide)
          · exact mk (b := 78) (by decide +kernel) (by decide)
          · exact mk (b := 114) (by decide +kernel) (by decide)
          · exact mk (b := 120) (by decide +kernel) (by decide)
          · exact mk rfl (upper_low lo hlo).2.2
          · exact mk rfl ⟨di6, di5, di3⟩
        rintro v H6 ⟨b, rfl, hb, b6, SD6⟩
        have q6 : RetF K d H6 Q := fun f off b p H' h1 h2 h3 h4 h5 => q5 f off b p H' h1 h2 (b6.trans h3) h4 h5
        refine ret_F (off := 1 + x.length) q6 (ValH.of (val_cat1 (val_cat1 (val_cat1 (val_cat1 (val_cat1 (a := [34]) (lit_S (by decide +kernel)) (val_var rfl) (by show 1 + _ ≤ 50000; omega)) (lit_S (l := [92]) (by decide +kernel)) ?_) (val_var rfl) ?_) (val_var rfl) ?_) (lit_S (l := [34]) (by decide +kernel)) ?_) ⟨34 :: (x ++ 92 :: b :: [lo, 34]), ?_, ff_esc hi hb, ?_, .refl, SD6⟩) fun _ => offv rfl
        · rw [List.length_append]; show 1 + x.length + 1 ≤ 50000; omega
        · rw [List.length_append, List.length_append]; show 1 + x.length + 1 + 1 ≤ 50000; omega
        · rw [List.length_append, List.length_append, List.length_append]; show 1 + x.length + 1 + 1 + 1 ≤ 50000; omega
        · rw [List.length_append, List.length_append, List.length_append, List.length_append]; show 1 + x.length + 1 + 1 + 1 + 1 ≤ 50000; omega
        · simp
        · simp
          omega
end
/-! ### isinstance of a caught error that has a dict -/
def rIsEd (K : PySem.W.Frag) (D a dx : Addr) : List V → Hp → VK → Prop := fun xs H Q => (∃ fs, H dx = some (.xd fs)) ∧ ∃ (c : V) (cv : Value) (b : Bool), xs = [.ref a, c] ∧ (∀ u, RelV c u → u = cv) ∧ PySem.W.kitOne K (.ref D) cv = some b ∧ Q (.bl b) H
theorem call_isEd {X : Cx} {a D dx : Addr} {oe : Obj} {pn : List (Addr × Obj)} (C : ExcC X.K D) (hz : Zc (.ref D) (some dx) oe) (hf : ∃ vs, oe.data = .fields vs) : CallR (X.suite a ((a, oe) :: pn)) (.builtin "isinstance") (rIsEd X.K D a dx) := by
  intro pins s σ H xs us Q I r h
  obtain ⟨⟨fs, hx⟩, c, cv, b, rfl, hcv, kit, q⟩ := h
  cases r with
  | cons r1 r2 =>
    cases r2 with
    | cons r3 r4 =>
      cases r4
      cases r1
      cases hcv _ r3
      obtain ⟨here, _⟩ := I.pin (a, oe) (List.mem_append_left _ List.mem_cons_self)
      obtain ⟨vs, dat⟩ := hf
      obtain ⟨mA, hns, _⟩ : ObjOk X.prog X.w H s.heap dx (.xd fs) := I.hok dx _ hx
      obtain ⟨od, od1, _⟩ := lookIn_ns hns
      have J : PySem.W.InstAt s.heap a oe D (some od) := ⟨here, hz.1, by unfold PySem.W.notCls; rw [dat] <;> rfl, by rw [hz.2]; exact od1⟩
      obtain ⟨cd, hcd, _⟩ := PySem.W.any_some C.hd
      exact PySem.W.kia_one (PySem.W.kitx_exc (by rw [hcd]; rfl) C.hg C.hk C.hs C.ha C.hn C.ht C.hm) I.kIn J kit (fun z => nomatch z) fun tk => ⟨.bl b, H, I.kept (t' := tk) fun _ _ z => z, rfl, q⟩
structure To2 (w : World) (K : PySem.W.Frag) (mg : Str → Option Value) : Prop extends Bo w K mg where
  xf : XfC K ErrA.tok
  tokE : ExcC K ErrA.tok
  tt : PySem.W.exmOne K (.ref ErrA.tok) (.ref ErrA.tok) = some true
  tg : ∃ Gc : Addr, mg "GuanacoError" = some (.ref Gc) ∧ PySem.W.kitOne K (.ref ErrA.tok) (.ref Gc) = some true
  tv : PySem.W.kitOne K (.ref ErrA.tok) (.type "ValueError") = some true
  n_VE : mg "ValueError" = none
abbrev s_raised : Stmt := top 33
theorem sc_raised : FnScope ["text", "e"] ["text"] (defScope s_raised) := ⟨rfl, rfl, rfl, by decide +kernel, rfl, by decide +kernel, by decide +kernel⟩
def spRaised : Sp := fun vs H Q _ => ∃ t e : List Nat, vs = [.str (S t)] ∧ t.length ≤ 4000 ∧ lex t = .error e ∧ ∀ H', Ex H H' → Q (.int (pl t e : Int)) H'
section
variable {X : Cx} {W : WX} {k : Nat} {x : Str} {ps : List Str} {sp : Sp} {e : Expr} {es : List Expr} {t : TA} {p pos : Pos}
theorem pe_canS (C : Can X.prog X.w X.K X.mg X.base (L2.CX X.prog X.w) k x ps sp) (hr : Room k X.A) (hg : Gl X x) (tk : Takes X W) (ha : PA X (e :: es) t)
    (hdb : (x == ("__debug__" : Str)) = false := by decide) (he : starEach (e :: es) X.env = (false, eval e X.env) :: starEach es X.env := by rfl) (hpl : (backTo pos (starEach es X.env)).any (·.1) = false := by rfl) :
    PE X (.Call (.Name x p) (e :: es) [] pos) (tCallS sp (WE W) t) := by
  obtain ⟨f, fd, F, a, b, c⟩ := C.ex
  exact pe_callS F hr hg a b c (fun σ => passAt tk σ) ha hdb he hpl
theorem pss_ex {α : Type} {p : α → Prop} {st : List Stmt} {t : α → TS} (h : ∀ z, p z → PSs X st (t z)) : PSs X st (fun D σ H => ∃ z, p z ∧ t z D σ H) := ⟨fun pins s σ H D I ⟨z, hp, q⟩ => (h z hp).run pins s σ H D I q⟩
end
section
variable {P : Program} {w : World} {K : PySem.W.Frag} {mg : Str → Option Value} {base : Heap}
theorem can_raised (D : At K mg "_law_raised_at" s_raised ["text"]) (T : To2 w K mg) (C_read_tokens : Can P w K mg base (CXv P w) 6 "read_tokens" ["text"] spToks) : Can P w K mg base CX0 7 "_law_raised_at" ["text"] spRaised := by
  have sc := sc_raised
  refine D.can sc (fun vs H Q E h => ?_) (fun f cdv A outer s H vs Q E hr h => ?_)
  · obtain ⟨t, e, rfl, _⟩ := h
    rfl
  · obtain ⟨t, e, rfl, ht, he, q⟩ := h
    obtain ⟨Gc, gG, tgG⟩ := T.tg
    refine ⟨_, pss_cons (ps_try_as (i := 1) rfl rfl sc.nd rfl rfl ⟨rfl, by decide, .inl T.gT⟩ takes0
      (fun W pn xe tk _ => pss_one (ps_expr (pe_canS C_read_tokens (hr.mono (by decide)) rfl tk (pa_cons (pv 0) pa_nil))))
      (fun a oe cls d pn hz hf => pss_ex (p := fun dx : Addr => cls = .ref ErrA.tok ∧ d = some dx) fun dx hp =>
        pss_cons (ps_if (PW.pt (pw_or (pt_not (pt_val (pe_callB (call_isEd (dx := dx) T.tokE (hp.1 ▸ hp.2 ▸ hz) hf) (by rfl) T.n_isinstance (by decide +kernel) (pa_cons (pv 1) (pa_cons (pe_gr rfl gG) pa_nil))))) (pw_or1 (pt_not (pt_val (pe_callB (call_isEd (dx := dx) T.tokE (hp.1 ▸ hp.2 ▸ hz) hf) (by rfl) T.n_isinstance (by decide +kernel) (pa_cons (pv 1) (pa_cons (pe_bltn (v := .ty "ValueError") (by rfl) T.n_VE (by decide +kernel) rfl) pa_nil)))))))) (pss_one (ps_ret pe_non)) pss_nil)
        (pss_one (ps_ret (pe_xf T.xf T.noat hz hf (pv 1))))))
      (pss_one (ps_ret pe_non)), ?_⟩
    refine ⟨_, rfl, t, rfl, by omega, fun h4 => ⟨fun ts hts => (nomatch (he.symm.trans hts)), fun e' he' => ⟨log_small (by omega) (by show ((pl t e' : Nat) : Int) < 100000; unfold pl; omega), fun H' d e6 hd => ?_⟩⟩, fun h4 => by omega⟩
    have : e' = e := by
      rw [he] at he'
      cases he'
      rfl
    subst this
    refine ⟨true, T.tt, fun _ a ha => ⟨d, ⟨rfl, rfl⟩, ?_⟩, fun z => Bool.noConfusion z⟩
    refine ⟨_, rfl, ⟨_, upd_same⟩, _, _, _, rfl, fun u h => h, tgG, true, rfl, ?_⟩
    refine ⟨_, rfl, ⟨_, upd_same⟩, _, _, _, rfl, fun u h => h, T.tv, true, rfl, ?_⟩
    exact ⟨_, rfl, rfl, rfl, d, _, _, rfl, upd_same, rfl, q _ fun b o z => e6.trans (Ex.new hd) b o z⟩
end
section
variable {K : PySem.W.Frag} {σ : L2.St} {H : Hp} {ta tb : TE} {x : V} {A T : String} {b : Bool} {D : Ends} {tz : TS} {l : Addr} {xs vs : List V} {F B C : L2.St → Hp → Prop} {R : VK}
theorem val_isi (ha : Val ta σ H x) (hx : TyX K H x (.type A)) (hk : kitB A T = some b) : Val (tCB (rIsi K) (tCons ta (tCons (tC (.ty T)) tNil))) σ H (.bl b) := fun Q q => ha _ ⟨x, .ty T, .type A, .type T, b, rfl, .ty T, hx, kit_ty hk, q⟩
end
abbrev s_law2 : Stmt := top 34
theorem sc_law2 : FnScope ["script", "d", "good", "fault", "text", "at"] ["script"] (defScope s_law2) := ⟨rfl, rfl, rfl, by decide +kernel, rfl, by decide +kernel, by decide +kernel⟩
def spLaw2 (K : PySem.W.Frag) : Sp := fun vs H Q _ => ∃ (a : Addr) (ns : List Int), vs = [.ref a] ∧ SqL K H a (ns.map V.int) ∧ ns.length ≤ 63 ∧ ∀ H', Q (.bl true) H'
section
variable {σ : L2.St} {H : Hp} {D : Ends} {t1 tz : TS} {t : TT}
theorem n_skipH {PH : Hp → Prop} (h : ∀ Q : Bool → Hp → Prop, (∀ H', PH H' → Q false H') → t σ H Q) (q : ∀ H', PH H' → tz D σ H') : tSeq (tIfS t t1 tNext) tz D σ H := h _ fun H' p => q H' p
end
section
variable {P : Program} {w : World} {K : PySem.W.Frag} {mg : Str → Option Value} {base : Heap}
/-- a def that lets nothing out: its promise from its body's reading, the object told -/
theorem fun_can {x : Str} {st : Stmt} {N ps : List Str} {k : Nat} {sp : Sp} {f : Addr} {fd : FuncData} (F : Fun K x x st f fd) (S : FnScope N ps (defScope st)) (len : ∀ vs H Q E, sp vs H Q E → vs.length = ps.length)
    (hbody : ∀ (f : Addr) (cdv : Value) (A : Around) (outer : List Env) (s : Shared) (H : Hp) (vs : List V) (Q : VK) (E : XK), Room k (A.deeper (envOfC x (defScope st) s.heap.objs.size f cdv)) → sp vs H Q E →
      ∃ t, PSs (cxOf CX0 P w K mg base N x (defScope st) f cdv A outer s H E).nox (defBody st) t ∧ t { nx := fun _ H' => Q .non H', rt := Q } (start N vs) H) : FnOk P w K mg base CX0 (k + 1) f fd ps sp :=
  F.ok S len (fun cdv A outer s H vs Q E hr h => hbody f cdv A outer s H vs Q E hr h)
theorem ok_law2 {f : Addr} {fd : FuncData} (F : Fun K "law" "law" s_law2 f fd) (T : To2 w K mg) (C__law_start : Can P w K mg base CX0 1 "_law_start" ["script"] (spStart K)) (C__law_good : Can P w K mg base CX0 3 "_law_good" ["d"] (spGood K))
    (C__law_fault : Can P w K mg base CX0 4 "_law_fault" ["d"] (spFault K)) (C_read_tokens : Can P w K mg base (CXv P w) 6 "read_tokens" ["text"] spToks) (C__law_raised_at : Can P w K mg base CX0 7 "_law_raised_at" ["text"] spRaised) : FnOk P w K mg base CX0 8 f fd ["script"] (spLaw2 K) := by
  have sc := sc_law2
  refine fun_can F sc (fun vs H Q E h => ?_) (fun f cdv A outer s H vs Q E hr h => ?_)
  · obtain ⟨a, ns, rfl, _⟩ := h
    rfl
  · obtain ⟨a, ns, rfl, ha, hns, q⟩ := h
    refine ⟨_, (pss_cons (ps_set (i := 1) sc.nd rfl (.inl rfl) (pe_can C__law_start (hr.mono (by omega)) rfl pass0 (pa_cons (pv 0) pa_nil)))
    (pss_cons (ps_set (i := 2) sc.nd rfl (.inl rfl) (pe_can C__law_good (hr.mono (by omega)) rfl pass0 (pa_cons (pv 1) pa_nil)))
    (pss_cons (ps_set (i := 3) sc.nd rfl (.inl rfl) (pe_can C__law_fault (hr.mono (by omega)) rfl pass0 (pa_cons (pv 1) pa_nil)))
    (pss_cons (ps_set (i := 4) sc.nd rfl (.inl rfl) (pe_op op_add_str (pv 2) (pe_ix ix_list (pv 3) pe_int (fun _ _ => rfl))))
    (pss_cut (ps_if (pt_val (pe_ix ix_list (pv 3) pe_int (fun _ _ => rfl))) (pss_one (ps_set (i := 4) sc.nd rfl (.inl rfl) (pe_op op_add_str (pe_op op_add_str (pv 4) pe_str) (pe_can C__law_good (hr.mono (by omega)) rfl pass0 (pa_cons (pv 1) pa_nil))))) pss_nil)
    (pss_cons (ps_if (pt_not (pt_val (pe_callB call_isi (by rfl) T.n_isinstance (by decide +kernel) (pa_cons (pe_can C_read_tokens (hr.mono (by omega)) rfl passL (pa_cons (pv 2) pa_nil)) (pa_cons (pe_bltn (v := .ty "list") (by rfl) T.n_list (by decide +kernel) rfl) pa_nil))))) (pss_one (ps_ret pe_bl)) pss_nil)
    (pss_cons (ps_set (i := 5) sc.nd rfl (.inl rfl) (pe_can C__law_raised_at (hr.mono (by omega)) rfl pass0 (pa_cons (pv 4) pa_nil)))
    (pss_one (ps_ret (pe_and (pe_callB call_isi (by rfl) T.n_isinstance (by decide +kernel) (pa_cons (pv 5) (pa_cons (pe_bltn (v := .ty "int") (by rfl) T.n_int (by decide +kernel) rfl) pa_nil))) (pe_and (pe_not (pe_callB call_isi (by rfl) T.n_isinstance (by decide +kernel) (pa_cons (pv 5) (pa_cons (pe_bltn (v := .ty "bool") (by rfl) T.n_bool (by decide +kernel) rfl) pa_nil)))) (pe_one (pe_cmpR op_eq (pv 5) (pe_op op_add (pe_callB call_len_str (by rfl) T.n_len PySem.boot_len (pa_cons (pv 2) pa_nil)) (pe_ix ix_list (pv 3) pe_int (fun _ _ => rfl))) (nomark _)))))))))))))), ?_⟩
    refine n_setH (PV := fun v H' => ∃ d, v = .ref d ∧ DSt K H' d) (valH_can1 (val_var rfl) fun Q' q' => ⟨a, ns, rfl, ha, hns, fun d H' _ _ s => q' _ _ ⟨d, rfl, s⟩⟩) ?_
    rintro v H1 ⟨d, rfl, SD1⟩
    refine n_setH (PV := fun v H' => ∃ x : List Nat, v = .str (S x) ∧ IsGood x ∧ DSt K H' d) (valH_can1 (val_var rfl) fun Q' q' => ⟨d, rfl, SD1, fun x H' hx _ s => q' _ _ ⟨x, rfl, hx, s⟩⟩) ?_
    rintro v H2 ⟨g, rfl, ⟨ps, hps, rfl, hgl⟩, SD2⟩
    refine n_setH (PV := fun v H' => ∃ (f : List Nat) (off : Nat) (b : Bool) (p : Addr), v = .ref p ∧ FF f off b ∧ f.length ≤ 100 ∧ DSt K H' d ∧ H' p = some (.lst [.str (S f), .int (off : Int), .bl b])) (valH_can1 (val_var rfl) fun Q' q' => ⟨d, rfl, SD2, fun f off b p H' h1 h2 _ h4 h5 => q' _ _ ⟨f, off, b, p, rfl, h1, h2, h4, h5⟩⟩) ?_
    rintro v H3 ⟨x0, off, b, p, rfl, hff, hfl, SD3, hp⟩
    have npd : p ≠ d := by
      rintro rfl
      obtain ⟨c, ns, i, r, k, hd, _⟩ := SD3
      rw [hd] at hp
      have := congrArg List.length (HO.lst.inj (Option.some.inj hp))
      exact absurd this (by show ¬ (4 = 3); decide)
    generalize hg : gtext ps [] = g at *
    refine n_set (v := .str (S (g ++ x0))) (Val.is (val_addS (val_var rfl) (val_ixL (val_var rfl) val_c (SqL.of hp) rfl) (size_line (by rw [S_len, S_len]; omega))) (by rw [S_app])) ?_
    refine q_cut (M := fun σ' H' => ∃ x e : List Nat, σ' = [some (.ref a), some (.ref d), some (.str (S g)), some (.ref p), some (.str (S (g ++ x))), none] ∧ Bad x e ∧ e.length + off = x.length ∧ x.length ≤ 400 ∧ H' p = some (.lst [.str (S x0), .int (off : Int), .bl b])) ?_ ?_
    · rcases hff with ⟨rfl, hff⟩ | ⟨rfl, e, h1, h2⟩
      · refine e_when (b := true) (ans_val (val_ixL (val_var rfl) val_c (SqL.of hp) rfl)) (fun _ => ?_) (fun h => Bool.noConfusion h)
        refine e_setH (PV := fun v H' => ∃ r : List Nat, v = .str (S (g ++ (x0 ++ 32 :: r))) ∧ r.length ≤ 200 ∧ H' p = some (.lst [.str (S x0), .int (off : Int), .bl true])) (valH_pre (a := g ++ x0 ++ [32]) (val_cat1 (a := g ++ x0) (val_var rfl) (lit_S (l := [32]) (by decide +kernel)) (by rw [List.length_append]; show _ + 1 ≤ 50000; omega)) (valH_can1 (PV := fun v H' => ∃ r : List Nat, v = .str (S r) ∧ r.length ≤ 200 ∧ H' p = some (.lst [.str (S x0), .int (off : Int), .bl true])) (val_var rfl) fun Q' q' => ⟨d, rfl, SD3, fun r H' ⟨_, _, _, hr⟩ b s => q' _ _ ⟨r, rfl, hr, b _ _ npd hp⟩⟩) ?_) ?_
        · rintro v H' ⟨r, rfl, hr, hp'⟩
          refine ⟨r, rfl, ?_, r, ?_, hr, hp'⟩
          · rw [List.length_append, List.length_append]
            show g.length + x0.length + 1 + r.length ≤ 50000
            omega
          · simp
        · rintro v H' ⟨r, rfl, hr, hp'⟩
          obtain ⟨e, h1, h2⟩ := hff r
          exact ⟨x0 ++ 32 :: r, e, rfl, h1, h2, by rw [List.length_append, List.length_cons]; omega, hp'⟩
      · exact e_when (b := false) (ans_val (val_ixL (val_var rfl) val_c (SqL.of hp) rfl)) (fun h => Bool.noConfusion h) (fun _ => ⟨x0, e, rfl, h1, h2, by omega, hp⟩)
    rintro σ' H4 ⟨x, e, rfl, hbad, hoff, hxl, hp4⟩
    obtain ⟨ts, hts⟩ := lex_fine hps
    rw [hg] at hts
    have hlex : lex (g ++ x) = .error e := by
      have := lex_bad hbad hps
      rw [gtext_app, hg] at this
      exact this
    refine n_skipH (PH := fun H' => H' p = some (.lst [.str (S x0), .int (off : Int), .bl b])) (fun Q' q' => ?_) fun H5 hp5 => ?_
    · exact ⟨_, rfl, g, rfl, by omega, fun h4 => ⟨fun ts' hts' z xs H' e6 _ hz htk => ⟨.ref z, .ty "list", .type "list", .type "list", true, rfl, .ty _, .base (.lst hz), kit_ty (by decide +kernel), true, rfl, q' _ (e6 _ _ hp4)⟩, fun e' he' => (nomatch (hts.symm.trans he'))⟩, fun h => by omega⟩
    refine n_setH (PV := fun v H' => v = .int (pl (g ++ x) e : Int) ∧ H' p = some (.lst [.str (S x0), .int (off : Int), .bl b])) (valH_can1 (val_var rfl) fun Q' q' => ⟨g ++ x, e, rfl, by rw [List.length_append]; omega, hlex, fun H' e6 => q' _ _ ⟨rfl, e6 _ _ hp5⟩⟩) ?_
    rintro v H6 ⟨rfl, hp6⟩
    have epl : (pl (g ++ x) e : Int) = (g.length : Int) + (off : Int) := by
      unfold pl
      rw [List.length_append]
      omega
    rw [epl]
    refine e_ret (v := .bl true) (Val.is (val_andV (val_isi (A := "int") (b := true) (val_var rfl) (.base (.int _)) (by decide +kernel)) fun _ => val_andV (val_notV (val_isi (A := "int") (b := false) (val_var rfl) (.base (.int _)) (by decide +kernel))) fun _ => val_eq (val_var rfl) (val_I0 (val_lenS (val_var rfl) (size_line (by rw [S_len]; omega))) (val_ixL (val_var rfl) val_c (SqL.of hp6) rfl)) rfl) ?_) (q _)
    rw [S_len]
    simp
end
end G
namespace G
open PySem PySem.Spec PyProof.Rows L2 Evl
/-! ### what the top has written -/
section
variable {w : World} {K : PySem.W.Frag} {h : Heap} {mg : Str → Option Value}
theorem at_mk (X : K.In h) (G : h.Ns mainGlobals mg) {x : Str} {st : Stmt} {ps : List Str} {f : Addr} {oc : Value} {od an : Option Addr} {osl : Array (Option Value)} {kV doc pm cdv ct : Value}
    (hb : ∀ (kV doc pm : Value) (an : Option Addr) (cdv ct : Value) (us : List Value), us.length = ps.length → bindArgs (PySem.W.fnOf x x (defArgs st) (defBody st) (defScope st) .none kV doc pm an cdv ct) ⟨us, []⟩ = pure (ps.zip us))
    (a : PySem.W.nsIn K mainGlobals x = some (some (.ref f))) (l : K.lookup f = some ⟨oc, od, .func (PySem.W.fnOf x x (defArgs st) (defBody st) (defScope st) .none kV doc pm an cdv ct), osl⟩)
    (c : PySem.W.codeIn K cdv x = true) (k : PySem.W.keepIn K (.ref f) = true) : At K mg x st ps := ⟨f, _, fun_mk l c k, PySem.W.mg_of X G a, (fun_mk l c k).binds hb⟩
theorem str_mk (X : K.In h) (G : h.Ns mainGlobals mg) {x z : Str} {tk : Tok} (a : PySem.W.nsIn K mainGlobals x = some (some (.str z tk))) : ∃ tk, mg x = some (.str z tk) := ⟨_, PySem.W.mg_of X G a⟩
theorem int_mk (X : K.In h) (G : h.Ns mainGlobals mg) {x : Str} {i : Int} {tk : Tok} (a : PySem.W.nsIn K mainGlobals x = some (some (.int i tk))) : ∃ tk, mg x = some (.int i tk) := ⟨_, PySem.W.mg_of X G a⟩
theorem tup_mk (X : K.In h) (G : h.Ns mainGlobals mg) {x : Str} {a : Addr} {od : Option Addr} {its : Array Value} {n : Nat} {sl : Array (Option Value)} {xs : List V} (e : PySem.W.nsIn K mainGlobals x = some (some (.ref a)))
    (l : K.lookup a = some ⟨.type "tuple", od, .seq its n, sl⟩) (hz : its.size ≤ 1000) (hr : He.relAll xs its.toList = true) : ∃ a, mg x = some (.ref a) ∧ ∀ H, SqT K H a xs :=
  ⟨a, PySem.W.mg_of X G e, fun H => .inr ⟨_, its, n, l, rfl, rfl, size_line (by omega), He.relAll_ok hr⟩⟩
theorem esc_mk (X : K.In h) (G : h.Ns mainGlobals mg) {x : Str} {a : Addr} {n : Nat} {h1 h2 h3 : Int} {k1 k2 k3 t1 t2 t3 : Tok} (e : PySem.W.nsIn K mainGlobals x = some (some (.ref a)))
    (l : K.lookup a = some ⟨.type "dict", none, .dict #[⟨h1, .str "n" k1, .str "\n" t1⟩, ⟨h2, .str "\\" k2, .str "\\" t2⟩, ⟨h3, .str "\"" k3, .str "\"" t3⟩] n, #[]⟩)
    (g1 : h1 = PyData.keyHash w.params "n") (g2 : h2 = PyData.keyHash w.params "\\") (g3 : h3 = PyData.keyHash w.params "\"") (low : (a == sysModules) = false) :
    ∃ (a : Addr) (es : Array DictEntry) (n : Nat) (t1 t2 t3 : Tok), mg x = some (.ref a) ∧ KDict K w a es n ∧ ∀ z, PySem.W.nsIn K a z = some (escOf t1 t2 t3 z) := by
  refine ⟨a, _, n, t1, t2, t3, PySem.W.mg_of X G e, ⟨l, ⟨⟨_, _, rfl, g1⟩, ⟨_, _, rfl, g2⟩, ⟨_, _, rfl, g3⟩, trivial⟩, low⟩, fun z => ?_⟩
  unfold PySem.W.nsIn escOf
  rw [l]
  by_cases q1 : z = "n"
  · subst q1
    rw [if_pos rfl]
    rfl
  rw [if_neg q1]
  by_cases q2 : z = "\\"
  · subst q2
    rw [if_pos rfl]
    rfl
  rw [if_neg q2]
  by_cases q3 : z = "\""
  · subst q3
    rw [if_pos rfl]
    rfl
  rw [if_neg q3]
  have r1 : (Value.str "n" k1).isStr z = false := by
    show ("n" == z) = false
    exact beq_eq_false_iff_ne.mpr fun e => q1 e.symm
  have r2 : (Value.str "\\" k2).isStr z = false := by
    show ("\\" == z) = false
    exact beq_eq_false_iff_ne.mpr fun e => q2 e.symm
  have r3 : (Value.str "\"" k3).isStr z = false := by
    show ("\"" == z) = false
    exact beq_eq_false_iff_ne.mpr fun e => q3 e.symm
  simp [List.find?, r1, r2, r3]
  exact ⟨rfl, rfl, rfl⟩
end
theorem kit_own {K : PySem.W.Frag} {t : Value} {C : Addr} {b : Bool} (ne : (t == .ref C) = false) (hd : PySem.W.hasDictIn K C = true) (ht : PySem.W.typeIn K (.ref C) = some (.type "type")) (h : PySem.W.subIn K t (.ref C) = some b) : PySem.W.kitOne K t (.ref C) = some b := by
  obtain ⟨cd, hc, _⟩ := PySem.W.any_some hd
  unfold PySem.W.kitOne PySem.W.kitCls
  rw [if_neg (by rw [ne]; exact Bool.false_ne_true)]
  dsimp only
  rw [if_pos (by rw [hc, ht]; rfl)]
  exact h
section
variable {w : World} {K : PySem.W.Frag} {h : Heap} {mg : Str → Option Value}
theorem tke_mk (X : K.In h) (G : h.Ns mainGlobals mg) {tok lim Gc fI : Addr} {nm q : Str} {N : Addr} {bs bm : List Value} {sn : List Str} {sub : List Value} {ab : Bool} {col : Option Bool} {dd : Option Addr} {m0 m1 m2 m3 m5 : Option Value}
    {oc : Value} {od an : Option Addr} {osl : Array (Option Value)} {kV doc pm cdv ct : Value}
    (aT : PySem.W.nsIn K mainGlobals "TokenError" = some (some (.ref tok))) (aL : PySem.W.nsIn K mainGlobals "LimitError" = some (some (.ref lim))) (aG : PySem.W.nsIn K mainGlobals "GuanacoError" = some (some (.ref Gc)))
    (xL : K.lookup tok = some (excClassObj nm q tok N bs bm true sn sub ab col dd m0 m1 m2 m3 m5 "ValueError.__new__")) (xB : PySem.HandSPX.refsVE bm = true)
    (sa : PySem.W.findIn K (.ref tok) "__setattr__" = some (some (.builtin "object.__setattr__"))) (eC : PySem.W.subIn K (.ref tok) (.type "BaseException") = some true) (tC : PySem.W.typeIn K (.ref tok) = some (.type "type")) (kC : PySem.W.keepIn K (.ref tok) = true)
    (na : PySem.W.findIn K (.ref tok) "at" = some none) (iC : PySem.W.findIn K (.ref tok) "__init__" = some (some (.ref fI))) (tI : PySem.W.typeIn K (.ref fI) = some (.type "function"))
    (lI : K.lookup fI = some ⟨oc, od, .func (PySem.W.fnOf "__init__" "TokenError.__init__" (defArgs s_tinit) (defBody s_tinit) (defScope s_tinit) .none kV doc pm an cdv ct), osl⟩) (cI : PySem.W.codeIn K cdv "TokenError.__init__" = true) (kI : PySem.W.keepIn K (.ref fI) = true)
    (rd : PySem.W.readsIn K Gc (.type "type") = true) (rg : PySem.W.specialIn K (.ref Gc) "__getattribute__" = some (some (.builtin "type.__getattribute__"))) (gv : PySem.W.findCls K (.ref Gc) (.type "type") "__init__" = some (.val (.builtin "ValueError.__init__")))
    (lQ : PySem.W.excIn K lim He.veBase "ValueError.__new__" = true) (lK : PySem.W.keepIn K (.ref lim) = true) (lB : PySem.W.subIn K (.ref lim) (.type "BaseException") = some true) (lT : PySem.W.typeIn K (.ref lim) = some (.type "type")) : @Tke ⟨tok, lim⟩ w K mg := by
  letI : ErrA := ⟨tok, lim⟩
  exact { gT := PySem.W.mg_of X G aT, gL := PySem.W.mg_of X G aL, oex := ⟨⟨nm, q, N, bs, bm, sn, sub, ab, col, dd, m0, m1, m2, m3, m5, xL, xB⟩, sa, eC, tC, kC⟩, noat := na,
          ini := ⟨fI, _, fun_mk lI cI kI, (fun_mk (st := s_tinit) lI cI kI).binds (ps := ["self", "at"]) (fun _ _ _ _ _ _ us hl => match us, hl with | [_, _], _ => rfl), iC, tI⟩,
          gG := ⟨Gc, PySem.W.mg_of X G aG, ⟨rd, rg⟩, gv⟩, limQ := lQ, limK := lK, limB := lB, limT := lT }
theorem kit_type {t : Value} {A : String} {b : Bool} (ne : (t == .type A) = false) (hm : PySem.W.kitMeta A = true) (h : PySem.W.subIn K t (.type A) = some b) : PySem.W.kitOne K t (.type A) = some b := by
  unfold PySem.W.kitOne PySem.W.kitCls
  rw [if_neg (by rw [ne]; exact Bool.false_ne_true)]
  dsimp only
  rw [if_pos hm]
  exact h
theorem to_mk2 (X : K.In h) (G : h.Ns mainGlobals mg) {tok lim Gc : Addr} (B : Bo0 w K mg) (T : @Tke ⟨tok, lim⟩ w K mg) (aG : PySem.W.nsIn K mainGlobals "GuanacoError" = some (some (.ref Gc))) (aV : PySem.W.nsIn K mainGlobals "ValueError" = some none)
    (g1 : PySem.W.findIn K (.ref tok) "__getattribute__" = some (some (.builtin "BaseException.__getattribute__"))) (g2 : PySem.W.findIn K (.ref tok) "__getattr__" = some none) (g3 : PySem.W.hasDictIn K tok = true)
    (l4 : PySem.W.findIn K (.ref tok) "__class__" = some (some (.builtin "object.__class__"))) (l5 : PySem.W.specialIn K (.builtin "object.__class__") "__get__" = some (some (.builtin "getset_descriptor.__get__"))) (l6 : PySem.W.takesIn K (.builtin "object.__class__") = some true) (l7 : PySem.W.mroIn K tok (.type "object") = some true)
    (s3 : PySem.W.subIn K (.ref tok) (.ref tok) = some true) (s4 : PySem.W.subIn K (.ref tok) (.ref Gc) = some true) (s5 : PySem.W.subIn K (.ref tok) (.type "ValueError") = some true)
    (d1 : PySem.W.hasDictIn K Gc = true) (d2 : PySem.W.typeIn K (.ref Gc) = some (.type "type")) (e1 : (Value.ref tok == Value.ref Gc) = false) : @To2 ⟨tok, lim⟩ w K mg := by
  letI : ErrA := ⟨tok, lim⟩
  exact { toBo0 := B, toTke := T, xf := ⟨g1, g2, T.oex.exC, g3⟩, tokE := ⟨g1, g2, T.oex.exC, g3, l4, l5, l6, l7⟩, tt := PySem.W.exm_ref T.oex.exC g3 T.oex.tyC s3,
          tg := ⟨Gc, PySem.W.mg_of X G aG, kit_own e1 d1 d2 s4⟩, tv := kit_type rfl (by decide +kernel) s5, n_VE := PySem.W.mg_none_of X G aV }
end
section
variable {l : PySem.W.OpenLaw} {w : World} {K : PySem.W.Frag} {h : Heap} {mg : Str → Option Value} {fa : Addr}
theorem all_mk2 {tok lim : Addr} (T : @To2 ⟨tok, lim⟩ w K mg)
    (D_fill : At K mg "_law_fill" s_fill ["d"])
    (D_take : At K mg "_law_take" s_take ["d", "many"])
    (D_start : At K mg "_law_start" s_start ["script"])
    (D_tail : At K mg "tail_end" s_tail ["text", "at"])
    (D_comm : At K mg "skip_comment" s_comm ["text", "start"])
    (D_blanks : At K mg "skip_blanks" s_blanks ["text", "at"])
    (D_word : At K mg "read_word" s_word ["text", "at"])
    (D_number : At K mg "read_number" s_number ["text", "at"])
    (D_variable : At K mg "read_variable" s_variable ["text", "at"])
    (D_string : At K mg "read_string" s_string ["text", "start"])
    (D_token : At K mg "read_token" s_token ["text", "at"])
    (D_tokens : At K mg "read_tokens" s_tokens ["text"])
    (D_good : At K mg "_law_good" s_good ["d"])
    (D_letters : At K mg "_law_letters" s_letters ["d", "many"])
    (D_fault : At K mg "_law_fault" s_fault ["d"])
    (D_raised : At K mg "_law_raised_at" s_raised ["text"])
    {f : Addr} {oc : Value} {od an : Option Addr} {osl : Array (Option Value)} {kV doc pm cdv ct : Value} (X : K.In h) (G : h.Ns mainGlobals mg) (hfa : mg "law" = some (.ref fa)) (a : PySem.W.nsIn K mainGlobals "law" = some (some (.ref f)))
    (lk : K.lookup f = some ⟨oc, od, .func (PySem.W.fnOf "law" "law" (defArgs s_law2) (defBody s_law2) (defScope s_law2) .none kV doc pm an cdv ct), osl⟩) (c : PySem.W.codeIn K cdv "law" = true) (k : PySem.W.keepIn K (.ref f) = true) :
    ∃ fd : FuncData, (∀ (s : Shared) (u : Value), BindsTo s fd ⟨[u], []⟩ [("script", u)]) ∧ ∀ base : Heap, K.In base → base.Ns mainGlobals mg → FnOk l.prog w K mg base CX0 8 fa fd ["script"] (spLaw2 K) := by
  letI : ErrA := ⟨tok, lim⟩
  have e := hfa.symm.trans (PySem.W.mg_of X G a)
  cases e
  refine ⟨_, fun s v => .of_eq rfl, fun base _ _ => ok_law2 (fun_mk (st := s_law2) lk c k) T ?_ ?_ ?_ ?_ ?_⟩
  all_goals
    have C_fill := can_fill (P := l.prog) (w := w) (base := base) D_fill T.toBoD
    have C_take := can_take D_take T.toBoD C_fill
  · exact can_start D_start T.toBoD
  · exact can_good D_good T.toBo C_take
  · exact can_fault D_fault T.toBo C_take (can_letters D_letters T.toBo C_take)
  all_goals
    have C_tail := can_tail (P := l.prog) (w := w) (base := base) D_tail T.toBo
    have C_tokens := can_tokens D_tokens T.toBo (can_token D_token T.toBo (can_word D_word T.toBo C_tail) (can_number D_number T.toBo C_tail) (can_variable D_variable T.toBo C_tail) (can_string D_string T.toBo)) (can_blanks D_blanks T.toBo (can_comm D_comm T.toBo))
  · exact C_tokens
  · exact can_raised D_raised T C_tokens
end
end G
open PySem PySem.W PyProof.Rows in
set_option maxRecDepth 100000 in
set_option maxHeartbeats 0 in
theorem PySem.Challenge.cw_guanaco_k02_token_errors_holds : PySem.Challenge.rw_guanaco_k02_token_errors.Holds := by
  w_on; o_law; k_head; (case hw => w_witness2)
  k_fill
  refine L2.walk_of (l := PySem.Challenge.rw_guanaco_k02_token_errors) (n := 63) (k := 8) (x := "script") (CX := fun _ => L2.CX0) (sp := fun w => G.spLaw2 _) rfl (by decide) rfl ⟨rfl, by decide, by decide⟩ (fun w h Y => PySem.W.kIn_of Y) ?F (fun _ _ a ns hl _ hS => ⟨a, ns, rfl, hS, hl, fun _ => rfl⟩) (fun _ _ _ _ _ h => h)
  case F =>
    intro w mg fa h KX GX hmg
    refine' G.all_mk2 (G.to_mk2 KX GX ?q_B ?q_T ?q_aG2 ?q_aV ?q_g1 ?q_g2 ?q_g3 ?q_l4 ?q_l5 ?q_l6 ?q_l7 ?q_s3 ?q_s4 ?q_s5 ?q_d1 ?q_d2 ?q_e1) ?D_fill ?D_take ?D_start ?D_tail ?D_comm ?D_blanks ?D_word ?D_number ?D_variable ?D_string ?D_token ?D_tokens ?D_good ?D_letters ?D_fault ?D_raised KX GX hmg ?q_a ?q_l ?q_c ?q_k
    case q_T =>
      refine' G.tke_mk KX GX ?q_aT ?q_aL ?q_aG ?q_xL ?q_xB ?q_sa ?q_eC ?q_tC ?q_kC ?q_na ?q_iC ?q_tI ?q_lI ?q_cI ?q_kI ?q_rd ?q_rg ?q_gv ?q_lQ ?q_lK ?q_lB ?q_lT
      (case q_aT => k_is)
      (case q_aL => k_is)
      (case q_aG => k_is)
      (case q_xL => k_is)
      (case q_xB => decide +kernel)
      (case q_sa => k_is)
      (case q_eC => k_is)
      (case q_tC => k_is)
      (case q_kC => k_is)
      (case q_na => k_is)
      (case q_iC => k_is)
      (case q_tI => k_is)
      (case q_lI => k_is)
      (case q_cI => k_is)
      (case q_kI => k_is)
      (case q_rd => k_is)
      (case q_rg => k_is)
      (case q_gv => k_is)
      (case q_lQ => k_exc)
      (case q_lK => k_is)
      (case q_lB => k_is)
      (case q_lT => k_is)
    (case q_aG2 => k_is)
    (case q_aV => k_is)
    (case q_g1 => k_is)
    (case q_g2 => k_is)
    (case q_g3 => k_is)
    (case q_l4 => k_is)
    (case q_l5 => k_is)
    (case q_l6 => k_is)
    (case q_l7 => k_is)
    (case q_s3 => k_is)
    (case q_s4 => k_is)
    (case q_s5 => k_is)
    (case q_d1 => k_is)
    (case q_d2 => k_is)
    (case q_e1 => rfl)
    case q_a => k_is
    case q_l => k_is
    case q_c => k_is
    case q_k => k_is
    case D_fill =>
      refine' G.at_mk KX GX (fun _ _ _ _ _ _ us hl => match us, hl with | [_], _ => rfl) ?q_a ?q_l ?q_c ?q_k
      (case q_a => k_is)
      (case q_l => k_is)
      (case q_c => k_is)
      (case q_k => k_is)
    case D_take =>
      refine' G.at_mk KX GX (fun _ _ _ _ _ _ us hl => match us, hl with | [_, _], _ => rfl) ?q_a ?q_l ?q_c ?q_k
      (case q_a => k_is)
      (case q_l => k_is)
      (case q_c => k_is)
      (case q_k => k_is)
    case D_start =>
      refine' G.at_mk KX GX (fun _ _ _ _ _ _ us hl => match us, hl with | [_], _ => rfl) ?q_a ?q_l ?q_c ?q_k
      (case q_a => k_is)
      (case q_l => k_is)
      (case q_c => k_is)
      (case q_k => k_is)
    case D_tail =>
      refine' G.at_mk KX GX (fun _ _ _ _ _ _ us hl => match us, hl with | [_, _], _ => rfl) ?q_a ?q_l ?q_c ?q_k
      (case q_a => k_is)
      (case q_l => k_is)
      (case q_c => k_is)
      (case q_k => k_is)
    case D_comm =>
      refine' G.at_mk KX GX (fun _ _ _ _ _ _ us hl => match us, hl with | [_, _], _ => rfl) ?q_a ?q_l ?q_c ?q_k
      (case q_a => k_is)
      (case q_l => k_is)
      (case q_c => k_is)
      (case q_k => k_is)
    case D_blanks =>
      refine' G.at_mk KX GX (fun _ _ _ _ _ _ us hl => match us, hl with | [_, _], _ => rfl) ?q_a ?q_l ?q_c ?q_k
      (case q_a => k_is)
      (case q_l => k_is)
      (case q_c => k_is)
      (case q_k => k_is)
    case D_word =>
      refine' G.at_mk KX GX (fun _ _ _ _ _ _ us hl => match us, hl with | [_, _], _ => rfl) ?q_a ?q_l ?q_c ?q_k
      (case q_a => k_is)
      (case q_l => k_is)
      (case q_c => k_is)
      (case q_k => k_is)
    case D_number =>
      refine' G.at_mk KX GX (fun _ _ _ _ _ _ us hl => match us, hl with | [_, _], _ => rfl) ?q_a ?q_l ?q_c ?q_k
      (case q_a => k_is)
      (case q_l => k_is)
      (case q_c => k_is)
      (case q_k => k_is)
    case D_variable =>
      refine' G.at_mk KX GX (fun _ _ _ _ _ _ us hl => match us, hl with | [_, _], _ => rfl) ?q_a ?q_l ?q_c ?q_k
      (case q_a => k_is)
      (case q_l => k_is)
      (case q_c => k_is)
      (case q_k => k_is)
    case D_string =>
      refine' G.at_mk KX GX (fun _ _ _ _ _ _ us hl => match us, hl with | [_, _], _ => rfl) ?q_a ?q_l ?q_c ?q_k
      (case q_a => k_is)
      (case q_l => k_is)
      (case q_c => k_is)
      (case q_k => k_is)
    case D_token =>
      refine' G.at_mk KX GX (fun _ _ _ _ _ _ us hl => match us, hl with | [_, _], _ => rfl) ?q_a ?q_l ?q_c ?q_k
      (case q_a => k_is)
      (case q_l => k_is)
      (case q_c => k_is)
      (case q_k => k_is)
    case D_tokens =>
      refine' G.at_mk KX GX (fun _ _ _ _ _ _ us hl => match us, hl with | [_], _ => rfl) ?q_a ?q_l ?q_c ?q_k
      (case q_a => k_is)
      (case q_l => k_is)
      (case q_c => k_is)
      (case q_k => k_is)
    case D_good =>
      refine' G.at_mk KX GX (fun _ _ _ _ _ _ us hl => match us, hl with | [_], _ => rfl) ?q_a ?q_l ?q_c ?q_k
      (case q_a => k_is)
      (case q_l => k_is)
      (case q_c => k_is)
      (case q_k => k_is)
    case D_letters =>
      refine' G.at_mk KX GX (fun _ _ _ _ _ _ us hl => match us, hl with | [_, _], _ => rfl) ?q_a ?q_l ?q_c ?q_k
      (case q_a => k_is)
      (case q_l => k_is)
      (case q_c => k_is)
      (case q_k => k_is)
    case D_fault =>
      refine' G.at_mk KX GX (fun _ _ _ _ _ _ us hl => match us, hl with | [_], _ => rfl) ?q_a ?q_l ?q_c ?q_k
      (case q_a => k_is)
      (case q_l => k_is)
      (case q_c => k_is)
      (case q_k => k_is)
    case D_raised =>
      refine' G.at_mk KX GX (fun _ _ _ _ _ _ us hl => match us, hl with | [_], _ => rfl) ?q_a ?q_l ?q_c ?q_k
      (case q_a => k_is)
      (case q_l => k_is)
      (case q_c => k_is)
      (case q_k => k_is)
    case q_B =>
      refine' ⟨⟨PySem.W.mg_none_of KX GX ?q_z0, PySem.W.mg_none_of KX GX ?q_z1⟩, PySem.W.mg_none_of KX GX ?q_z2, PySem.W.mg_none_of KX GX ?q_z3, PySem.W.mg_none_of KX GX ?q_z4, PySem.W.mg_none_of KX GX ?q_z5, PySem.W.mg_none_of KX GX ?q_z6, PySem.W.mg_none_of KX GX ?q_z7, PySem.W.mg_none_of KX GX ?q_z8, G.str_mk KX GX ?q_s0, G.str_mk KX GX ?q_s1, G.str_mk KX GX ?q_s2, G.str_mk KX GX ?q_s3, G.str_mk KX GX ?q_s4, G.str_mk KX GX ?q_s5, G.int_mk KX GX ?q_i0, G.int_mk KX GX ?q_i1, G.int_mk KX GX ?q_i2, G.tup_mk KX GX ?q_w0 ?q_w1 ?q_w2 ?q_w3, G.tup_mk KX GX ?q_g0 ?q_g1 ?q_g2 ?q_g3, G.esc_mk KX GX ?q_e0 ?q_e1 ?q_e2 ?q_e3 ?q_e4 ?q_e5⟩
      (case q_z0 => k_is)
      (case q_z1 => k_is)
      (case q_z2 => k_is)
      (case q_z3 => k_is)
      (case q_z4 => k_is)
      (case q_z5 => k_is)
      (case q_z6 => k_is)
      (case q_z7 => k_is)
      (case q_z8 => k_is)
      (case q_s0 => k_is)
      (case q_s1 => k_is)
      (case q_s2 => k_is)
      (case q_s3 => k_is)
      (case q_s4 => k_is)
      (case q_s5 => k_is)
      (case q_i0 => k_is)
      (case q_i1 => k_is)
      (case q_i2 => k_is)
      (case q_w0 => k_is)
      (case q_w1 => k_is)
      (case q_w2 => decide)
      (case q_w3 => decide +kernel)
      (case q_g0 => k_is)
      (case q_g1 => k_is)
      (case q_g2 => decide)
      (case q_g3 => decide +kernel)
      (case q_e0 => k_is)
      (case q_e1 => k_is)
      (case q_e2 => rfl)
      (case q_e3 => rfl)
      (case q_e4 => rfl)
      (case q_e5 => decide)

