import PyProof.Rows.All
import Wide.All
import OpenK.AllK
import Wide.FinOn
import HandS.Base
import HandS.Call
import HandS.List
import HandS.Comp
import HandS.Ends
import HandS.Words
import HandS.ForMost
import HandS.Style
import HandS.NoneIn
import HandS.IsInst
import HandS.Wide
import HandS.More
import HandS.Codes
import HandS.SlotsOwn
import HandS.Property
import HandS.MakeKwOnly
import HandS.CallLocal
import HandS.EndBits
import PyProof.ReprLen
import HandS.OwnEq
import HandS.Zip
import KE.KIsAll
import KE.KExcIs
import HandS.Exc
import HandS.ExcOwn
import HandS.TryOnly
import HandS.WordsExc
import HandS.Nested
import HandS.EndTab
import HandS.NestedK
import KE.KNest
import PySem.Challenge.RW_sparetails_k28_rules_called
set_option Elab.async false
set_option linter.all false
set_option maxRecDepth 100000
namespace Kt
open PySem L2
/-! ### what is known of the heap, part by part -/
abbrev SP := Hp → Prop
def Le (G H : Hp) : Prop := ∀ a o, G a = some o → H a = some o
def sub (H G : Hp) : Hp := fun a => if (G a).isSome = true then none else H a
def Sep : List SP → Hp → Prop
  | [], _ => True
  | P :: Ps, H => ∃ G, Le G H ∧ P G ∧ Sep Ps (sub H G)
def pt (a : Addr) (o : HO) : SP := fun G => G a = some o
theorem sub_of {H G : Hp} {a : Addr} (h : G a = none) : sub H G a = H a := by
  unfold sub; rw [h]; rfl
theorem sub_in {H G : Hp} {a : Addr} {o : HO} (h : G a = some o) : sub H G a = none := by
  unfold sub; rw [h]; rfl
theorem sub_some {H G : Hp} {a : Addr} {o : HO} (h : sub H G a = some o) : G a = none ∧ H a = some o := by
  cases e : G a with
  | none => rw [sub_of e] at h; exact ⟨rfl, h⟩
  | some u => rw [sub_in e] at h; cases h
theorem Sep.mono : ∀ {Ps : List SP} {H H' : Hp}, Le H H' → Sep Ps H → Sep Ps H'
  | [], _, _, _, _ => trivial
  | P :: Ps, H, H', l, ⟨G, h1, h2, h3⟩ => ⟨G, fun a o e => l a o (h1 a o e), h2, Sep.mono (fun a o e => by
      obtain ⟨e1, e2⟩ := sub_some e
      rw [sub_of e1]; exact l a o e2) h3⟩
theorem Sep.tl {P : SP} {Ps : List SP} {H : Hp} : Sep (P :: Ps) H → Sep Ps H := fun ⟨G, _, _, h⟩ => h.mono fun a o e => (sub_some e).2
theorem Sep.swap {P Q : SP} {Ps : List SP} {H : Hp} : Sep (P :: Q :: Ps) H → Sep (Q :: P :: Ps) H := fun ⟨G1, l1, p1, G2, l2, p2, h⟩ => by
  have d : ∀ a o, G1 a = some o → G2 a = none := fun a o e => by
    cases e2 : G2 a with
    | none => rfl
    | some u => have := l2 a u e2; rw [sub_in e] at this; cases this
  refine ⟨G2, fun a o e => (sub_some (l2 a o e)).2, p2, G1, fun a o e => ?_, p1, h.mono fun a o e => ?_⟩
  · rw [sub_of (d a o e)]; exact l1 a o e
  · obtain ⟨e1, e2⟩ := sub_some e
    obtain ⟨e3, e4⟩ := sub_some e2
    rw [sub_of e3, sub_of e1]; exact e4
theorem Sep.cons_mono {P : SP} {Ps Qs : List SP} {H : Hp} (f : ∀ H', Sep Ps H' → Sep Qs H') : Sep (P :: Ps) H → Sep (P :: Qs) H := fun ⟨G, h1, h2, h3⟩ => ⟨G, h1, h2, f _ h3⟩
theorem Sep.hd_mono {P Q : SP} {Ps : List SP} {H : Hp} (f : ∀ G, P G → Q G) : Sep (P :: Ps) H → Sep (Q :: Ps) H := fun ⟨G, h1, h2, h3⟩ => ⟨G, h1, f _ h2, h3⟩
/-- one part to the front -/
inductive Pick (A : SP) : List SP → List SP → Prop where
  | hd {Ps : List SP} : Pick A (A :: Ps) Ps
  | tl {P : SP} {Ps Qs : List SP} : Pick A Ps Qs → Pick A (P :: Ps) (P :: Qs)
theorem Pick.go {A : SP} {Ps Qs : List SP} (p : Pick A Ps Qs) : ∀ {H : Hp}, Sep Ps H → Sep (A :: Qs) H := by
  induction p with
  | hd => exact fun h => h
  | tl _ ih => exact fun h => (h.cons_mono fun _ => ih).swap
theorem Pick.back {A : SP} {Ps Qs : List SP} (p : Pick A Ps Qs) : ∀ {H : Hp}, Sep (A :: Qs) H → Sep Ps H := by
  induction p with
  | hd => exact fun h => h
  | tl _ ih => exact fun h => h.swap.cons_mono fun _ => ih
inductive Dr : List SP → List SP → Prop where
  | all {Ps : List SP} : Dr Ps Ps
  | skip {P : SP} {Ps Qs : List SP} : Dr Ps Qs → Dr (P :: Ps) Qs
theorem Dr.go {Ps Qs : List SP} (p : Dr Ps Qs) : ∀ {H : Hp}, Sep Ps H → Sep Qs H := by
  induction p with
  | all => exact fun h => h
  | skip _ ih => exact fun h => ih h.tl
inductive Sel : List SP → List SP → List SP → Prop where
  | nil {Ps Qs : List SP} : Dr Ps Qs → Sel [] Ps Qs
  | cons {A : SP} {As Ps Qs Rs : List SP} : Pick A Ps Qs → Sel As Qs Rs → Sel (A :: As) Ps Rs
theorem Sel.go {As Ps Rs : List SP} (p : Sel As Ps Rs) : ∀ {H : Hp}, Sep Ps H → Sep (As ++ Rs) H := by
  induction p with
  | nil d => exact fun h => d.go h
  | cons p _ ih => exact fun h => (p.go h).cons_mono fun _ => ih
theorem Sep.sel {As Ps Rs : List SP} {H : Hp} (h : Sep Ps H) (p : Sel As Ps Rs) : Sep (As ++ Rs) H := p.go h
theorem Sep.s1 {A : SP} {Ps Rs : List SP} {H : Hp} (h : Sep Ps H) (p : Sel [A] Ps Rs) : Sep (A :: Rs) H := h.sel p
theorem Sep.s2 {A B : SP} {Ps Rs : List SP} {H : Hp} (h : Sep Ps H) (p : Sel [A, B] Ps Rs) : Sep (A :: B :: Rs) H := h.sel p
theorem Sep.s3 {A B C : SP} {Ps Rs : List SP} {H : Hp} (h : Sep Ps H) (p : Sel [A, B, C] Ps Rs) : Sep (A :: B :: C :: Rs) H := h.sel p
theorem Sep.s4 {A B C D : SP} {Ps Rs : List SP} {H : Hp} (h : Sep Ps H) (p : Sel [A, B, C, D] Ps Rs) : Sep (A :: B :: C :: D :: Rs) H := h.sel p
theorem Sep.s5 {A B C D E : SP} {Ps Rs : List SP} {H : Hp} (h : Sep Ps H) (p : Sel [A, B, C, D, E] Ps Rs) : Sep (A :: B :: C :: D :: E :: Rs) H := h.sel p
theorem Sep.s6 {A B C D E F : SP} {Ps Rs : List SP} {H : Hp} (h : Sep Ps H) (p : Sel [A, B, C, D, E, F] Ps Rs) : Sep (A :: B :: C :: D :: E :: F :: Rs) H := h.sel p
theorem Sep.s7 {A B C D E F G : SP} {Ps Rs : List SP} {H : Hp} (h : Sep Ps H) (p : Sel [A, B, C, D, E, F, G] Ps Rs) : Sep (A :: B :: C :: D :: E :: F :: G :: Rs) H := h.sel p
theorem Sep.s8 {A B C D E F G I : SP} {Ps Rs : List SP} {H : Hp} (h : Sep Ps H) (p : Sel [A, B, C, D, E, F, G, I] Ps Rs) : Sep (A :: B :: C :: D :: E :: F :: G :: I :: Rs) H := h.sel p
theorem Sep.pk {A : SP} {Ps Qs : List SP} {H : Hp} (h : Sep Ps H) (p : Pick A Ps Qs) : Sep (A :: Qs) H := p.go h
/-- one part looked up, put otherwise -/
inductive Repl (a : Addr) (o o' : HO) : List SP → List SP → Prop where
  | hd {Ps : List SP} : Repl a o o' (pt a o :: Ps) (pt a o' :: Ps)
  | tl {P : SP} {Ps Qs : List SP} : Repl a o o' Ps Qs → Repl a o o' (P :: Ps) (P :: Qs)
theorem Repl.pick {a : Addr} {o o' : HO} {Ps Qs : List SP} (r : Repl a o o' Ps Qs) : ∃ Rs, Pick (pt a o) Ps Rs ∧ Pick (pt a o') Qs Rs := by
  induction r with
  | hd => exact ⟨_, .hd, .hd⟩
  | tl _ ih => obtain ⟨Rs, h1, h2⟩ := ih; exact ⟨_, .tl h1, .tl h2⟩
theorem Sep.hd_at {a : Addr} {o : HO} {Ps : List SP} {H : Hp} : Sep (pt a o :: Ps) H → H a = some o := fun ⟨_, l, h, _⟩ => l a o h
theorem Sep.at_ {a : Addr} {o : HO} {Ps Qs : List SP} {H : Hp} (h : Sep Ps H) (p : Pick (pt a o) Ps Qs) : H a = some o := (p.go h).hd_at
theorem Sep.hd_set {a : Addr} {o : HO} {Ps : List SP} {H : Hp} (o' : HO) : Sep (pt a o :: Ps) H → Sep (pt a o' :: Ps) (upd H a o') := fun ⟨G, l, h, s⟩ => by
  have h' : G a = some o := h
  refine ⟨upd G a o', fun b u e => ?_, upd_same, s.mono fun b u e => ?_⟩
  · by_cases hb : b = a
    · subst hb; rw [upd_same] at e ⊢; exact e
    · rw [upd_ne hb] at e ⊢; exact l b u e
  · obtain ⟨e1, e2⟩ := sub_some e
    have hb : b ≠ a := fun q => by rw [q, h'] at e1; cases e1
    rw [sub_of (by rw [upd_ne hb]; exact e1), upd_ne hb]; exact e2
theorem Sep.set {a : Addr} {o o' : HO} {Ps Qs : List SP} {H : Hp} (h : Sep Ps H) (r : Repl a o o' Ps Qs) : Sep Qs (upd H a o') := by
  obtain ⟨Rs, h1, h2⟩ := r.pick
  exact h2.back ((h1.go h).hd_set o')
theorem Sep.new {p : Addr} {Ps : List SP} {H : Hp} (o : HO) (h : Sep Ps H) (n : H p = none) : Sep (pt p o :: Ps) (upd H p o) := by
  refine ⟨fun b => if b = p then some o else none, fun b u e => ?_, if_pos rfl, h.mono fun b u e => ?_⟩
  · by_cases hb : b = p
    · subst hb; rw [upd_same]; simpa using e
    · simp [hb] at e
  · have hb : b ≠ p := fun q => by rw [q, n] at e; cases e
    rw [sub_of (by simp [hb]), upd_ne hb]; exact e
/-- several parts as one -/
theorem Sep.flat : ∀ {As Rs : List SP} {H : Hp}, Sep (Sep As :: Rs) H → Sep (As ++ Rs) H
  | [], Rs, H, h => h.tl
  | A :: As, Rs, H, ⟨G, l, ⟨G1, l1, a, t⟩, r⟩ => by
    refine ⟨G1, fun b o e => l b o (l1 b o e), a, Sep.flat ⟨sub G G1, fun b o e => ?_, t, r.mono fun b o e => ?_⟩⟩
    · obtain ⟨e1, e2⟩ := sub_some e
      rw [sub_of e1]; exact l b o e2
    · obtain ⟨e1, e2⟩ := sub_some e
      have g1 : G1 b = none := by
        cases q : G1 b with
        | none => rfl
        | some u => have := l1 b u q; rw [e1] at this; cases this
      have g2 : sub G G1 b = none := by rw [sub_of g1]; exact e1
      rw [sub_of g2, sub_of g1]; exact e2
theorem Sep.unflat : ∀ {As Rs : List SP} {H : Hp}, Sep (As ++ Rs) H → Sep (Sep As :: Rs) H
  | [], Rs, H, h => ⟨fun _ => none, fun _ _ (e : (none : Option HO) = some _) => (Option.noConfusion rfl (heq_of_eq e)), trivial, Sep.mono (H := H) (fun a o e => by rw [sub_of rfl]; exact e) h⟩
  | A :: As, Rs, H, ⟨G1, l1, a, t⟩ => by
    obtain ⟨G2, l2, b, r⟩ := Sep.unflat (As := As) (Rs := Rs) t
    have d : ∀ x o, G2 x = some o → G1 x = none := fun x o e => (sub_some (l2 x o e)).1
    refine ⟨fun x => if (G1 x).isSome = true then G1 x else G2 x, fun x o e => ?_, ⟨G1, fun x o e => ?_, a, b.mono fun x o e => ?_⟩, r.mono fun x o e => ?_⟩
    · cases q : G1 x with
      | none => simp only [q] at e; exact (sub_some (l2 x o (by simpa using e))).2
      | some u => simp only [q] at e; rw [← e]; exact l1 x u q
    · simp [e]
    · have g := d x o e
      rw [sub_of g]; simp [g, e]
    · obtain ⟨e1, e2⟩ := sub_some e
      obtain ⟨e3, e4⟩ := sub_some e2
      rw [sub_of (by simp [e3, e1])]; exact e4
theorem Sep.ex {α : Type} {P : α → SP} {Ps : List SP} {H : Hp} : Sep ((fun G => ∃ x, P x G) :: Ps) H → ∃ x, Sep (P x :: Ps) H := fun ⟨G, l, ⟨x, h⟩, t⟩ => ⟨x, G, l, h, t⟩
theorem Sep.ex_in {α : Type} {P : α → SP} {Ps : List SP} {H : Hp} (x : α) : Sep (P x :: Ps) H → Sep ((fun G => ∃ x, P x G) :: Ps) H := fun ⟨G, l, h, t⟩ => ⟨G, l, ⟨x, h⟩, t⟩
theorem Sep.pure {p : Prop} {P : SP} {Ps : List SP} {H : Hp} : Sep ((fun G => p ∧ P G) :: Ps) H → p ∧ Sep (P :: Ps) H := fun ⟨G, l, ⟨x, h⟩, t⟩ => ⟨x, G, l, h, t⟩
theorem Sep.pure_in {p : Prop} {P : SP} {Ps : List SP} {H : Hp} (x : p) : Sep (P :: Ps) H → Sep ((fun G => p ∧ P G) :: Ps) H := fun ⟨G, l, h, t⟩ => ⟨G, l, ⟨x, h⟩, t⟩
/-- two known objects stand apart -/
theorem Sep.ne {a b : Addr} {o u : HO} {Ps : List SP} {H : Hp} : Sep (pt a o :: pt b u :: Ps) H → a ≠ b := fun ⟨G, l, h, G2, l2, h2, _⟩ e => by
  subst e
  have q := l2 a u h2
  rw [sub_in (show G a = some o from h)] at q
  cases q
/-- what is kept beside -/
theorem Sep.le_nil {H : Hp} : Sep [] H := trivial
end Kt

set_option Elab.async false
set_option linter.all false
set_option maxRecDepth 100000
namespace Kt
open PySem L2 PyProof.Rows
/-! ### defs of the text by name -/
/-- the def x of the top stands at f -/
structure Dt (K : PySem.W.Frag) (mg : Str → Option Value) (x : Str) (st : Stmt) (ps : List Str) (f : Addr) : Prop where
  fn : ∃ fd, Fun K x x st f fd ∧ Binds K fd ps []
  at_ : mg x = some (.ref f)
structure Df (P : Program) (w : World) (K : PySem.W.Frag) (mg : Str → Option Value) (base : Heap) (k : Nat) (x : Str) (f : Addr) (ps : List Str) (sp : Sp) : Prop where
  fn : ∃ fd, FnOk P w K mg base CX0 k f fd ps sp ∧ Binds K fd ps []
  at_ : mg x = some (.ref f)
  kp : PySem.W.keepIn K (.ref f) = true
section
variable {P : Program} {w : World} {K : PySem.W.Frag} {mg : Str → Option Value} {base : Heap}
theorem Dt.ok {x : Str} {st : Stmt} {f : Addr} {N ps : List Str} {k : Nat} {sp : Sp} (T : Dt K mg x st ps f) (S : FnScope N ps (defScope st)) (len : ∀ vs H Q E, sp vs H Q E → vs.length = ps.length)
    (hbody : ∀ (cdv : Value) (A : Around) (outer : List Env) (s : Shared) (H : Hp) (vs : List V) (Q : VK) (E : XK), Room k (A.deeper (envOfC x (defScope st) s.heap.objs.size f cdv)) → sp vs H Q E →
      ∃ t, PSs (cxOf CX0 P w K mg base N x (defScope st) f cdv A outer s H E).nox (defBody st) t ∧ t { nx := fun _ H' => Q .non H', rt := Q } (start N vs) H) : Df P w K mg base (k + 1) x f ps sp := by
  obtain ⟨fd, F, b⟩ := T.fn
  exact ⟨⟨fd, F.ok S len hbody, b⟩, T.at_, F.kp⟩
end
section
variable {X : Cx} {k : Nat} {x : Str} {f : Addr} {ps : List Str} {sp : Sp} {e : Expr} {es : List Expr} {t : TA} {p pos : Pos}
theorem pe_df (D : Df X.prog X.w X.K X.mg X.base k x f ps sp) (hr : Room k X.A) (ha : PA X (e :: es) t) (hg : Gl X x := by rfl) (hd : (x == ("__debug__" : Str)) = false := by decide)
    (he : starEach (e :: es) X.env = (false, eval e X.env) :: starEach es X.env := by rfl) (hpl : (backTo pos (starEach es X.env)).any (·.1) = false := by rfl) : PE X (.Call (.Name x p) (e :: es) [] pos) (tCall sp [] E0 t) := by
  obtain ⟨fd, F, b⟩ := D.fn
  exact pe_call F hr hg D.at_ D.kp b .nil pass0 ha hd he hpl
theorem pe_df0 (D : Df X.prog X.w X.K X.mg X.base k x f [] sp) (hr : Room k X.A) (hg : Gl X x := by rfl) (hd : (x == ("__debug__" : Str)) = false := by decide) : PE X (.Call (.Name x p) [] [] pos) (tCall sp [] E0 tNil) := by
  obtain ⟨fd, F, b⟩ := D.fn
  exact pe_call0 F hr hg D.at_ D.kp b .nil pass0 hd
end
/-! ### xs[i] as it is read ahead of xs[i] op= .. -/
section
variable {X : Cx}
theorem get_list : PGet X (rIxL X.K) := by
  intro pins s σ H x y v u Q I rx ry h
  obtain ⟨p, xs, i, z, rfl, rfl, hq, he, q⟩ := h
  cases rx
  obtain ⟨t, rfl⟩ := ry
  obtain ⟨its, r, pl, hz⟩ := I.list hq
  obtain ⟨j, h1, h2, h3, h4, h5⟩ := atI_get he
  obtain ⟨w, ew, rw'⟩ := r.get h2
  have hl := r.length
  have hn := line63
  have fin : EP X pins σ Q w s := ⟨z, H, I, rw', q⟩
  by_cases h0 : 0 ≤ i
  · have hj : i.toNat = j := by
      rw [seqIndex_of h0 h5] at h1
      exact Option.some.inj h1
    exact wpAny_getItem_list pl.isList h0 (by omega) (by rw [hj]; simpa using ew) fin
  · have hj : (i + (its.toArray.size : Int)).toNat = j := by
      rw [seqIndex_neg (by omega) h4] at h1
      rw [List.size_toArray, ← hl]
      exact Option.some.inj h1
    exact wpAny_getItem_list_neg pl.isList (by omega) (by rw [List.size_toArray] <;> omega) (by omega) (by rw [hj]; simpa using ew) fin
/-! ### operators that serve several kinds -/
def rOr (r r' : R2) : R2 := fun x y H Q => r x y H Q ∨ r' x y H Q
theorem op_or {f : Value → Value → Sem Value} {r r' : R2} (h : OpR X f r) (h' : OpR X f r') : OpR X f (rOr r r') := OpR.or h h'
def rAddI : R2 := rI0 fun i j => .int (i + j)
def rSubI : R2 := rI0 fun i j => .int (i - j)
def rStrA : R2 := fun x y H Q => ∃ i j, x = .str i ∧ y = .str j ∧ i.length + j.length ≤ sizeLine ∧ Q (.str (i ++ j)) H
def rAddA : R2 := rOr rAddI (rOr rCat rStrA)
theorem op_addA : OpR X (binaryOp .Add) rAddA := op_or op_add (op_or op_cat op_add_str)
def rMulI : R2 := rI CMul fun i j => .int (i * j)
def rMulA : R2 := rOr rMulI rRep
theorem op_mulA : OpR X (binaryOp .Mult) rMulA := op_or op_mul op_rep
def rModI : R2 := rI (fun _ j => 0 < j) fun i j => .int (i % j)
def rDivI : R2 := rI CDiv fun i j => .int (i / j)
def rPowI : R2 := rI CPow fun i j => .int (i ^ j.toNat)
def rEqA (K : PySem.W.Frag) : R2 := rOr rEq (rEqD K)
def rNeA (K : PySem.W.Frag) : R2 := rOr rNe (rNeD K)
theorem op_eqA (hu : X.A.units + 64 < cLine) : OpR X (compareOp .Eq) (rEqA X.K) := op_or op_eq (op_eqD hu)
theorem op_neA (hu : X.A.units + 64 < cLine) : OpR X (compareOp .NotEq) (rNeA X.K) := op_or op_ne (op_neD hu)
def rLtI : R2 := rI0 fun i j => .bl (decide (i < j))
def rLeI : R2 := rI0 fun i j => .bl (decide (i ≤ j))
def rGtI : R2 := rI0 fun i j => .bl (decide (j < i))
def rGeI : R2 := rI0 fun i j => .bl (decide (j ≤ i))
def rIsN : R2 := fun x y H Q => y = .non ∧ Q (.bl (decide (x = .non))) H
def rNotN : R2 := fun x y H Q => y = .non ∧ Q (.bl (!decide (x = .non))) H
def cAbs : List V → Hp → VK → Prop := fun xs H Q => ∃ i, xs = [.int i] ∧ Q (.int (if i < 0 then -i else i)) H
def cInt : List V → Hp → VK → Prop := fun xs H Q => (∃ i, xs = [.int i] ∧ Q (.int i) H) ∨ ∃ k, xs = [.bl k] ∧ Q (.int (if k then 1 else 0)) H
def cMax2 : List V → Hp → VK → Prop := fun xs H Q => ∃ i j, xs = [.int i, .int j] ∧ Q (.int (if j > i then j else i)) H
def cMin2 : List V → Hp → VK → Prop := fun xs H Q => ∃ i j, xs = [.int i, .int j] ∧ Q (.int (if j < i then j else i)) H
def cLenQ (K : PySem.W.Frag) : List V → Hp → VK → Prop := fun xs H Q => ∃ p ys, xs = [.ref p] ∧ (SqL K H p ys ∨ SqT K H p ys) ∧ Q (.int ys.length) H
def cLenS : List V → Hp → VK → Prop := fun xs H Q => ∃ z, xs = [.str z] ∧ z.length ≤ sizeLine ∧ Q (.int z.length) H
def cOr (r r' : List V → Hp → VK → Prop) : List V → Hp → VK → Prop := fun xs H Q => r xs H Q ∨ r' xs H Q
def cList (K : PySem.W.Frag) : List V → Hp → VK → Prop := fun xs H Q => ∃ p ys, xs = [.ref p] ∧ (SqL K H p ys ∨ SqT K H p ys) ∧ ∀ l, H l = none → Q (.ref l) (upd H l (.lst ys))
theorem call_lenA : CallR X (.builtin "len") (cOr (cLenQ X.K) cLenS) := CallR.or call_len_seq call_len_str
theorem call_absA : CallR X (.builtin "abs") cAbs := call_abs
theorem call_intA : CallR X (.type "int") cInt := call_int1
theorem call_listA : CallR X (.type "list") (cList X.K) := call_list_of
end
/-! ### readings, step by step -/
section
variable {K : PySem.W.Frag} {σ : L2.St} {H : Hp} {D : Ends} {Q : VK} {QA : List V → Hp → Prop} {QT : Bool → Hp → Prop} {i : Nat} {v x y : V} {ta tb te : TE} {t u : TS} {tt tu : TT} {tr : TA} {r r' : R2} {g : TG} {n m : Int} {b c : Bool} {Ps Qs : List SP} {a : Addr} {o : HO} {xs ys : List V}
theorem q_seq (h : t { D with nx := u D } σ H) : tSeq t u D σ H := h
theorem q_set (h : te σ H fun x H1 => D.nx (σ.set i (some x)) H1) : tAsg te (gName i) D σ H := h
theorem q_asg (h : te σ H fun x H1 => g x σ H1 D.nx) : tAsg te g D σ H := h
theorem q_ret (h : te σ H D.rt) : tRet te D σ H := h
theorem q_drop (h : te σ H fun _ H1 => D.nx σ H1) : tDrop te D σ H := h
theorem q_next (h : D.nx σ H) : tNext D σ H := h
theorem q_var (e : σ[i]? = some (some v)) (h : Q v H) : tVar i σ H Q := ⟨v, e, h⟩
theorem q_c (h : Q v H) : tC v σ H Q := h
theorem q_op (h : ta σ H fun x H1 => tb σ H1 fun y H2 => r x y H2 Q) : tOp r ta tb σ H Q := h
theorem q_un {f : V → Hp → VK → Prop} (h : ta σ H fun x H1 => f x H1 Q) : tUn f ta σ H Q := h
theorem q_nil (h : QA [] H) : tNil σ H QA := h
theorem q_cons (h : te σ H fun x H1 => tr σ H1 fun xs H2 => QA (x :: xs) H2) : tCons te tr σ H QA := h
theorem q_cb {f : List V → Hp → VK → Prop} (h : tr σ H fun vs H1 => f vs H1 Q) : tCB f tr σ H Q := h
theorem q_call {sp : Sp} {E : XK} (h : tr σ H fun vs H1 => sp vs H1 Q E) : tCall sp [] E tr σ H Q := by
  have e : ∀ vs : List V, vs ++ [] = vs := List.append_nil
  unfold tCall
  simp only [e]
  exact h
theorem q_ifs (h : tt σ H fun b H1 => if b = true then t D σ H1 else u D σ H1) : tIfS tt t u D σ H := h
theorem q_if (h : tt σ H fun c H1 => if c = true then ta σ H1 Q else tb σ H1 Q) : tIf tt ta tb σ H Q := h
theorem q_test (h : te σ H fun x H' => ∃ k, x = .bl k ∧ QT k H') : tTest te σ H QT := h
theorem q_tb (h : te σ H fun x H' => ∃ k, x = .bl k ∧ QT k H') : tB te σ H QT := h
theorem q_bl (h : QT b H) : ∃ k, V.bl b = .bl k ∧ QT k H := ⟨b, rfl, h⟩
theorem q_notT (h : tt σ H fun c H1 => QT (!c) H1) : tNot tt σ H QT := h
theorem q_andT (h : tt σ H fun c H1 => if c = true then tu σ H1 QT else QT false H1) : tAnd tt tu σ H QT := h
theorem q_orT (h : tt σ H fun c H1 => if c = true then QT true H1 else tu σ H1 QT) : tOr tt tu σ H QT := h
theorem q_andV (h : ta σ H fun x H1 => ∃ c, x = .bl c ∧ if c = true then tb σ H1 Q else Q (.bl false) H1) : tAndV ta tb σ H Q := h
theorem q_orV (h : ta σ H fun x H1 => ∃ c, x = .bl c ∧ if c = true then Q (.bl true) H1 else tb σ H1 Q) : tOrV ta tb σ H Q := h
theorem q_notV (h : ta σ H fun x H1 => ∃ c, x = .bl c ∧ Q (.bl (!c)) H1) : tNotV ta σ H Q := h
theorem q_blI {p : Bool → Prop} (h : p b) : ∃ c, V.bl b = .bl c ∧ p c := ⟨b, rfl, h⟩
theorem q_orL (h : r x y H Q) : rOr r r' x y H Q := .inl h
theorem q_orR (h : r' x y H Q) : rOr r r' x y H Q := .inr h
theorem q_rI0 {f : Int → Int → V} (h : Q (f n m) H) : rI0 f (.int n) (.int m) H Q := ⟨n, m, rfl, rfl, h⟩
theorem q_addI (h : Q (.int (n + m)) H) : rAddI (.int n) (.int m) H Q := ⟨n, m, rfl, rfl, h⟩
theorem q_addA (h : Q (.int (n + m)) H) : rAddA (.int n) (.int m) H Q := .inl ⟨n, m, rfl, rfl, h⟩
theorem q_subI (h : Q (.int (n - m)) H) : rSubI (.int n) (.int m) H Q := ⟨n, m, rfl, rfl, h⟩
theorem q_ltI (h : Q (.bl (decide (n < m))) H) : rLtI (.int n) (.int m) H Q := ⟨n, m, rfl, rfl, h⟩
theorem q_leI (h : Q (.bl (decide (n ≤ m))) H) : rLeI (.int n) (.int m) H Q := ⟨n, m, rfl, rfl, h⟩
theorem q_gtI (h : Q (.bl (decide (m < n))) H) : rGtI (.int n) (.int m) H Q := ⟨n, m, rfl, rfl, h⟩
theorem q_geI (h : Q (.bl (decide (m ≤ n))) H) : rGeI (.int n) (.int m) H Q := ⟨n, m, rfl, rfl, h⟩
theorem q_eqI (h : Q (.bl (decide (n = m))) H) : rEqA K (.int n) (.int m) H Q := .inl ⟨rfl, by have e : decide (V.int n = V.int m) = decide (n = m) := decide_eq_decide.mpr ⟨V.int.inj, congrArg _⟩; rw [e]; exact h⟩
theorem q_neI (h : Q (.bl (!decide (n = m))) H) : rNeA K (.int n) (.int m) H Q := .inl ⟨rfl, by have e : decide (V.int n = V.int m) = decide (n = m) := decide_eq_decide.mpr ⟨V.int.inj, congrArg _⟩; rw [e]; exact h⟩
theorem q_mulI (hc : CMul n m) (h : Q (.int (n * m)) H) : rMulA (.int n) (.int m) H Q := .inl ⟨n, m, rfl, rfl, hc, h⟩
theorem q_modI (hc : 0 < m) (h : Q (.int (n % m)) H) : rModI (.int n) (.int m) H Q := ⟨n, m, rfl, rfl, hc, h⟩
theorem q_divI (hc : CDiv n m) (h : Q (.int (n / m)) H) : rDivI (.int n) (.int m) H Q := ⟨n, m, rfl, rfl, hc, h⟩
theorem q_powI (hc : CPow n m) (h : Q (.int (n ^ m.toNat)) H) : rPowI (.int n) (.int m) H Q := ⟨n, m, rfl, rfl, hc, h⟩
theorem q_abs (h : Q (.int (if n < 0 then -n else n)) H) : cAbs [.int n] H Q := ⟨n, rfl, h⟩
theorem q_int (h : Q (.int n) H) : cInt [.int n] H Q := .inl ⟨n, rfl, h⟩
theorem q_intB (h : Q (.int (if b then 1 else 0)) H) : cInt [.bl b] H Q := .inr ⟨b, rfl, h⟩
theorem q_max (h : Q (.int (if m > n then m else n)) H) : cMax2 [.int n, .int m] H Q := ⟨n, m, rfl, h⟩
theorem q_min (h : Q (.int (if m < n then m else n)) H) : cMin2 [.int n, .int m] H Q := ⟨n, m, rfl, h⟩
theorem q_lenL (s : SqL K H a xs) (h : Q (.int (xs.length : Int)) H) : cOr (cLenQ K) cLenS [.ref a] H Q := .inl ⟨a, xs, rfl, .inl s, h⟩
theorem q_lenT (s : SqT K H a xs) (h : Q (.int (xs.length : Int)) H) : cOr (cLenQ K) cLenS [.ref a] H Q := .inl ⟨a, xs, rfl, .inr s, h⟩
theorem q_lenS {z : Str} (s : z.length ≤ sizeLine) (h : Q (.int (z.length : Int)) H) : cOr (cLenQ K) cLenS [.str z] H Q := .inr ⟨z, rfl, s, h⟩
theorem q_ixL (s : SqL K H a xs) (e : atI xs n = some v) (h : Q v H) : rIx K (.ref a) (.int n) H Q := .inl ⟨a, xs, n, v, rfl, rfl, s, e, h⟩
theorem q_ixT (s : SqT K H a xs) (e : atI xs n = some v) (h : Q v H) : rIx K (.ref a) (.int n) H Q := .inr (.inl ⟨a, xs, n, v, rfl, rfl, s, e, h⟩)
theorem q_ixLL (s : SqL K H a xs) (e : atI xs n = some v) (h : Q v H) : rIxL K (.ref a) (.int n) H Q := ⟨a, xs, n, v, rfl, rfl, s, e, h⟩
theorem q_setL {QH : Hp → Prop} {k : Nat} (s : H a = some (.lst xs)) (e : ixN xs.length n = some k) (h : QH (upd H a (.lst (xs.set k v)))) : rSetL (.ref a) (.int n) v H QH := ⟨a, xs, n, k, rfl, rfl, s, e, h⟩
theorem q_ipAdd (h : Q (.int (n + m)) H) : ipI (fun i j => i + j) (.int n) (.int m) H Q := ⟨n, m, rfl, rfl, h⟩
theorem q_ipSub (h : Q (.int (n - m)) H) : ipI (fun i j => i - j) (.int n) (.int m) H Q := ⟨n, m, rfl, rfl, h⟩
theorem q_gsub {to ti : TE} {ts : TSet} {QG : L2.St → Hp → Prop} (h : to σ H fun o H1 => ti σ H1 fun i H2 => ts o i v H2 fun H3 => QG σ H3) : gSub to ti ts v σ H QG := h
theorem q_augs {to ti : TE} {tget : V → V → Hp → VK → Prop} {tip : TIp} {tset : TSet} (h : to σ H fun o H1 => ti σ H1 fun i H2 => tget o i H2 fun x H3 => te σ H3 fun y H4 => tip x y H4 fun z H5 => tset o i z H5 fun H6 => D.nx σ H6) :
    tAugS to ti te tget tip tset D σ H := h
theorem q_aug {ti : TIp} (e : σ[i]? = some (some x)) (h : te σ H fun y H1 => ti x y H1 fun z H2 => D.nx (σ.set i (some z)) H2) : tAug i te ti D σ H := ⟨x, e, h⟩
def kLst (Q : VK) : List V → Hp → Prop := fun xs H1 => xs.length ≤ sizeLine ∧ ∀ p, H1 p = none → Q (.ref p) (upd H1 p (.lst xs))
def kTup (Q : VK) : List V → Hp → Prop := fun xs H1 => xs.length ≤ sizeLine ∧ ∀ p, H1 p = none → Q (.ref p) (upd H1 p (.tup xs))
theorem q_lst (h : tr σ H (kLst Q)) : tLst tr σ H Q := h
theorem q_tup (h : tr σ H (kTup Q)) : tTup tr σ H Q := h
/-- a new object, known from then on -/
theorem q_new (S : Sep Ps H) (hl : xs.length ≤ 1000) (h : ∀ p H', Sep (pt p (.lst xs) :: Ps) H' → Q (.ref p) H') : kLst Q xs H := ⟨Nat.le_trans hl (by decide), fun p np => h p _ (S.new _ np)⟩
theorem q_newT (S : Sep Ps H) (hl : xs.length ≤ 1000) (h : ∀ p H', Sep (pt p (.tup xs) :: Ps) H' → Q (.ref p) H') : kTup Q xs H := ⟨Nat.le_trans hl (by decide), fun p np => h p _ (S.new _ np)⟩
theorem Sep.sq (S : Sep Ps H) (p : Pick (pt a (.lst xs)) Ps Qs) : SqL K H a xs := SqL.of (S.at_ p)
theorem Sep.st (S : Sep Ps H) (p : Pick (pt a (.tup xs)) Ps Qs) : SqT K H a xs := SqT.of (S.at_ p)
theorem q_fld {C dx : Addr} {fs : List (Str × V)} {f : Str} (h : ta σ H fun x H1 => ∃ a C dx fs v, x = .ref a ∧ H1 a = some (.ins C dx fs) ∧ Cls K C ∧ NoAttr K C f ∧ fs.lookup f = some v ∧ Q v H1) : tFld K ta f σ H Q := h
theorem q_fldA {C dx : Addr} {fs : List (Str × V)} {f : Str} (s : H a = some (.ins C dx fs)) (c : Cls K C) (na : NoAttr K C f) (l : fs.lookup f = some v) (h : Q v H) :
    ∃ a' C dx fs v, V.ref a = .ref a' ∧ H a' = some (.ins C dx fs) ∧ Cls K C ∧ NoAttr K C f ∧ fs.lookup f = some v ∧ Q v H := ⟨a, C, dx, fs, v, rfl, s, c, na, l, h⟩
theorem q_ite {p A B : Prop} [Decidable p] (h1 : p → A) (h2 : ¬ p → B) : if decide p = true then A else B := by
  by_cases h : p
  · rw [decide_eq_true h]; exact iteT (h1 h)
  · rw [decide_eq_false h]; exact iteF (h2 h)
theorem q_iteN {p A B : Prop} [Decidable p] (h1 : ¬ p → A) (h2 : p → B) : if (!decide p) = true then A else B := by
  by_cases h : p
  · rw [decide_eq_true h]; exact iteF (h2 h)
  · rw [decide_eq_false h]; exact iteT (h1 h)
theorem q_iteB {b : Bool} {A B : Prop} (h1 : b = true → A) (h2 : b = false → B) : if b = true then A else B := by
  cases b
  · exact iteF (h2 rfl)
  · exact iteT (h1 rfl)
theorem iteNT {A B : Prop} (h : B) : if (!true) = true then A else B := iteF h
theorem iteNF {A B : Prop} (h : A) : if (!false) = true then A else B := iteT h
theorem q_cut {Mid : L2.St → Hp → Prop} (h : t { D with nx := Mid } σ H) (k : ∀ σ' H', Mid σ' H' → u D σ' H') : C8.tCut t u D σ H := ⟨Mid, h, k⟩
theorem q_setS {QH : Hp → Prop} {k : Nat} (S : Sep Ps H) (r : Repl a (.lst xs) (.lst (xs.set k v)) Ps Qs) (e : ixN xs.length n = some k) (h : ∀ H', Sep Qs H' → QH H') : rSetL (.ref a) (.int n) v H QH :=
  ⟨a, xs, n, k, rfl, rfl, by obtain ⟨Rs, p, _⟩ := r.pick; exact S.at_ p, e, h _ (S.set r)⟩
theorem at_i {α : Type} {xs : List α} (h0 : 0 ≤ n) (h1 : n < xs.length) : ∃ w, atI xs n = some w ∧ w ∈ xs := by
  obtain ⟨j, rfl⟩ := Int.eq_ofNat_of_zero_le h0
  have hj : j < xs.length := by omega
  exact ⟨xs[j], atI_nat (List.getElem?_eq_getElem hj), List.getElem_mem hj⟩
end
end Kt

set_option Elab.async false
set_option linter.all false
set_option maxRecDepth 100000
namespace Kt
open PySem L2 PyProof.Rows
/-! ### classes and their methods by name -/
structure Mt (K : PySem.W.Frag) (C : Addr) (m qual : Str) (st : Stmt) (ps : List Str) (f : Addr) : Prop where
  fn : ∃ fd, Fun K m qual st f fd ∧ Binds K fd ps []
  at_ : Meth K C m f
structure Mf (P : Program) (w : World) (K : PySem.W.Frag) (mg : Str → Option Value) (base : Heap) (k : Nat) (C : Addr) (m : Str) (ps : List Str) (sp : Sp) : Prop where
  fn : ∃ f fd, FnOk P w K mg base CX0 k f fd ps sp ∧ Binds K fd ps [] ∧ Meth K C m f
  cls : Cls K C
structure Ct (K : PySem.W.Frag) (mg : Str → Option Value) (x : Str) (C f : Addr) : Prop where
  at_ : mg x = some (.ref C)
  mkr : Mk K C f
/-- a class that may be called: its __init__'s promise -/
structure Cf (P : Program) (w : World) (K : PySem.W.Frag) (mg : Str → Option Value) (base : Heap) (k : Nat) (x : Str) (C : Addr) (ps : List Str) (sp : Sp) : Prop where
  fn : ∃ f fd, FnOk P w K mg base CX0 k f fd ps sp ∧ Binds K fd ps [] ∧ Mk K C f
  at_ : mg x = some (.ref C)
section
variable {P : Program} {w : World} {K : PySem.W.Frag} {mg : Str → Option Value} {base : Heap}
theorem Mt.ok {C : Addr} {x qual : Str} {st : Stmt} {f : Addr} {N ps : List Str} {k : Nat} {sp : Sp} (T : Mt K C x qual st ps f) (c : Cls K C) (S : FnScope N ps (defScope st)) (len : ∀ vs H Q E, sp vs H Q E → vs.length = ps.length)
    (hbody : ∀ (cdv : Value) (A : Around) (outer : List Env) (s : Shared) (H : Hp) (vs : List V) (Q : VK) (E : XK), Room k (A.deeper (envOfC qual (defScope st) s.heap.objs.size f cdv)) → sp vs H Q E →
      ∃ t, PSs (cxOf CX0 P w K mg base N qual (defScope st) f cdv A outer s H E).nox (defBody st) t ∧ t { nx := fun _ H' => Q .non H', rt := Q } (start N vs) H) : Mf P w K mg base (k + 1) C x ps sp := by
  obtain ⟨fd, F, b⟩ := T.fn
  exact ⟨⟨f, fd, F.ok S len hbody, b, T.at_⟩, c⟩
theorem Mf.cf {C f : Addr} {x : Str} {ps : List Str} {k : Nat} {sp : Sp} (M : Mf P w K mg base k C "__init__" ps sp) (T : Ct K mg x C f) : Cf P w K mg base k x C ps sp := by
  obtain ⟨g, fd, F, b, m⟩ := M.fn
  have e : g = f := by
    have h1 := m.at_
    rw [T.mkr.init] at h1
    cases h1
    rfl
  subst e
  exact ⟨⟨g, fd, F, b, T.mkr⟩, T.at_⟩
end
section
variable {X : Cx} {k : Nat} {x m : Str} {C : Addr} {ps : List Str} {sp : Sp} {o e : Expr} {es : List Expr} {to : TE} {t : TA} {p pos apos : Pos}
theorem pe_mf {pl : Sem Bool} (M : Mf X.prog X.w X.K X.mg X.base k C m ps sp) (hr : Room k X.A) (ho : PE X o to) (ha : PA X (e :: es) t)
    (hst : starEach (e :: es) X.env = (false, eval e X.env) :: starEach es X.env := by rfl) (hpl : (backTo pos (starEach es X.env)).any (·.1) = false := by rfl)
    (ht : eval (.Call (.Attribute o m apos) (e :: es) [] pos) X.env = (do
      let ov ← eval o X.env
      standAt apos.atName
      let (f, first) ← holding [ov] (getMethod ov m pl)
      callWith pos f first (backTo pos (starEach (e :: es) X.env)) (backToKw pos (keywordEach [] X.env))) := by rfl) : PE X (.Call (.Attribute o m apos) (e :: es) [] pos) (tMeth C m sp [] E0 to t) := by
  obtain ⟨f, fd, F, b, hm⟩ := M.fn
  exact pe_meth ho M.cls hm F hr b .nil pass0 ha hst hpl ht
theorem pe_mf0 {pl : Sem Bool} (M : Mf X.prog X.w X.K X.mg X.base k C m ps sp) (hr : Room k X.A) (ho : PE X o to)
    (ht : eval (.Call (.Attribute o m apos) [] [] pos) X.env = (do
      let ov ← eval o X.env
      standAt apos.atName
      let (f, first) ← holding [ov] (getMethod ov m pl)
      callWith pos f first [] []) := by rfl) : PE X (.Call (.Attribute o m apos) [] [] pos) (tMeth C m sp [] E0 to tNil) := by
  obtain ⟨f, fd, F, b, hm⟩ := M.fn
  exact pe_meth0 ho M.cls hm F hr b .nil pass0 ht
theorem pe_cf (M : Cf X.prog X.w X.K X.mg X.base k x C ps sp) (hr : Room (k + 1) X.A) (ha : PA X (e :: es) t) (hg : Gl X x := by rfl) (hd : (x == ("__debug__" : Str)) = false := by decide)
    (he : starEach (e :: es) X.env = (false, eval e X.env) :: starEach es X.env := by rfl) (hpl : (backTo pos (starEach es X.env)).any (·.1) = false := by rfl) : PE X (.Call (.Name x p) (e :: es) [] pos) (tMake C sp [] E0 t) := by
  obtain ⟨f, fd, F, b, M'⟩ := M.fn
  exact pe_make M' F hr hg M.at_ b .nil pass0 ha hd he hpl
end
/-! ### own operators of instances -/
section
variable {X : Cx} {k : Nat} {C : Addr} {ps : List Str} {sp : Sp}
theorem ins_at {pins : List (Addr × Obj)} {σ : L2.St} {H : Hp} {s : Shared} {a dx : Addr} {fs : List (Str × V)} (I : Inv X pins σ H s) (h : H a = some (.ins C dx fs)) : ∃ ox od, PySem.W.InstAt s.heap a ox C od := by
  obtain ⟨mA, O, _⟩ := ins_get I.hok h
  obtain ⟨od, J, _⟩ := O.look
  exact ⟨_, _, J⟩
/-- o[i] = v by an own __setitem__ -/
def rSetOwn (C : Addr) (sp : Sp) : TSet := fun o i v H Q => ∃ a dx fs, o = .ref a ∧ H a = some (.ins C dx fs) ∧ sp [.ref a, i, v] H (fun _ H' => Q H') E0
theorem set_own (M : Mf X.prog X.w X.K X.mg X.base k C "__setitem__" ps sp) (hr : Room k X.A) (hq : PySem.W.noSeq X.K C = true) : PSet X (rSetOwn C sp) := by
  intro pins s σ H o i v ov iv u Q I ro ri rv h
  obtain ⟨a, dx, fs, rfl, ha, q⟩ := h
  cases (show ov = Value.ref a from ro)
  obtain ⟨f, fd, F, b, hm⟩ := M.fn
  obtain ⟨ox, od, J⟩ := ins_at I ha
  obtain ⟨m, hF⟩ := I.fr
  refine PySem.W.ksp_setItem hF I.ok.mod.kin J hq hm.at_ hm.fn ?_
  exact wpAny_mono (run_fn (us := [.ref a, iv, u]) (vs := [.ref a, i, v]) F hr b .nil pass0 I (.cons rfl (.cons ri (.cons rv .nil))) (by rw [List.append_nil]; exact q)) (fun z s' ⟨y, H', I', r', q'⟩ => ⟨H', I', q'⟩) fun _ _ z => z
/-- x += y by an own __iadd__ -/
def rInpOwn (C : Addr) (sp : Sp) : TIp := fun x y H Q => ∃ a dx fs, x = .ref a ∧ H a = some (.ins C dx fs) ∧ sp [.ref a, y] H Q E0
theorem ip_own (M : Mf X.prog X.w X.K X.mg X.base k C "__iadd__" ps sp) (hr : Room k X.A) (hc : PySem.W.selfFirst X.K C = true) : PIp X .Add (rInpOwn C sp) := by
  intro pins s σ H x y v u Q I rx ry h
  obtain ⟨a, dx, fs, rfl, ha, q⟩ := h
  cases (show v = Value.ref a from rx)
  obtain ⟨f, fd, F, b, hm⟩ := M.fn
  obtain ⟨ox, od, J⟩ := ins_at I ha
  obtain ⟨m, hF⟩ := I.fr
  refine PySem.W.ksp_inplace (op := .Add) hF I.ok.mod.kin J hc hm.at_ hm.fn ?_
  exact wpAny_mono (run_fn (us := [.ref a, u]) (vs := [.ref a, y]) F hr b .nil pass0 I (.cons rfl (.cons ry .nil)) (by rw [List.append_nil]; exact q)) (fun z s' ⟨y', H', I', r', q'⟩ => SlX.cmpback r' ⟨y', H', I', r', q'⟩) fun _ _ z => z
end
/-! ### xs[a:c] = ys -/
section
variable {X : Cx} {o e : Expr} {lo hi : Option Expr} {to te : TE} {tl th : TO} {p2 pos tpos : Pos}
/-- the bounds of a slice that may reach beyond the end -/
theorem bounds_clip (a c n : Nat) (h : a ≤ n) : sliceBounds (some (a : Int)) (some (c : Int)) none n = ((a : Int), ((min c n : Nat) : Int), 1) := by
  have p1 : ¬ ((a : Int) < 0) := by omega
  have p2 : ¬ ((c : Int) < 0) := by omega
  simp only [sliceBounds, Option.getD_none, p1, p2, if_false, show (1 : Int) > 0 from by decide, if_true]
  refine Prod.ext ?_ (Prod.ext ?_ rfl)
  · show max 0 (min (a : Int) (n : Int)) = a; omega
  · show max 0 (min (c : Int) (n : Int)) = ((min c n : Nat) : Int); omega
theorem setItem_clip {prog : Program} {w : World} {A : Around} {E : Value → Shared → Prop} {s : Shared} {l b sl : Addr} {u v : List Value} {n n2 : Nat} {vl vu : Value} {a c : Nat} {Q : Unit → Shared → Prop}
    (e : s.heap.get? l = some { cls := .type "list", data := .seq u.toArray n }) (e2 : s.heap.get? b = some { cls := .type "list", data := .seq v.toArray n2 }) (hne : l ≠ b) (hs : s.heap.IsSliceOf sl vl vu .none)
    (pl : IsPart vl (some (a : Int))) (pu : IsPart vu (some (c : Int))) (ha : a ≤ u.length) (hac : a ≤ c) (hz : u.length + v.length ≤ sizeLine)
    (h : Q () { s with heap := s.heap.update l (Obj.mapSeq fun xs => xs.extract 0 a ++ v.toArray ++ xs.extract (min c u.length) xs.size) }) : wpAny (model prog w) A (setItem (.ref l) (.ref sl) (.ref b)) Q E s := by
  have lst : s.heap.IsList l u.toArray ∧ s.heap.IsList b v.toArray := ⟨PySem.IsL.isList e, PySem.IsL.isList e2⟩
  obtain ⟨os, g1, g2, g3⟩ := hs
  have ty : s.TypeIs (.ref sl) "slice" := ⟨os, g1, g2⟩
  have apart : Builtin.List.listSameRef (.ref l) (.ref b) = false := beq_eq_false_iff_ne.mpr hne
  have top : (max (a : Int) ((min c u.length : Nat) : Int)).toNat = min c u.length := by omega
  have fit : u.toArray.size + v.toArray.size ≤ sizeLine := by simpa using hz
  have out : ((fun xs : Array Value => xs.extract 0 a ++ v.toArray ++ xs.extract (min c u.length) xs.size) u.toArray).size ≤ sizeLine + 1 := by simp; omega
  have bd : sliceBounds (some (a : Int)) (some (c : Int)) none u.toArray.size = ((a : Int), ((min c u.length : Nat) : Int), 1) := by simpa using bounds_clip a c u.length ha
  unfold setItem
  refine wpAny_holding (wpAny_bind (wpAny_sequenceKey lst.1.typeIs (by decide) (wpAny_bind ?_)))
  refine wpAny_callSpecial?_slot (name := Str.ofString "__setitem__") lst.1.typeIs slot_list_setitem (wpAny_call_entry slot_list_setitem lst.1.typeIs entry_list_setitem ?_ (args_list_setitem _ _ _))
  show wpAny _ _ (Builtin.List.listSubscript? (Value.ref sl) >>= _) _ _ _
  unfold Builtin.List.listSubscript?
  refine wpAny_bind (wpAny_bind (wpAny_specialOf ty slice_no_index ?_))
  rw [if_pos (by rfl)]
  refine wpAny_pure (wpAny_bind (wpAny_typeOf ty ?_))
  rw [if_neg (by decide), listSliceParts_eq]
  refine wpAny_bind (wpAny_bind (wpAny_field g1 g3 (x := .none) rfl (wpAny_bind (wpAny_listPart IsPart.none ?_))))
  rw [if_neg (show ¬ ((rawPart none == rawInt 0) = true) from Bool.false_ne_true)]
  refine wpAny_bind (wpAny_field g1 g3 (x := vl) rfl (wpAny_bind (wpAny_listPart pl (wpAny_bind (wpAny_field g1 g3 (x := vu) rfl (wpAny_bind (wpAny_listPart pu (wpAny_pure ?_))))))))
  dsimp only
  rw [if_neg (by rw [apart]; exact Bool.false_ne_true)]
  refine wpAny_bind (m := Builtin.List.listAllItems (Value.ref b) _) ?_
  unfold Builtin.List.listAllItems
  refine wpAny_bind (wpAny_typeOf lst.2.typeIs (PySem.W.KFB.if_so (by decide) ?_))
  unfold Builtin.List.listItems
  refine wpAny_bind (wpAny_seqItems e2 rfl (wpAny_pure (wpAny_bind (wpAny_bind (wpAny_seqItems e rfl (wpAny_pure ?_))))))
  have si := sliceIndices_raw (some (a : Int)) (some (c : Int)) none u.toArray.size (by simp)
  rw [bd] at si
  refine wpAny_bind (wpAny_of_eq si ?_)
  dsimp only
  rw [if_pos (by decide)]
  refine wpAny_bind (wpAny_rule (PySem.W.KFB.if_not (notLongL fit) ?_))
  have key : wpAny (model prog w) A.in1 (updateSeq l fun xs => xs.extract 0 (a : Int).toNat ++ v.toArray ++ xs.extract (max (a : Int) ((min c u.length : Nat) : Int)).toNat xs.size) (fun _ s' => s' = { s with heap := s.heap.update l (Obj.mapSeq fun xs => xs.extract 0 a ++ v.toArray ++ xs.extract (min c u.length) xs.size) }) (fun _ _ => False) s := by
    rw [top, Int.toNat_natCast]
    exact wpAny_updateSeq (hz := Nat.le_trans (Nat.le_add_right _ _) fit) (_hz' := out) e rfl rfl
  refine wpAny_bind (wpAny_mono key (fun _ s' es => ?_) fun _ _ z => z.elim)
  subst es
  exact wpAny_bind (wpAny_letGo (wpAny_pure ⟨.none, rfl, wpAny_pure h⟩))
/-- o[lo:hi] = v: the list that is written, and another one -/
def gSl (to : TE) (tl th : TO) : TG := fun v σ H Q => to σ H fun x H1 => tl σ H1 fun lo H2 => th σ H2 fun hi H3 => ∃ (l b : Addr) (xs ys : List V) (a c : Nat), x = .ref l ∧ v = .ref b ∧ lo = some (a : Int) ∧ hi = some (c : Int) ∧
  H3 l = some (.lst xs) ∧ H3 b = some (.lst ys) ∧ l ≠ b ∧ a ≤ xs.length ∧ a ≤ c ∧ xs.length + ys.length ≤ sizeLine ∧ Q σ (upd H3 l (.lst (xs.take a ++ ys ++ xs.drop c)))
theorem pg_slice (ho : PE X o to) (hl : PO X lo tl) (hu : PO X hi th)
    (ha : ∀ v, assign (.Subscript o (.Slice lo hi none p2) tpos) X.env v = (do
      let ov ← holding [v] (eval o X.env)
      let iv ← holding [v, ov] (eval (.Slice lo hi none p2) X.env)
      standAt tpos
      holding [v, ov, iv] (setItem ov iv v)
      release [iv, v, ov] []) := by intro _; rfl) : PG X (.Subscript o (.Slice lo hi none p2) tpos) (gSl to tl th) := by
  refine ⟨fun pins s σ H v u Q I r h => ?_⟩
  rw [ha]
  refine wpAny_bind (wpAny_holding (thn (ho.run pins s σ H _ I h) fun ov s1 ⟨x, H1, I1, r1, q1⟩ => ?_))
  refine wpAny_bind (wpAny_holding (wpAny_Slice (thn (hl.run pins s1 σ H1 _ I1 q1) fun vl s2 ⟨z1, H2, I2, pl, q2⟩ => thn (hu.run pins s2 σ H2 _ I2 q2) fun vu s3 ⟨z2, H3, I3, pu, q3⟩ => ?_)))
  obtain ⟨l, b, xs, ys, a, c, rfl, rfl, rfl, rfl, hL, hB, hne, h1, h2, hz, q⟩ := q3
  cases (show ov = Value.ref l from r1)
  cases (show u = Value.ref b from r)
  rw [evalPart_none]
  have I4 : Inv X pins σ H3 { s3 with heap := s3.heap.push { cls := .type "slice", data := .fields #[vl, vu, .none] } } := I3.kept (t' := s3.toks) fun _ _ z => Heap.get?_push_of_some _ z
  refine wpAny_pure ?_
  obtain ⟨z, u1, n1, r1', hl1, e1⟩ := I4.lstM hL
  obtain ⟨z2, u2, n2, r2', hl2, e2⟩ := I4.lstM hB
  refine wpAny_bind (wpAny_standAt (wpAny_bind (wpAny_holding (setItem_clip e1 e2 hne (Heap.IsSliceOf.new ..) pl pu (by omega) h2 (by omega) (wpAny_release ⟨σ, _, ?_, q⟩)))))
  refine I4.lset (its' := u1.take a ++ u2 ++ u1.drop (min c u1.length)) (t' := s3.toks) hL e1 (splice_eq u1 u2 a _) ?_ ?_
  · have e3 : xs.drop c = xs.drop (min c u1.length) := by
      by_cases hc : c ≤ u1.length
      · rw [Nat.min_eq_left hc]
      · rw [Nat.min_eq_right (by omega), List.drop_eq_nil_of_le (by omega), List.drop_eq_nil_of_le (by omega)]
    rw [e3]
    exact Vals.append (Vals.append (r1'.take _) r2') (r1'.drop _)
  · rw [List.length_append, List.length_append, List.length_take, List.length_drop]
    omega
end
end Kt

set_option Elab.async false
set_option linter.all false
set_option maxRecDepth 100000
namespace Kt
open PySem L2 PyProof.Rows
/-! ### fields as written lists -/
theorem lk_eq {f : Str} {v : V} {r : List (Str × V)} : List.lookup f ((f, v) :: r) = some v := by simp
theorem lk_ne {f g : Str} {v : V} {r : List (Str × V)} (h : f ≠ g) : List.lookup f ((g, v) :: r) = List.lookup f r := by
  have e : (f == g) = false := beq_eq_false_iff_ne.mpr h
  simp [List.lookup_cons, e]
theorem pf_nil {f : Str} {v : V} : putF f v [] = [(f, v)] := rfl
theorem pf_eq {f : Str} {v x : V} {r : List (Str × V)} : putF f v ((f, x) :: r) = (f, v) :: r := if_pos rfl
theorem pf_ne {f g : Str} {v x : V} {r r' : List (Str × V)} (h : g ≠ f) (e : putF f v r = r') : putF f v ((g, x) :: r) = (g, x) :: r' := by
  rw [← e]
  exact if_neg h
section
variable {X : Cx} {e o value : Expr} {ta tv : TE} {f : Str} {pos pos' : Pos}
theorem pe_fldK (K : PySem.W.Frag) (he : PE X e ta) (hK : X.K = K := by rfl) (hb : attributeBase e f X.env (eval e X.env) = eval e X.env := by rfl) : PE X (.Attribute e f pos) (tFld K ta f) := hK ▸ pe_fld he hb
theorem ps_fldK (K : PySem.W.Frag) (ha : PE X o ta) (hv : PE X value tv) (hK : X.K = K := by rfl) (hs : swapsWith value (some (.Attribute o f pos')) pos.line X.env = pure false := by rfl) : PS X (.Assign [.Attribute o f pos'] value pos) (sFld K ta tv f) := hK ▸ ps_fld ha hv hs
theorem pi_listK (K : PySem.W.Frag) {tg l : Expr} {tl : TE} (hl : PE X l tl) (hK : X.K = K := by rfl) : PI X tg l (iList K tl) := hK ▸ pi_list hl
theorem pi_tupK (K : PySem.W.Frag) {tg l : Expr} {tl : TE} (hl : PE X l tl) (hK : X.K = K := by rfl) : PI X tg l (iTup K tl) := hK ▸ pi_tup hl
theorem pg_tupK (K : PySem.W.Frag) {es : List Expr} {k n : Nat} {t : TGs} (hc : X.calm = true) (h : PGs X es t) (hK : X.K = K := by rfl) (hn : (assignEach es X.env).length = n := by rfl) (hst : (assignEach es X.env).findIdx? (·.1) = none := by rfl) : PG X (.Tuple es k pos) (gTup K n t) := hK ▸ pg_tup hc h hn hst
theorem pg_unlK (K : PySem.W.Frag) {es : List Expr} {k n : Nat} {t : TGs} (hc : X.calm = true) (h : PGs X es t) (hK : X.K = K := by rfl) (hn : (assignEach es X.env).length = n := by rfl) (hst : (assignEach es X.env).findIdx? (·.1) = none := by rfl) : PG X (.Tuple es k pos) (gUnl K n t) := hK ▸ pg_unl hc h hn hst
theorem pe_bmK (K : PySem.W.Frag) {es : List Expr} {to : TE} {t : TA} {name : Str} {apos cpos : Pos} {T id : String} {r : V → List V → Hp → VK → Prop} (pa : PlainAttrs T) (slot : Slot T name id) (hty : typeOf (.builtin id) = pure (.type "method_descriptor")) (hm : MtR X id r) (ho : PE X o to) (ha : PA X (e :: es) t) (hK : X.K = K := by rfl)
    (hbase : attributeBase o name X.env (eval o X.env) = eval o X.env := by rfl)
    (hfew : ((backTo cpos (starEach (e :: es) X.env)).all (fun x => !x.1) && (backToKw cpos (keywordEach [] X.env)).all (fun x => x.1.isSome)
      && decide ((e :: es).length + ([] : List Keyword).length + (if ([] : List Keyword).isEmpty then 0 else 1) < 30)) = true := by rfl)
    (hline : (apos.endLine == cpos.line) = true := by rfl) (hs : starEach (e :: es) X.env = (false, eval e X.env) :: starEach es X.env := by rfl) (hplain : (backTo cpos (starEach es X.env)).any (·.1) = false := by rfl) :
    PE X (.Call (.Attribute o name apos) (e :: es) [] cpos) (tBM K T r to t) := hK ▸ pe_bm pa slot hty hm ho ha hbase hfew hline hs hplain
theorem pe_bm0K (K : PySem.W.Frag) {to : TE} {name : Str} {apos cpos : Pos} {T id : String} {r : V → List V → Hp → VK → Prop} (pa : PlainAttrs T) (slot : Slot T name id) (hty : typeOf (.builtin id) = pure (.type "method_descriptor")) (hm : MtR X id r) (ho : PE X o to) (hK : X.K = K := by rfl)
    (hbase : attributeBase o name X.env (eval o X.env) = eval o X.env := by rfl) (hline : (apos.endLine == cpos.line) = true := by rfl) : PE X (.Call (.Attribute o name apos) [] [] cpos) (tBM0 K T r to) := hK ▸ pe_bm0 pa slot hty hm ho hbase hline
end
section
variable {K : PySem.W.Frag} {σ : L2.St} {H : Hp} {D : Ends} {Q : VK} {QA : List V → Hp → Prop} {QT : Bool → Hp → Prop} {QG : L2.St → Hp → Prop} {i : Nat} {v x y : V} {ta tb te : TE} {t u : TS} {tr : TA} {g : TG} {n m : Int} {b c : Bool} {Ps Qs : List SP} {a : Addr} {o : HO} {xs ys : List V} {C dx : Addr} {fs fs' : List (Str × V)} {f : Str} {sp : Sp}
def kFld (K : PySem.W.Frag) (f : Str) (Q : VK) : V → Hp → Prop := fun x H1 => ∃ a C dx fs v, x = .ref a ∧ H1 a = some (.ins C dx fs) ∧ Cls K C ∧ NoAttr K C f ∧ fs.lookup f = some v ∧ Q v H1
theorem r_fld (h : ta σ H (kFld K f Q)) : tFld K ta f σ H Q := h
theorem r_kfld (S : Sep Ps H) (p : Pick (pt a (.ins C dx fs)) Ps Qs) (c : Cls K C) (na : NoAttr K C f) (l : fs.lookup f = some v) (h : Q v H) : kFld K f Q (.ref a) H := ⟨a, C, dx, fs, v, rfl, S.at_ p, c, na, l, h⟩
def kSet (K : PySem.W.Frag) (f : Str) (y : V) (Q : Hp → Prop) : V → Hp → Prop := fun x H2 => ∃ a C dx fs, x = .ref a ∧ H2 a = some (.ins C dx fs) ∧ Cls K C ∧ NoAttr K C f ∧ fs.length < 1000 ∧ Q (upd H2 a (.ins C dx (putF f y fs)))
theorem r_sfld (h : tb σ H fun y H1 => ta σ H1 (kSet K f y (D.nx σ))) : sFld K ta tb f D σ H := h
theorem r_kset {QH : Hp → Prop} (S : Sep Ps H) (r : Repl a (.ins C dx fs) (.ins C dx fs') Ps Qs) (c : Cls K C) (na : NoAttr K C f) (hl : fs.length < 1000) (e : putF f y fs = fs') (h : ∀ H', Sep Qs H' → QH H') : kSet K f y QH (.ref a) H :=
  ⟨a, C, dx, fs, rfl, by obtain ⟨Rs, p, _⟩ := r.pick; exact S.at_ p, c, na, hl, by rw [e]; exact h _ (S.set r)⟩
def kMeth (C : Addr) (m : Str) (sp : Sp) (t : TA) (σ : L2.St) (Q : VK) : V → Hp → Prop := fun x H1 => ∃ a dx fs, x = .ref a ∧ H1 a = some (.ins C dx fs) ∧ fs.lookup m = none ∧ t σ H1 fun vs H2 => sp (x :: vs) H2 Q E0
theorem r_meth {m : Str} (h : ta σ H (kMeth C m sp tr σ Q)) : tMeth C m sp [] E0 ta tr σ H Q := by
  unfold tMeth
  simp only [List.append_nil]
  exact h
theorem r_kmeth {m : Str} (S : Sep Ps H) (p : Pick (pt a (.ins C dx fs)) Ps Qs) (l : fs.lookup m = none) (h : tr σ H fun vs H2 => sp (.ref a :: vs) H2 Q E0) : kMeth C m sp tr σ Q (.ref a) H := ⟨a, dx, fs, rfl, S.at_ p, l, h⟩
def kNew (C : Addr) (sp : Sp) (Q : VK) : List V → Hp → Prop := fun vs H1 => ∀ x dx, H1 x = none → H1 dx = none → dx ≠ x → sp (.ref x :: vs) (upd (upd H1 dx (.own x)) x (.ins C dx [])) (fun v H2 => v = .non ∧ Q (.ref x) H2) E0
theorem r_make (h : tr σ H (kNew C sp Q)) : tMake C sp [] E0 tr σ H Q := by
  unfold tMake
  simp only [List.append_nil]
  exact h
theorem Sep.made {Ps : List SP} {H : Hp} {x dx C : Addr} (S : Sep Ps H) (h1 : H x = none) (h2 : H dx = none) (ne : dx ≠ x) : Sep (pt x (.ins C dx []) :: Ps) (upd (upd H dx (.own x)) x (.ins C dx [])) :=
  Sep.new _ ((S.new _ h2).tl) (by rw [upd_ne (Ne.symm ne)]; exact h1)
theorem r_knew {vs : List V} (S : Sep Ps H) (h : ∀ x dx H', Sep (pt x (.ins C dx []) :: Ps) H' → sp (.ref x :: vs) H' (fun v H2 => v = .non ∧ Q (.ref x) H2) E0) : kNew C sp Q vs H := fun x dx h1 h2 ne => h x dx _ (S.made h1 h2 ne)
/-- slices of lists -/
def kSl (K : PySem.W.Frag) (Q : VK) : V → Option Int → Option Int → Hp → Prop := fun x lo hi H => rSlL K x lo hi H Q
theorem r_sl {tl th : TO} (h : te σ H fun x H1 => tl σ H1 fun l H2 => th σ H2 fun u H3 => kSl K Q x l u H3) : tSl (rSlL K) te tl th σ H Q := h
theorem r_nopart {QO : Option Int → Hp → Prop} (h : QO none H) : tNoPart σ H QO := h
def kPart (QO : Option Int → Hp → Prop) : V → Hp → Prop := fun x H1 => ∃ i, x = .int i ∧ QO (some i) H1
theorem r_part {QO : Option Int → Hp → Prop} (h : te σ H (kPart QO)) : tPart te σ H QO := h
theorem r_parti {QO : Option Int → Hp → Prop} (h : QO (some n) H) : kPart QO (.int n) H := ⟨n, rfl, h⟩
theorem r_ksl {lo hi : Option Int} (S : Sep Ps H) (s : SqL K H a xs) (h : ∀ p H', Sep (pt p (.lst (cutV xs lo hi)) :: Ps) H' → Q (.ref p) H') : kSl K Q (.ref a) lo hi H := ⟨a, xs, rfl, s, fun p np => h p _ (S.new _ np)⟩
theorem r_gsl {to : TE} {tl th : TO} (h : to σ H fun x H1 => tl σ H1 fun lo H2 => th σ H2 fun hi H3 => ∃ (l b : Addr) (xs ys : List V) (a c : Nat), x = .ref l ∧ v = .ref b ∧ lo = some (a : Int) ∧ hi = some (c : Int) ∧
  H3 l = some (.lst xs) ∧ H3 b = some (.lst ys) ∧ l ≠ b ∧ a ≤ xs.length ∧ a ≤ c ∧ xs.length + ys.length ≤ sizeLine ∧ QG σ (upd H3 l (.lst (xs.take a ++ ys ++ xs.drop c)))) : gSl to tl th v σ H QG := h
/-- list(xs) -/
theorem r_list (S : Sep Ps H) (s : SqL K H a xs) (h : ∀ p H', Sep (pt p (.lst xs) :: Ps) H' → Q (.ref p) H') : cList K [.ref a] H Q := ⟨a, xs, rfl, .inl s, fun p np => h p _ (S.new _ np)⟩
/-- xs + ys -/
theorem r_cat {q : Addr} (S : Sep Ps H) (s1 : H a = some (.lst xs)) (s2 : H q = some (.lst ys)) (hz : xs.length + ys.length ≤ 100000) (h : ∀ p H', Sep (pt p (.lst (xs ++ ys)) :: Ps) H' → Q (.ref p) H') : rAddA (.ref a) (.ref q) H Q :=
  .inr (.inl ⟨a, q, xs, ys, rfl, rfl, s1, s2, Nat.le_trans hz (by decide), fun p np => h p _ (S.new _ np)⟩)
/-- methods of lists -/
theorem r_bm {T : String} {r : V → List V → Hp → VK → Prop} {to : TE} (h : to σ H fun x H1 => tyV K T x H1 ∧ tr σ H1 fun xs H2 => r x xs H2 Q) : tBM K T r to tr σ H Q := h
theorem r_bm0 {T : String} {r : V → List V → Hp → VK → Prop} {to : TE} (h : to σ H fun x H1 => tyV K T x H1 ∧ r x [] H1 Q) : tBM0 K T r to σ H Q := h
theorem r_tyl {p : Prop} (s : SqL K H a xs) (h : p) : tyV K "list" (.ref a) H ∧ p := ⟨.inl ⟨rfl, xs, s⟩, h⟩
theorem r_append (S : Sep Ps H) (r : Repl a (.lst xs) (.lst (xs ++ [y])) Ps Qs) (hz : xs.length < 100000) (h : ∀ H', Sep Qs H' → Q .non H') : rAppend (.ref a) [y] H Q :=
  ⟨a, xs, y, rfl, rfl, by obtain ⟨Rs, p, _⟩ := r.pick; exact S.at_ p, Nat.lt_of_lt_of_le hz (by decide), h _ (S.set r)⟩
theorem r_reverse (S : Sep Ps H) (r : Repl a (.lst xs) (.lst xs.reverse) Ps Qs) (h : ∀ H', Sep Qs H' → Q .non H') : rReverse (.ref a) [] H Q :=
  ⟨a, xs, rfl, rfl, by obtain ⟨Rs, p, _⟩ := r.pick; exact S.at_ p, h _ (S.set r)⟩
theorem r_clear (S : Sep Ps H) (r : Repl a (.lst xs) (.lst []) Ps Qs) (h : ∀ H', Sep Qs H' → Q .non H') : rClear (.ref a) [] H Q :=
  ⟨a, xs, rfl, rfl, by obtain ⟨Rs, p, _⟩ := r.pick; exact S.at_ p, h _ (S.set r)⟩
/-- isinstance -/
theorem r_isi {T B : String} {k : Bool} (ty : TyX K H x (.type T)) (e : kitB T B = some k) (h : Q (.bl k) H) : rIsi K [x, .ty B] H Q := ⟨x, .ty B, _, _, k, rfl, .ty B, ty, kit_ty e, h⟩
theorem ty_int : TyX K H (.int n) (.type "int") := .base (.int n)
theorem ty_lst (h : H a = some (.lst xs)) : TyX K H (.ref a) (.type "list") := .base (.lst h)
theorem r_all {bs : List Bool} (s : SqL K H a (bs.map V.bl)) (h : Q (.bl (bs.all id)) H) : rAll K [.ref a] H Q := ⟨a, bs, rfl, s, h⟩
/-- loops -/
theorem r_for {wi : TI} (h : wi σ H fun J H1 => ∃ W : Nat → Nat → L2.St → Hp → Prop, (∃ m, W 0 m σ H1) ∧ ∀ i m σ H, W i m σ H →
  (J.stop i H ∧ D.nx σ H) ∨ (J.go i H ∧ ∃ N : L2.St → Hp → Prop, (∀ σ' H', N σ' H' → ∃ m', m' < m ∧ W (i + 1) m' σ' H') ∧ ∀ x H', J.yld i H x H' → g x σ H' fun σ2 H2 => t { D with nx := N, ct := N, bk := D.nx } σ2 H2)) : tFor wi g t D σ H := h
theorem r_ilist {R : It → Hp → Prop} {tl : TE} (h : tl σ H fun x H1 => ∃ a, x = .ref a ∧ (∃ xs, SqL K H1 a xs) ∧ R (Itl K a) H1) : iList K tl σ H R := h
theorem r_irng {R : It → Hp → Prop} (h : tr σ H fun vs H1 => ∃ j : Int, vs = [.int j] ∧ -(2 ^ 62) ≤ j ∧ j < 2 ^ 62 ∧ R (Itr 0 j.toNat) H1) : iRng1 tr σ H R := h
theorem r_irngA {R : It → Hp → Prop} (h1 : -(2 ^ 62) ≤ n) (h2 : n < 2 ^ 62) (h : R (Itr 0 n.toNat) H) : ∃ j : Int, [V.int n] = [.int j] ∧ -(2 ^ 62) ≤ j ∧ j < 2 ^ 62 ∧ R (Itr 0 j.toNat) H := ⟨n, rfl, h1, h2, h⟩
theorem r_gname {i : Nat} (h : QG (σ.set i (some v)) H) : gName i v σ H QG := h
/-- targets -/
theorem r_gunl {k : Nat} {tg : TGs} (s : SqL K H a xs) (l : xs.length = k) (h : tg xs σ H QG) : gUnl K k tg (.ref a) σ H QG := ⟨a, xs, rfl, s, l, h⟩
theorem r_gtup {k : Nat} {tg : TGs} (s : SqT K H a xs) (l : xs.length = k) (h : tg xs σ H QG) : gTup K k tg (.ref a) σ H QG := ⟨a, xs, rfl, s, l, h⟩
theorem r_gcons {tu : TGs} (h : g v σ H fun σ' H' => tu xs σ' H' QG) : gCons g tu (v :: xs) σ H QG := ⟨v, xs, rfl, h⟩
theorem r_gnil (h : QG σ H) : gNil [] σ H QG := ⟨rfl, h⟩
theorem r_par {i j : Nat} (h : tr σ H fun vs H1 => ∃ v w, vs = [v, w] ∧ D.nx ((σ.set i (some v)).set j (some w)) H1) : tPar i j tr D σ H := h
theorem r_parA {i j : Nat} {p : L2.St → Hp → Prop} (h : p ((σ.set i (some x)).set j (some y)) H) : ∃ v w, [x, y] = [v, w] ∧ p ((σ.set i (some v)).set j (some w)) H := ⟨x, y, rfl, h⟩
theorem r_chain {r r' : R2} {tc : TE} (h : ta σ H fun x H1 => tb σ H1 fun y H2 => r x y H2 fun z H3 => ∃ k, z = .bl k ∧ (if k = true then tc σ H3 fun w' H4 => r' y w' H4 Q else Q (.bl false) H3)) : tChain r r' ta tb tc σ H Q := h
theorem r_isN (h : Q (.bl (decide (x = .non))) H) : Kt.rIsN x .non H Q := ⟨rfl, h⟩
end
/-! ### a class whose __init__ has one keyword-only parameter -/
structure Mtk (K : PySem.W.Frag) (C : Addr) (qual : Str) (st : Stmt) (ps : List Str) (n : Nat) (ks : List Str) (gV : List V → List V → List V) (f : Addr) : Prop where
  fn : ∃ (fd : FuncData) (kws : List (Str × V)) (g : List Value → List Value → List Value), FunD K "__init__" qual (defArgs st) (defBody st) (defScope st) [] kws f fd ∧ KBn K fd ps (n + 1) ks g gV
  mkr : Mk K C f
structure Cfk (P : Program) (w : World) (K : PySem.W.Frag) (mg : Str → Option Value) (base : Heap) (k : Nat) (x : Str) (C : Addr) (ps : List Str) (n : Nat) (ks : List Str) (gV : List V → List V → List V) (sp : Sp) : Prop where
  fn : ∃ (f : Addr) (fd : FuncData) (g : List Value → List Value → List Value), FnOk P w K mg base CX0 k f fd ps sp ∧ KBn K fd ps (n + 1) ks g gV ∧ Mk K C f
  at_ : mg x = some (.ref C)
theorem Mtk.ok {P : Program} {w : World} {K : PySem.W.Frag} {mg : Str → Option Value} {base : Heap} {x : Str} {C : Addr} {qual : Str} {st : Stmt} {f : Addr} {N ps ks : List Str} {k n : Nat} {gV : List V → List V → List V} {sp : Sp} (T : Mtk K C qual st ps n ks gV f) (hx : mg x = some (.ref C)) (S : FnScope N ps (defScope st)) (len : ∀ vs H Q E, sp vs H Q E → vs.length = ps.length)
    (hbody : ∀ (cdv : Value) (A : Around) (outer : List Env) (s : Shared) (H : Hp) (vs : List V) (Q : VK) (E : XK), Room k (A.deeper (envOfC qual (defScope st) s.heap.objs.size f cdv)) → sp vs H Q E →
      ∃ t, PSs (cxOf CX0 P w K mg base N qual (defScope st) f cdv A outer s H E).nox (defBody st) t ∧ t { nx := fun _ H' => Q .non H', rt := Q } (start N vs) H) : Cfk P w K mg base (k + 1) x C ps n ks gV sp := by
  obtain ⟨fd, kws, g, F, b⟩ := T.fn
  refine ⟨⟨f, fd, g, F.ok S len fun cdv A outer s H vs Q E hr h => ?_, b, T.mkr⟩, hx⟩
  obtain ⟨t, ht, q⟩ := hbody cdv A outer s H vs Q E hr h
  exact ⟨t, ht.nox, q⟩
section
variable {X : Cx} {k n : Nat} {x : Str} {C : Addr} {ps ks : List Str} {gV : List V → List V → List V} {sp : Sp} {e : Expr} {es : List Expr} {kws : List Keyword} {t tk : TA} {p pos : Pos}
theorem pe_cfk (M : Cfk X.prog X.w X.K X.mg X.base k x C ps n ks gV sp) (hr : Room (k + 1) X.A) (ha : PA X (e :: es) t) (hkw : PK X kws tk) (hg : Gl X x := by rfl)
    (hall : (backToKw pos (keywordEach kws X.env)).all (·.1.isSome) = true := by rfl) (hks : (backToKw pos (keywordEach kws X.env)).filterMap (·.1) = ks := by rfl) (hd : (x == ("__debug__" : Str)) = false := by decide)
    (he : starEach (e :: es) X.env = (false, eval e X.env) :: starEach es X.env := by rfl) (hpl : ((backTo pos (starEach (e :: es) X.env)).any (·.1) || (backToKw pos (keywordEach kws X.env)).any (·.1.isNone)) = false := by rfl) :
    PE X (.Call (.Name x p) (e :: es) kws pos) (tMakeK C n ks.length sp gV E0 t tk) := by
  obtain ⟨f, fd, g, F, b, M'⟩ := M.fn
  exact pe_makeK M' F hr hg M.at_ b pass0 ha hkw hall hks hd he hpl
end
section
variable {K : PySem.W.Frag} {σ : L2.St} {H : Hp} {Q : VK} {t tk : TA} {C : Addr} {sp : Sp} {gV : List V → List V → List V} {n m : Nat} {Ps : List SP} {vs zs : List V}
def kNewK (C : Addr) (n m : Nat) (sp : Sp) (gV : List V → List V → List V) (Q : VK) (vs zs : List V) : Hp → Prop := fun H2 => vs.length = n ∧ zs.length = m ∧ ∀ x dx, H2 x = none → H2 dx = none → dx ≠ x → sp (gV (.ref x :: vs) zs) (upd (upd H2 dx (.own x)) x (.ins C dx [])) (fun v H3 => v = .non ∧ Q (.ref x) H3) E0
theorem r_makek (h : t σ H fun vs H1 => tk σ H1 fun zs H2 => kNewK C n m sp gV Q vs zs H2) : tMakeK C n m sp gV E0 t tk σ H Q := h
theorem r_knewk (S : Sep Ps H) (l1 : vs.length = n) (l2 : zs.length = m) (h : ∀ x dx H', Sep (pt x (.ins C dx []) :: Ps) H' → sp (gV (.ref x :: vs) zs) H' (fun v H2 => v = .non ∧ Q (.ref x) H2) E0) : kNewK C n m sp gV Q vs zs H := ⟨l1, l2, fun x dx h1 h2 ne => h x dx _ (S.made h1 h2 ne)⟩
end
/-! ### a local name that holds a def -/
section
variable {X : Cx} {k i : Nat} {x y : Str} {f : Addr} {ps : List Str} {sp : Sp} {e : Expr} {es : List Expr} {t : TA} {p pos : Pos}
theorem pe_dfL (D : Df X.prog X.w X.K X.mg X.base k y f ps sp) (hr : Room k X.A) (ha : PA X (e :: es) t) (hN : X.N[i]? = some x := by rfl) (hv : Vis X.env.scope x := by first | exact Or.inl rfl | exact Or.inr (Or.inl rfl) | exact Or.inr (Or.inr rfl))
    (hdb : (x == ("__debug__" : Str)) = false := by decide) (hcd : (x == ("__classdict__" : Str)) = false := by decide)
    (he : starEach (e :: es) X.env = (false, eval e X.env) :: starEach es X.env := by rfl) (hpl : (backTo pos (starEach es X.env)).any (·.1) = false := by rfl) : PE X (.Call (.Name x p) (e :: es) [] pos) (tCallL i f sp [] E0 t) := by
  obtain ⟨fd, F, b⟩ := D.fn
  exact pe_callL F hr hN hv D.kp b .nil pass0 ha hdb hcd he hpl
theorem r_calll {σ : L2.St} {H : Hp} {Q : VK} (hs : σ[i]? = some (some (.ref f))) (h : t σ H fun vs H1 => sp vs H1 Q E0) : tCallL i f sp [] E0 t σ H Q := by
  unfold tCallL
  simp only [List.append_nil]
  exact ⟨hs, h⟩
end
end Kt

set_option Elab.async false
set_option linter.all false
set_option maxRecDepth 100000
namespace Kt
open PySem L2 PyProof.Rows
section
variable {K : PySem.W.Frag} {σ : L2.St} {H : Hp} {D : Ends} {Q : VK} {a : Addr} {xs : List V} {Ps : List SP} {g : TG} {tb : TS} {tt : TT} {te : TE} {vs : List Nat} {n : Int}
/-- the turns of a loop, by a word over the slots and the known parts -/
abbrev LW := Nat → L2.St → List SP → Prop
def Nx (J : LW) (i : Nat) : L2.St → Hp → Prop := fun σ H => ∃ Ps, J i σ Ps ∧ Sep Ps H
theorem nx_in {J : LW} {i : Nat} (S : Sep Ps H) (j : J i σ Ps) : Nx J i σ H := ⟨Ps, j, S⟩
abbrev ForW (J : It) (g : TG) (tb : TS) (D : Ends) (σ : L2.St) (H1 : Hp) : Prop := ∃ W : Nat → Nat → L2.St → Hp → Prop, (∃ m, W 0 m σ H1) ∧ ∀ i m σ H, W i m σ H →
  (J.stop i H ∧ D.nx σ H) ∨ (J.go i H ∧ ∃ N : L2.St → Hp → Prop, (∀ σ' H', N σ' H' → ∃ m', m' < m ∧ W (i + 1) m' σ' H') ∧ ∀ x H', J.yld i H x H' → g x σ H' fun σ2 H2 => tb { D with nx := N, ct := N, bk := D.nx } σ2 H2)
theorem r_for_list (J : LW) (S : Sep Ps H) (h0 : J 0 σ Ps) (hl : ∀ i σ Ps H, i ≤ xs.length → J i σ Ps → Sep Ps H → SqL K H a xs)
    (hs : ∀ i x σ Ps H, xs[i]? = some x → J i σ Ps → Sep Ps H → g x σ H fun σ2 H2 => tb { D with nx := Nx J (i + 1), ct := Nx J (i + 1), bk := D.nx } σ2 H2) (hd : ∀ σ Ps H, J xs.length σ Ps → Sep Ps H → D.nx σ H) :
    ∃ a', V.ref a = .ref a' ∧ (∃ xs, SqL K H a' xs) ∧ ForW (Itl K a') g tb D σ H :=
  ⟨a, rfl, ⟨xs, hl 0 σ Ps H (Nat.zero_le _) h0 S⟩, for_list (K := K) (a := a) (xs := xs) (Nx J) ⟨Ps, h0, S⟩ (fun i σ H hi ⟨Ps, j, S⟩ => hl i σ Ps H hi j S) (fun i x σ H hi ⟨Ps, j, S⟩ => hs i x σ Ps H hi j S) fun σ H ⟨Ps, j, S⟩ => hd σ Ps H j S⟩
theorem r_for_tup (J : LW) (S : Sep Ps H) (h0 : J 0 σ Ps) (hl : ∀ i σ Ps H, i ≤ xs.length → J i σ Ps → Sep Ps H → SqT K H a xs)
    (hs : ∀ i x σ Ps H, xs[i]? = some x → J i σ Ps → Sep Ps H → g x σ H fun σ2 H2 => tb { D with nx := Nx J (i + 1), ct := Nx J (i + 1), bk := D.nx } σ2 H2) (hd : ∀ σ Ps H, J xs.length σ Ps → Sep Ps H → D.nx σ H) :
    ∃ a', V.ref a = .ref a' ∧ (∃ xs, SqT K H a' xs) ∧ ForW (Itt K a') g tb D σ H :=
  ⟨a, rfl, ⟨xs, hl 0 σ Ps H (Nat.zero_le _) h0 S⟩, for_tup (K := K) (a := a) (xs := xs) (Nx J) ⟨Ps, h0, S⟩ (fun i σ H hi ⟨Ps, j, S⟩ => hl i σ Ps H hi j S) (fun i x σ H hi ⟨Ps, j, S⟩ => hs i x σ Ps H hi j S) fun σ H ⟨Ps, j, S⟩ => hd σ Ps H j S⟩
/-- over range(n) -/
theorem r_for_rng (J : LW) (S : Sep Ps H) (h1 : -(2 ^ 62) ≤ n) (h2 : n < 2 ^ 62) (h0 : J 0 σ Ps)
    (hs : ∀ (i : Nat) σ Ps H, i < n.toNat → J i σ Ps → Sep Ps H → g (.int (i : Int)) σ H fun σ2 H2 => tb { D with nx := Nx J (i + 1), ct := Nx J (i + 1), bk := D.nx } σ2 H2) (hd : ∀ σ Ps H, J n.toNat σ Ps → Sep Ps H → D.nx σ H) :
    ∃ j : Int, [V.int n] = [.int j] ∧ -(2 ^ 62) ≤ j ∧ j < 2 ^ 62 ∧ ForW (Itr 0 j.toNat) g tb D σ H :=
  ⟨n, rfl, h1, h2, for_range (Nx J) ⟨Ps, h0, S⟩ (fun i σ H hi ⟨Ps, j, S⟩ => by rw [Int.zero_add]; exact hs i σ Ps H hi j S) fun σ H ⟨Ps, j, S⟩ => hd σ Ps H j S⟩
/-! ### comprehensions: J by the turn, what is made, the known parts -/
abbrev CW := Nat → List V → List SP → Prop
abbrev LcW (Jt : It) (g : TG) (tt : TT) (te : TE) (vs : List Nat) (Q : VK) (σ : L2.St) (H1 : Hp) : Prop := ∀ D, H1 D = none → ∃ W : Nat → Nat → Hp → Prop, (∃ m, W 0 m (upd H1 D (.lst []))) ∧ ∀ i m H, W i m H →
  (Jt.stop i H ∧ Q (.ref D) H) ∨ (Jt.go i H ∧ ∃ Nx : Hp → Prop, (∀ H', Nx H' → ∃ m', m' < m ∧ W (i + 1) m' H') ∧ ∀ x H', Jt.yld i H x H' → g x (wipe σ vs) H' fun σ2 H2 => wipe σ2 vs = wipe σ vs ∧ tt σ2 H2 fun b H3 =>
    if b = true then te σ2 H3 fun y H4 => ∃ acc, H4 D = some (.lst acc) ∧ acc.length < sizeLine ∧ Nx (upd H4 D (.lst (acc ++ [y]))) else Nx H3)
def CN (J : CW) (D : Addr) (i : Nat) : Hp → Prop := fun H => ∃ acc Ps, J i acc Ps ∧ Sep (pt D (.lst acc) :: Ps) H
/-- an item is made: the new list holds one more -/
theorem cn_in {J : CW} {D : Addr} {i : Nat} {acc : List V} {y : V} (S : Sep (pt D (.lst acc) :: Ps) H) (hl : acc.length < 100000) (j : J i (acc ++ [y]) Ps) : ∃ acc, H D = some (.lst acc) ∧ acc.length < sizeLine ∧ CN J D i (upd H D (.lst (acc ++ [y]))) :=
  ⟨acc, S.hd_at, Nat.lt_of_lt_of_le hl (by decide), acc ++ [y], Ps, j, S.hd_set _⟩
theorem cn_out {J : CW} {D : Addr} {i : Nat} {acc : List V} (S : Sep (pt D (.lst acc) :: Ps) H) (j : J i acc Ps) : CN J D i H := ⟨acc, Ps, j, S⟩
theorem r_lc (h : ∀ (wi : TI), wi = wi → True) : True := trivial
theorem r_tlc {wi : TI} (h : wi σ H fun Jt H1 => LcW Jt g tt te vs Q σ H1) : tLc wi g tt te vs σ H Q := h
theorem r_lc_list (J : CW) (S : Sep Ps H) (h0 : J 0 [] Ps) (hl : ∀ D i acc Ps H, i ≤ xs.length → J i acc Ps → Sep (pt D (.lst acc) :: Ps) H → SqL K H a xs) (hl0 : SqL K H a xs)
    (hs : ∀ D i x acc Ps H, xs[i]? = some x → J i acc Ps → Sep (pt D (.lst acc) :: Ps) H → g x (wipe σ vs) H fun σ2 H2 => wipe σ2 vs = wipe σ vs ∧ tt σ2 H2 fun b H3 =>
      if b = true then te σ2 H3 fun y H4 => ∃ acc, H4 D = some (.lst acc) ∧ acc.length < sizeLine ∧ CN J D (i + 1) (upd H4 D (.lst (acc ++ [y]))) else CN J D (i + 1) H3)
    (hd : ∀ D acc Ps H, J xs.length acc Ps → Sep (pt D (.lst acc) :: Ps) H → Q (.ref D) H) : ∃ a', V.ref a = .ref a' ∧ (∃ xs, SqL K H a' xs) ∧ LcW (Itl K a') g tt te vs Q σ H :=
  ⟨a, rfl, ⟨xs, hl0⟩, fun D nD => lc_list (K := K) (a := a) (xs := xs) (CN J D) ⟨[], Ps, h0, S.new _ nD⟩ (fun i H hi ⟨acc, Ps, j, S⟩ => hl D i acc Ps H hi j S) (fun i x H hi ⟨acc, Ps, j, S⟩ => hs D i x acc Ps H hi j S) fun H ⟨acc, Ps, j, S⟩ => hd D acc Ps H j S⟩
theorem r_lc_rng (J : CW) (S : Sep Ps H) (h1 : -(2 ^ 62) ≤ n) (h2 : n < 2 ^ 62) (h0 : J 0 [] Ps)
    (hs : ∀ D (i : Nat) acc Ps H, i < n.toNat → J i acc Ps → Sep (pt D (.lst acc) :: Ps) H → g (.int (i : Int)) (wipe σ vs) H fun σ2 H2 => wipe σ2 vs = wipe σ vs ∧ tt σ2 H2 fun b H3 =>
      if b = true then te σ2 H3 fun y H4 => ∃ acc, H4 D = some (.lst acc) ∧ acc.length < sizeLine ∧ CN J D (i + 1) (upd H4 D (.lst (acc ++ [y]))) else CN J D (i + 1) H3)
    (hd : ∀ D acc Ps H, J n.toNat acc Ps → Sep (pt D (.lst acc) :: Ps) H → Q (.ref D) H) : ∃ j : Int, [V.int n] = [.int j] ∧ -(2 ^ 62) ≤ j ∧ j < 2 ^ 62 ∧ LcW (Itr 0 j.toNat) g tt te vs Q σ H :=
  ⟨n, rfl, h1, h2, fun D nD => lc_range (CN J D) ⟨[], Ps, h0, S.new _ nD⟩ (fun i H hi ⟨acc, Ps, j, S⟩ => by rw [Int.zero_add]; exact hs D i acc Ps H hi j S) fun H ⟨acc, Ps, j, S⟩ => hd D acc Ps H j S⟩
theorem r_yes {QT : Bool → Hp → Prop} (h : QT true H) : tYes σ H QT := h
end
end Kt

set_option Elab.async false
set_option linter.all false
set_option maxRecDepth 100000
namespace Kt
open PySem L2 PyProof.Rows
/-! ### data: equal things are equal -/
def Okd (k : Nat) (d : PyData) : Prop := d.canLay0 = true ∧ d.depth ≤ k
theorem okd_int {k : Nat} (i : Int) : Okd k (.int i) := ⟨rfl, Nat.zero_le _⟩
theorem okd_bl {k : Nat} (b : Bool) : Okd k (.bool b) := ⟨rfl, Nat.zero_le _⟩
theorem okd_non {k : Nat} : Okd k .none := ⟨rfl, Nat.zero_le _⟩
theorem okd_all {k : Nat} : ∀ {ds : List PyData}, (∀ d ∈ ds, Okd k d) → PyData.canLayAll0 ds = true ∧ PyData.depthAll ds ≤ k
  | [], _ => ⟨rfl, Nat.zero_le _⟩
  | d :: ds, h => by
    obtain ⟨h1, h2⟩ := okd_all (ds := ds) fun x m => h x (List.mem_cons_of_mem _ m)
    obtain ⟨g1, g2⟩ := h d List.mem_cons_self
    refine ⟨?_, ?_⟩
    · rw [PyData.canLayAll0, g1, h1] <;> rfl
    · rw [PyData.depthAll]; exact Nat.max_le.mpr ⟨g2, h2⟩
theorem okd_list {k : Nat} {ds : List PyData} (h : ∀ d ∈ ds, Okd k d) : Okd (k + 1) (.list ds) := by
  obtain ⟨h1, h2⟩ := okd_all h
  refine ⟨?_, ?_⟩
  · rw [PyData.canLay0]; exact h1
  · rw [PyData.depth]; omega
theorem okd_tuple {k : Nat} {ds : List PyData} (h : ∀ d ∈ ds, Okd k d) : Okd (k + 1) (.tuple ds) := by
  obtain ⟨h1, h2⟩ := okd_all h
  refine ⟨?_, ?_⟩
  · rw [PyData.canLay0]; exact h1
  · rw [PyData.depth]; omega
theorem Okd.shaped {k : Nat} {d : PyData} (h : Okd k d) (hk : k ≤ 64) : SeqAt.shaped d = true := by
  unfold SeqAt.shaped
  rw [h.1, decide_eq_true (Nat.le_trans h.2 hk)]
  rfl
def dInts (ns : List Int) : PyData := .list (ns.map PyData.int)
theorem okd_ints (k : Nat) (ns : List Int) : Okd (k + 1) (dInts ns) := okd_list fun d m => by
  obtain ⟨i, _, rfl⟩ := List.mem_map.mp m
  exact okd_int i
section
variable {K : PySem.W.Frag} {H : Hp} {Q : VK} {x y : V} {a : Addr} {k : Nat} {d : PyData} {n : Int}
theorem dpall_ints : ∀ ns : List Int, DpAll K H (ns.map V.int) (ns.map PyData.int)
  | [] => .nil
  | n :: ns => .cons (.int n) (dpall_ints ns)
theorem dp_ints {ns : List Int} (s : SqL K H a (ns.map V.int)) : Dp K H (.ref a) (dInts ns) := .lst s (dpall_ints ns)
theorem r_eq_same (h1 : Dp K H x d) (h2 : Dp K H y d) (o : Okd k d) (hk : k ≤ 64) (q : Q (.bl true) H) : rEqA K x y H Q := .inr ⟨d, d, h1, h2, o.shaped hk, o.shaped hk, by rw [SeqAt.eqv_refl d o.1]; exact q⟩
theorem r_ne_same (h1 : Dp K H x d) (h2 : Dp K H y d) (o : Okd k d) (hk : k ≤ 64) (q : Q (.bl false) H) : rNeA K x y H Q := .inr ⟨d, d, h1, h2, o.shaped hk, o.shaped hk, by rw [SeqAt.eqv_refl d o.1]; exact q⟩
theorem r_neg (h : Q (.int (-n)) H) : rU (fun i => .int (-i)) (.int n) H Q := ⟨n, rfl, h⟩
end
end Kt

set_option Elab.async false
set_option linter.all false
set_option maxRecDepth 100000
namespace Kt
open PySem L2 PyProof.Rows
/-! ### many lists as one part -/
def big (l : List (Addr × List V)) : SP := Sep (l.map fun p => pt p.1 (.lst p.2))
theorem big_nil {R : List SP} {H : Hp} (S : Sep R H) : Sep (big [] :: R) H := Sep.unflat (As := []) S
theorem pick_mid {A : SP} {Qs : List SP} : ∀ Ps : List SP, Pick A (Ps ++ A :: Qs) (Ps ++ Qs)
  | [] => .hd
  | P :: Ps => .tl (pick_mid Ps)
theorem big_add {l : List (Addr × List V)} {p : Addr} {xs : List V} {R : List SP} {H : Hp} (S : Sep (pt p (.lst xs) :: big l :: R) H) : Sep (big (l ++ [(p, xs)]) :: R) H := by
  have S1 : Sep (pt p (.lst xs) :: ((l.map fun p => pt p.1 (.lst p.2)) ++ R)) H := S.cons_mono fun _ => Sep.flat
  have S2 : Sep ((l.map fun p => pt p.1 (.lst p.2)) ++ pt p (.lst xs) :: R) H := (pick_mid _).back S1
  refine Sep.unflat (As := (l ++ [(p, xs)]).map fun p => pt p.1 (.lst p.2)) ?_
  rw [List.map_append, List.append_assoc]
  exact S2
theorem sep_mem {R : List SP} {H : Hp} : ∀ {l : List (Addr × List V)} {p : Addr} {xs : List V}, Sep ((l.map fun p => pt p.1 (.lst p.2)) ++ R) H → (p, xs) ∈ l → H p = some (.lst xs)
  | [], _, _, _, h => by simp at h
  | q :: l, p, xs, S, h => by
    rcases List.mem_cons.mp h with e | h
    · subst e
      exact Sep.hd_at (Ps := (l.map fun p => pt p.1 (.lst p.2)) ++ R) S
    · exact sep_mem (Sep.tl (Ps := (l.map fun p => pt p.1 (.lst p.2)) ++ R) S) h
theorem big_get {l : List (Addr × List V)} {p : Addr} {xs : List V} {R : List SP} {H : Hp} (S : Sep (big l :: R) H) (h : (p, xs) ∈ l) : H p = some (.lst xs) := sep_mem S.flat h
theorem big_open {l : List (Addr × List V)} {R : List SP} {H : Hp} (S : Sep (big l :: R) H) : Sep ((l.map fun p => pt p.1 (.lst p.2)) ++ R) H := S.flat
section
variable {K : PySem.W.Frag} {H : Hp} {Q : VK} {x y : V} {a : Addr} {xs : List V} {Ps Qs : List SP}
theorem dpall_of {α : Type} (f : α → V) (g : α → PyData) : ∀ {l : List α}, (∀ z ∈ l, Dp K H (f z) (g z)) → DpAll K H (l.map f) (l.map g)
  | [], _ => .nil
  | z :: l, h => .cons (h z List.mem_cons_self) (dpall_of f g fun z m => h z (List.mem_cons_of_mem _ m))
theorem dpall_app : ∀ {xs ys : List V} {ds es : List PyData}, DpAll K H xs ds → DpAll K H ys es → DpAll K H (xs ++ ys) (ds ++ es)
  | _, _, _, _, .nil, h => h
  | _, _, _, _, .cons h t, h2 => .cons h (dpall_app t h2)
theorem r_insert0 (S : Sep Ps H) (r : Repl a (.lst xs) (.lst (y :: xs)) Ps Qs) (hz : xs.length < 100000) (h : ∀ H', Sep Qs H' → Q .non H') : ∃ (l : Addr) (zs : List V) (i : Int) (y' : V), V.ref a = .ref l ∧ [V.int 0, y] = [.int i, y'] ∧ H l = some (.lst zs) ∧ zs.length < sizeLine ∧ 0 ≤ i ∧ i < 2 ^ 63 ∧
    Q .non (upd H l (.lst (zs.take i.toNat ++ y' :: zs.drop i.toNat))) :=
  ⟨a, xs, 0, y, rfl, rfl, by obtain ⟨Rs, p, _⟩ := r.pick; exact S.at_ p, Nat.lt_of_lt_of_le hz (by decide), by decide, by decide, h _ (S.set r)⟩
end
end Kt

set_option Elab.async false
set_option linter.all false
set_option maxRecDepth 100000
namespace Kt
open PySem PySem.Spec PySem.W L2 PyProof.Rows
/-! ### an instance that is called: its class's own __call__ -/
theorem fn_found {K : Frag} {f : Addr} {h : Heap} (X : K.In h) (e : fnIn K f = true) : ∃ (o : Obj) (fd : FuncData), h.get? f = some o ∧ o.data = .func fd := by
  unfold fnIn at e
  split at e
  · rename_i q
    exact ⟨_, _, X _ _ q, rfl⟩
  · cases e
theorem callee_inst {prog : Program} {w : World} {A : Around} {K : Frag} {a C f : Addr} {dx : Addr} {od : Option Obj} {s : Shared} {R : Result → Shared → Prop} {rest : List Value} {kw : List (Str × Value)} {of_ : Obj} {fd : FuncData}
    (X : K.In s.heap) (J : PySem.W.InstAt s.heap a (PySem.W.instObj C dx) C od) (hs : findIn K (.ref C) "__call__" = some (some (.ref f))) (hf : isFn K (.ref f) = true) (hl : s.heap.get? f = some of_) (hd : of_.data = .func fd)
    (h : codeAny (model prog w) A (.call (.ref f) ⟨.ref a :: rest, kw⟩) R s) : codeAny (model prog w) A (.call (.ref a) ⟨rest, kw⟩) R s := by
  have sp : Looks (model prog w) s.heap (specialOf (.ref a) "__call__") (some (.ref f)) := J.type.andThen (looks_findIn X hs)
  have bd : Looks (model prog w) s.heap (bindSpecial (.ref f) (.ref a)) (.ref f, [.ref a]) := bind_fn X _ (beq_iff_eq.mp hf)
  refine codeAny_of_tree ?_
  show wpAny _ _ (callAny (.ref a) _) _ _ _
  refine nd_load J.at_ ?_
  show wpAny _ _ (callAny.viaDunder (.ref a) _) _ _ _
  unfold callAny.viaDunder
  refine wpAny_bind (sp.here ?_)
  refine wpAny_bind (bd.here ?_)
  have pc : Looks (model prog w) s.heap (callAny.plainCallee (.ref f)) true := (Looks.ld (part := none) hl).andThen (by rw [hd]; exact .now)
  refine wpAny_bind (pc.here ?_)
  exact wpAny_pure (a := Fin.again (.call (.ref f) ⟨.ref a :: rest, kw⟩)) (And.intro rfl h)
theorem keeper_inst {M : Model} {a C dx : Addr} {h : Heap} (e : h.get? a = some (PySem.W.instObj C dx)) : Looks M h (keeperOf (.ref a)) Keeper.caller := (Looks.ld (part := none) e).andThen .now
theorem callWith_inst {M : Model} {A : Around} {E : Value → Shared → Prop} {s : Shared} {pos : Pos} {f : Value} {args : List (Bool × Sem Value)} {Q : Value → Shared → Prop} {P : Heap → Prop} (hplain : (args.any (·.1) || ([] : List (Option Str × Sem Value)).any (·.1.isNone)) = false)
    (hk : ∀ h, P h → Looks M h (keeperOf f) Keeper.caller) (h : wpAny M A (evalArgs f true args []) (fun x s1 => P s1.heap ∧ wpAny M A (call f ([] ++ x.pos) x.kw) Q E s1) E s) : wpAny M A (callWith pos f [] args []) Q E s := by
  unfold callWith
  refine wpAny_bind (wpAny_holding (wpAny_mono h (fun x s1 h1 => wpAny_bind (wpAny_standAt ?_)) fun _ _ z => z))
  simp only [hplain]
  refine wpAny_bind ((hk _ h1.1).here ?_)
  dsimp only
  exact wpAny_bind (wpAny_mono (wpAny_operate' h1.2) (fun r s2 hr => wpAny_bind (wpAny_holding (wpAny_point (wpAny_pure hr)))) fun _ _ z => z)
section
variable {X : Cx} {k i : Nat} {x : Str} {C : Addr} {ps : List Str} {sp : Sp} {e : Expr} {es : List Expr} {t : TA} {p pos : Pos}
/-- x(e, ..), the local x holds an instance of C -/
def tCallI (i : Nat) (C : Addr) (sp : Sp) (t : TA) : TE := fun σ H Q => ∃ a, σ[i]? = some (some (.ref a)) ∧ t σ H fun vs H1 => ∃ dx fs, H1 a = some (.ins C dx fs) ∧ sp (.ref a :: vs) H1 Q E0
theorem pe_mfL (M : Mf X.prog X.w X.K X.mg X.base k C "__call__" ps sp) (hfn : ∀ f, findIn X.K (.ref C) "__call__" = some (some (.ref f)) → fnIn X.K f = true) (hr : Room k X.A) (ha : PA X (e :: es) t) (hN : X.N[i]? = some x := by rfl) (hv : Vis X.env.scope x := by first | exact Or.inl rfl | exact Or.inr (Or.inl rfl) | exact Or.inr (Or.inr rfl))
    (hdb : (x == ("__debug__" : Str)) = false := by decide) (hcd : (x == ("__classdict__" : Str)) = false := by decide) (he : starEach (e :: es) X.env = (false, eval e X.env) :: starEach es X.env := by rfl) (hpl : (backTo pos (starEach es X.env)).any (·.1) = false := by rfl) :
    PE X (.Call (.Name x p) (e :: es) [] pos) (tCallI i C sp t) := by
  obtain ⟨f, fd, F, b, hm⟩ := M.fn
  refine ⟨fun pins s σ H Q I h => ?_⟩
  obtain ⟨a, hs, ht⟩ := h
  refine wpAny_Call_Name_kw (thn ((pe_var (pos := p) hN hv hdb hcd).run pins s σ H (fun v H1 => v = .ref a ∧ H1 = H) I ⟨.ref a, hs, rfl, rfl⟩) fun u s1 ⟨v, H1, I1, r1, q1⟩ => ?_)
  obtain ⟨rfl, rfl⟩ := q1
  cases r1
  have h2 : wpAny (model X.prog X.w) X.A (spliced (backTo pos (starEach (e :: es) X.env))) (fun vs s2 => (∃ dx, s2.heap.get? a = some (PySem.W.instObj C dx)) ∧ wpAny (model X.prog X.w) X.A (call (.ref a) ([] ++ vs)) (EP X pins σ Q) X.xe s2) X.xe s1 :=
    thn (ha.run pos pins s1 σ _ _ I1 ht) fun us s2 ⟨vs, H2, I2, r, dx, fs, hH, q⟩ => by
      obtain ⟨mA, O, _⟩ := ins_get I2.hok hH
      refine ⟨⟨dx, O.obj⟩, ?_⟩
      obtain ⟨od, J, _⟩ := O.look
      obtain ⟨of_, fd2, hl, hd2⟩ := fn_found I2.kIn (hfn f hm.at_)
      have rr : Vals (V.ref a :: vs) (Value.ref a :: us) := .cons rfl r
      have ln : (Value.ref a :: us).length = ps.length := by rw [← rr.length]; exact F.len _ _ _ _ q
      have bd := b s2 (.ref a :: us) I2.kIn (by rw [List.append_nil]; exact ln)
      rw [List.append_nil] at bd
      refine wpAny_call (callee_inst I2.kIn J hm.at_ hm.fn hl hd2 (codeAny_mono (F.run X.A X.stack s2 H2 ⟨.ref a :: us, []⟩ (.ref a :: us) (.ref a :: vs) Q E0 hr I2.env0 bd rr q) fun r s' hq => ?_))
      cases r with
      | error z => exact pass0 pins σ H2 s2 z s' I2 hq
      | ok fl => cases fl with
        | ret u => exact I2.after hq
        | _ => exact False.elim hq
  rw [he] at h2 ⊢
  exact callWith_inst (P := fun h => ∃ dx, h.get? a = some (PySem.W.instObj C dx)) (by show ((false || (backTo pos (starEach es X.env)).any (·.1)) || false) = false; rw [hpl]; rfl) (fun h ⟨dx, q⟩ => keeper_inst q) (Calls.evalArgs_plain h2)
/-- an expression read in one of two ways -/
def tEr (t t' : TE) : TE := fun σ H Q => t σ H Q ∨ t' σ H Q
theorem pe_er {e : Expr} {t t' : TE} (h : PE X e t) (h' : PE X e t') : PE X e (tEr t t') := ⟨fun pins s σ H Q I q => q.elim (h.run pins s σ H Q I) (h'.run pins s σ H Q I)⟩
end
end Kt

set_option Elab.async false
set_option linter.all false
set_option maxRecDepth 100000
namespace Kt
open PySem L2 PyProof.Rows
/-! ### properties by name -/
structure Pt (K : PySem.W.Frag) (C : Addr) (m qual : Str) (st : Stmt) (g : Addr) : Prop where
  fn : ∃ fd, Fun K m qual st g fd ∧ Binds K fd ["self"] []
  at_ : ∃ p, PropOf K C m p g
structure Pf (P : Program) (w : World) (K : PySem.W.Frag) (mg : Str → Option Value) (base : Heap) (k : Nat) (C : Addr) (m : Str) (sp : Sp) : Prop where
  fn : ∃ p g fd, FnOk P w K mg base CX0 k g fd ["self"] sp ∧ Binds K fd ["self"] [] ∧ PropOf K C m p g
  cls : Cls K C
theorem Pt.ok {P : Program} {w : World} {K : PySem.W.Frag} {mg : Str → Option Value} {base : Heap} {C : Addr} {x qual : Str} {st : Stmt} {f : Addr} {N : List Str} {k : Nat} {sp : Sp} (T : Pt K C x qual st f) (c : Cls K C) (S : FnScope N ["self"] (defScope st)) (len : ∀ vs H Q E, sp vs H Q E → vs.length = 1)
    (hbody : ∀ (cdv : Value) (A : Around) (outer : List Env) (s : Shared) (H : Hp) (vs : List V) (Q : VK) (E : XK), Room k (A.deeper (envOfC qual (defScope st) s.heap.objs.size f cdv)) → sp vs H Q E →
      ∃ t, PSs (cxOf CX0 P w K mg base N qual (defScope st) f cdv A outer s H E).nox (defBody st) t ∧ t { nx := fun _ H' => Q .non H', rt := Q } (start N vs) H) : Pf P w K mg base (k + 1) C x sp := by
  obtain ⟨fd, F, b⟩ := T.fn
  obtain ⟨p, hp⟩ := T.at_
  exact ⟨⟨p, f, fd, F.ok S len hbody, b, hp⟩, c⟩
theorem pe_pr {X : Cx} {k : Nat} {C : Addr} {f : Str} {sp : Sp} {e : Expr} {pos : Pos} {ta : TE} (M : Pf X.prog X.w X.K X.mg X.base k C f sp) (hr : Room (k + 1) X.A) (he : PE X e ta) (hab : attributeBase e f X.env (eval e X.env) = eval e X.env := by rfl) : PE X (.Attribute e f pos) (tProp C sp [] E0 ta) := by
  obtain ⟨p, g, fd, F, b, hp⟩ := M.fn
  exact pe_prop he M.cls hp F hr b .nil pass0 hab
section
variable {σ : L2.St} {H : Hp} {Q : VK} {C a dx : Addr} {sp : Sp} {ta : TE} {fs : List (Str × V)} {Ps Qs : List SP}
def kProp (C : Addr) (sp : Sp) (Q : VK) : V → Hp → Prop := fun x H1 => ∃ a dx fs, x = .ref a ∧ H1 a = some (.ins C dx fs) ∧ sp [.ref a] H1 Q E0
theorem r_prop (h : ta σ H (kProp C sp Q)) : tProp C sp [] E0 ta σ H Q := h
theorem r_kprop (S : Sep Ps H) (p : Pick (pt a (.ins C dx fs)) Ps Qs) (h : sp [.ref a] H Q E0) : kProp C sp Q (.ref a) H := ⟨a, dx, fs, rfl, S.at_ p, h⟩
end
end Kt

set_option Elab.async false
set_option linter.all false
set_option maxRecDepth 100000
namespace Kt
open PySem PySem.Spec L2 PyProof.Rows
/-! ### promises of defs that are called where no guard stands: what repr of a list asks -/
structure FnG (P : Program) (w : World) (K : PySem.W.Frag) (mg : Str → Option Value) (base : Heap) (k : Nat) (f : Addr) (fd : FuncData) (ps : List Str) (sp : Sp) : Prop where
  len : ∀ vs H Q E, sp vs H Q E → vs.length = ps.length
  run : ∀ (A : Around) (outer : List Env) (s : Shared) (H : Hp) (args : Args) (us : List Value) (vs : List V) (Q : VK) (E : XK), A.guards = some [] → Room k A → Env0 P w K mg base A outer s H → BindsTo s fd args (ps.zip us) → Vals vs us → sp vs H Q E → codeAny (model P w) A (.call (.ref f) args) (CR CX0 outer P w H s Q E) s
section
variable {P : Program} {w : World} {K : PySem.W.Frag} {mg : Str → Option Value} {base : Heap}
theorem fnG_ok {x qual : Str} {st : Stmt} {f : Addr} {fd : FuncData} {N ps : List Str} {k : Nat} {sp : Sp} (F : Fun K x qual st f fd) (S : FnScope N ps (defScope st)) (len : ∀ vs H Q E, sp vs H Q E → vs.length = ps.length)
    (hbody : ∀ (cdv : Value) (A : Around) (outer : List Env) (s : Shared) (H : Hp) (vs : List V) (Q : VK) (E : XK), A.guards = some [] → Room k (A.deeper (envOfC qual (defScope st) s.heap.objs.size f cdv)) → sp vs H Q E →
      ∃ t, PSs (cxOf CX0 P w K mg base N qual (defScope st) f cdv A outer s H E).nox (defBody st) t ∧ t { nx := fun _ H' => Q .non H', rt := Q } (start N vs) H) : FnG P w K mg base (k + 1) f fd ps sp := by
  obtain ⟨oc, od, kV, doc, pm, an, cdv, ct, osl, rfl, lk, hcd⟩ := F.ex
  refine ⟨len, fun A outer s H args us vs Q E hg hr e0 hb r hsp => ?_⟩
  have KX : K.In s.heap := e0.mod.kin.keeps fun b o e => (e0.bs b o e).1
  have lim := e0.mod.nolimit.keeps (h' := s.heap) fun b o e => (e0.bs b o e).1
  have hl : vs.length = ps.length := len vs H Q E hsp
  have kinds : ∀ y ∈ ps.zip us, (defScope st).names.lookup y.1 = some .local ∨ ((defScope st).names.lookup y.1 = some .cell ∧ ((cellsFrom (s.heap.objs.size + 1) (defScope st).names []).lookup y.1).isSome = true) := by
    rintro ⟨n, v⟩ hy
    exact (S.par n (List.of_mem_zip hy).1).imp id fun q => ⟨q, PySem.W.cellsFrom_some _ _ _ (.inl q)⟩
  refine codeAny_call_function hr.depth (KX _ _ lk) rfl S.co S.gen rfl (PySem.W.codeRec_of KX hcd) (hb _ _ _ _ (wpAny_newFunctionEnv_cells S.kind kinds fun env he s1 x => ?_))
  cases he
  refine ⟨lim.keeps x.toInCall.keep, codeAny_func ?_⟩
  obtain ⟨t, ht, hq⟩ := hbody cdv A outer s H vs Q E hg (hr.deeper _) hsp
  refine wpAny_mono (ht.nox.run [] s1 (start N vs) H _ (inv_start S hr.hd e0 hl r x) hq) (fun fl s' hs => ?_) fun _ _ z => z
  rcases fl with u | _ | _ | _
  all_goals first
    | exact (let ⟨v, σ', H', J, rv, q⟩ := hs; ⟨v, H', J.os, J.bare, J.base, J.hok, rv, q⟩)
    | exact (let ⟨σ', H', J, q⟩ := hs; ⟨V.non, H', J.os, J.bare, J.base, J.hok, rfl, q⟩)
    | exact (let ⟨_, _, _, q⟩ := hs; q.elim)
end
/-! ### a def of the text that is called where no guard stands -/
structure Dg (P : Program) (w : World) (K : PySem.W.Frag) (mg : Str → Option Value) (base : Heap) (k : Nat) (x : Str) (f : Addr) (ps : List Str) (sp : Sp) : Prop where
  fn : ∃ fd, FnG P w K mg base k f fd ps sp ∧ Binds K fd ps []
  at_ : mg x = some (.ref f)
  kp : PySem.W.keepIn K (.ref f) = true
theorem Dt.okG {P : Program} {w : World} {K : PySem.W.Frag} {mg : Str → Option Value} {base : Heap} {x : Str} {st : Stmt} {f : Addr} {N ps : List Str} {k : Nat} {sp : Sp} (T : Dt K mg x st ps f) (S : FnScope N ps (defScope st)) (len : ∀ vs H Q E, sp vs H Q E → vs.length = ps.length)
    (hbody : ∀ (cdv : Value) (A : Around) (outer : List Env) (s : Shared) (H : Hp) (vs : List V) (Q : VK) (E : XK), A.guards = some [] → Room k (A.deeper (envOfC x (defScope st) s.heap.objs.size f cdv)) → sp vs H Q E →
      ∃ t, PSs (cxOf CX0 P w K mg base N x (defScope st) f cdv A outer s H E).nox (defBody st) t ∧ t { nx := fun _ H' => Q .non H', rt := Q } (start N vs) H) : Dg P w K mg base (k + 1) x f ps sp := by
  obtain ⟨fd, F, b⟩ := T.fn
  exact ⟨⟨fd, fnG_ok F S len hbody, b⟩, T.at_, F.kp⟩
section
variable {X : Cx} {k : Nat} {x : Str} {f : Addr} {fd : FuncData} {ps : List Str} {sp : Sp} {e : Expr} {es : List Expr} {t : TA} {p pos : Pos}
theorem run_fnG {pins : List (Addr × Obj)} {σ : L2.St} {H : Hp} {s : Shared} {Q : VK} {us : List Value} {vs : List V} (F : FnG X.prog X.w X.K X.mg X.base k f fd ps sp) (hg : X.A.guards = some []) (hr : Room k X.A) (hb : Binds X.K fd ps []) (I : Inv X pins σ H s) (r : Vals vs us) (h : sp vs H Q E0) :
    wpAny (model X.prog X.w) X.A (call (.ref f) us) (EP X pins σ Q) X.xe s := by
  have ln : us.length = ps.length := r.length.symm.trans (F.len _ _ _ _ h)
  have bd := hb s us I.kIn (by rw [List.append_nil]; exact ln)
  rw [List.append_nil] at bd
  refine wpAny_call (codeAny_mono (F.run X.A X.stack s H ⟨us, []⟩ us vs Q E0 hg hr I.env0 bd r h) fun z s' hq => ?_)
  rcases z with z | u | _ | _ | _ <;> first | exact I.after hq | exact pass0 pins σ H s z s' I hq | exact hq.elim
theorem pe_dg (D : Dg X.prog X.w X.K X.mg X.base k x f ps sp) (hg : X.A.guards = some []) (hr : Room k X.A) (ha : PA X (e :: es) t) (hgl : Gl X x := by rfl) (hd : (x == ("__debug__" : Str)) = false := by decide)
    (he : starEach (e :: es) X.env = (false, eval e X.env) :: starEach es X.env := by rfl) (hpl : (backTo pos (starEach es X.env)).any (·.1) = false := by rfl) : PE X (.Call (.Name x p) (e :: es) [] pos) (tCall sp [] E0 t) := by
  obtain ⟨fd, F, b⟩ := D.fn
  refine ⟨fun pins s σ H Q I h => wpAny_Call_Name_kw (ld_glob I hgl D.at_ ?_ hd)⟩
  refine PySem.W.callWith_K (h₀ := X.base) I.ok.mod.kin D.kp (thn (ha.run pos pins s σ H _ I h) fun us s1 ⟨vs, H1, I1, r, q⟩ => ⟨I1.kIn, run_fnG F hg hr b I1 r ?_⟩) he hpl
  have q2 : sp (vs ++ []) H1 Q E0 := q
  rw [List.append_nil] at q2
  exact q2
/-! ### repr of lists and tuples -/
def cRepr (K : PySem.W.Frag) : List V → Hp → VK → Prop := fun xs H Q => ∃ a d, xs = [.ref a] ∧ Dp K H (.ref a) d ∧ d.showable = true ∧ d.hasDict = false ∧ d.depth ≤ 60 ∧ d.shown.length ≤ sizeLine ∧ Q (.str d.shown) H
theorem call_reprA (hg : X.A.guards = some []) (hu : X.A.units + 64 < cLine) : CallR X (.builtin "repr") (cRepr X.K) := by
  intro pins s σ H xs us Q I r h
  obtain ⟨a, d, rfl, hD, hs, hn, hp, hz, q⟩ := h
  obtain ⟨u, rfl, r1⟩ := vals1 r
  cases r1
  obtain ⟨as, rd⟩ := Dp.reads I d _ _ hD rfl
  exact repr_of_reads' rd hs (fun z => by rw [hn] at z; cases z) hg (by omega) (fun _ _ e => e) (fun h' u tk hk => ⟨.str d.shown, H, I.kept hk, ⟨u, rfl⟩, q⟩) hz
end
/-! ### the law itself: it is called where no guard stands -/
section
variable {P : Program} {w : World} {K : PySem.W.Frag} {mg mb : Str → Option Value} {k : Nat} {fa a : Addr} {fd : FuncData} {x : Str} {sp : Sp} {s1 : Shared} {vs : List Value} {ns : List Int}
/-- from a heap in which the script alone may be tracked -/
theorem law_from (KX : K.In s1.heap) (hns : s1.heap.Ns mainGlobals mg) (hb : s1.heap.Ns builtinsNs mb) (hbb : ∀ x : Str, x ≠ "__name__" → mb x = bootBuiltins x) (hlim : s1.heap.NoLimit) (hg : s1.gens = #[])
    (ha : s1.heap.get? a = some { cls := .type "list", data := .seq vs.toArray }) (hr : Room k callerA) (F : ∀ base : Heap, K.In base → base.Ns mainGlobals mg → FnG P w K mg base k fa fd [x] sp) (hbind : ∀ (s : Shared) (u : Value), BindsTo s fd ⟨[u], []⟩ [(x, u)])
    (H : Hp) (hO : Only H) (hq : sp [.ref a] H (fun v _ => v = .bl true) E0) (hok : HOk P w H s1.heap) (hA : ∀ b, H b ≠ none → b = a) (hK : H a ≠ none → K.lookup a = none) :
    codeAny (model P w) callerA (.call (.ref fa) ⟨[.ref a], []⟩) (fun r s' => r = .ok (.ret (.bool true)) ∧ OldK s1.heap s'.heap ∧ s'.os = s1.os ∧ AllBare s'.gens) s1 := by
  have free : ∀ b, b ≠ a → H b = none := fun b nb => by
    cases q : H b with
    | none => rfl
    | some u => exact absurd (hA b (by rw [q]; nofun)) nb
  have dictFree : ∀ {b : Addr} {m : Str → Option Value}, s1.heap.Ns b m → (hidT s1.heap H).Ns b m := by
    rintro b m ⟨o, es, ep, e, d, r⟩
    refine ⟨o, es, ep, hidT_get e (free b ?_), d, r⟩
    rintro rfl
    rw [ha] at e
    cases e
    cases d
  have hKb : K.In (hidT s1.heap H) := fun b o e => hidT_get (KX b o e) (by
    cases q : H b with
    | none => rfl
    | some u =>
      cases hA b (by rw [q]; nofun)
      rw [hK (by rw [q]; nofun)] at e
      cases e)
  obtain ⟨mc, lim1, lim2⟩ := hlim
  have hM : Mod K mg (hidT s1.heap H) := ⟨hKb, dictFree hns, ⟨mb, dictFree hb, hbb⟩, ⟨mc, dictFree lim1, lim2⟩⟩
  have e0 : Env0 P w K mg (hidT s1.heap H) callerA [] s1 H := ⟨rfl, hM, fun b o e => of_hidT e, Nat.le_of_eq (hidT_size _ _), trivial, fun b hb => (List.not_mem_nil (show b ∈ ([] : List Addr) from hb)).elim, hok, .of_eq hg⟩
  refine codeAny_mono ((F _ hKb (dictFree hns)).run callerA [] s1 H ⟨[.ref a], []⟩ [.ref a] [.ref a] _ _ rfl hr e0 (hbind s1 (.ref a)) (.cons rfl .nil) hq) fun r s' h => ?_
  cases r with
  | error e => exact False.elim h
  | ok fl => cases fl with
    | ret u =>
      obtain ⟨v, H', os, bare, un, hok', r', q'⟩ := h
      cases (show v = .bl true from q')
      cases (show u = Value.bool true from r')
      refine ⟨rfl, OldK.of_keep fun b o e => ?_, os, bare⟩
      rcases hO b with z | ⟨ob, xs, z⟩
      · exact un.keep b o e z (fun q => (List.not_mem_nil (show b ∈ ([] : List Addr) from q)).elim) (by simp)
      · obtain ⟨e1, _⟩ := hok b _ z
        obtain ⟨e2, _⟩ := hok' b _ (un.frzs b ob _ z)
        rw [e] at e1
        cases e1
        exact e2
    | _ => exact False.elim h
theorem law_callG (KX : K.In s1.heap) (hns : s1.heap.Ns mainGlobals mg) (hb : s1.heap.Ns builtinsNs mb) (hbb : ∀ x : Str, x ≠ "__name__" → mb x = bootBuiltins x) (hlim : s1.heap.NoLimit) (hg : s1.gens = #[])
    (ha : s1.heap.get? a = some { cls := .type "list", data := .seq vs.toArray }) (hi : IntsAre vs ns) (hl : ns.length ≤ sizeLine) (hr : Room k callerA) (F : ∀ base : Heap, K.In base → base.Ns mainGlobals mg → FnG P w K mg base k fa fd [x] sp)
    (hbind : ∀ (s : Shared) (u : Value), BindsTo s fd ⟨[u], []⟩ [(x, u)]) (hsp : ∀ H : Hp, Only H → SqL K H a (ns.map V.int) → sp [.ref a] H (fun v _ => v = .bl true) E0) :
    codeAny (model P w) callerA (.call (.ref fa) ⟨[.ref a], []⟩) (fun r s' => r = .ok (.ret (.bool true)) ∧ OldK s1.heap s'.heap ∧ s'.os = s1.os ∧ AllBare s'.gens) s1 := by
  have core := law_from (P := P) (w := w) (sp := sp) KX hns hb hbb hlim hg ha hr F hbind
  have lenV := hi.length
  have rv := vals_ints hi
  cases hk : K.lookup a with
  | some o =>
    have e := ha.symm.trans (KX a o hk)
    cases e
    have hO : Only (fun _ => none) := fun _ => .inl rfl
    exact core _ hO (hsp _ hO (.inr ⟨_, vs.toArray, _, hk, rfl, rfl, rfl, by rw [List.size_toArray, lenV]; exact hl, by simpa using rv⟩)) (fun b u z => nomatch (show (none : Option HO) = some u from z)) (fun b z => absurd rfl z) (fun z => absurd rfl z)
  | none =>
    have at_ : (fun b => if b = a then some (HO.frz { cls := .type "list", data := .seq vs.toArray } (.lst (ns.map V.int))) else none : Hp) a = some (HO.frz { cls := .type "list", data := .seq vs.toArray } (.lst (ns.map V.int))) := if_pos rfl
    have off : ∀ b, b ≠ a → (fun b => if b = a then some (HO.frz { cls := .type "list", data := .seq vs.toArray } (.lst (ns.map V.int))) else none : Hp) b = none := fun b nb => if_neg nb
    generalize (fun b => if b = a then some (HO.frz { cls := .type "list", data := .seq vs.toArray } (.lst (ns.map V.int))) else none : Hp) = H at at_ off
    have hO : Only H := fun b => (Decidable.em (b = a)).elim (fun e => .inr ⟨_, _, e ▸ at_⟩) fun e => .inl (off b e)
    refine core H hO (hsp H hO (.inl (.inr ⟨_, at_⟩))) (fun b u z => ?_) (fun b z => Decidable.byContradiction fun e => z (off b e)) fun _ => hk
    obtain rfl : b = a := Decidable.byContradiction fun e => nomatch (off b e).symm.trans z
    cases at_.symm.trans z
    exact ⟨ha, by rw [List.length_map]; exact hl, vs, _, rv, ha⟩
end
theorem walk_G {l : PySem.W.OpenLaw} {n k : Nat} {q : Program} {loose : List Str} {XP : (Str → Option Value) → Heap → Prop} {YP : World → Heap → Prop} {d : DefRec} {K : Params → PySem.W.Frag} {sp : World → Sp} {x : Str} (hn : l.most = some n) (hn2 : n ≤ sizeLine) (hdf : d.params.defaults = []) (hr : Room k callerA)
    (hY : ∀ (w : World) (h : Heap), YP w h → (K w.params).In h) (F : ∀ (w : World) (mg : Str → Option Value) (fa : Addr) (h : Heap), (K w.params).In h → h.Ns mainGlobals mg → mg d.name = some (.ref fa) →
      ∃ fd : FuncData, (∀ (s : Shared) (u : Value), BindsTo s fd ⟨[u], []⟩ [(x, u)]) ∧ ∀ base : Heap, (K w.params).In base → base.Ns mainGlobals mg → FnG l.prog w (K w.params) mg base k fa fd [x] (sp w))
    (hsp : ∀ (w : World) (H : Hp) (a : Addr) (ns : List Int), ns.length ≤ n → (∀ z ∈ ns, Builtin.Int.intBits z ≤ 1048576) → Only H → SqL (K w.params) H a (ns.map V.int) → sp w [.ref a] H (fun v _ => v = .bl true) E0) : PySem.W.WalkO q loose XP YP l.row.toRowW d [] (fun f vs => PySem.call f vs) := by
  refine Att.attach_callB hn hdf fun w s0 s1 mg mb fa o pm cd doc a vs ns G Y ho hd hcd hmg hobj hints hlen hbits hg => ?_
  obtain ⟨fd, hb, hF⟩ := F w mg fa _ (hY w _ Y) G.T.g hmg
  exact law_callG (hY w _ Y) G.T.g G.T.b G.T.builtins G.T.nolimit hg hobj hints (Nat.le_trans hlen hn2) hr hF hb fun H hO hS => hsp w H a ns hlen hbits hO hS
end Kt

set_option Elab.async false
set_option linter.all false
set_option maxRecDepth 100000
namespace Kt
open PySem PySem.Spec L2 PyProof.Rows
/-! ### instances of a class without an own __eq__: == is being the same -/
section
variable {M : Model} {prog : Program} {w : World} {A : Around} {E : Value → Shared → Prop} {s : Shared} {K : PySem.W.Frag} {x y C dx dy : Addr} {od od2 : Option Obj}
theorem isSame_inst {R : Bool → Shared → Prop} (hx : s.heap.get? x = some (PySem.W.instObj C dx)) (hy : s.heap.get? y = some (PySem.W.instObj C dy)) (h : R (decide (x = y)) s) : wpAny M A (isSame (.ref x) (.ref y)) R E s := by
  unfold isSame
  by_cases e : x = y
  · subst e
    rw [decide_eq_true rfl] at h
    refine wpAny_ite_split (fun _ => wpAny_pure h) (fun q => absurd (beq_self_eq_true x) (by simpa using q))
  · rw [decide_eq_false e] at h
    refine wpAny_ite_split (fun q => absurd (beq_iff_eq.mp q) e) (fun _ => ?_)
    refine wpAny_bind (PySem.W.nd_load hx (wpAny_pure ?_))
    refine wpAny_bind (PySem.W.nd_load hy (wpAny_pure ?_))
    exact wpAny_pure h
theorem objEq_inst {Q : Fin → Shared → Prop} (hx : s.heap.get? x = some (PySem.W.instObj C dx)) (hy : s.heap.get? y = some (PySem.W.instObj C dy)) (hq : Q (.done (.ret (if x = y then .bool true else .notImplemented))) s) : wpAny M A (Builtin.«object.__eq__» ⟨[.ref x, .ref y], []⟩) Q E s := by
  unfold Builtin.«object.__eq__»
  repeat (first | with_reducible refine isSame_inst hx hy ?_ | wp_step)
  by_cases e : x = y
  · rw [if_pos e] at hq
    rw [decide_eq_true e]
    exact wpAny_pure hq
  · rw [if_neg e] at hq
    rw [decide_eq_false e]
    exact wpAny_pure hq
theorem try_inst (X : K.In s.heap) (I : PySem.W.InstAt s.heap x (PySem.W.instObj C dx) C od) (hm : PySem.W.mroIn K C (.type "object") = some true) (hs : PySem.W.findIn K (.ref C) "__eq__" = some (some (.builtin "object.__eq__"))) (hy : s.heap.get? y = some (PySem.W.instObj C dy)) :
    wpAny (model prog w) A (tryCompare (.ref x) "__eq__" (.ref y)) (fun r s' => r = (if x = y then some (Value.bool true) else none) ∧ s' = s) E s := by
  unfold tryCompare
  refine wpAny_bind (HN.ifBound_objEq X I hs (wpAny_call (codeAny_call_builtin F.cmp_object.eq.plain F.cmpEntry_eq (PySem.W.check_slot F.cmpKind_eq F.cmpSplit_eq (I.type.andThen (PySem.W.looks_mroIn X hm)) (F.cmpArgs_eq _ _) (objEq_inst I.at_ hy ?_)))))
  by_cases e : x = y
  · rw [if_pos e, if_pos e]
    exact wpAny_pure ⟨rfl, rfl⟩
  · rw [if_neg e, if_neg e]
    exact wpAny_pure ⟨rfl, rfl⟩
theorem rc_inst (hu : A.units < cLine) (X : K.In s.heap) (I : PySem.W.InstAt s.heap x (PySem.W.instObj C dx) C od) (J : PySem.W.InstAt s.heap y (PySem.W.instObj C dy) C od2) (hm : PySem.W.mroIn K C (.type "object") = some true) (hs : PySem.W.findIn K (.ref C) "__eq__" = some (some (.builtin "object.__eq__"))) {Q : Value → Shared → Prop}
    (h : Q (.bool (decide (x = y))) s) : wpAny (model prog w) A (richCompare .Eq (.ref x) (.ref y)) Q E s := by
  simp only [richCompare, cmpInfo_Eq, oneThing_ref]
  refine wpAny_holding (wpAny_bind (wpAny_cRoomFor hu ?_))
  refine wpAny_bind (I.type.here (wpAny_bind (J.type.here ?_)))
  rw [if_neg (by simp)]
  refine wpAny_bind (wpAny_pure ?_)
  simp only [Bool.false_eq_true, if_false, Bool.not_false, if_true]
  refine wpAny_bind (m := tryCompare (.ref x) _ (.ref y)) (wpAny_mono (try_inst X I hm hs J.at_) (fun r s1 z => ?_) fun _ _ e => e)
  obtain ⟨z1, z2⟩ := z
  subst z2
  by_cases e : x = y
  · rw [if_pos e] at z1
    subst z1
    rw [decide_eq_true e] at h
    exact wpAny_pure h
  · rw [if_neg e] at z1
    subst z1
    refine wpAny_bind (m := tryCompare (.ref y) _ (.ref x)) (wpAny_mono (try_inst X J hm hs I.at_) (fun r s2 z => ?_) fun _ _ e => e)
    obtain ⟨z1, z2⟩ := z
    subst z2
    rw [if_neg (fun q => e q.symm)] at z1
    subst z1
    exact wpAny_bind (wpAny_rule (wpAny_bind (isSame_inst I.at_ J.at_ (wpAny_pure h))))
end
def rEqIns (K : PySem.W.Frag) : R2 := fun x y H Q => ∃ a b C dx fs dy gs, x = .ref a ∧ y = .ref b ∧ H a = some (.ins C dx fs) ∧ H b = some (.ins C dy gs) ∧ PySem.W.mroIn K C (.type "object") = some true ∧ PySem.W.findIn K (.ref C) "__eq__" = some (some (.builtin "object.__eq__")) ∧ Q (.bl (decide (a = b))) H
theorem op_eqIns {X : Cx} (hu : X.A.units + 64 < cLine) : OpR X (compareOp .Eq) (rEqIns X.K) := by
  intro pins s σ H x y v u Q I rx ry h
  obtain ⟨a, b, C, dx, fs, dy, gs, rfl, rfl, h1, h2, hm, he, q⟩ := h
  cases (show v = Value.ref a from rx)
  cases (show u = Value.ref b from ry)
  obtain ⟨_, O1, _⟩ := ins_get I.hok h1
  obtain ⟨_, O2, _⟩ := ins_get I.hok h2
  obtain ⟨_, J1, _⟩ := O1.look
  obtain ⟨_, J2, _⟩ := O2.look
  exact rc_inst (by omega) I.kIn J1 J2 hm he ⟨.bl _, H, I, rfl, q⟩
end Kt

set_option Elab.async false
set_option linter.all false
set_option maxRecDepth 100000
namespace Kt
open PySem L2 PyProof.Rows
/-! ### data that may be shown: its texts are short -/
structure Sh (k W : Nat) (d : PyData) : Prop where
  ok : Okd k d
  sh : d.showable = true
  sm : d.leavesShort 64 = true
  wt : d.weight ≤ W
theorem Sh.nd {k W : Nat} {d : PyData} (h : Sh k W d) : d.hasDict = false := PyData.hasDict_of_canLay d h.ok.1
theorem Sh.fits {k W : Nat} {d : PyData} (h : Sh k W d) (hW : W ≤ 200000) : d.shown.length ≤ sizeLine := by
  have h1 := PyData.shown_le 64 (by decide) d h.sm
  have h2 : (64 + 2) * d.weight ≤ 66 * 200000 := Nat.mul_le_mul (by omega) (Nat.le_trans h.wt hW)
  have e : sizeLine = 16777216 := by decide
  omega
theorem Sh.up {k k' W W' : Nat} {d : PyData} (h : Sh k W d) (hk : k ≤ k') (hW : W ≤ W') : Sh k' W' d := ⟨⟨h.ok.1, Nat.le_trans h.ok.2 hk⟩, h.sh, h.sm, Nat.le_trans h.wt hW⟩
theorem sh_int {k : Nat} {i : Int} (h : i.natAbs < 10 ^ 60) : Sh k 200 (.int i) := by
  refine ⟨okd_int i, ?_, ?_, ?_⟩
  · rw [PyData.showable]
    refine decide_eq_true ?_
    have h2 : i.natAbs < 2 ^ 200 := Nat.lt_trans h (by decide)
    by_cases h0 : i.natAbs = 0
    · rw [h0]; decide
    · exact Nat.lt_trans ((Nat.log2_lt h0).mpr h2) (by decide)
  · rw [PyData.leavesShort]
    refine decide_eq_true ?_
    have e := int_text_length_le10 (k := 60) (by decide) h
    show (Str.ofString (toString i)).length ≤ 64
    rw [PySem.ofString_length]
    omega
  · rw [PyData.weight]
    have h2 : i.natAbs < 2 ^ 200 := Nat.lt_trans h (by decide)
    by_cases h0 : i.natAbs = 0
    · rw [h0]
      split
      · decide
      · decide
    · have := (Nat.log2_lt h0).mpr h2
      split
      · decide
      · omega
theorem sh_non {k : Nat} : Sh k 0 .none := ⟨okd_non, rfl, rfl, Nat.le_refl _⟩
theorem sh_bl {k : Nat} (b : Bool) : Sh k 1 (.bool b) := ⟨okd_bl b, rfl, rfl, by cases b <;> decide⟩
theorem sh_all {k W : Nat} : ∀ {ds : List PyData}, (∀ d ∈ ds, Sh k W d) → PyData.showableAll ds = true ∧ PyData.leavesShortAll 64 ds = true ∧ PyData.weightAll ds ≤ ds.length * (W + 1)
  | [], _ => ⟨rfl, rfl, Nat.zero_le _⟩
  | d :: ds, h => by
    obtain ⟨h1, h2, h3⟩ := sh_all (ds := ds) fun x m => h x (List.mem_cons_of_mem _ m)
    have g := h d List.mem_cons_self
    refine ⟨?_, ?_, ?_⟩
    · rw [PyData.showableAll, g.sh, h1]; rfl
    · rw [PyData.leavesShortAll, g.sm, h2]; rfl
    · rw [PyData.weightAll, List.length_cons, Nat.succ_mul]
      have := g.wt
      omega
theorem sh_list {k W : Nat} {ds : List PyData} (h : ∀ d ∈ ds, Sh k W d) : Sh (k + 1) (ds.length * (W + 1)) (.list ds) := by
  obtain ⟨h1, h2, h3⟩ := sh_all h
  exact ⟨okd_list fun d m => (h d m).ok, by rw [PyData.showable]; exact h1, by rw [PyData.leavesShort]; exact h2, by rw [PyData.weight]; exact h3⟩
theorem sh_tuple {k W : Nat} {ds : List PyData} (h : ∀ d ∈ ds, Sh k W d) : Sh (k + 1) (ds.length * (W + 1)) (.tuple ds) := by
  obtain ⟨h1, h2, h3⟩ := sh_all h
  exact ⟨okd_tuple fun d m => (h d m).ok, by rw [PyData.showable]; exact h1, by rw [PyData.leavesShort]; exact h2, by rw [PyData.weight]; exact h3⟩
theorem sh_ints {k : Nat} {ns : List Int} (h : ∀ n ∈ ns, n.natAbs < 10 ^ 60) : Sh (k + 1) (ns.length * 201) (dInts ns) := by
  have := sh_list (k := k) (W := 200) (ds := ns.map PyData.int) fun d m => by
    obtain ⟨i, hi, rfl⟩ := List.mem_map.mp m
    exact sh_int (h i hi)
  rw [List.length_map] at this
  exact this
end Kt

set_option Elab.async false
set_option linter.all false
set_option maxRecDepth 100000
namespace Kt
open PySem PySem.Spec L2 PyProof.Rows
section
variable {X : Cx} {C : Addr} {k : Nat} {ps : List Str} {sp : Sp}
/-! ### own __getitem__, own __len__ -/
def rIxOwn (C : Addr) (sp : Sp) : R2 := fun x y H Q => ∃ a dx fs, x = .ref a ∧ H a = some (.ins C dx fs) ∧ sp [.ref a, y] H Q E0
theorem pe_ixOwn {a b : Expr} {ta tb : TE} {pos : Pos} (M : Mf X.prog X.w X.K X.mg X.base k C "__getitem__" ps sp) (hfn : ∀ f, PySem.W.findIn X.K (.ref C) "__getitem__" = some (some (.ref f)) → PySem.W.fnIn X.K f = true) (hr : Room (k + 1) X.A) (ha : PE X a ta) (hb : PE X b tb)
    (hs : ∀ o i, subscripted b true o i = runValue (.builtin "lifetime.subscript" ⟨[o, i], []⟩) := by exact fun _ _ => rfl) : PE X (.Subscript a b pos) (tOp (rIxOwn C sp) ta tb) := by
  refine ⟨fun pins s σ H Q I h => Subscript_ (binT ha hb I h fun v u s2 x y H2 I2 rx ry q => ?_)⟩
  obtain ⟨o, dx, fs, rfl, ho, q⟩ := q
  cases (show v = Value.ref o from rx)
  obtain ⟨f, fd, F, b, hm⟩ := M.fn
  obtain ⟨ox, od, J⟩ := ins_at I2 ho
  obtain ⟨m, hF⟩ := I2.fr
  have bd := b s2 [.ref o, u] I2.kIn (by rw [List.append_nil]; exact F.len _ _ _ _ q)
  rw [List.append_nil] at bd
  refine PySem.W.sub_K hF I2.ok.mod.kin J hm.at_ (hfn f hm.at_) hm.fn (wpAny_call (codeAny_mono (F.run X.A.in1 X.stack s2 H2 ⟨[.ref o, u], []⟩ [.ref o, u] [.ref o, y] Q E0 hr.in1 I2.env0.in1 bd (.cons rfl (.cons ry .nil)) q) fun z s' hq => ?_)) (hs _ _)
  cases z with
  | error e => exact pass0 pins σ H2 s2 e s' I2 hq
  | ok fl => cases fl with
    | ret u => exact I2.after hq
    | _ => exact False.elim hq
def cLenOwn (C : Addr) (sp : Sp) : List V → Hp → VK → Prop := fun xs H Q => ∃ a dx fs, xs = [.ref a] ∧ H a = some (.ins C dx fs) ∧ sp [.ref a] H (fun v H' => ∃ n : Nat, v = .int n ∧ (n : Int) < 2 ^ 62 ∧ Q (.int n) H') E0
theorem call_lenOwn (M : Mf X.prog X.w X.K X.mg X.base k C "__len__" ps sp) (hr : Room (k + 1) X.A) : CallR X (.builtin "len") (cLenOwn C sp) := by
  intro pins s σ H xs us Q I r h
  obtain ⟨a, dx, fs, rfl, ha, q⟩ := h
  obtain ⟨u, rfl, r1⟩ := vals1 r
  cases r1
  obtain ⟨f, fd, F, b, hm⟩ := M.fn
  obtain ⟨ox, od, J⟩ := ins_at I ha
  obtain ⟨m, hF⟩ := I.fr
  have bd := b s [.ref a] I.kIn (by rw [List.append_nil]; exact F.len _ _ _ _ q)
  rw [List.append_nil] at bd
  refine PySem.W.len_K hF I.ok.mod.kin J hm.at_ hm.fn (wpAny_call (codeAny_mono (F.run X.A.in1 X.stack s H ⟨[.ref a], []⟩ [.ref a] [.ref a] _ E0 hr.in1 I.env0.in1 bd (.cons rfl .nil) q) fun z s' hq => ?_))
  cases z with
  | error e => exact pass0 pins σ H s e s' I hq
  | ok fl => cases fl with
    | ret u =>
      obtain ⟨v, H', I3, rv, n, rfl, hn, q3⟩ := I.after hq
      obtain ⟨t, rfl⟩ := rv
      exact ⟨⟨by omega, by omega⟩, ⟨.int n, H', I3.tok _, ⟨_, rfl⟩, q3⟩⟩
    | _ => exact False.elim hq
/-! ### len(range(n)) -/
def tLenRng (te : TE) : TE := fun σ H Q => te σ H fun x H1 => ∃ n : Nat, x = .int n ∧ (n : Int) < 2 ^ 62 ∧ Q (.int n) H1
theorem pe_lenRng {e : Expr} {te : TE} {p1 p2 pos pos2 : Pos} (he : PE X e te) (g1 : X.mg "len" = none) (g2 : X.mg "range" = none) (l1 : Gl X "len" := by rfl) (l2 : Gl X "range" := by rfl) (h1 : starEach [e] X.env = [(false, eval e X.env)] := by rfl)
    (h2 : starEach [.Call (.Name "range" p2) [e] [] pos2] X.env = (false, eval (.Call (.Name "range" p2) [e] [] pos2) X.env) :: starEach [] X.env := by rfl) (h3 : (backTo pos (starEach [] X.env)).any (·.1) = false := by rfl) :
    PE X (.Call (.Name "len" p1) [.Call (.Name "range" p2) [e] [] pos2] [] pos) (tLenRng te) := by
  refine ⟨fun pins s σ H Q I h => wpAny_Call_Name_kw (ld_blt I l1 g1 PySem.boot_len (callWith_builtin1 ?_ h2 h3))⟩
  rw [h2]
  refine Calls.spliced_cons ?_
  refine Call_ (ld_blt I l2 g2 boot_range (PyProof.Rows.callWith_type1 (e := e) (rest := []) ?_ h1 rfl))
  rw [h1]
  refine Calls.spliced_cons (thn (he.run pins s σ H _ I h) fun u s1 ⟨x, H1, I1, r1, n, e1, hn, q⟩ => ?_)
  subst e1
  obtain ⟨t, rfl⟩ := r1
  refine Calls.spliced_nil (call_range_1 ?_)
  refine Calls.spliced_nil (call_len_range (n := n) (Heap.get?_push_size _ rfl) ?_ (by omega) ⟨.int n, H1, I1.kept fun b o z => Heap.get?_push_of_some _ z, ⟨_, rfl⟩, q⟩)
  rw [rangeSize_one]
  split <;> omega
theorem r_lenRng {σ : L2.St} {H : Hp} {Q : VK} {te : TE} (h : te σ H fun x H1 => ∃ n : Nat, x = .int n ∧ (n : Int) < 2 ^ 62 ∧ Q (.int n) H1) : tLenRng te σ H Q := h
end
end Kt

set_option Elab.async false
set_option linter.all false
set_option maxRecDepth 100000
namespace Kt
open PySem PySem.Spec L2 PyProof.Rows
/-! ### own __eq__ by == and by != -/
section
variable {prog : Program} {w : World} {A : Around} {E : Value → Shared → Prop} {s : Shared} {K : PySem.W.Frag} {x y C f : Addr} {ox oy : Obj} {od od2 : Option Obj}
theorem ifBound_ne {M : Model} {args : List Value} {Q : Option Value → Shared → Prop} (X : K.In s.heap) (I : PySem.W.InstAt s.heap x ox C od) (hs : PySem.W.findIn K (.ref C) "__ne__" = some (some (.builtin "object.__ne__")))
    (h : wpAny M A (call (.builtin "object.__ne__") (.ref x :: args)) (fun v => Q (some v)) E s) : wpAny M A (callSpecialIfBound? (.ref x) "__ne__" args) Q E s := by
  simp only [callSpecialIfBound?, bindSpecialIfBound?]
  refine wpAny_holding (wpAny_bind (wpAny_bind (wpAny_bind (I.type.here ((PySem.W.looks_findIn X hs).here ?_)))))
  refine wpAny_bind (wpAny_askSetting (wpAny_ite ?_))
  have fin : wpAny M A (call (.builtin "object.__ne__") ([.ref x] ++ args) >>= fun v => pure (some v)) Q E s := wpAny_bind (wpAny_mono h (fun v s' h' => wpAny_pure h') fun _ _ h' => h')
  split
  · exact wpAny_bind (wpAny_of_eq (F.cmp_object.ne.bind _) (wpAny_pure (by exact fin)))
  · exact wpAny_tryCatch (wpAny_bind (wpAny_of_eq (F.cmp_object.ne.bind _) (wpAny_pure (by exact fin))))
theorem objNe_own {b : Value} {Q : Fin → Shared → Prop} (hu : A.units < cLine) (X : K.In s.heap) (I : PySem.W.InstAt s.heap x ox C od) (hs : PySem.W.findIn K (.ref C) "__eq__" = some (some (.ref f))) (hf : PySem.W.isFn K (.ref f) = true)
    (hcall : wpAny (model prog w) A (call (.ref f) [.ref x, b]) (fun v s' => ∃ k, v = .bool k ∧ Q (.done (.ret (.bool (!k)))) s') E s) : wpAny (model prog w) A (Builtin.«object.__ne__» ⟨[.ref x, b], []⟩) Q E s := by
  unfold Builtin.«object.__ne__»
  repeat (first
    | with_reducible refine wpAny_cRoomFor hu ?_
    | (refine wpAny_bind (m := callSpecialIfBound? (.ref x) (Str.ofString "__eq__") [b])
        (PySem.W.ifBound_K X I hs hf (wpAny_mono hcall (fun r s' hr => by
          obtain ⟨k, rfl, hq⟩ := hr
          repeat (first | exact hq | exact wpAny_pure hq | exact wpAny_truthy_bool hq | (refine wpAny_bind (m := truthy (.bool _)) (wpAny_truthy_bool ?_)) | wp_step)) fun _ _ e => e)))
    | wp_step)
theorem ne_own {b tb : Value} {Q : Value → Shared → Prop} (hu : A.units + 1 < cLine) (X : K.In s.heap) (I : PySem.W.InstAt s.heap x ox C od) (hb : PySem.W.Looks (model prog w) s.heap (typeOf b) tb) (hn : PySem.W.notFirst K C tb = true)
    (hm : PySem.W.mroIn K C (.type "object") = some true) (hne : PySem.W.findIn K (.ref C) "__ne__" = some (some (.builtin "object.__ne__"))) (hs : PySem.W.findIn K (.ref C) "__eq__" = some (some (.ref f))) (hf : PySem.W.isFn K (.ref f) = true)
    (h : wpAny (model prog w) A.in1 (call (.ref f) [.ref x, b]) (fun v s' => ∃ k, v = .bool k ∧ Q (.bool (!k)) s') E s) : wpAny (model prog w) A (richCompare .NotEq (.ref x) b) Q E s := by
  have one : wpAny (model prog w) A (tryCompare (.ref x) "__ne__" b) (fun r s' => ∃ k, r = some (.bool k) ∧ Q (.bool k) s') E s := by
    unfold tryCompare
    refine wpAny_bind (ifBound_ne X I hne (wpAny_call (codeAny_call_builtin F.cmp_object.ne.plain F.cmpEntry_ne (PySem.W.check_slot F.cmpKind_ne F.cmpSplit_ne (I.type.andThen (PySem.W.looks_mroIn X hm)) (F.cmpArgs_ne _ _)
      (objNe_own (A := A.in1) hu X I hs hf (wpAny_mono h (fun v s' hv => ?_) fun _ _ e => e))))))
    obtain ⟨k, rfl, hq⟩ := hv
    exact ⟨k, rfl, wpAny_pure ⟨_, rfl, hq⟩⟩
  unfold richCompare
  simp only [oneThing_ref]
  refine wpAny_holding (wpAny_bind (wpAny_cRoomFor (by omega) ?_))
  rw [cmpInfo_NotEq]
  refine wpAny_bind (I.type.here (wpAny_bind (hb.here ?_)))
  split
  · rename_i q
    have e : PySem.W.subIn K tb (.ref C) = some false := by
      rcases Bool.or_eq_true_iff.mp hn with e | e
      · rw [beq_iff_eq.mp e] at q; simp at q
      · exact beq_iff_eq.mp e
    refine wpAny_bind ((PySem.W.looks_subIn X e).here ?_)
    simp only [Bool.false_eq_true, if_false]
    refine wpAny_bind (wpAny_mono one (fun r s' z => ?_) fun _ _ e => e)
    obtain ⟨v, rfl, hq⟩ := z
    exact wpAny_pure hq
  · refine wpAny_bind (wpAny_pure ?_)
    simp only [Bool.false_eq_true, if_false]
    refine wpAny_bind (wpAny_mono one (fun r s' z => ?_) fun _ _ e => e)
    obtain ⟨v, rfl, hq⟩ := z
    exact wpAny_pure hq
end
section
variable {X : Cx} {C : Addr} {k : Nat} {ps : List Str} {sp : Sp}
def rEqOwn (C : Addr) (sp : Sp) : R2 := fun x y H Q => ∃ a b dx fs dy gs, x = .ref a ∧ y = .ref b ∧ H a = some (.ins C dx fs) ∧ H b = some (.ins C dy gs) ∧ sp [.ref a, .ref b] H (fun v H' => ∃ k, v = .bl k ∧ Q (.bl k) H') E0
def rNeOwn (C : Addr) (sp : Sp) : R2 := fun x y H Q => ∃ a b dx fs dy gs, x = .ref a ∧ y = .ref b ∧ H a = some (.ins C dx fs) ∧ H b = some (.ins C dy gs) ∧ sp [.ref a, .ref b] H (fun v H' => ∃ k, v = .bl k ∧ Q (.bl (!k)) H') E0
theorem op_eqOwn (M : Mf X.prog X.w X.K X.mg X.base k C "__eq__" ps sp) (hr : Room k X.A) : OpR X (compareOp .Eq) (rEqOwn C sp) := by
  intro pins s σ H x y v u Q I rx ry h
  obtain ⟨a, b, dx, fs, dy, gs, rfl, rfl, ha, hb', q⟩ := h
  cases (show v = Value.ref a from rx)
  cases (show u = Value.ref b from ry)
  obtain ⟨f, fd, F, bb, hm⟩ := M.fn
  obtain ⟨ox, od, J⟩ := ins_at I ha
  obtain ⟨ox', od', J'⟩ := ins_at I hb'
  obtain ⟨m, hF⟩ := I.fr
  refine PySem.W.cmp_K (op := .Eq) (tb := .ref C) hr.units0 hF I.ok.mod.kin J J'.type (by simp [PySem.W.notFirst]) hm.at_ hm.fn ?_
  refine wpAny_mono (run_fn (us := [.ref a, .ref b]) (vs := [.ref a, .ref b]) F hr bb .nil pass0 I (.cons rfl (.cons rfl .nil)) (by rw [List.append_nil]; exact q)) (fun z s' hz => ?_) fun _ _ z => z
  obtain ⟨y', H', I', r', k, rfl, q'⟩ := hz
  cases r'
  exact ⟨.bl k, H', I', rfl, q'⟩
theorem op_neOwn (M : Mf X.prog X.w X.K X.mg X.base k C "__eq__" ps sp) (hr : Room (k + 1) X.A) (hmr : PySem.W.mroIn X.K C (.type "object") = some true) (hne : PySem.W.findIn X.K (.ref C) "__ne__" = some (some (.builtin "object.__ne__"))) : OpR X (compareOp .NotEq) (rNeOwn C sp) := by
  intro pins s σ H x y v u Q I rx ry h
  obtain ⟨a, b, dx, fs, dy, gs, rfl, rfl, ha, hb', q⟩ := h
  cases (show v = Value.ref a from rx)
  cases (show u = Value.ref b from ry)
  obtain ⟨f, fd, F, bb, hm⟩ := M.fn
  obtain ⟨ox, od, J⟩ := ins_at I ha
  obtain ⟨ox', od', J'⟩ := ins_at I hb'
  obtain ⟨m, hF⟩ := I.fr
  have bd := bb s [.ref a, .ref b] I.kIn (by rw [List.append_nil]; exact F.len _ _ _ _ q)
  rw [List.append_nil] at bd
  refine ne_own (tb := .ref C) (by have := hr.units; omega) I.kIn J J'.type (by simp [PySem.W.notFirst]) hmr hne hm.at_ hm.fn ?_
  refine wpAny_call (codeAny_mono (F.run X.A.in1 X.stack s H ⟨[.ref a, .ref b], []⟩ [.ref a, .ref b] [.ref a, .ref b] _ E0 hr.in1 I.env0.in1 bd (.cons rfl (.cons rfl .nil)) q) fun z s' hq => ?_)
  cases z with
  | error e => exact pass0 pins σ H s e s' I hq
  | ok fl => cases fl with
    | ret u =>
      obtain ⟨v, H', I3, rv, k, rfl, q3⟩ := I.after hq
      cases rv
      exact ⟨k, rfl, .bl (!k), H', I3, rfl, q3⟩
    | _ => exact False.elim hq
end
end Kt

set_option Elab.async false
set_option linter.all false
set_option maxRecDepth 100000
namespace Kt
open PySem L2 PyProof.Rows
section
variable {K : PySem.W.Frag} {σ : L2.St} {H : Hp} {D : Ends} {Q : VK} {a b : Addr} {xs ys : List V} {Ps : List SP} {g : TG} {tb : TS} {tr : TA}
def kZip (K : PySem.W.Frag) (R : It → Hp → Prop) : List V → Hp → Prop := fun vs H1 => ∃ a b xs ys, vs = [.ref a, .ref b] ∧ SqL K H1 a xs ∧ SqL K H1 b ys ∧ R (Itz K a b) H1
theorem r_izip {R : It → Hp → Prop} (h : tr σ H (kZip K R)) : iZip K tr σ H R := h
theorem r_for_zip (J : LW) (hlen : xs.length = ys.length) (S : Sep Ps H) (h0 : J 0 σ Ps) (hl : ∀ i σ Ps H, J i σ Ps → Sep Ps H → SqL K H a xs ∧ SqL K H b ys)
    (hs : ∀ i x y T σ Ps H, xs[i]? = some x → ys[i]? = some y → J i σ Ps → Sep (pt T (.tup [x, y]) :: Ps) H → g (.ref T) σ H fun σ2 H2 => tb { D with nx := Nx J (i + 1), ct := Nx J (i + 1), bk := D.nx } σ2 H2) (hd : ∀ σ Ps H, J xs.length σ Ps → Sep Ps H → D.nx σ H) :
    kZip K (fun Jt H1 => ForW Jt g tb D σ H1) [.ref a, .ref b] H :=
  ⟨a, b, xs, ys, rfl, (hl 0 σ Ps H h0 S).1, (hl 0 σ Ps H h0 S).2, RZ.for_zipL (K := K) (a := a) (b := b) hlen (Nx J) ⟨Ps, h0, S⟩ (fun i σ H ⟨Ps, j, S⟩ => hl i σ Ps H j S) (fun i x y T σ H hx hy ⟨Ps, j, S⟩ hT => hs i x y T σ Ps _ hx hy j (S.new _ hT)) fun σ H ⟨Ps, j, S⟩ => hd σ Ps H j S⟩
end
theorem pi_zipK {X : Cx} (K : PySem.W.Frag) {e e2 : Expr} {ta : TA} {p pos tpos : Pos} {elts : List Expr} {kk : Nat} (hg : Gl X "zip") (hm : X.mg "zip" = none) (ha : PA X [e, e2] ta) (hK : X.K = K := by rfl)
    (hs : starEach [e, e2] X.env = (false, eval e X.env) :: starEach [e2] X.env := by rfl) (hpl : (backTo pos (starEach [e2] X.env)).any (·.1) = false := by rfl) :
    PI X (.Tuple elts kk tpos) (.Call (.Name "zip" p) [e, e2] [] pos) (iZip K ta) := hK ▸ pi_zip hg hm ha hs hpl
section
variable {K : PySem.W.Frag} {σ : L2.St} {H : Hp} {D : Ends} {Q : VK} {a b : Addr} {xs ys : List V} {Ps : List SP} {g : TG} {tb : TS} {tr : TA}
theorem eqvAll_ints : ∀ a b : List Int, PyData.eqvAll (a.map PyData.int) (b.map PyData.int) = decide (a = b)
  | [], [] => by simp [PyData.eqvAll]
  | [], y :: b => by simp [PyData.eqvAll]
  | x :: a, [] => by simp [PyData.eqvAll]
  | x :: a, y :: b => by
    simp only [List.map_cons, PyData.eqvAll, eqvAll_ints a b, PyData.eqv]
    by_cases h : x = y
    · subst h
      simp
    · simp [h]
theorem eqv_ints (a b : List Int) : PyData.eqv (dInts a) (dInts b) = decide (a = b) := by
  unfold dInts
  rw [PyData.eqv]
  exact eqvAll_ints a b
theorem r_eq_ints {p q : Addr} {m1 m2 : List Int} (s1 : SqL K H p (m1.map V.int)) (s2 : SqL K H q (m2.map V.int)) (h : Q (.bl (decide (m1 = m2))) H) : rEqA K (.ref p) (.ref q) H Q :=
  .inr ⟨_, _, dp_ints s1, dp_ints s2, (okd_ints 0 _).shaped (by decide), (okd_ints 0 _).shaped (by decide), by rw [eqv_ints]; exact h⟩
theorem r_ne_ints {p q : Addr} {m1 m2 : List Int} (s1 : SqL K H p (m1.map V.int)) (s2 : SqL K H q (m2.map V.int)) (h : Q (.bl (!decide (m1 = m2))) H) : rNeA K (.ref p) (.ref q) H Q :=
  .inr ⟨_, _, dp_ints s1, dp_ints s2, (okd_ints 0 _).shaped (by decide), (okd_ints 0 _).shaped (by decide), by rw [eqv_ints]; exact h⟩
theorem r_par3 {i j l : Nat} (h : tr σ H fun vs H1 => ∃ u v w, vs = [u, v, w] ∧ D.nx (((σ.set i (some u)).set j (some v)).set l (some w)) H1) : tPar3 i j l tr D σ H := h
theorem r_parA3 {i j l : Nat} {x y z : V} {p : L2.St → Hp → Prop} (h : p (((σ.set i (some x)).set j (some y)).set l (some z)) H) : ∃ u v w, [x, y, z] = [u, v, w] ∧ p (((σ.set i (some u)).set j (some v)).set l (some w)) H := ⟨x, y, z, rfl, h⟩
def kRng2 (R : It → Hp → Prop) : List V → Hp → Prop := fun vs H1 => ∃ i j : Int, vs = [.int i, .int j] ∧ (-(2 ^ 62) ≤ i ∧ i < 2 ^ 62 ∧ -(2 ^ 62) ≤ j ∧ j < 2 ^ 62) ∧ R (Itr i (j - i).toNat) H1
theorem r_irng2 {R : It → Hp → Prop} (h : tr σ H (kRng2 R)) : iRng2 tr σ H R := h
theorem r_rep {n : Int} (S : Sep Ps H) (s : H a = some (.lst xs)) (h1 : 0 ≤ n) (h2 : n ≤ 1000) (hz : xs.length ≤ 1000) (h : ∀ p H', Sep (pt p (.lst (List.replicate n.toNat xs).flatten) :: Ps) H' → Q (.ref p) H') : rMulA (.ref a) (.int n) H Q :=
  .inr ⟨a, n, xs, rfl, rfl, s, by omega, by omega, Nat.le_trans (Nat.mul_le_mul hz (show n.toNat ≤ 1000 by omega)) (by decide), fun p np => h p _ (S.new _ np)⟩
theorem r_lc_itr {lo : Int} {n : Nat} {tt : TT} {te : TE} {vs : List Nat} (J : CW) (S : Sep Ps H) (h0 : J 0 [] Ps)
    (hs : ∀ D (i : Nat) acc Ps H, i < n → J i acc Ps → Sep (pt D (.lst acc) :: Ps) H → g (.int (lo + (i : Int))) (wipe σ vs) H fun σ2 H2 => wipe σ2 vs = wipe σ vs ∧ tt σ2 H2 fun b H3 =>
      if b = true then te σ2 H3 fun y H4 => ∃ acc, H4 D = some (.lst acc) ∧ acc.length < sizeLine ∧ CN J D (i + 1) (upd H4 D (.lst (acc ++ [y]))) else CN J D (i + 1) H3)
    (hd : ∀ D acc Ps H, J n acc Ps → Sep (pt D (.lst acc) :: Ps) H → Q (.ref D) H) : LcW (Itr lo n) g tt te vs Q σ H :=
  fun D nD => lc_range (CN J D) ⟨[], Ps, h0, S.new _ nD⟩ (fun i H hi ⟨acc, Ps, j, S⟩ => hs D i acc Ps H hi j S) fun H ⟨acc, Ps, j, S⟩ => hd D acc Ps H j S
theorem q_neB {x y : Bool} (h : Q (.bl (x != y)) H) : rNeA K (.bl x) (.bl y) H Q := .inl ⟨rfl, by
  have e : (!decide (V.bl x = V.bl y)) = (x != y) := by cases x <;> cases y <;> rfl
  rw [e]
  exact h⟩
theorem q_eqB {x y : Bool} (h : Q (.bl (x == y)) H) : rEqA K (.bl x) (.bl y) H Q := .inl ⟨rfl, by
  have e : decide (V.bl x = V.bl y) = (x == y) := by cases x <;> cases y <;> rfl
  rw [e]
  exact h⟩
end
end Kt

set_option Elab.async false
set_option linter.all false
set_option maxRecDepth 100000
namespace Kt
open PySem L2 PyProof.Rows
/-! ### data as parts of the heap -/
section
variable {K : PySem.W.Frag}
theorem Rd.le {G H : Hp} (l : Le G H) {a : Addr} {o : HO} (h : Rd G a o) : Rd H a o := by
  rcases h with h | ⟨ob, h⟩
  · exact .inl (l _ _ h)
  · exact .inr ⟨ob, l _ _ h⟩
theorem SqL.le {G H : Hp} (l : Le G H) {a : Addr} {xs : List V} (h : SqL K G a xs) : SqL K H a xs := h.imp (Rd.le l) id
theorem SqT.le {G H : Hp} (l : Le G H) {a : Addr} {xs : List V} (h : SqT K G a xs) : SqT K H a xs := h.imp (Rd.le l) id
mutual
theorem Dp.le {G H : Hp} (l : Le G H) : ∀ (d : PyData) (v : V), Dp K G v d → Dp K H v d
  | .none, _, h => by cases h; exact .non
  | .bool b, _, h => by cases h; exact .bl b
  | .int i, _, h => by cases h; exact .int i
  | .str x, _, h => by cases h; exact .str x
  | .list ds, _, h => by
    cases h with
    | lst s t => exact .lst (SqL.le l s) (DpAll.le l ds _ t)
  | .tuple ds, _, h => by
    cases h with
    | tup s t => exact .tup (SqT.le l s) (DpAll.le l ds _ t)
  | .dict _, _, h => by cases h
theorem DpAll.le {G H : Hp} (l : Le G H) : ∀ (ds : List PyData) (vs : List V), DpAll K G vs ds → DpAll K H vs ds
  | [], _, h => by cases h; exact .nil
  | d :: ds, _, h => by
    cases h with
    | cons h t => exact .cons (Dp.le l d _ h) (DpAll.le l ds _ t)
end
def dat (K : PySem.W.Frag) (p : Addr) (d : PyData) : SP := fun G => Dp K G (.ref p) d
def dall (K : PySem.W.Frag) (vs : List V) (ds : List PyData) : SP := fun G => DpAll K G vs ds
theorem Sep.join {P Q X : SP} {R : List SP} {H : Hp} (f : ∀ G1 G2 G, Le G1 G → Le G2 G → P G1 → Q G2 → X G) (S : Sep (P :: Q :: R) H) : Sep (X :: R) H :=
  (Sep.unflat (As := [P, Q]) S).hd_mono fun G ⟨G1, l1, p, G2, l2, q, _⟩ => f G1 G2 G l1 (fun a o e => (sub_some (l2 a o e)).2) p q
theorem dat_dp {p : Addr} {d : PyData} {R : List SP} {H : Hp} : Sep (dat K p d :: R) H → Dp K H (.ref p) d := fun ⟨_, l, h, _⟩ => Dp.le l d _ h
theorem dat_list {p : Addr} {vs : List V} {ds : List PyData} {R : List SP} {H : Hp} (S : Sep (pt p (.lst vs) :: dall K vs ds :: R) H) : Sep (dat K p (.list ds) :: R) H :=
  Sep.join (fun G1 G2 G l1 l2 h1 h2 => .lst (SqL.of (l1 _ _ h1)) (DpAll.le l2 _ _ h2)) S
theorem dat_flat {p : Addr} {vs : List V} {ds : List PyData} {R : List SP} {H : Hp} (h : ∀ G, DpAll K G vs ds) (S : Sep (pt p (.lst vs) :: R) H) : Sep (dat K p (.list ds) :: R) H :=
  S.hd_mono fun G e => .lst (SqL.of e) (h G)
theorem dall_nil {R : List SP} {H : Hp} (S : Sep R H) : Sep (dall K [] [] :: R) H :=
  ⟨fun _ => none, fun _ _ (e : (none : Option HO) = some _) => (Option.noConfusion rfl (heq_of_eq e)), .nil, S.mono fun a o e => by rw [sub_of rfl]; exact e⟩
theorem dall_flat {vs : List V} {ds : List PyData} {R : List SP} {H : Hp} (h : ∀ G, DpAll K G vs ds) (S : Sep R H) : Sep (dall K vs ds :: R) H :=
  ⟨fun _ => none, fun _ _ (e : (none : Option HO) = some _) => (Option.noConfusion rfl (heq_of_eq e)), h _, S.mono fun a o e => by rw [sub_of rfl]; exact e⟩
theorem dall_add {p : Addr} {d : PyData} {vs : List V} {ds : List PyData} {R : List SP} {H : Hp} (S : Sep (dat K p d :: dall K vs ds :: R) H) : Sep (dall K (vs ++ [.ref p]) (ds ++ [d]) :: R) H :=
  Sep.join (fun G1 G2 G l1 l2 h1 h2 => dpall_app (DpAll.le l2 _ _ h2) (.cons (Dp.le l1 _ _ h1) .nil)) S
theorem dall_cons {p : Addr} {d : PyData} {vs : List V} {ds : List PyData} {R : List SP} {H : Hp} (S : Sep (dat K p d :: dall K vs ds :: R) H) : Sep (dall K (.ref p :: vs) (d :: ds) :: R) H :=
  Sep.join (fun G1 G2 G l1 l2 h1 h2 => .cons (Dp.le l1 _ _ h1) (DpAll.le l2 _ _ h2)) S
theorem dpall_bls {G : Hp} : ∀ bs : List Bool, DpAll K G (bs.map V.bl) (bs.map PyData.bool)
  | [] => .nil
  | b :: bs => .cons (.bl b) (dpall_bls bs)
end
theorem sh_cons {k W W2 : Nat} {d : PyData} {ds : List PyData} (h : Sh k W d) (t : Sh (k + 1) W2 (.list ds)) : Sh (k + 1) (W + 1 + W2) (.list (d :: ds)) := by
  refine ⟨⟨?_, ?_⟩, ?_, ?_, ?_⟩
  · have := t.ok.1
    rw [PyData.canLay0] at this ⊢
    rw [PyData.canLayAll0, h.ok.1, this]; rfl
  · have h1 := t.ok.2
    have h2 := h.ok.2
    rw [PyData.depth] at h1 ⊢
    rw [PyData.depthAll]
    omega
  · have := t.sh
    rw [PyData.showable] at this ⊢
    rw [PyData.showableAll, h.sh, this]; rfl
  · have := t.sm
    rw [PyData.leavesShort] at this ⊢
    rw [PyData.leavesShortAll, h.sm, this]; rfl
  · have h1 := t.wt
    have h2 := h.wt
    rw [PyData.weight] at h1 ⊢
    rw [PyData.weightAll]
    omega
theorem sh_nil {k : Nat} : Sh (k + 1) 0 (.list []) := ⟨⟨rfl, by show PyData.depth (.list []) ≤ _; rw [PyData.depth]; exact Nat.succ_le_succ (Nat.zero_le _)⟩, rfl, rfl, by rw [PyData.weight]; exact Nat.le_refl _⟩
end Kt

set_option Elab.async false
set_option linter.all false
set_option maxRecDepth 100000
namespace Kt
open PySem PySem.Spec L2 PyProof.Rows
/-! ### the type of a value as a part of the heap -/
section
variable {K : PySem.W.Frag} {G H : Hp} {v : V} {t : Value} {T : String} {R : List SP}
theorem ty_mono (l : Le G H) (h : TyX K G v t) : TyX K H v t := by
  cases h with
  | base b =>
    cases b with
    | non => exact .base .non
    | bl x => exact .base (.bl x)
    | int i => exact .base (.int i)
    | str x => exact .base (.str x)
    | flt x => exact .base (.flt x)
    | lst e => exact .base (.lst (l _ _ e))
    | frz e => exact .base (.frz (l _ _ e))
    | tup e => exact .base (.tup (l _ _ e))
    | dK e => exact .base (.dK (l _ _ e))
    | dT e => exact .base (.dT (l _ _ e))
    | ins e cl ha hn htk hm => exact .base (.ins (l _ _ e) cl ha hn htk hm)
  | byt b => exact .byt b
  | set e => exact .set (l _ _ e)
  | kList e c => exact .kList e c
  | kTuple e c => exact .kTuple e c
  | kDict e c => exact .kDict e c
  | fTuple e => exact .fTuple (l _ _ e)
  | fDict e => exact .fDict (l _ _ e)
def tyP (K : PySem.W.Frag) (v : V) (T : String) : SP := fun G => TyX K G v (.type T)
theorem ty_of (S : Sep (tyP K v T :: R) H) : TyX K H v (.type T) := by
  obtain ⟨G, l, h, _⟩ := S
  exact ty_mono l h
theorem ty_nil (S : Sep R H) (h : TyX K (fun _ => none) v (.type T)) : Sep (tyP K v T :: R) H :=
  ⟨fun _ => none, fun _ _ (e : (none : Option HO) = some _) => (Option.noConfusion rfl (heq_of_eq e)), h, Sep.mono (H := H) (fun a o e => by rw [sub_of rfl]; exact e) S⟩
theorem kit_own {C : Addr} (h1 : PySem.W.isClsIn K C = true) (h2 : PySem.W.typeIn K (.ref C) = some (.type "type")) (h3 : PySem.W.subIn K (.type T) (.ref C) = some false) : PySem.W.kitOne K (.type T) (.ref C) = some false := by
  have e : ((Value.type T) == (Value.ref C)) = false := by rfl
  unfold PySem.W.kitOne PySem.W.kitCls
  rw [e, if_neg Bool.false_ne_true]
  show (if _ then _ else _) = _
  rw [h2, show (PySem.W.clsIn K C).isSome = true from h1]
  simpa using h3
theorem kit_base {C : Addr} (h1 : PySem.W.kitMeta T = true) (h3 : PySem.W.mroIn K C (.type T) = some false) : PySem.W.kitOne K (.ref C) (.type T) = some false := by
  have e : ((Value.ref C) == (Value.type T)) = false := by rfl
  unfold PySem.W.kitOne PySem.W.kitCls
  rw [e, if_neg Bool.false_ne_true]
  show (if _ then _ else _) = _
  rw [if_pos h1]
  exact h3
theorem ty_isInt (h : TyX K H v (.type "int")) : ∃ i, v = .int i := by
  generalize e : Value.type "int" = t at h
  cases h with
  | base b =>
    cases b with
    | int i => exact ⟨i, rfl⟩
    | _ => first | (exact absurd e (by simp)) | (cases e)
  | _ => first | (exact absurd e (by simp)) | (cases e)
end
section
variable {X : Cx} {C : Addr} {k : Nat} {ps : List Str} {sp : Sp}
/-! ### x in o by an own __contains__ -/
def rInOwn (C : Addr) (sp : Sp) : R2 := fun x y H Q => ∃ a dx fs, y = .ref a ∧ H a = some (.ins C dx fs) ∧ sp [.ref a, x] H (fun v H' => ∃ k, v = .bl k ∧ Q (.bl k) H') E0
theorem op_inOwn (M : Mf X.prog X.w X.K X.mg X.base k C "__contains__" ps sp) (hr : Room k X.A) : OpR X (compareOp .In) (rInOwn C sp) := by
  intro pins s σ H x y v u Q I rx ry h
  obtain ⟨a, dx, fs, rfl, ha, q⟩ := h
  cases (show u = Value.ref a from ry)
  obtain ⟨f, fd, F, bb, hm⟩ := M.fn
  obtain ⟨ox, od, J⟩ := ins_at I ha
  obtain ⟨m, hF⟩ := I.fr
  refine PySem.W.in_K hF I.ok.mod.kin J hm.at_ hm.fn ?_
  refine wpAny_mono (run_fn (us := [.ref a, v]) (vs := [.ref a, x]) F hr bb .nil pass0 I (.cons rfl (.cons rx .nil)) (by rw [List.append_nil]; exact q)) (fun z s' hz => ?_) fun _ _ z => z
  obtain ⟨y', H', I', r', k, rfl, q'⟩ := hz
  cases r'
  exact wpAny_truthy_bool ⟨.bl k, H', I', rfl, q'⟩
/-! ### an own == with a value of a built-in type -/
def rEqOwnT (K : PySem.W.Frag) (C : Addr) (sp : Sp) : R2 := fun x y H Q => ∃ a dx fs t, x = .ref a ∧ H a = some (.ins C dx fs) ∧ TyX K H y t ∧ PySem.W.notFirst K C t = true ∧ sp [.ref a, y] H (fun v H' => ∃ k, v = .bl k ∧ Q (.bl k) H') E0
def rNeOwnT (K : PySem.W.Frag) (C : Addr) (sp : Sp) : R2 := fun x y H Q => ∃ a dx fs t, x = .ref a ∧ H a = some (.ins C dx fs) ∧ TyX K H y t ∧ PySem.W.notFirst K C t = true ∧ sp [.ref a, y] H (fun v H' => ∃ k, v = .bl k ∧ Q (.bl (!k)) H') E0
theorem op_eqOwnT (M : Mf X.prog X.w X.K X.mg X.base k C "__eq__" ps sp) (hr : Room k X.A) : OpR X (compareOp .Eq) (rEqOwnT X.K C sp) := by
  intro pins s σ H x y v u Q I rx ry h
  obtain ⟨a, dx, fs, t, rfl, ha, ty, hn, q⟩ := h
  cases (show v = Value.ref a from rx)
  obtain ⟨f, fd, F, bb, hm⟩ := M.fn
  obtain ⟨ox, od, J⟩ := ins_at I ha
  obtain ⟨Pz, Z, p, _⟩ := kit_of I ry ty
  obtain ⟨m, hF⟩ := I.fr
  refine PySem.W.cmp_K (op := .Eq) (tb := t) hr.units0 hF I.ok.mod.kin J (Z.ty _ _ I.kIn p) hn hm.at_ hm.fn ?_
  refine wpAny_mono (run_fn (us := [.ref a, u]) (vs := [.ref a, y]) F hr bb .nil pass0 I (.cons rfl (.cons ry .nil)) (by rw [List.append_nil]; exact q)) (fun z s' hz => ?_) fun _ _ z => z
  obtain ⟨y', H', I', r', k, rfl, q'⟩ := hz
  cases r'
  exact ⟨.bl k, H', I', rfl, q'⟩
theorem op_neOwnT (M : Mf X.prog X.w X.K X.mg X.base k C "__eq__" ps sp) (hr : Room (k + 1) X.A) (hmr : PySem.W.mroIn X.K C (.type "object") = some true) (hne : PySem.W.findIn X.K (.ref C) "__ne__" = some (some (.builtin "object.__ne__"))) : OpR X (compareOp .NotEq) (rNeOwnT X.K C sp) := by
  intro pins s σ H x y v u Q I rx ry h
  obtain ⟨a, dx, fs, t, rfl, ha, ty, hn, q⟩ := h
  cases (show v = Value.ref a from rx)
  obtain ⟨f, fd, F, bb, hm⟩ := M.fn
  obtain ⟨ox, od, J⟩ := ins_at I ha
  obtain ⟨Pz, Z, p, _⟩ := kit_of I ry ty
  obtain ⟨m, hF⟩ := I.fr
  have bd := bb s [.ref a, u] I.kIn (by rw [List.append_nil]; exact F.len _ _ _ _ q)
  rw [List.append_nil] at bd
  refine ne_own (tb := t) (by have := hr.units; omega) I.kIn J (Z.ty _ _ I.kIn p) hn hmr hne hm.at_ hm.fn ?_
  refine wpAny_call (codeAny_mono (F.run X.A.in1 X.stack s H ⟨[.ref a, u], []⟩ [.ref a, u] [.ref a, y] _ E0 hr.in1 I.env0.in1 bd (.cons rfl (.cons ry .nil)) q) fun z s' hq => ?_)
  cases z with
  | error e => exact pass0 pins σ H s e s' I hq
  | ok fl => cases fl with
    | ret u =>
      obtain ⟨v, H', I3, rv, k, rfl, q3⟩ := I.after hq
      cases rv
      exact ⟨k, rfl, .bl (!k), H', I3, rfl, q3⟩
    | _ => exact False.elim hq
end
def cTup (K : PySem.W.Frag) : List V → Hp → VK → Prop := fun xs H Q => ∃ p ys, xs = [.ref p] ∧ ((SqL K H p ys ∧ ∀ l, H l = none → Q (.ref l) (upd H l (.tup ys))) ∨ (SqT K H p ys ∧ Q (.ref p) H))
theorem call_tupA {X : Cx} : CallR X (.type "tuple") (cTup X.K) := call_tuple_of
def cStrI : List V → Hp → VK → Prop := fun xs H Q => ∃ i, xs = [.int i] ∧ i.natAbs.log2 < 1920 ∧ Q (.str (toString i)) H
theorem call_strA {X : Cx} : CallR X (.type "str") cStrI := call_str_int
/-! ### repr of a list, a tuple or a truth -/
def cReprB (K : PySem.W.Frag) : List V → Hp → VK → Prop := fun xs H Q => (∃ b : Bool, xs = [.bl b] ∧ Q (.str (if b then "True" else "False")) H) ∨ cRepr K xs H Q
theorem call_reprB {X : Cx} (hg : X.A.guards = some []) (hu : X.A.units + 64 < cLine) : CallR X (.builtin "repr") (cReprB X.K) := by
  intro pins s σ H xs us Q I r h
  rcases h with ⟨b, rfl, q⟩ | h
  · obtain ⟨u, rfl, r1⟩ := vals1 r
    cases r1
    exact PySem.P.repr_of_bool ⟨.str _, H, I.tok _, ⟨_, rfl⟩, q⟩
  · exact call_reprA hg hu pins s σ H xs us Q I r h
theorem pe_revLK {X : Cx} (K : PySem.W.Frag) {e : Expr} {te : TE} {k : Nat} {p1 p2 p3 pos : Pos} (he : PE X e te) (hK : X.K = K := by rfl) : PE X (.Subscript e (.Slice none none (some (.UnaryOp .USub (.Constant (.int 1) k p1) p2)) p3) pos) (tRevL K te) := hK ▸ pe_revL he
theorem big_pick {l : List (Addr × List V)} {p : Addr} {xs : List V} (h : (p, xs) ∈ l) : ∃ l', (∀ {R H}, Sep (big l :: R) H → Sep (pt p (.lst xs) :: big l' :: R) H) ∧ (∀ {R H}, Sep (pt p (.lst xs) :: big l' :: R) H → Sep (big l :: R) H) := by
  obtain ⟨l1, l2, rfl⟩ := List.append_of_mem h
  refine ⟨l1 ++ l2, fun {R H} S => ?_, fun {R H} S => ?_⟩
  · have S := S.flat
    rw [List.map_append, List.map_cons, List.append_assoc, List.cons_append] at S
    have S : Sep (pt p (.lst xs) :: ((l1.map fun p : Addr × List V => pt p.1 (.lst p.2)) ++ ((l2.map fun p : Addr × List V => pt p.1 (.lst p.2)) ++ R))) H := (pick_mid _).go S
    refine Sep.cons_mono (fun _ S => Sep.unflat (As := (l1 ++ l2).map fun p : Addr × List V => pt p.1 (.lst p.2)) ?_) S
    rw [List.map_append, List.append_assoc]
    exact S
  · have S1 : Sep (pt p (.lst xs) :: (((l1 ++ l2).map fun p : Addr × List V => pt p.1 (.lst p.2)) ++ R)) H := S.cons_mono fun _ => Sep.flat
    rw [List.map_append, List.append_assoc] at S1
    have S2 := (pick_mid _).back S1
    refine Sep.unflat (As := (l1 ++ (p, xs) :: l2).map fun p : Addr × List V => pt p.1 (.lst p.2)) ?_
    rw [List.map_append, List.append_assoc]
    exact S2
section
variable {K : PySem.W.Frag} {σ : L2.St} {H : Hp} {Q : VK} {te : TE} {a : Addr} {xs : List V} {Ps : List SP} {n : Int}
def kRevL (K : PySem.W.Frag) (Q : VK) : V → Hp → Prop := fun x H1 => ∃ a xs, x = .ref a ∧ SqL K H1 a xs ∧ ∀ p, H1 p = none → Q (.ref p) (upd H1 p (.lst xs.reverse))
theorem r_revL (h : te σ H (kRevL K Q)) : tRevL K te σ H Q := h
theorem r_revLk (S : Sep Ps H) (s : SqL K H a xs) (h : ∀ p H', Sep (pt p (.lst xs.reverse) :: Ps) H' → Q (.ref p) H') : kRevL K Q (.ref a) H := ⟨a, xs, rfl, s, fun p np => h p _ (S.new _ np)⟩
theorem r_tupOf (S : Sep Ps H) (s : SqL K H a xs) (h : ∀ p H', Sep (pt p (.tup xs) :: Ps) H' → Q (.ref p) H') : cTup K [V.ref a] H Q := ⟨a, xs, rfl, .inl ⟨s, fun p np => h p _ (S.new _ np)⟩⟩
theorem r_strI (hz : n.natAbs.log2 < 1920) (h : Q (.str (toString n)) H) : cStrI [V.int n] H Q := ⟨n, rfl, hz, h⟩
theorem in_ints {i : Int} : ∀ ns : List Int, inV (.int i) (ns.map V.int) = decide (i ∈ ns)
  | [] => rfl
  | n :: ns => by
    have ih := in_ints (i := i) ns
    unfold inV at ih ⊢
    rw [List.map_cons, List.any_cons, ih]
    show ((n == i) || _) = _
    by_cases e : n = i
    · subst e; simp
    · have : (n == i) = false := beq_eq_false_iff_ne.mpr e
      rw [this, Bool.false_or]
      refine decide_eq_decide.mpr ⟨List.mem_cons_of_mem _, fun m => (List.mem_cons.mp m).resolve_left fun q => e q.symm⟩
theorem flat_ints : ∀ ns : List Int, (ns.map V.int).all flatV = true
  | [] => rfl
  | n :: ns => by rw [List.map_cons, List.all_cons, flat_ints ns]; rfl
theorem r_in_ints {i : Int} {ns : List Int} (s : SqL K H a (ns.map V.int)) (h : Q (.bl (decide (i ∈ ns))) H) : rIn K false (.int i) (.ref a) H Q := ⟨a, _, rfl, .inl s, rfl, flat_ints ns, by rw [in_ints]; exact h⟩
end
end Kt

set_option Elab.async false
set_option linter.all false
set_option maxRecDepth 100000
namespace Kt
open PySem PySem.Spec L2 PyProof.Rows
/-! ### what isinstance asks of a def: its __class__ -/
theorem fk_slot : Slot "function" "__getattribute__" "object.__getattribute__" :=
  .of (n := "__getattribute__") (owner := "object") (by rw [typeLookup_type, builtinLookup_eq_fast]; kernel_rfl) (by decide +kernel) (by decide +kernel) (by decide +kernel) (by first | exact .inl (by decide +kernel) | exact .inr (by decide +kernel)) (by rw [isSubtype_type]; kernel_rfl)
theorem fk_look : typeLookup (.type "function") "__class__" = pure (some (.builtin "object.__class__")) := by rw [typeLookup_type, builtinLookup_eq_fast]; kernel_rfl
theorem fk_owner : isSubtype (.type "function") (.type (".".intercalate ("object.__class__".cutAt '.').dropLast)) = pure true := by rw [PySem.F.owner_object_class, isSubtype_type]; kernel_rfl
section
variable {P : Program} {w : World} {A : Around} {E : Value → Shared → Prop} {hp : Heap} {gs : Array GenState} {dr : Drawn} {n : Nat} {os : OsState} {f : Addr} {ob : Obj}
theorem fk_get {R : Result → Shared → Prop} (e1 : hp.get? f = some ob) (e2 : ob.cls = .type "function") (q : R (.ok (.ret (.type "function"))) ⟨hp, gs, dr, n, os⟩) : codeAny (model P w) A (.call (.builtin "getset_descriptor.__get__") ⟨[.builtin "object.__class__", .ref f, .type "function"], []⟩) R ⟨hp, gs, dr, n, os⟩ := by
  have t1 : (⟨hp, gs, dr, n, os⟩ : Shared).TypeIs (.ref f) "function" := ⟨_, e1, e2⟩
  have t2 : (⟨hp, gs, dr, n, os⟩ : Shared).TypeIs (.builtin "object.__class__") "getset_descriptor" := PySem.F.typeOf_object_class
  have t3 := fk_owner
  refine codeAny_call_builtin PySem.F.slot_gs_get.plain PySem.F.entry_gs_get (PySem.F.slot_gs_get.check _ _ _ _ _ _ _ _ t2 (PySem.F.args_gs_get _ _ _) ?_)
  repeat (any_goals (first | assumption | wp_step))
  exact ⟨Code.quiet_builtin _ (by decide +kernel), codeAny_builtin PySem.F.entry_object_class (by repeat (any_goals (first | assumption | wp_step)))⟩
theorem fk_entry {tk : Tok} {Q : Fin → Shared → Prop} (e1 : hp.get? f = some ob) (e2 : ob.cls = .type "function") (q : Q (.done (.ret (.type "function"))) ⟨hp, gs, dr, n, os⟩) : wpAny (model P w) A (Builtin.«object.__getattribute__» ⟨[.ref f, .str "__class__" tk], []⟩) Q E ⟨hp, gs, dr, n, os⟩ := by
  have t1 : (⟨hp, gs, dr, n, os⟩ : Shared).TypeIs (.ref f) "function" := ⟨_, e1, e2⟩
  have t2 : (⟨hp, gs, dr, n, os⟩ : Shared).TypeIs (.builtin "object.__class__") "getset_descriptor" := PySem.F.typeOf_object_class
  have t3 := fk_look
  have t4 := PySem.F.typeOf_object_class
  have t5 := PySem.F.slot_gs_get.lookup
  have t6 := PySem.F.slot_gs_set.lookup
  repeat (any_goals (first | assumption | wp_step))
  refine fk_get e1 e2 ?_
  repeat (any_goals (first | assumption | wp_step))
theorem fk_by {tk : Tok} {Q : Value → Shared → Prop} (e1 : hp.get? f = some ob) (e2 : ob.cls = .type "function") (q : Q (.type "function") ⟨hp, gs, dr, n, os⟩) : wpAny (model P w) A (getAttrBy (.ref f) (.str "__class__" tk) false) Q E ⟨hp, gs, dr, n, os⟩ := by
  have t1 : (⟨hp, gs, dr, n, os⟩ : Shared).TypeIs (.ref f) "function" := ⟨_, e1, e2⟩
  have t2 := fk_slot.lookup
  have t3 := fk_slot.bind (.ref f)
  repeat (any_goals (first | assumption | wp_step))
  refine codeAny_call_builtin fk_slot.plain PySem.F.entry_object_getattribute (fk_slot.check _ _ _ _ _ _ _ _ (show (⟨hp, gs, dr, n, os⟩ : Shared).TypeIs (.ref f) "function" from t1) (PySem.F.args_object_getattribute_2 _ _) (fk_entry e1 e2 ?_))
  repeat (any_goals (first | assumption | wp_step))
theorem fk_attr {Q : Option Value → Shared → Prop} (e1 : hp.get? f = some ob) (e2 : ob.cls = .type "function") (q : Q (some (.type "function")) ⟨hp, gs, dr, n + 1, os⟩) : wpAny (model P w) A (getAttr? (.ref f) "__class__") Q E ⟨hp, gs, dr, n, os⟩ := by
  unfold getAttr? getAttrBy?
  repeat (any_goals (first | assumption | with_reducible apply fk_by e1 e2 | wp_step))
end
theorem kitx_fun {K : PySem.W.Frag} {f : Addr} : PySem.W.KitX K (.ref f) (.type "function") (PySem.W.KitAt f "function") :=
  PySem.W.kitx_of PySem.W.kitAt_ty (fun {_ _ _ _ _ s} p k => by obtain ⟨hp, gs, dr, n, os⟩ := s; obtain ⟨o, e1, e2⟩ := p; exact fk_attr e1 e2 k)
/-- the type of a value, of a def of the text too -/
def TyY (K : PySem.W.Frag) (H : Hp) (x : V) (t : Value) : Prop := TyX K H x t ∨ ∃ f o, x = .ref f ∧ t = .type "function" ∧ K.lookup f = some o ∧ o.cls = .type "function"
def rIsiY (K : PySem.W.Frag) : List V → Hp → VK → Prop := fun xs H Q => ∃ (x c : V) (t u : Value) (b : Bool), xs = [x, c] ∧ ClsV c u ∧ TyY K H x t ∧ PySem.W.kitOne K t u = some b ∧ Q (.bl b) H
theorem call_isiY {X : Cx} : CallR X (.builtin "isinstance") (rIsiY X.K) := by
  intro pins s σ H xs us Q I r h
  obtain ⟨x, c, t, u, b, rfl, hc, ty, e, q⟩ := h
  rcases ty with ty | ⟨f, o, rfl, rfl, hl, ho⟩
  · exact call_isi pins s σ H _ us Q I r ⟨x, c, t, u, b, rfl, hc, ty, e, q⟩
  · cases r with
    | cons rx rr =>
      cases rr with
      | cons rt rr =>
        cases rr
        cases rx
        have ec := hc.eq rt
        subst ec
        exact PySem.W.kia_one kitx_fun I.kIn ⟨o, I.kIn f o hl, ho⟩ e (fun z => nomatch z) fun tk => ⟨.bl b, H, I.tok _, rfl, q⟩
end Kt

set_option Elab.async false
set_option linter.all false
set_option maxRecDepth 100000
namespace Kt
open PySem PySem.Spec L2 PyProof.Rows
/-! ### methods and classes that may let an error out -/
structure MfX (P : Program) (w : World) (K : PySem.W.Frag) (mg : Str → Option Value) (base : Heap) (k : Nat) (C : Addr) (m : Str) (ps : List Str) (sp : Sp) : Prop where
  fn : ∃ f fd, FnOk P w K mg base (L2.CX P w) k f fd ps sp ∧ Binds K fd ps [] ∧ Meth K C m f
  cls : Cls K C
structure DfX (P : Program) (w : World) (K : PySem.W.Frag) (mg : Str → Option Value) (base : Heap) (k : Nat) (x : Str) (f : Addr) (ps : List Str) (sp : Sp) : Prop where
  fn : ∃ fd, FnOk P w K mg base (L2.CX P w) k f fd ps sp ∧ Binds K fd ps []
  at_ : mg x = some (.ref f)
  kp : PySem.W.keepIn K (.ref f) = true
structure CfX (P : Program) (w : World) (K : PySem.W.Frag) (mg : Str → Option Value) (base : Heap) (k : Nat) (x : Str) (C : Addr) (ps : List Str) (sp : Sp) : Prop where
  fn : ∃ f fd, FnOk P w K mg base (L2.CX P w) k f fd ps sp ∧ Binds K fd ps [] ∧ Mk K C f
  at_ : mg x = some (.ref C)
section
variable {P : Program} {w : World} {K : PySem.W.Frag} {mg : Str → Option Value} {base : Heap}
theorem Mt.okX {C : Addr} {x qual : Str} {st : Stmt} {f : Addr} {N ps : List Str} {k : Nat} {sp : Sp} (T : Mt K C x qual st ps f) (c : Cls K C) (S : FnScope N ps (defScope st)) (len : ∀ vs H Q E, sp vs H Q E → vs.length = ps.length)
    (hbody : ∀ (cdv : Value) (A : Around) (outer : List Env) (s : Shared) (H : Hp) (vs : List V) (Q : VK) (E : XK), Room k (A.deeper (envOfC qual (defScope st) s.heap.objs.size f cdv)) → sp vs H Q E →
      ∃ t, PSs (cxOf (L2.CX P w) P w K mg base N qual (defScope st) f cdv A outer s H E) (defBody st) t ∧ t { nx := fun _ H' => Q .non H', rt := Q } (start N vs) H) : MfX P w K mg base (k + 1) C x ps sp := by
  obtain ⟨fd, F, b⟩ := T.fn
  exact ⟨⟨f, fd, F.okX S len hbody, b, T.at_⟩, c⟩
theorem Dt.okX {x : Str} {st : Stmt} {f : Addr} {N ps : List Str} {k : Nat} {sp : Sp} (T : Dt K mg x st ps f) (S : FnScope N ps (defScope st)) (len : ∀ vs H Q E, sp vs H Q E → vs.length = ps.length)
    (hbody : ∀ (cdv : Value) (A : Around) (outer : List Env) (s : Shared) (H : Hp) (vs : List V) (Q : VK) (E : XK), Room k (A.deeper (envOfC x (defScope st) s.heap.objs.size f cdv)) → sp vs H Q E →
      ∃ t, PSs (cxOf (L2.CX P w) P w K mg base N x (defScope st) f cdv A outer s H E) (defBody st) t ∧ t { nx := fun _ H' => Q .non H', rt := Q } (start N vs) H) : DfX P w K mg base (k + 1) x f ps sp := by
  obtain ⟨fd, F, b⟩ := T.fn
  exact ⟨⟨fd, F.okX S len hbody, b⟩, T.at_, F.kp⟩
theorem MfX.cf {C f : Addr} {x : Str} {ps : List Str} {k : Nat} {sp : Sp} (M : MfX P w K mg base k C "__init__" ps sp) (T : Ct K mg x C f) : CfX P w K mg base k x C ps sp := by
  obtain ⟨g, fd, F, b, m⟩ := M.fn
  have e : g = f := by
    have h1 := m.at_
    rw [T.mkr.init] at h1
    cases h1
    rfl
  subst e
  exact ⟨⟨g, fd, F, b, T.mkr⟩, T.at_⟩
end
section
variable {X : Cx} {k : Nat} {f C : Addr} {fd : FuncData} {ps : List Str} {sp : Sp} {E : L2.St → XK} {x m : Str} {p pos apos : Pos} {e o : Expr} {es : List Expr} {to : TE} {t : TA}
/-- C(e, ..) in a try -/
def tMakeS (C : Addr) (sp : Sp) (E : L2.St → XK) (t : TA) : TE := fun σ H Q => t σ H fun vs H1 => ∀ x dx, H1 x = none → H1 dx = none → dx ≠ x → sp (.ref x :: vs) (upd (upd H1 dx (.own x)) x (.ins C dx [])) (fun v H2 => v = .non ∧ Q (.ref x) H2) (E σ)
theorem pe_cfS (M : CfX X.prog X.w X.K X.mg X.base k x C ps sp) (hr : Room (k + 1) X.A) (hx : ∀ σ, PassesAt (L2.CX X.prog X.w) X σ (E σ)) (ha : PA X (e :: es) t) (hg : Gl X x := by rfl) (hd : (x == ("__debug__" : Str)) = false := by decide)
    (he : starEach (e :: es) X.env = (false, eval e X.env) :: starEach es X.env := by rfl) (hpl : (backTo pos (starEach es X.env)).any (·.1) = false := by rfl) : PE X (.Call (.Name x p) (e :: es) [] pos) (tMakeS C sp E t) := by
  obtain ⟨f, fd, F, b, M'⟩ := M.fn
  refine ⟨fun pins s σ H Q I h => ?_⟩
  refine wpAny_Call_Name_kw (ld_glob I hg M.at_ ?_ hd)
  refine PySem.W.callWith_K (h₀ := X.base) I.ok.mod.kin M'.kp (thn (ha.run pos pins s σ H _ I h) fun us s1 ⟨vs, H1, I1, r, q⟩ => ⟨I1.kIn, ?_⟩) he hpl
  have hq := q (s1.heap.objs.size + 1) s1.heap.objs.size (I1.hok.fresh (Nat.le_succ _)) (I1.hok.fresh (Nat.le_refl _)) (Nat.ne_of_lt (Nat.lt_succ_self _))
  have I2 := Inv.made (C := C) I1
  have r2 : Vals (V.ref (s1.heap.objs.size + 1) :: vs) (Value.ref (s1.heap.objs.size + 1) :: us) := .cons rfl r
  have hl : (Value.ref (s1.heap.objs.size + 1) :: us).length = ps.length := r2.length.symm.trans (F.len _ _ _ _ hq)
  have bd := b _ (Value.ref (s1.heap.objs.size + 1) :: us) I2.kIn (by rw [List.append_nil]; exact hl)
  rw [List.append_nil] at bd
  refine wpAny_call (make_map (f := f) I1.kIn M'.makes M'.init (beq_iff_eq.mp M'.fn) (codeAny_mono (F.run _ X.stack _ _ ⟨Value.ref (s1.heap.objs.size + 1) :: us, []⟩ (Value.ref (s1.heap.objs.size + 1) :: us) _ _ (E σ) (hr.make C us []) (I2.env0.make C us []) bd r2 hq) fun z s' hz => ?_))
  cases z with
  | error z => exact hx σ pins _ _ z s' I2 hz
  | ok fl => cases fl with
    | ret u =>
      obtain ⟨v, H', I3, rv, ev, q3⟩ := I2.after hz
      subst ev
      exact ⟨rv, ⟨V.ref (s1.heap.objs.size + 1), H', I3, rfl, q3⟩⟩
    | _ => exact False.elim hz
theorem pe_dfS (D : DfX X.prog X.w X.K X.mg X.base k x f ps sp) (hr : Room k X.A) (hx : ∀ σ, PassesAt (L2.CX X.prog X.w) X σ (E σ)) (ha : PA X (e :: es) t) (hg : Gl X x := by rfl) (hd : (x == ("__debug__" : Str)) = false := by decide)
    (he : starEach (e :: es) X.env = (false, eval e X.env) :: starEach es X.env := by rfl) (hpl : (backTo pos (starEach es X.env)).any (·.1) = false := by rfl) : PE X (.Call (.Name x p) (e :: es) [] pos) (tCallS sp E t) := by
  obtain ⟨fd, F, b⟩ := D.fn
  exact pe_callS F hr hg D.at_ D.kp b hx ha hd he hpl
/-- o.m(e, ..) in a try -/
def tMethE (C : Addr) (m : Str) (sp : Sp) (E : L2.St → XK) (to : TE) (t : TA) : TE := fun σ H Q => to σ H fun x H1 => ∃ a dx fs, x = .ref a ∧ H1 a = some (.ins C dx fs) ∧ fs.lookup m = none ∧ t σ H1 fun vs H2 => sp (x :: vs) H2 Q (E σ)
theorem r_makeS {σ : L2.St} {H : Hp} {Q : VK} (h : t σ H fun vs H1 => ∀ x dx, H1 x = none → H1 dx = none → dx ≠ x → sp (.ref x :: vs) (upd (upd H1 dx (.own x)) x (.ins C dx [])) (fun v H2 => v = .non ∧ Q (.ref x) H2) (E σ)) : tMakeS C sp E t σ H Q := h
end
/-! ### isinstance of the error that a suite holds, which has fields -/
structure ErC (K : PySem.W.Frag) (D : Addr) : Prop where
  cl : (PySem.W.clsIn K D).isSome = true
  ga : PySem.W.findIn K (.ref D) "__getattribute__" = some (some (.builtin "BaseException.__getattribute__"))
  gt : PySem.W.findIn K (.ref D) "__getattr__" = some none
  sb : PySem.W.subIn K (.ref D) (.type "BaseException") = some true
  ha : PySem.W.findIn K (.ref D) "__class__" = some (some (.builtin "object.__class__"))
  hn : PySem.W.specialIn K (.builtin "object.__class__") "__get__" = some (some (.builtin "getset_descriptor.__get__"))
  ht : PySem.W.takesIn K (.builtin "object.__class__") = some true
  hm : PySem.W.mroIn K D (.type "object") = some true
def rIsED (K : PySem.W.Frag) (D a : Addr) (cls : Value) (d : Option Addr) : List V → Hp → VK → Prop := fun xs H Q => ∃ (c : V) (cv : Value) (b : Bool) (dd : Addr) (fs : List (Str × V)), xs = [.ref a, c] ∧ ClsV c cv ∧ cls = .ref D ∧ d = some dd ∧ H dd = some (.xd fs) ∧ PySem.W.kitOne K (.ref D) cv = some b ∧ Q (.bl b) H
theorem call_isED {X : Cx} {a D : Addr} {oe : Obj} {cls : Value} {d : Option Addr} {pn : List (Addr × Obj)} (T : ErC X.K D) (hz : Zc cls d oe) (hf : ∃ vs, oe.data = .fields vs) : CallR (X.suite a ((a, oe) :: pn)) (.builtin "isinstance") (rIsED X.K D a cls d) := by
  intro pins s σ H xs us Q I r h
  obtain ⟨c, cv, b, dd, fs, rfl, hc, ec, ed, ea, e, q⟩ := h
  subst ec
  subst ed
  cases r with
  | cons rx rr =>
    cases rr with
    | cons rt rr =>
      cases rr
      cases rx
      have e2 := hc.eq rt
      subst e2
      obtain ⟨hget, _⟩ := I.pin (a, oe) (List.mem_append.mpr (.inl List.mem_cons_self))
      obtain ⟨vs, hv⟩ := hf
      have hx : ObjOk X.prog X.w H s.heap dd (.xd fs) := I.hok dd _ ea
      obtain ⟨mA, hns, hr⟩ := hx
      obtain ⟨od, ho, hl⟩ := lookIn_ns hns
      have J : PySem.W.InstAt s.heap a oe D (some od) := ⟨hget, hz.1, by unfold PySem.W.notCls; rw [hv] <;> rfl, by rw [hz.2]; exact ho⟩
      exact PySem.W.kia_one (PySem.W.kitx_exc T.cl T.ga T.gt T.sb T.ha T.hn T.ht T.hm) I.kIn J e (fun z => nomatch z) fun tk => ⟨.bl b, H, I.tok _, rfl, q⟩
end Kt

set_option Elab.async false
set_option linter.all false
set_option maxRecDepth 100000
namespace Kt
open PySem PySem.Spec PySem.W L2 PyProof.Rows
section
variable {X : Cx} {k : Nat} {C : Addr} {ps : List Str} {sp : Sp} {fe e : Expr} {es : List Expr} {tf : TE} {t : TA} {pos : Pos}
/-- f(e, ..), f any expression that gives an instance of C -/
def tCallE (C : Addr) (sp : Sp) (tf : TE) (t : TA) : TE := fun σ H Q => tf σ H fun x H0 => ∃ a, x = .ref a ∧ t σ H0 fun vs H1 => ∃ dx fs, H1 a = some (.ins C dx fs) ∧ sp (.ref a :: vs) H1 Q E0
theorem pe_mfE (M : Mf X.prog X.w X.K X.mg X.base k C "__call__" ps sp) (hfn : ∀ f, findIn X.K (.ref C) "__call__" = some (some (.ref f)) → fnIn X.K f = true) (hr : Room k X.A) (hf : PE X fe tf) (ha : PA X (e :: es) t)
    (hc : eval (.Call fe (e :: es) [] pos) X.env = (do callWith pos (← eval fe X.env) [] (backTo pos (starEach (e :: es) X.env)) (backToKw pos (keywordEach [] X.env))) := by rfl)
    (he : starEach (e :: es) X.env = (false, eval e X.env) :: starEach es X.env := by rfl) (hpl : (backTo pos (starEach es X.env)).any (·.1) = false := by rfl) : PE X (.Call fe (e :: es) [] pos) (tCallE C sp tf t) := by
  obtain ⟨f, fd, F, b, hm⟩ := M.fn
  refine ⟨fun pins s σ H Q I h => ?_⟩
  refine PyProof.Rows.Call_ (thn (hf.run pins s σ H _ I h) fun u s1 ⟨v, H1, I1, r1, a, ev, q1⟩ => ?_) hc
  subst ev
  cases r1
  have h2 : wpAny (model X.prog X.w) X.A (spliced (backTo pos (starEach (e :: es) X.env))) (fun vs s2 => (∃ dx, s2.heap.get? a = some (PySem.W.instObj C dx)) ∧ wpAny (model X.prog X.w) X.A (call (.ref a) ([] ++ vs)) (EP X pins σ Q) X.xe s2) X.xe s1 :=
    thn (ha.run pos pins s1 σ _ _ I1 q1) fun us s2 ⟨vs, H2, I2, r, dx, fs, hH, q⟩ => by
      obtain ⟨mA, O, _⟩ := ins_get I2.hok hH
      refine ⟨⟨dx, O.obj⟩, ?_⟩
      obtain ⟨od, J, _⟩ := O.look
      obtain ⟨of_, fd2, hl, hd2⟩ := fn_found I2.kIn (hfn f hm.at_)
      have rr : Vals (V.ref a :: vs) (Value.ref a :: us) := .cons rfl r
      have ln : (Value.ref a :: us).length = ps.length := by rw [← rr.length]; exact F.len _ _ _ _ q
      have bd := b s2 (.ref a :: us) I2.kIn (by rw [List.append_nil]; exact ln)
      rw [List.append_nil] at bd
      refine wpAny_call (callee_inst I2.kIn J hm.at_ hm.fn hl hd2 (codeAny_mono (F.run X.A X.stack s2 H2 ⟨.ref a :: us, []⟩ (.ref a :: us) (.ref a :: vs) Q E0 hr I2.env0 bd rr q) fun r s' hq => ?_))
      cases r with
      | error z => exact pass0 pins σ H2 s2 z s' I2 hq
      | ok fl => cases fl with
        | ret u => exact I2.after hq
        | _ => exact False.elim hq
  rw [he] at h2 ⊢
  exact callWith_inst (P := fun h => ∃ dx, h.get? a = some (PySem.W.instObj C dx)) (by show ((false || (backTo pos (starEach es X.env)).any (·.1)) || false) = false; rw [hpl]; rfl) (fun h ⟨dx, q⟩ => keeper_inst q) (Calls.evalArgs_plain h2)
end
section
variable {K : Frag} {σ : L2.St} {H : Hp} {Q : VK} {tf : TE} {t : TA} {C a dx : Addr} {sp : Sp} {fs : List (Str × V)} {xs : List V} {Ps Qs : List SP} {n : Int}
theorem r_callE (h : tf σ H fun x H0 => ∃ a, x = .ref a ∧ t σ H0 fun vs H1 => ∃ dx fs, H1 a = some (.ins C dx fs) ∧ sp (.ref a :: vs) H1 Q E0) : tCallE C sp tf t σ H Q := h
/-- repr of a whole number, a list, a tuple -/
def cReprI (K : Frag) : List V → Hp → VK → Prop := fun xs H Q => (∃ i : Int, xs = [.int i] ∧ i.natAbs.log2 < 1920 ∧ Q (.str (toString i)) H) ∨ cRepr K xs H Q
theorem call_reprI {X : Cx} (hg : X.A.guards = some []) (hu : X.A.units + 64 < cLine) : CallR X (.builtin "repr") (cReprI X.K) := by
  intro pins s σ H xs us Q I r h
  rcases h with ⟨i, rfl, hz, q⟩ | h
  · obtain ⟨u, rfl, t, rfl⟩ := vals1 r
    exact PySem.P.repr_of_int hz ⟨.str _, H, I.tok _, ⟨_, rfl⟩, q⟩
  · exact call_reprA hg hu pins s σ H xs us Q I r h
theorem r_rep2 (S : Sep Ps H) (s : H a = some (.lst xs)) (h1 : 0 ≤ n) (h2 : n ≤ 10000) (hz : xs.length ≤ 10) (h : ∀ p H', Sep (pt p (.lst (List.replicate n.toNat xs).flatten) :: Ps) H' → Q (.ref p) H') : rMulA (.ref a) (.int n) H Q :=
  .inr ⟨a, n, xs, rfl, rfl, s, by omega, by omega, Nat.le_trans (Nat.mul_le_mul hz (show n.toNat ≤ 10000 by omega)) (by decide), fun p np => h p _ (S.new _ np)⟩
theorem ty_sq (s : SqL K H a xs) : TyX K H (.ref a) (.type "list") := by
  rcases s with (h | ⟨o, h⟩) | ⟨o, its, n, h, hc, _⟩
  · exact .base (.lst h)
  · exact .base (.frz h)
  · exact .kList h hc
theorem r_isiY {x : V} {T B : String} {k : Bool} (ty : TyX K H x (.type T)) (e : kitB T B = some k) (h : Q (.bl k) H) : rIsiY K [x, .ty B] H Q := ⟨x, .ty B, _, _, k, rfl, .ty B, .inl ty, kit_ty e, h⟩
theorem r_dispP {Ps : List SP} {trs : List (TE × TE)} (S : Sep Ps H) (h : ∀ p H', Sep (pt p (.dK []) :: Ps) H' → tPairs trs σ H' fun ps H2 => H2 p = some (.dK []) ∧ ∃ kvs : List (Key × V), ps = kvs.map (fun kv => (kV kv.1, kv.2)) ∧ kvs.length ≤ 15 ∧ Q (.ref p) (upd H2 p (.dK (mergeK [] kvs)))) : tDisp trs σ H Q := fun p np => h p _ (S.new _ np)
theorem log_ok {i : Int} (h : i.natAbs < 10 ^ 60) : i.natAbs.log2 < 1920 := by
  by_cases e : i.natAbs = 0
  · rw [e]; decide
  · exact Nat.lt_trans ((Nat.log2_lt (n := i.natAbs) (k := 200) e).mpr (Nat.lt_trans h (by decide))) (by decide)
end
/-! ### facts of error classes -/
section
variable {K : Frag} {A B : Addr}
theorem er_cls {r : Option Bool} (i : isClsIn K B = true) (t : typeIn K (.ref B) = some (.type "type")) (m : mroIn K A (.ref B) = r) : kitCls K (.ref A) (.ref B) = r := by
  unfold kitCls
  show (if _ then _ else _) = _
  rw [t, show (clsIn K B).isSome = true from i]
  simpa using (show subIn K (.ref A) (.ref B) = r from m)
theorem er_exm (b : subIn K (.ref B) (.type "BaseException") = some true) (i : isClsIn K B = true) (t : typeIn K (.ref B) = some (.type "type")) (m : mroIn K A (.ref B) = some true) : exmOne K (.ref A) (.ref B) = some true := by
  unfold exmOne
  rw [b]
  exact (if_pos rfl).trans (er_cls i t m)
theorem er_self : kitOne K (.ref A) (.ref A) = some true := by
  unfold kitOne
  simp
theorem er_ne (m1 : mroIn K A (.ref A) = some true) (m2 : mroIn K A (.ref B) = some false) (i : isClsIn K B = true) (t : typeIn K (.ref B) = some (.type "type")) : kitOne K (.ref A) (.ref B) = some false := by
  have hne : A ≠ B := fun e => by
    subst e
    rw [m1] at m2
    cases m2
  have e : ((Value.ref A) == (Value.ref B)) = false := beq_eq_false_iff_ne.mpr fun q => hne (Value.ref.inj q)
  unfold kitOne
  rw [e, if_neg Bool.false_ne_true]
  exact er_cls i t m2
end
end Kt

set_option Elab.async false
set_option linter.all false
set_option maxRecDepth 100000
namespace Kt
open PySem PySem.Spec L2 PyProof.Rows NdefX LamX
/-! ### cells as parts of the heap -/
/-- the cell at c holds v -/
def CellO (c : Addr) (v : V) : HO := .ext fun h => ∃ u, L2.RelV v u ∧ h.IsCell c (some u)
section
variable {P : Program} {w : World} {K : PySem.W.Frag} {mg : Str → Option Value} {base : Heap} {A : Around} {outer : List Env} {s s' : Shared} {H : Hp} {h : Heap} {c : Addr} {v : V} {u : Value} {cs : List (Addr × V)} {Q Q0 : VK}
theorem cellO_at (hok : HOk P w H h) (e : H c = some (CellO c v)) : ∃ u, L2.RelV v u ∧ h.IsCell c (some u) := by
  obtain ⟨z, _, _⟩ := hok c _ e
  exact z
theorem cellO_ok (r : L2.RelV v u) (q : h.IsCell c (some u)) : ObjOk P w H h c (CellO c v) := by
  obtain ⟨o, ho, hd⟩ := q
  exact ⟨⟨u, r, o, ho, hd⟩, ⟨o, ho⟩, fun h1 h2 ⟨u, r, o, ho, hd⟩ st => ⟨u, r, o, st o ho, hd⟩⟩
theorem cell_own {x : Addr} : CellO c v ≠ .own x := fun z => by unfold CellO at z; cases z
theorem cell_tup {xs : List V} : CellO c v ≠ .tup xs := fun z => by unfold CellO at z; cases z
theorem cell_frz {o : Obj} {y : HO} : CellO c v ≠ .frz o y := fun z => by unfold CellO at z; cases z
theorem cell_tbl {ps : Array Value} : CellO c v ≠ .tbl ps := fun z => by unfold CellO at z; cases z
/-- without these cells -/
def less (cs : List (Addr × V)) (H : Hp) : Hp := fun b => if b ∈ cs.map (·.1) then none else H b
/-- with them -/
def plus (cs : List (Addr × V)) (H : Hp) : Hp := fun b => match cs.lookup b with
  | some v => some (CellO b v)
  | none => H b
theorem less_in (h : c ∈ cs.map (·.1)) : less cs H c = none := if_pos h
theorem less_out (h : c ∉ cs.map (·.1)) : less cs H c = H c := if_neg h
theorem less_some {o : HO} (e : less cs H c = some o) : c ∉ cs.map (·.1) ∧ H c = some o := by
  by_cases h : c ∈ cs.map (·.1)
  · rw [less_in h] at e; cases e
  · rw [less_out h] at e; exact ⟨h, e⟩
theorem lookup_none : ∀ {cs : List (Addr × V)}, c ∉ cs.map (·.1) → cs.lookup c = none
  | [], _ => rfl
  | p :: cs, h => by
    have h1 : c ≠ p.1 := fun e => h (by rw [e]; exact List.mem_cons_self)
    have h2 : c ∉ cs.map (·.1) := fun m => h (List.mem_cons_of_mem _ m)
    rw [List.lookup_cons, beq_eq_false_iff_ne.mpr h1]
    exact lookup_none h2
theorem lookup_some : ∀ {cs : List (Addr × V)}, c ∈ cs.map (·.1) → ∃ v, cs.lookup c = some v ∧ (c, v) ∈ cs
  | [], h => by cases h
  | p :: cs, h => by
    by_cases e : c = p.1
    · exact ⟨p.2, by rw [List.lookup_cons, beq_iff_eq.mpr e], by rw [e]; exact List.mem_cons_self⟩
    · have h2 : c ∈ cs.map (·.1) := (List.mem_cons.mp h).resolve_left e
      obtain ⟨v, h3, h4⟩ := lookup_some h2
      exact ⟨v, by rw [List.lookup_cons, beq_eq_false_iff_ne.mpr e]; exact h3, List.mem_cons_of_mem _ h4⟩
theorem plus_out (h : c ∉ cs.map (·.1)) : plus cs H c = H c := by
  unfold plus
  rw [lookup_none h]
theorem plus_in (h : c ∈ cs.map (·.1)) : ∃ v, (c, v) ∈ cs ∧ plus cs H c = some (CellO c v) := by
  obtain ⟨v, h3, h4⟩ := lookup_some h
  refine ⟨v, h4, ?_⟩
  unfold plus
  rw [h3]
/-- the callee's ground, the cells not tracked -/
theorem env0_less (E : Env0 P w K mg base A outer s H) (hc : ∀ p ∈ cs, H p.1 = some (CellO p.1 p.2)) : Env0 P w K mg base A outer s (less cs H) := by
  have ne : ∀ b o, H b = some o → (∀ c v, CellO c v ≠ o) → b ∉ cs.map (·.1) := fun b o e n hb => by
    obtain ⟨p, hp, rfl⟩ := List.mem_map.mp hb
    rw [hc p hp] at e
    exact n _ _ (Option.some.inj e)
  have nn : ∀ b, H b = none → less cs H b = none := fun b e => by
    by_cases h : b ∈ cs.map (·.1)
    · exact less_in h
    · rw [less_out h]; exact e
  refine ⟨E.frames, E.mod, fun b o e => ⟨(E.bs b o e).1, nn b (E.bs b o e).2⟩, E.bsz, E.funs, fun b hb => nn b (E.frf b hb), fun a o e => ?_, E.bare⟩
  obtain ⟨_, e2⟩ := less_some e
  exact (E.hok a o e2).stay (fun _ _ _ q => q) (fun b q => by rw [less_out (ne b _ q fun _ _ => cell_own)]; exact q) (fun b xs q => by rw [less_out (ne b _ q fun _ _ => cell_tup)]; exact q)
/-- behind the callee the cells hold what they held -/
theorem ce_plus (E : Env0 P w K mg base A outer s H) (hc : ∀ p ∈ cs, H p.1 = some (CellO p.1 p.2)) (q : CE outer P w (less cs H) s Q0 u s') (f : ∀ v H2, (∀ p ∈ cs, H2 p.1 = none) → Q0 v H2 → Q v (plus cs H2)) : CE outer P w H s Q u s' := by
  obtain ⟨v, H2, os, bare, un, hok, r, q⟩ := q
  have ne : ∀ b o, H b = some o → (∀ c v, CellO c v ≠ o) → b ∉ cs.map (·.1) := fun b o e n hb => by
    obtain ⟨p, hp, rfl⟩ := List.mem_map.mp hb
    rw [hc p hp] at e
    exact n _ _ (Option.some.inj e)
  have no : ∀ b, H b = none → b ∉ cs.map (·.1) := fun b e hb => by
    obtain ⟨p, hp, rfl⟩ := List.mem_map.mp hb
    rw [hc p hp] at e
    cases e
  have nn : ∀ b, H b = none → less cs H b = none := fun b e => (less_out (no b e)).trans e
  have live : ∀ p ∈ cs, ∃ u o, L2.RelV p.2 u ∧ s.heap.get? p.1 = some o ∧ o.data = .cell (some u) := fun p hp => by
    obtain ⟨u, r, o, ho, hd⟩ := cellO_at E.hok (hc p hp)
    exact ⟨u, o, r, ho, hd⟩
  have memc : ∀ p ∈ cs, p.1 ∈ cs.map (·.1) := fun p hp => List.mem_map.mpr ⟨p, hp, rfl⟩
  have fre : ∀ p ∈ cs, H2 p.1 = none := fun p hp => by
    obtain ⟨u, o, r, ho, hd⟩ := live p hp
    exact un.free p.1 o ho (less_in (memc p hp)) (by simp)
  have kept : ∀ p ∈ cs, ∃ u, L2.RelV p.2 u ∧ s'.heap.IsCell p.1 (some u) := fun p hp => by
    obtain ⟨u, o, r, ho, hd⟩ := live p hp
    refine ⟨u, r, o, un.keep p.1 o ho (less_in (memc p hp)) (fun hb => ?_) (by simp), hd⟩
    have := E.frf p.1 hb
    rw [hc p hp] at this
    cases this
  refine ⟨v, plus cs H2, os, bare, ⟨fun b o e n => un.keep b o e (nn b n), fun b o e n => un.slot b o e (nn b n), fun b o e n x => ?_, un.there, fun b xs e => ?_, fun b o y e => ?_, fun b ps e => ?_⟩, fun a o e => ?_, r, f v H2 fre q⟩
  · rw [plus_out (no b n)]
    exact un.free b o e (nn b n) x
  · have nb := ne b _ e fun _ _ => cell_tup
    rw [plus_out nb]
    exact un.tups b xs ((less_out nb).trans e)
  · have nb := ne b _ e fun _ _ => cell_frz
    rw [plus_out nb]
    exact un.frzs b o y ((less_out nb).trans e)
  · have nb := ne b _ e fun _ _ => cell_tbl
    rw [plus_out nb]
    exact un.tbls b ps ((less_out nb).trans e)
  · by_cases ha : a ∈ cs.map (·.1)
    · obtain ⟨v2, hm, e2⟩ := plus_in (H := H2) ha
      rw [e2] at e
      cases Option.some.inj e
      obtain ⟨u2, r2, hcell⟩ := kept _ hm
      exact cellO_ok r2 hcell
    · rw [plus_out ha] at e
      have nt : ∀ b o2, H2 b = some o2 → b ∉ cs.map (·.1) := fun b o2 q hb => by
        obtain ⟨p, hp, rfl⟩ := List.mem_map.mp hb
        rw [fre p hp] at q
        cases q
      exact (hok a o e).stay (fun _ _ _ q => q) (fun b q => by rw [plus_out (nt b _ q)]; exact q) (fun b xs q => by rw [plus_out (nt b _ q)]; exact q)
end
/-! ### a local name that holds a function made by a def within a def: its captured cells are parts of the heap -/
section
variable {X : Cx} {k i : Nat} {x : Str} {ps fr : List Str} {e : Expr} {es : List Expr} {t : TA} {p pos : Pos}
/-- the promise of such a function: F at f, its cells' values ws -/
def CloOk (X : Cx) (k : Nat) (ps fr : List Str) (f : Addr) (F : NF) (sp : List (Option V) → Sp) : Prop := NOk X.prog X.w X.K X.mg X.base CX0 k f F ps fr sp
structure CloAt (F : NF) (fr : List Str) (f : Addr) (cs : List (Addr × V)) (H : Hp) : Prop where
  fn : H f = some (FnO f F)
  code : H F.c = some (CodeO F.c F.qual)
  cl : ∀ p ∈ cs, H p.1 = some (CellO p.1 p.2)
  sub : ∀ y c, F.cl.lookup y = some c → c ∈ cs.map (·.1)
  inj : ∀ x y c, F.cl.lookup x = some c → F.cl.lookup y = some c → x = y
  len : cs.length = fr.length
  has : ∀ (i : Nat) (y : Str), fr[i]? = some y → ∃ c v, F.cl.lookup y = some c ∧ cs[i]? = some (c, v)
/-- x(e, ..) -/
def tCallC (X : Cx) (i k : Nat) (t : TA) : TE := fun σ H Q => ∃ f, σ[i]? = some (some (.ref f)) ∧ (∃ F, H f = some (FnO f F)) ∧ t σ H fun vs H1 => ∃ (F : NF) (ps fr : List Str) (cs : List (Addr × V)) (sp : List (Option V) → Sp), CloOk X k ps fr f F sp ∧ CloAt F fr f cs H1 ∧
  sp (cs.map fun p => some p.2) vs (less cs H1) (fun v H2 => (∀ p ∈ cs, H2 p.1 = none) → Q v (plus cs H2)) E0
theorem pe_clo (hr : Room k X.A) (ha : PA X (e :: es) t) (hN : X.N[i]? = some x := by rfl) (hv : Vis X.env.scope x := by first | exact Or.inl rfl | exact Or.inr (Or.inl rfl) | exact Or.inr (Or.inr rfl))
    (hd : (x == ("__debug__" : Str)) = false := by decide) (hcd : (x == ("__classdict__" : Str)) = false := by decide)
    (he : starEach (e :: es) X.env = (false, eval e X.env) :: starEach es X.env := by rfl) (hpl : (backTo pos (starEach es X.env)).any (·.1) = false := by rfl) : PE X (.Call (.Name x p) (e :: es) [] pos) (tCallC X i k t) := by
  refine ⟨fun pins s σ H Q I h => ?_⟩
  obtain ⟨f, hs, ⟨F0, hf0⟩, ht⟩ := h
  refine wpAny_Call_Name_kw (thn ((pe_var (pos := p) hN hv hd hcd).run pins s σ H (fun v H1 => v = .ref f ∧ H1 = H) I ⟨.ref f, hs, rfl, rfl⟩) fun u s1 ⟨v, H1, I1, r1, q1⟩ => ?_)
  obtain ⟨ev, eH⟩ := q1
  subst ev
  rw [eH] at I1
  obtain rfl : u = Value.ref f := r1
  refine PySem.W.callWith_F (first := []) (fnAt_of I1 hf0) (thn (ha.run pos pins s1 σ H _ I1 ht) fun us s2 ⟨vs, H2, I2, r, F, ps, fr, cs, sp, Fn, C, q⟩ => ⟨fnAt_of I2 C.fn, ?_⟩) he hpl
  show wpAny _ _ (call (.ref f) us) _ _ _
  have E1 := I2.env0
  have memc : ∀ p ∈ cs, p.1 ∈ cs.map (·.1) := fun p hp => List.mem_map.mpr ⟨p, hp, rfl⟩
  have out : ∀ b o, H2 b = some o → (∀ c v, CellO c v ≠ o) → b ∉ cs.map (·.1) := fun b o e n hb => by
    obtain ⟨p, hp, rfl⟩ := List.mem_map.mp hb
    rw [C.cl p hp] at e
    exact n _ _ (Option.some.inj e)
  have h1 : less cs H2 f = some (FnO f F) := by
    by_cases hm : f ∈ cs.map (·.1)
    · obtain ⟨p, hp, e1⟩ := List.mem_map.mp hm
      obtain ⟨u1, r1, o1, ho1, hd1⟩ := cellO_at I2.hok (C.cl p hp)
      obtain ⟨od, sl, doc, pm, ctv, ho⟩ := fnO_at I2.hok C.fn
      rw [e1, ho] at ho1
      cases ho1
      cases hd1
    · rw [less_out hm]; exact C.fn
  have h2 : less cs H2 F.c = some (CodeO F.c F.qual) := by
    by_cases hm : F.c ∈ cs.map (·.1)
    · obtain ⟨p, hp, e1⟩ := List.mem_map.mp hm
      obtain ⟨u1, r1, o1, ho1, hd1⟩ := cellO_at I2.hok (C.cl p hp)
      obtain ⟨⟨oc, vs, t, h3, h4, h5⟩, _, _⟩ := I2.hok _ _ C.code
      rw [e1, h3] at ho1
      cases ho1
      rw [h4] at hd1
      cases hd1
    · rw [less_out hm]; exact C.code
  have h3 : CellsAt F.cl fr (cs.map fun p => some p.2) s2.heap (less cs H2) := by
    refine ⟨by rw [List.length_map]; exact C.len, fun y c e => ?_, C.inj, fun i y e => ?_⟩
    · have hm := C.sub y c e
      obtain ⟨p, hp, e1⟩ := List.mem_map.mp hm
      obtain ⟨u1, r1, z⟩ := cellO_at I2.hok (C.cl p hp)
      rw [e1] at z
      exact ⟨less_in hm, _, z⟩
    · obtain ⟨c, v, e1, e2⟩ := C.has i y e
      refine ⟨c, e1, fun v' ev => ?_⟩
      rw [List.getElem?_map, e2] at ev
      cases ev
      obtain ⟨u1, r1, z⟩ := cellO_at I2.hok (C.cl (c, v) (List.mem_of_getElem? e2))
      exact ⟨u1, r1, z⟩
  refine wpAny_call (codeAny_mono (Fn.run X.A X.stack s2 (less cs H2) us vs _ _ E0 hr (env0_less E1 C.cl) h1 h2 h3 r q) fun z s' hq => ?_)
  cases z with
  | error z => exact hq.elim
  | ok fl => cases fl with
    | ret u => exact I2.after (ce_plus E1 C.cl hq fun v H2 n g => g n)
    | _ => exact False.elim hq
end
end Kt

set_option Elab.async false
set_option linter.all false
set_option maxRecDepth 100000
namespace Kt
open PySem PySem.Spec L2 PyProof.Rows NdefX LamX
/-! ### a def within a def: the code object's table in full -/
/-- where a def stands -/
def posOf : Stmt → Pos
  | .FunctionDef _ _ _ _ _ _ _ _ _ pos => pos
  | _ => ⟨0, 0, 0, 0⟩
def one (pos : Pos) (c : Addr) : Array Value := #[rawInt pos.line, rawInt pos.col, .ref c]
theorem one_ok {pos : Pos} {c : Addr} : TriplesOk (one pos c).toList := True.intro
theorem one_at {pos : Pos} {c : Addr} : codeAmong pos (one pos c).toList = some (.ref c) := by
  show codeAmong pos [.int pos.line 0, .int pos.col 0, .ref c] = some (.ref c)
  unfold codeAmong
  simp
section
variable {X : Cx} {pins : List (Addr × Obj)} {σ : L2.St} {H : Hp} {s : Shared}
theorem ndef_newC {c P : Addr} {name : Str} {params : Arguments} {body : List Stmt} {scope : Scope} {pos : Pos} {E : Value → Shared → Prop} {Q : Value → Shared → Prop} (I : Inv X pins σ H s) (TB : TabB X.base X.mg c P) (hcode : X.env.code = .ref c)
    (hfree : ∀ y ∈ scope.names, y.2 = .free → ∃ c, X.env.cells.lookup y.1 = some c) (hP : H P = some (.tbl #[]))
    (h : ∀ (f c' : Addr) (s' : Shared), H f = none → H c' = none → f ≠ c' → Inv X pins σ (upd (upd (upd H P (.tbl (one pos c'))) c' (CodeO c' (X.env.qual ++ name))) f (FnO f ⟨name, X.env.qual ++ name, params, body, scope, cloFrom X.env.cells scope.names [], c'⟩)) s' → Q (.ref f) s') :
    wpAny (model X.prog X.w) X.A (makeFunction name (X.env.qual ++ name) params (.stmts body) scope X.env [] [] [] pos pos.line) Q E s := by
  have bP : s.heap.BuiltinsAt X.mg P := TB.bm.keeps I.bk
  have hP' : s.heap.get? P = some { cls := .none, data := .fields #[] } := I.hok P _ hP
  refine PySem.W.makeFunction_K (mg := X.mg) (c := c) (P := P) (ps := #[]) (closure_ok hfree) I.ok.glob (I.mod.glob.keeps I.bk) hcode (TB.code.keeps I.bk) hP' True.intro (by simp [codeAmong]) TB.gP bP fun c' ctv doc h' tk hx hge hlt hrec htb => ?_
  obtain ⟨c2, oc, vs, t, e2, hoc, hd, hv⟩ := hrec
  cases e2
  have nC : H c' = none := I.hok.fresh hge
  have I1 := inv_table (t' := tk) (more := #[rawInt pos.line, rawInt pos.col, .ref c']) (h' := h') I hP (fun b o hb e => hx b o hb e) htb hge ⟨oc, vs, t, hoc, hd, hv⟩
  have I2 := inv_fn (F := ⟨name, X.env.qual ++ name, params, body, scope, cloFrom X.env.cells scope.names [], c'⟩) (t' := tk) (doc := doc) (pm := (X.mg "__name__").getD .none) (ctv := ctv) I1 rfl
  rw [show (#[] ++ #[rawInt pos.line, rawInt pos.col, .ref c'] : Array Value) = one pos c' from Array.empty_append] at I2
  exact h h'.objs.size c' _ (I.hok.fresh (Nat.le_trans hge (Nat.le_of_lt hlt))) nC (Nat.ne_of_gt hlt) I2
theorem ndef_oldC {c P c' : Addr} {name : Str} {params : Arguments} {body : List Stmt} {scope : Scope} {pos : Pos} {E : Value → Shared → Prop} {Q : Value → Shared → Prop} (I : Inv X pins σ H s) (TB : TabB X.base X.mg c P) (hcode : X.env.code = .ref c)
    (hfree : ∀ y ∈ scope.names, y.2 = .free → ∃ c, X.env.cells.lookup y.1 = some c) (hP : H P = some (.tbl (one pos c')))
    (h : ∀ (f : Addr) (s' : Shared), H f = none → Inv X pins σ (upd H f (FnO f ⟨name, X.env.qual ++ name, params, body, scope, cloFrom X.env.cells scope.names [], c'⟩)) s' → Q (.ref f) s') :
    wpAny (model X.prog X.w) X.A (makeFunction name (X.env.qual ++ name) params (.stmts body) scope X.env [] [] [] pos pos.line) Q E s := by
  have bP : s.heap.BuiltinsAt X.mg P := TB.bm.keeps I.bk
  have hP' : s.heap.get? P = some { cls := .none, data := .fields (one pos c') } := I.hok P _ hP
  refine PySem.W.makeFunction_hit (mg := X.mg) (c := c) (P := P) (ps := one pos c') (closure_ok hfree) I.ok.glob (I.mod.glob.keeps I.bk) hcode (TB.code.keeps I.bk) hP' one_ok one_at bP fun ctv doc h' tk hx hsz => ?_
  have I1 : Inv X pins σ H { s with heap := h', toks := tk } := I.kept hx
  have nF : H h'.objs.size = none := I1.hok.fresh (Nat.le_refl _)
  have I2 := inv_fn (F := ⟨name, X.env.qual ++ name, params, body, scope, cloFrom X.env.cells scope.names [], c'⟩) (t' := tk) (doc := doc) (pm := (X.mg "__name__").getD .none) (ctv := ctv) I1 rfl
  exact h h'.objs.size _ nF I2
end
/-- the reading: the table P is empty yet, or holds this def's code object -/
def tNdefC (i : Nat) (P : Addr) (pos : Pos) (mk : Addr → NF) : TS := fun D σ H =>
  (H P = some (.tbl #[]) ∧ ∀ f c' : Addr, H f = none → H c' = none → f ≠ c' → D.nx (σ.set i (some (.ref f))) (upd (upd (upd H P (.tbl (one pos c'))) c' (CodeO c' (mk c').qual)) f (FnO f (mk c')))) ∨
  ∃ c', H P = some (.tbl (one pos c')) ∧ ∀ f : Addr, H f = none → D.nx (σ.set i (some (.ref f))) (upd H f (FnO f (mk c')))
section
variable {X : Cx}
theorem ps_ndefC {st : Stmt} {c P : Addr} {name : Str} {pos : Pos} {i : Nat} (hst : st = .FunctionDef name (C8.fnArgs st) (C8.fnBody st) [] none [] (C8.fnScope st) none name pos) (TB : TabB X.base X.mg c P) (hcode : X.env.code = .ref c)
    (hfree : ∀ y ∈ (C8.fnScope st).names, y.2 = .free → X.env.scope.names.lookup y.1 = some .cell ∨ X.env.scope.names.lookup y.1 = some .free) (hd0 : (C8.fnArgs st).defaults = []) (hk0 : (C8.fnArgs st).kw_defaults = []) (ha : annTrees (C8.fnArgs st) none X.env = [])
    (hN : X.N.Nodup) (hi : X.N[i]? = some name) (hx : Loc X.env.scope name) (hf : X.fn name = true ∨ X.env.scope.names.lookup name = some .local) :
    PS X st (tNdefC i P pos (NF.of st name (X.env.qual ++ name) (cloFrom X.env.cells (C8.fnScope st).names []))) := by
  have q : PS X (.FunctionDef name (C8.fnArgs st) (C8.fnBody st) [] none [] (C8.fnScope st) none name pos) (tNdefC i P pos (NF.of st name (X.env.qual ++ name) (cloFrom X.env.cells (C8.fnScope st).names []))) := by
    refine ⟨fun pins s σ H D I h => ?_⟩
    have hq : qualnameIn X.env name name = X.env.qual ++ name := by
      have hk : X.env.kindOf name = some .local ∨ X.env.kindOf name = some .cell := hx
      unfold qualnameIn
      rcases hk with k | k <;> rw [k] <;> first | rfl | exact if_neg (by decide)
    refine PySem.W.nestDef_K hd0 hk0 ha ?_
    rw [hq]
    have hfr : ∀ y ∈ (C8.fnScope st).names, y.2 = .free → ∃ c, X.env.cells.lookup y.1 = some c := fun y hy e => (hfree y hy e).elim (fun z => I.ok.has _ (.inl z)) fun z => I.ok.has _ (.inr z)
    rcases h with ⟨hP, h⟩ | ⟨c', hP, h⟩
    · refine ndef_newC I TB hcode hfr hP fun f c' s' f0 c0 ne I1 => ?_
      exact store_ok I1 hN hi hx (v := .ref f) rfl (fun s'' J => ⟨_, _, J, h f c' f0 c0 ne⟩) hf
    · refine ndef_oldC I TB hcode hfr hP fun f s' f0 I1 => ?_
      exact store_ok I1 hN hi hx (v := .ref f) rfl (fun s'' J => ⟨_, _, J, h f f0⟩) hf
  rw [← hst] at q
  exact q
end
section
variable {P : Addr} {pos : Pos} {mk : Addr → NF} {i : Nat} {D : Ends} {σ : L2.St} {H : Hp} {Ps : List SP}
theorem q_ndefNew (S : Sep (pt P (.tbl #[]) :: Ps) H) (h : ∀ f c' H', Sep (pt f (FnO f (mk c')) :: pt c' (CodeO c' (mk c').qual) :: pt P (.tbl (one pos c')) :: Ps) H' → D.nx (σ.set i (some (.ref f))) H') : tNdefC i P pos mk D σ H := by
  refine .inl ⟨S.hd_at, fun f c' f0 c0 ne => h f c' _ ?_⟩
  have e : H P = some (.tbl #[]) := S.hd_at
  have nP : ∀ b, H b = none → b ≠ P := fun b n z => by rw [z, e] at n; cases n
  refine Sep.new _ (Sep.new _ (S.hd_set _) ?_) ?_
  · rw [upd_ne (nP c' c0)]; exact c0
  · rw [upd_ne ne, upd_ne (nP f f0)]; exact f0
theorem q_ndefOld {c' : Addr} (S : Sep (pt P (.tbl (one pos c')) :: Ps) H) (h : ∀ f H', Sep (pt f (FnO f (mk c')) :: pt P (.tbl (one pos c')) :: Ps) H' → D.nx (σ.set i (some (.ref f))) H') : tNdefC i P pos mk D σ H :=
  .inr ⟨c', S.hd_at, fun f f0 => h f _ (S.new _ f0)⟩
end
/-! ### the cells of a running frame, behind it as parts of the heap -/
section
variable {X : Cx} {pins : List (Addr × Obj)} {σ : L2.St} {H : Hp} {s : Shared} {cl : List (Str × Addr)}
theorem cells_made (I : Inv X pins σ H s) (hfn : ∀ y, X.fn y = true) : ∀ {fr : List Str} {js : List Nat} {ws : List V}, (js.map (fun j => X.N[j]?) = fr.map some) → js.map (slotAt σ) = ws.map some →
    (∀ y ∈ fr, X.env.scope.names.lookup y = some .cell ∨ X.env.scope.names.lookup y = some .free) → (∀ y ∈ fr, ∀ c, X.env.cells.lookup y = some c → cl.lookup y = some c) → fr.Nodup →
    ∃ cs : List (Addr × V), cs.map (·.2) = ws ∧ cs.length = fr.length ∧ (∀ (i : Nat) (y : Str), fr[i]? = some y → ∃ c v, cl.lookup y = some c ∧ cs[i]? = some (c, v)) ∧
      (∀ p ∈ cs, H p.1 = none ∧ X.s_0.heap.objs.size ≤ p.1 ∧ ∃ u, L2.RelV p.2 u ∧ s.heap.IsCell p.1 (some u)) ∧ (∀ p ∈ cs, ∃ y ∈ fr, X.env.cells.lookup y = some p.1) ∧ (cs.map (·.1)).Nodup
  | [], [], [], _, _, _, _, _ => ⟨[], rfl, rfl, fun i y e => by simp at e, fun p hp => by simp at hp, fun p hp => by simp at hp, List.nodup_nil⟩
  | [], [], w :: ws, _, h, _, _, _ => by simp at h
  | [], j :: js, ws, h, _, _, _, _ => by simp at h
  | y :: fr, [], ws, h, _, _, _, _ => by simp at h
  | y :: fr, j :: js, [], _, h, _, _, _ => by simp at h
  | y :: fr, j :: js, w :: ws, h1, h2, h3, h4, h5 => by
    rw [List.map_cons, List.map_cons] at h1 h2
    injection h1 with a1 b1
    injection h2 with a2 b2
    have nd := List.nodup_cons.mp h5
    obtain ⟨cs, q1, q2, q3, q4, q5, q6⟩ := cells_made I hfn b1 b2 (fun z hz => h3 z (List.mem_cons_of_mem _ hz)) (fun z hz => h4 z (List.mem_cons_of_mem _ hz)) nd.2
    have k := h3 y List.mem_cons_self
    obtain ⟨a, ha⟩ : ∃ a, X.env.cells.lookup y = some a := k.elim (fun z => I.ok.has y (.inl z)) fun z => I.ok.has y (.inr z)
    have ev : σ[j]? = some (some w) := slotAt_some a2
    obtain ⟨m, hn, hl⟩ := I.loc
    obtain ⟨u, r, l⟩ := hl j y w a1 ev (k.elim (fun z => .inr (.inl z)) fun z => .inr (.inr z))
    have hcell : s.heap.IsCell a (some u) := by
      rcases l with ⟨z, _⟩ | ⟨_, a', ha', hcell⟩
      · have z' : X.env.scope.names.lookup y = some .local := z
        rcases k with k | k <;> rw [k] at z' <;> cases z'
      · rw [ha] at ha'
        cases ha'
        exact hcell
    refine ⟨(a, w) :: cs, by rw [List.map_cons, q1], by rw [List.length_cons, List.length_cons, q2], fun i z e => ?_, fun p hp => ?_, fun p hp => ?_, ?_⟩
    · cases i with
      | zero =>
        have e : y = z := by simpa using e
        subst e
        exact ⟨a, w, h4 y List.mem_cons_self a ha, rfl⟩
      | succ i => exact q3 i z (by simpa using e)
    · rcases List.mem_cons.mp hp with e | hp
      · subst e
        exact ⟨I.freeC y a ha, I.ok.cab y a (hfn y) ha, u, r, hcell⟩
      · exact q4 p hp
    · rcases List.mem_cons.mp hp with e | hp
      · subst e
        exact ⟨y, List.mem_cons_self, ha⟩
      · obtain ⟨z, hz, e⟩ := q5 p hp
        exact ⟨z, List.mem_cons_of_mem _ hz, e⟩
    · rw [List.map_cons, List.nodup_cons]
      refine ⟨fun hm => ?_, q6⟩
      obtain ⟨p, hp, e⟩ := List.mem_map.mp hm
      obtain ⟨z, hz, e2⟩ := q5 p hp
      have e3 : X.env.cells.lookup z = some a := by rw [e2, e]
      have := I.ok.inj y z a ha e3
      subst this
      exact nd.1 hz
theorem plus_at {cs : List (Addr × V)} (nd : (cs.map (·.1)).Nodup) {p : Addr × V} (hp : p ∈ cs) : plus cs H p.1 = some (CellO p.1 p.2) := by
  obtain ⟨v, hm, e⟩ := plus_in (H := H) (List.mem_map.mpr ⟨p, hp, rfl⟩ : p.1 ∈ cs.map (·.1))
  rw [e]
  have same : ∀ {l : List (Addr × V)}, (l.map (·.1)).Nodup → ∀ {a : Addr} {v w : V}, (a, v) ∈ l → (a, w) ∈ l → v = w := by
    intro l
    induction l with
    | nil => intro _ a v w h; simp at h
    | cons q l ih =>
      intro nd a v w h1 h2
      rw [List.map_cons, List.nodup_cons] at nd
      rcases List.mem_cons.mp h1 with e1 | h1 <;> rcases List.mem_cons.mp h2 with e2 | h2
      · rw [← e1] at e2; exact (congrArg Prod.snd e2).symm
      · exact absurd (List.mem_map.mpr ⟨_, h2, by rw [← e1]⟩) nd.1
      · exact absurd (List.mem_map.mpr ⟨_, h1, by rw [← e2]⟩) nd.1
      · exact ih nd.2 h1 h2
  rw [same nd hm (show (p.1, p.2) ∈ cs from hp)]
end
/-! ### cells as a part -/
abbrev cells (cs : List (Addr × V)) : SP := Sep (cs.map fun p => pt p.1 (CellO p.1 p.2))
section
variable {H : Hp} {cs : List (Addr × V)} {Ps : List SP}
theorem plus_cons {p : Addr × V} : plus (p :: cs) H = upd (plus cs H) p.1 (CellO p.1 p.2) := by
  funext b
  unfold plus
  rw [List.lookup_cons]
  by_cases e : b = p.1
  · subst e
    rw [beq_self_eq_true, upd_same]
  · rw [beq_eq_false_iff_ne.mpr e, upd_ne e]
theorem sep_plusF : ∀ {cs : List (Addr × V)}, (cs.map (·.1)).Nodup → (∀ p ∈ cs, H p.1 = none) → Sep Ps H → Sep ((cs.map fun p => pt p.1 (CellO p.1 p.2)) ++ Ps) (plus cs H)
  | [], _, _, S => S
  | p :: cs, nd, f, S => by
    rw [List.map_cons, List.nodup_cons] at nd
    rw [plus_cons]
    refine Sep.new _ (sep_plusF nd.2 (fun q hq => f q (List.mem_cons_of_mem _ hq)) S) ?_
    rw [plus_out nd.1]
    exact f p List.mem_cons_self
theorem sep_plus (nd : (cs.map (·.1)).Nodup) (f : ∀ p ∈ cs, H p.1 = none) (S : Sep Ps H) : Sep (cells cs :: Ps) (plus cs H) := Sep.unflat (sep_plusF nd f S)
theorem cells_at : ∀ {cs : List (Addr × V)} {G : Hp}, cells cs G → ∀ p ∈ cs, G p.1 = some (CellO p.1 p.2)
  | [], _, _, p, hp => by simp at hp
  | q :: cs, G, S, p, hp => by
    have S' : Sep (pt q.1 (CellO q.1 q.2) :: cs.map fun p => pt p.1 (CellO p.1 p.2)) G := S
    rcases List.mem_cons.mp hp with e | hp
    · subst e
      exact S'.hd_at
    · exact cells_at (cs := cs) S'.tl p hp
theorem sep_cells (S : Sep (cells cs :: Ps) H) : ∀ p ∈ cs, H p.1 = some (CellO p.1 p.2) := by
  obtain ⟨G, l, c, _⟩ := S
  exact fun p hp => l _ _ (cells_at c p hp)
theorem sep_less (S : Sep (cells cs :: Ps) H) : Sep Ps (less cs H) := by
  obtain ⟨G, l, c, t⟩ := S
  refine t.mono fun b o e => ?_
  obtain ⟨e1, e2⟩ := sub_some e
  rw [less_out fun hm => ?_]
  · exact e2
  · obtain ⟨p, hp, rfl⟩ := List.mem_map.mp hm
    rw [cells_at c p hp] at e1
    cases e1
/-- what is sure of a function's cells -/
structure CloF (F : NF) (fr : List Str) (cs : List (Addr × V)) : Prop where
  sub : ∀ y c, F.cl.lookup y = some c → c ∈ cs.map (·.1)
  inj : ∀ x y c, F.cl.lookup x = some c → F.cl.lookup y = some c → x = y
  len : cs.length = fr.length
  has : ∀ (i : Nat) (y : Str), fr[i]? = some y → ∃ c v, F.cl.lookup y = some c ∧ cs[i]? = some (c, v)
  nd : (cs.map (·.1)).Nodup
theorem CloF.at_ {F : NF} {fr : List Str} {f : Addr} (C : CloF F fr cs) (hf : H f = some (FnO f F)) (hc : H F.c = some (CodeO F.c F.qual)) (cl : ∀ p ∈ cs, H p.1 = some (CellO p.1 p.2)) : CloAt F fr f cs H := ⟨hf, hc, cl, C.sub, C.inj, C.len, C.has⟩
end
/-- what the rule r answers at (s, n), and the heap then -/
def RuleAt (P : Program) (w : World) (K : PySem.W.Frag) (mg : Str → Option Value) (base : Heap) (k : Nat) (r : V) (s n : Int) (H : Hp) (q : Int → Hp → Prop) : Prop :=
  (r = .non ∧ q n H) ∨ ∃ (f : Addr) (F : NF) (ps fr : List Str) (cs : List (Addr × V)) (sp : List (Option V) → Sp), r = .ref f ∧ NOk P w K mg base CX0 k f F ps fr sp ∧ CloAt F fr f cs H ∧
    ∀ Q : VK, (∀ (m : Int) H2, n ≤ m → ((∀ p ∈ cs, H2 p.1 = none) → q m (plus cs H2)) → Q (.int m) H2) → sp (cs.map fun p => some p.2) [.int s, .int n] (less cs H) Q E0
theorem RuleAt.mono {P : Program} {w : World} {K : PySem.W.Frag} {mg : Str → Option Value} {base : Heap} {k : Nat} {r : V} {s n : Int} {H : Hp} {q q' : Int → Hp → Prop} (h : RuleAt P w K mg base k r s n H q) (f : ∀ m H', q m H' → q' m H') : RuleAt P w K mg base k r s n H q' := by
  rcases h with ⟨e, h⟩ | ⟨a, F, ps, fr, cs, sp, e, N, C, h⟩
  · exact .inl ⟨e, f _ _ h⟩
  · exact .inr ⟨a, F, ps, fr, cs, sp, e, N, C, fun Q g => h Q fun m H2 hm k => g m H2 hm fun z => f _ _ (k z)⟩
/-- what stands behind the def: the slot i holds the function made, with these values in its cells -/
def Made (cl : List (Str × Addr)) (fr : List Str) (js : List Nat) (i : Nat) (Q : VK) : L2.St → Hp → Prop := fun σ H => ∃ (f : Addr) (F : NF) (ws : List V), σ[i]? = some (some (.ref f)) ∧ H f = some (FnO f F) ∧ H F.c = some (CodeO F.c F.qual) ∧ F.cl = cl ∧ js.map (slotAt σ) = ws.map some ∧
  ∀ cs, CloF F fr cs → cs.map (·.2) = ws → (∀ p ∈ cs, H p.1 = none) → Q (.ref f) (plus cs H)
/-! ### defs whose code object is known: they make functions -/
structure DtC (K : PySem.W.Frag) (mg : Str → Option Value) (x : Str) (st : Stmt) (ps : List Str) (f c : Addr) : Prop where
  fn : ∃ fd : FuncData, (∃ (oc : Value) (od : Option Addr) (kV doc pm : Value) (an : Option Addr) (ct : Value) (osl : Array (Option Value)),
    fd = PySem.W.fnOf x x (defArgs st) (defBody st) (defScope st) .none kV doc pm an (.ref c) ct ∧ K.lookup f = some ⟨oc, od, .func fd, osl⟩ ∧ PySem.W.codeIn K (.ref c) x = true) ∧ Binds K fd ps []
  at_ : mg x = some (.ref f)
  kp : PySem.W.keepIn K (.ref f) = true
section
variable {P : Program} {w : World} {K : PySem.W.Frag} {mg : Str → Option Value} {base : Heap}
theorem DtC.okB {x : Str} {st : Stmt} {f c : Addr} {N ps : List Str} {k : Nat} {sp : Sp} (T : DtC K mg x st ps f c) (S : FnScope N ps (defScope st)) (len : ∀ vs H Q E, sp vs H Q E → vs.length = ps.length)
    (hbody : ∀ (A : Around) (outer : List Env) (s : Shared) (H : Hp) (vs : List V) (Q : VK) (E : XK), Room k (A.deeper (envOfC x (defScope st) s.heap.objs.size f (.ref c))) → sp vs H Q E →
      ∃ t, PSs (cxOf CX0 P w K mg base N x (defScope st) f (.ref c) A outer s H E).nox (defBody st) t ∧ t { nx := fun _ H' => Q .non H', rt := Q } (start N vs) H) : Df P w K mg base (k + 1) x f ps sp := by
  obtain ⟨fd, ⟨oc, od, kV, doc, pm, an, ct, osl, rfl, lk, hcd⟩, b⟩ := T.fn
  refine ⟨⟨_, fn_of lk hcd S len fun A outer s H vs Q E hr hsp => ?_, b⟩, T.at_, T.kp⟩
  obtain ⟨t, h, q⟩ := hbody A outer s H vs Q E hr hsp
  exact ⟨t, h.nox, q⟩
/-- a def that makes a function and gives it back: its own cells are parts of the heap from then on -/
theorem DtC.ok {x y : Str} {st nd : Stmt} {f c : Addr} {N ps fr : List Str} {js : List Nat} {i k : Nat} {p pos : Pos} {sp : Sp} (T : DtC K mg x st ps f c) (S : FnScope N ps (defScope st)) (len : ∀ vs H Q E, sp vs H Q E → vs.length = ps.length)
    (hB : defBody st = [nd, .Return (some (.Name y p)) pos]) (hjs : js.map (fun j => N[j]?) = fr.map some) (hnd : ndefB (defScope st) (C8.fnScope nd) fr = true) (hin : ∀ z ∈ (C8.fnScope nd).names, z.2 = .free → z.1 ∈ fr) (ndf : fr.Nodup) (hi : N[i]? = some y) (hv : Vis (defScope st) y)
    (hbody : ∀ (A : Around) (outer : List Env) (s : Shared) (H : Hp) (vs : List V) (Q : VK) (E : XK), Room k (A.deeper (envOfC x (defScope st) s.heap.objs.size f (.ref c))) → sp vs H Q E →
      ∃ t, PS (cxOf CX0 P w K mg base N x (defScope st) f (.ref c) A outer s H E).nox nd t ∧ t { nx := Made (cloFrom (envOfC x (defScope st) s.heap.objs.size f (.ref c)).cells (C8.fnScope nd).names []) fr js i Q, rt := Q } (start N vs) H)
    (hd : (y == ("__debug__" : Str)) = false := by decide) (hcd : (y == ("__classdict__" : Str)) = false := by decide) : Df P w K mg base (k + 1) x f ps sp := by
  obtain ⟨fd, ⟨oc, od, kV, doc, pm, an, ct, osl, rfl, lk, hcd2⟩, b⟩ := T.fn
  refine ⟨⟨_, ⟨len, fun A outer s H args us vs Q E hr e0 hb r hsp => ?_⟩, b⟩, T.at_, T.kp⟩
  have hl := len _ _ _ _ hsp
  have KX : K.In s.heap := e0.mod.kin.keeps fun b o e => (e0.bs b o e).1
  have lim : s.heap.NoLimit := e0.mod.nolimit.keeps fun b o e => (e0.bs b o e).1
  have hkind : ∀ y ∈ ps.zip us, (defScope st).names.lookup y.1 = some .local ∨ ((defScope st).names.lookup y.1 = some .cell ∧ ((cellsFrom (s.heap.objs.size + 1) (defScope st).names []).lookup y.1).isSome = true) := fun ⟨n, v⟩ hy => by
    rcases S.par n (List.of_mem_zip hy).1 with q | q
    · exact .inl q
    · exact .inr ⟨q, PySem.W.cellsFrom_some _ _ _ (.inl q)⟩
  refine codeAny_call_function hr.depth (KX _ _ lk) rfl S.co S.gen rfl (PySem.W.codeRec_of KX hcd2) (hb _ _ _ _ ?_)
  refine wpAny_newFunctionEnv_cells S.kind hkind fun env he s1 x1 => ?_
  subst he
  refine ⟨lim.keeps x1.toInCall.keep, codeAny_func ?_⟩
  obtain ⟨t, ht, hq⟩ := hbody A outer s H vs Q E (hr.deeper _) hsp
  have I : Inv (cxOf CX0 P w K mg base N x (defScope st) f (.ref c) A outer s H E) [] (start N vs) H s1 := inv_start S hr.hd e0 hl r x1
  show wpAny _ _ (execs (defBody st) _) _ _ _
  rw [hB]
  refine wpAny_execs_cons (wpAny_mono (ht.run [] s1 (start N vs) H _ (I.wish _) hq) (fun fl s' hs => ?_) fun e s' hs => False.elim hs)
  cases fl with
  | ret u =>
    obtain ⟨v, σ', H', J, rv, q⟩ := hs
    exact ⟨v, H', J.os, J.bare, J.base, J.hok, rv, q⟩
  | brk =>
    obtain ⟨_, _, _, q⟩ := hs
    exact False.elim q
  | cont =>
    obtain ⟨_, _, _, q⟩ := hs
    exact False.elim q
  | next =>
    obtain ⟨σ', H', J, f', F, ws, h1, h2, h3, h4, h5, h6⟩ := hs
    refine wpAny_execs_cons (wpAny_Return_some ?_)
    refine wpAny_mono ((pe_var (pos := p) hi hv hd hcd).run [] s' σ' H' (fun v H1 => v = .ref f' ∧ H1 = H') J ⟨.ref f', h1, rfl, rfl⟩) (fun u s2 ⟨v, H1, J1, r1, q1⟩ => ?_) fun e s' hs => False.elim hs
    obtain ⟨ev, eH⟩ := q1
    subst ev
    rw [eH] at J1
    have hfr := ndef_free hnd
    obtain ⟨cs, q1, q2, q3, q4, q5, q6⟩ := cells_made (cl := F.cl) J1 (fun _ => rfl) hjs h5 (fun y hy => hfr (y, .free) (ndef_fr hnd y hy) rfl) (fun y hy c hc => by
      rw [h4]
      exact (Caps.made J1.ok hfr (ndef_fr hnd) hjs).sup y hy c hc) ndf
    have C : CloF F fr cs := by
      refine ⟨fun y c e => ?_, fun a b c e1 e2 => ?_, q2, q3, q6⟩
      · rw [h4] at e
        have hy : y ∈ fr := by
          rcases cloFrom_mem (PySem.mem_of_lookup e) with hm | ⟨hm, _⟩
          · cases hm
          · exact hin _ hm rfl
        obtain ⟨i, hi⟩ := List.mem_iff_getElem?.mp hy
        obtain ⟨c2, v2, e2, e3⟩ := q3 i y hi
        rw [h4, e] at e2
        cases e2
        exact List.mem_map.mpr ⟨_, List.mem_of_getElem? e3, rfl⟩
      · rw [h4] at e1 e2
        have cm := (Caps.made J1.ok hfr (ndef_fr hnd) hjs).sub
        exact J1.ok.inj a b c (cm a c e1) (cm b c e2)
    have live : ∀ {b : Addr} {o : Obj}, s.heap.get? b = some o → b ∉ cs.map (·.1) := fun {b o} e hm => by
      obtain ⟨p, hp, rfl⟩ := List.mem_map.mp hm
      exact absurd (Nat.lt_of_lt_of_le (Heap.lt_size e) (q4 p hp).2.1) (Nat.lt_irrefl _)
    have nt : ∀ b o2, H' b = some o2 → b ∉ cs.map (·.1) := fun b o2 q hb => by
      obtain ⟨p, hp, rfl⟩ := List.mem_map.mp hb
      rw [(q4 p hp).1] at q
      cases q
    have un : Un (frs outer) [] H H' s.heap s2.heap := J1.base
    refine ⟨.ref f', plus cs H', J1.os, J1.bare, ⟨un.keep, un.slot, fun b o e n x => ?_, un.there, fun b xs e => ?_, fun b o y e => ?_, fun b ps e => ?_⟩, fun a o e => ?_, r1, h6 cs C q1 fun p hp => (q4 p hp).1⟩
    · rw [plus_out (live e)]
      exact un.free b o e n x
    · have h := un.tups b xs e
      rw [plus_out (nt b _ h)]; exact h
    · have h := un.frzs b o y e
      rw [plus_out (nt b _ h)]; exact h
    · obtain ⟨more, h⟩ := un.tbls b ps e
      exact ⟨more, by rw [plus_out (nt b _ h)]; exact h⟩
    · by_cases ha : a ∈ cs.map (·.1)
      · obtain ⟨v2, hm, e2⟩ := plus_in (H := H') ha
        rw [e2] at e
        cases Option.some.inj e
        obtain ⟨_, _, u2, r2, hcell⟩ := q4 _ hm
        exact cellO_ok r2 hcell
      · rw [plus_out ha] at e
        exact (J1.hok a o e).stay (fun _ _ _ q => q) (fun b q => by rw [plus_out (nt b _ q)]; exact q) (fun b xs q => by rw [plus_out (nt b _ q)]; exact q)
end
/-! ### the table of a def's code object, as a part -/
/-- the table P: empty, or with the one function's code object c -/
def tbP (P : Addr) (pos : Pos) (q : Str) : Option Addr → SP
  | none => pt P (.tbl #[])
  | some c => Sep [pt P (.tbl (one pos c)), pt c (CodeO c q)]
section
variable {P : Addr} {pos : Pos} {mk : Addr → NF} {q : Str} {i : Nat} {D : Ends} {σ : L2.St} {H : Hp} {Ps : List SP} {o : Option Addr}
/-- the def statement, whether its code object is there already or not -/
theorem q_ndef (S : Sep (tbP P pos q o :: Ps) H) (hq : ∀ c, (mk c).qual = q) (h : ∀ f c' H', (o = none ∨ o = some c') → Sep (pt f (FnO f (mk c')) :: tbP P pos q (some c') :: Ps) H' → D.nx (σ.set i (some (.ref f))) H') : tNdefC i P pos mk D σ H := by
  cases o with
  | none =>
    refine q_ndefNew (show Sep (pt P (.tbl #[]) :: Ps) H from S) fun f c' H' S => h f c' H' (.inl rfl) ?_
    rw [hq c'] at S
    exact S.cons_mono fun _ S => Sep.unflat (As := [pt P (.tbl (one pos c')), pt c' (CodeO c' q)]) S.swap
  | some c' =>
    have S : Sep (pt P (.tbl (one pos c')) :: pt c' (CodeO c' q) :: Ps) H := Sep.flat (As := [pt P (.tbl (one pos c')), pt c' (CodeO c' q)]) S
    refine q_ndefOld S fun f H' S => h f c' H' (.inr rfl) ?_
    exact S.cons_mono fun _ S => Sep.unflat (As := [pt P (.tbl (one pos c')), pt c' (CodeO c' q)]) S
theorem tb_code {c : Addr} (S : Sep (tbP P pos q (some c) :: Ps) H) : H c = some (CodeO c q) := by
  have S : Sep (pt P (.tbl (one pos c)) :: pt c (CodeO c q) :: Ps) H := Sep.flat (As := [pt P (.tbl (one pos c)), pt c (CodeO c q)]) S
  exact S.tl.hd_at
end
end Kt

set_option Elab.async false
set_option linter.all false
set_option maxRecDepth 100000
namespace Kt
open PySem PySem.Spec L2 PyProof.Rows LamX
/-- what the top leaves of the tables of the defs of q -/
def TabsOf (q : Program) (K : PySem.W.Frag) (h : Heap) : Prop := ∀ (d : DefRec) (y : Str) (c P : Addr), (PyProof.Rows.recsOf q).find? (fun e => e.name == y) = some d → PySem.W.tabIn K y = some (c, P) → PySem.W.CodeHd h c P ∧ h.get? P = some (PySem.W.tabObj #[])
/-- the law's end, with the tables of defs that make functions -/
theorem walk_N {l : PySem.W.OpenLaw} {n k : Nat} {q : Program} {loose : List Str} {XP : (Str → Option Value) → Heap → Prop} {YP : World → Heap → Prop} {d : DefRec} {K : Params → PySem.W.Frag} {x : Str}
    (hn : l.most = some n) (hn2 : n ≤ sizeLine) (hdf : d.params.defaults = []) (hr : Room k callerA) (hY : ∀ (w : World) (h : Heap), YP w h → (K w.params).In h)
    (F : ∀ (w : World) (mg : Str → Option Value) (fa : Addr) (h : Heap), (K w.params).In h → h.Ns mainGlobals mg → mg d.name = some (.ref fa) → TabsOf q (K w.params) h → LawAtS l w (K w.params) CX0 k n x mg fa h) :
    PySem.W.WalkO q loose XP YP l.row.toRowW d [] (fun f vs => PySem.call f vs) := by
  refine Att.attach_callB hn hdf fun w s₀ s₁ mg mb fa o pm cd doc a vs ns G Y ho hd hcd hmg hobj hints hlen hbits hg => ?_
  have KX := hY w _ Y
  obtain ⟨fd, cs, sp, hT, nT, C, hb, hsp, hF⟩ := F w mg fa _ KX G.T.g hmg fun d y c P hr ht => PySem.W.tab_of G.T KX hr ht
  exact law_callTs KX G.T.g G.T.b G.T.builtins G.T.nolimit hg hT nT C G.T.bmain hobj hints (Nat.le_trans hlen hn2) hr hF hb (fun H hH hS => hsp H a ns hlen hbits hH hS) fun H e s' z => z
theorem tabIn_of {K : PySem.W.Frag} {x : Str} {f k P : Addr} {oc oc2 : Value} {od od2 : Option Addr} {fd : FuncData} {vs : Array Value} {sl sl2 : Array (Option Value)} (a : PySem.W.nsIn K mainGlobals x = some (some (.ref f))) (l : K.lookup f = some ⟨oc, od, .func fd, sl⟩) (hc : fd.code = .ref k)
    (lk : K.lookup k = some ⟨oc2, od2, .fields vs, sl2⟩) (hv : vs[11]? = some (.ref P)) : PySem.W.tabIn K x = some (k, P) := by
  unfold PySem.W.tabIn
  rw [a]
  simp only [l, hc, lk, hv]
theorem sep_two {a b : Addr} {o u : HO} {H : Hp} (ha : H a = some o) (hb : H b = some u) (ne : a ≠ b) : Sep [pt a o, pt b u] H := by
  refine ⟨fun x => if x = a then some o else none, fun x v e => ?_, if_pos rfl, fun x => if x = b then some u else none, fun x v e => ?_, if_pos rfl, trivial⟩
  · by_cases h : x = a
    · subst h; rw [ha]; simpa using e
    · simp [h] at e
  · by_cases h : x = b
    · subst h
      have e : some u = some v := by simpa using e
      rw [sub_of (by simp [ne.symm]), hb]; exact e
    · simp [h] at e
end Kt

set_option Elab.async false
set_option linter.all false
set_option maxRecDepth 100000
set_option maxHeartbeats 4000000
namespace Pf
open PySem L2 Kt NdefX
set_option hygiene false
local macro_rules | `(tactic| walk_at "mem") => `(tactic| (with_reducible (repeat (first | exact Pick.hd | apply Pick.tl)); done))
local macro_rules | `(tactic| walk_at "rep") => `(tactic| (with_reducible (repeat (first | exact Repl.hd | apply Repl.tl)); done))
local macro_rules | `(tactic| walk_at "sel") => `(tactic| ((repeat (with_reducible apply Sel.cons; (focus walk_at "mem"))); (with_reducible apply Sel.nil); (with_reducible (repeat (first | exact Dr.all | apply Dr.skip)); done)))
local macro_rules | `(tactic| walk_at "at") => `(tactic| (refine' Sep.at_ (by assumption) ?kkpk; (case kkpk => walk_at "mem")))
local macro_rules | `(tactic| walk_at "sq") => `(tactic| first | assumption | (refine' Sep.sq (by assumption) ?kkpk; (case kkpk => walk_at "mem")))
local macro_rules | `(tactic| walk_at "st") => `(tactic| first | assumption | (refine' Sep.st (by assumption) ?kkpk; (case kkpk => walk_at "mem")))
local macro_rules | `(tactic| walk_at "lk") => `(tactic| (repeat (first | (with_reducible exact lk_eq) | exact rfl | refine (lk_ne (by decide +kernel)).trans ?_)))
local macro_rules | `(tactic| walk_at "pf") => `(tactic| (repeat (first | (with_reducible exact pf_nil) | (with_reducible exact pf_eq) | (apply pf_ne; (focus decide +kernel)))))
local macro_rules | `(tactic| walk_at "ty") => `(tactic| first | exact ty_int | (refine' ty_lst ?kkh; (case kkh => walk_at "at")))
local macro_rules | `(tactic| walk_at "k1") => `(tactic| with_reducible first
  | refine q_seq ?_ | refine q_set ?_ | refine q_asg ?_ | refine q_ret ?_ | refine q_drop ?_ | refine q_next ?_ | refine q_c ?_ | refine q_op ?_ | refine q_un ?_ | refine q_nil ?_ | refine q_cons ?_ | refine q_cb ?_
  | refine q_call ?_ | refine q_ifs ?_ | refine q_if ?_ | refine q_test ?_ | refine q_tb ?_ | refine q_bl ?_ | refine q_notT ?_ | refine q_andT ?_ | refine q_orT ?_ | refine q_andV ?_ | refine q_orV ?_ | refine q_notV ?_
  | refine q_addA ?_ | refine q_subI ?_ | refine q_ltI ?_ | refine q_leI ?_ | refine q_gtI ?_ | refine q_geI ?_ | refine q_eqI ?_ | refine q_neI ?_ | refine q_abs ?_ | refine q_int ?_ | refine q_intB ?_ | refine q_max ?_ | refine q_min ?_
  | refine q_ipAdd ?_ | refine q_ipSub ?_ | refine q_gsub ?_ | refine q_augs ?_ | refine q_lst ?_ | refine q_tup ?_ | refine q_blI ?_ | refine iteT ?_ | refine iteF ?_ | refine iteNT ?_ | refine iteNF ?_
  | refine r_prop ?_ | refine r_fld ?_ | refine r_sfld ?_ | refine r_meth ?_ | refine r_make ?_ | refine r_sl ?_ | refine r_nopart ?_ | refine r_part ?_ | refine r_parti ?_ | refine r_gsl ?_ | refine r_bm ?_ | refine r_bm0 ?_ | refine r_for ?_ | refine r_ilist ?_ | refine r_irng ?_
  | refine r_gname ?_ | refine r_gcons ?_ | refine r_gnil ?_ | refine r_par ?_ | refine r_parA ?_ | refine r_chain ?_ | refine r_isN ?_ | refine r_tlc ?_ | refine r_yes ?_ | refine r_makek ?_ | refine r_neg ?_)
local macro_rules | `(tactic| walk_at "k2") => `(tactic| first
  | ((with_reducible refine' q_var ?kke ?_); (case kke => rfl))
  | ((with_reducible refine' q_aug ?kke ?_); (case kke => rfl))
  | ((with_reducible refine' q_ixL ?kks ?kke ?_); (case kks => walk_at "sq"); (case kke => first | rfl | assumption))
  | ((with_reducible refine' q_ixT ?kks ?kke ?_); (case kks => walk_at "st"); (case kke => first | rfl | assumption))
  | ((with_reducible refine' q_ixLL ?kks ?kke ?_); (case kks => walk_at "sq"); (case kke => first | rfl | assumption))
  | ((with_reducible refine' q_lenL ?kks ?_); (case kks => walk_at "sq"))
  | ((with_reducible refine' q_mulI ?kkc ?_); (case kkc => first | exact .inl (by omega) | exact .inr (by omega)))
  | ((with_reducible refine' q_modI ?kkc ?_); (case kkc => omega))
  | ((with_reducible refine' q_divI ?kkc ?_); (case kkc => exact ⟨by omega, by omega⟩))
  | ((with_reducible refine' q_powI ?kkc ?_); (case kkc => exact ⟨by decide, by decide, by decide⟩))
  | ((with_reducible refine' r_kfld ?kkS ?kkp ?kkc ?kkn ?kkl ?_); (case kkS => assumption); (case kkp => walk_at "mem"); (case kkc => walk_at "cls"); (case kkn => walk_at "na"); (case kkl => walk_at "lk"))
  | ((with_reducible refine' r_kprop ?kkS ?kkp ?_); (case kkS => assumption); (case kkp => walk_at "mem"))
  | ((with_reducible refine' r_kmeth ?kkS ?kkp ?kkl ?_); (case kkS => assumption); (case kkp => walk_at "mem"); (case kkl => walk_at "lk"))
  | ((with_reducible refine' r_calll ?kks ?_); (case kks => rfl))
  | ((with_reducible refine' r_tyl ?kks ?_); (case kks => walk_at "sq"))
  | ((with_reducible refine' r_isi (k := true) ?kkt ?kke ?_); (case kkt => walk_at "ty"); (case kke => decide +kernel))
  | ((with_reducible refine' r_isi (k := false) ?kkt ?kke ?_); (case kkt => walk_at "ty"); (case kke => decide +kernel)))
local macro_rules | `(tactic| walk_at "k3") => `(tactic| first
  | ((with_reducible refine' q_setS ?kkS ?kkr ?kke ?_); (case kkS => assumption); (case kkr => walk_at "rep"); (case kke => rfl); intro H S)
  | ((with_reducible refine' r_kset ?kkS ?kkr ?kkc ?kkn ?kkl ?kke ?_); (case kkS => assumption); (case kkr => walk_at "rep"); (case kkc => walk_at "cls"); (case kkn => walk_at "na"); (case kkl => first | exact Nat.le_of_ble_eq_true rfl | assumption | omega | (simp; done) | (simp; omega)); (case kke => walk_at "pf"); intro H S)
  | ((with_reducible refine' q_new ?kkS ?kkl ?_); (case kkS => assumption); (case kkl => first | exact Nat.le_of_ble_eq_true rfl | assumption | omega | (simp; done) | (simp; omega)); intro p H S)
  | ((with_reducible refine' q_newT ?kkS ?kkl ?_); (case kkS => assumption); (case kkl => first | exact Nat.le_of_ble_eq_true rfl | assumption | omega | (simp; done) | (simp; omega)); intro p H S)
  | ((with_reducible refine' r_knew ?kkS ?_); (case kkS => assumption); intro x dx H S)
  | ((with_reducible refine' r_knewk ?kkS ?kkl1 ?kkl2 ?_); (case kkS => assumption); (case kkl1 => rfl); (case kkl2 => rfl); intro x dx H S)
  | ((with_reducible refine' r_ksl ?kkS ?kks ?_); (case kkS => assumption); (case kks => walk_at "sq"); intro p H S)
  | ((with_reducible refine' r_list ?kkS ?kks ?_); (case kkS => assumption); (case kks => walk_at "sq"); intro p H S)
  | ((with_reducible refine' r_cat ?kkS ?kks1 ?kks2 ?kkz ?_); (case kkS => assumption); (case kks1 => walk_at "at"); (case kks2 => walk_at "at"); (case kkz => first | omega | (simp; omega)); intro p H S)
  | ((with_reducible refine' r_append ?kkS ?kkr ?kkz ?_); (case kkS => assumption); (case kkr => walk_at "rep"); (case kkz => first | omega | (simp; omega)); intro H S)
  | ((with_reducible refine' r_reverse ?kkS ?kkr ?_); (case kkS => assumption); (case kkr => walk_at "rep"); intro H S)
  | ((with_reducible refine' r_clear ?kkS ?kkr ?_); (case kkS => assumption); (case kkr => walk_at "rep"); intro H S))
local macro_rules | `(tactic| walk_at "gn") => `(tactic| repeat (first | walk_at "k1" | walk_at "k2"))
local macro_rules | `(tactic| walk_at "go") => `(tactic| repeat (first | walk_at "k1" | walk_at "k2" | walk_at "k3"))

/-! ### many parts as one -/
theorem Sep.b_nil {R : List SP} {H : Hp} (S : Sep R H) : Sep (Sep [] :: R) H := Sep.unflat (As := []) S
theorem Sep.b_add {P : SP} {Ps R : List SP} {H : Hp} (S : Sep (P :: Sep Ps :: R) H) : Sep (Sep (Ps ++ [P]) :: R) H := by
  have S1 : Sep (P :: (Ps ++ R)) H := S.cons_mono fun _ => Sep.flat
  have S2 : Sep (Ps ++ P :: R) H := (pick_mid _).back S1
  refine Sep.unflat (As := Ps ++ [P]) ?_
  rw [List.append_assoc]
  exact S2
theorem Sep.b_open {P : SP} {Ps Qs R : List SP} {H : Hp} (S : Sep (Sep (Ps ++ P :: Qs) :: R) H) : Sep (P :: Sep (Ps ++ Qs) :: R) H := by
  have S1 : Sep (Ps ++ P :: (Qs ++ R)) H := by
    have S0 := S.flat
    rw [List.append_assoc] at S0
    exact S0
  have S2 : Sep (P :: (Ps ++ (Qs ++ R))) H := (pick_mid _).go S1
  rw [← List.append_assoc] at S2
  exact S2.cons_mono fun _ => Sep.unflat
theorem Sep.b_shut {P : SP} {Ps Qs R : List SP} {H : Hp} (S : Sep (P :: Sep (Ps ++ Qs) :: R) H) : Sep (Sep (Ps ++ P :: Qs) :: R) H := by
  have S1 : Sep (P :: (Ps ++ (Qs ++ R))) H := by
    rw [← List.append_assoc]
    exact S.cons_mono fun _ => Sep.flat
  have S2 : Sep (Ps ++ P :: (Qs ++ R)) H := (pick_mid _).back S1
  refine Sep.unflat (As := Ps ++ P :: Qs) ?_
  rw [List.append_assoc]
  exact S2

def top (i : Nat) : Stmt := PySem.Challenge.pw_sparetails_k28_rules_called.main.body.getD i (.Pass ⟨0, 0, 0, 0⟩)
abbrev s_Wrong_init : Stmt := inClass (top 2) 0
abbrev N_Wrong_init : List Str := ["self", "place"]
abbrev s_NoCell_init : Stmt := inClass (top 3) 0
abbrev N_NoCell_init : List Str := ["self", "at"]
abbrev s_BadRoom_init : Stmt := inClass (top 4) 0
abbrev N_BadRoom_init : List Str := ["self", "size"]
abbrev s_is_integer : Stmt := top 6
abbrev N_is_integer : List Str := ["thing"]
abbrev s_is_number : Stmt := top 7
abbrev N_is_number : List Str := ["many", "thing"]
abbrev s_Array_init : Stmt := inClass (top 9) 0
abbrev N_Array_init : List Str := ["self", "cells", "size"]
abbrev s_are_marks : Stmt := top 10
abbrev N_are_marks : List Str := ["thing", "mark"]
abbrev s_Window_init : Stmt := inClass (top 11) 0
abbrev N_Window_init : List Str := ["self", "marks", "rule"]
abbrev s_Window_len : Stmt := inClass (top 11) 1
abbrev N_Window_len : List Str := ["self"]
abbrev s_Window_eq : Stmt := inClass (top 11) 2
abbrev N_Window_eq : List Str := ["self", "other"]
abbrev s_Window_contains : Stmt := inClass (top 11) 3
abbrev N_Window_contains : List Str := ["self", "x"]
abbrev s_Window_iter : Stmt := inClass (top 11) 4
abbrev N_Window_iter : List Str := ["self"]
abbrev s_Window_getitem : Stmt := inClass (top 11) 5
abbrev N_Window_getitem : List Str := ["self", "at"]
abbrev s_Window_setitem : Stmt := inClass (top 11) 6
abbrev N_Window_setitem : List Str := ["self", "at", "worth"]
abbrev s_Window_iadd : Stmt := inClass (top 11) 7
abbrev N_Window_iadd : List Str := ["self", "other"]
abbrev s_Window_room : Stmt := inClass (top 11) 8
abbrev N_Window_room : List Str := ["self"]
abbrev s_Window_spare : Stmt := inClass (top 11) 9
abbrev N_Window_spare : List Str := ["self"]
abbrev s_Window_seen : Stmt := inClass (top 11) 10
abbrev N_Window_seen : List Str := ["self"]
abbrev s_Window_on : Stmt := inClass (top 11) 11
abbrev N_Window_on : List Str := ["self", "array", "length", "told"]
abbrev s_Window_size_for : Stmt := inClass (top 11) 12
abbrev N_Window_size_for : List Str := ["self", "needed", "rule", "size"]
abbrev s_Window_marks : Stmt := inClass (top 11) 13
abbrev N_Window_marks : List Str := ["self"]
abbrev s_Window_shares : Stmt := inClass (top 11) 14
abbrev N_Window_shares : List Str := ["self", "other"]
abbrev s_Window_cut : Stmt := inClass (top 11) 15
abbrev N_Window_cut : List Str := ["self", "many"]
abbrev s_Window_copied : Stmt := inClass (top 11) 16
abbrev N_Window_copied : List Str := ["self"]
abbrev s_Window_put : Stmt := inClass (top 11) 17
abbrev N_Window_put : List Str := ["self", "marks", "needed", "size"]
abbrev s_l_bag : Stmt := top 13
abbrev N_l_bag : List Str := ["_law_script", "_law_cell"]
abbrev s_l_take : Stmt := top 14
abbrev N_l_take : List Str := ["_law_bag_here", "_law_many", "_law_cell", "_law_mixed", "_law_value", "_law_begin", "_law_second"]
abbrev s_l_grown : Stmt := top 15
abbrev N_l_grown : List Str := ["_law_bag_here", "_law_windows", "_law_spots", "_law_calls", "_law_notes", "_law_at", "_law_window", "_law_marks", "_law_before", "_law_needed", "_law_moves", "_law_one"]
abbrev s_l_other : Stmt := top 16
abbrev N_l_other : List Str := ["_law_bag_here", "_law_windows", "_law_spots", "_law_at", "_law_way", "_law_window"]
abbrev s_l_side : Stmt := top 17
abbrev N_l_side : List Str := ["_law_side_here", "_law_windows", "_law_notes", "_law_rule"]
abbrev s_l_sidel_rule : Stmt := (defBody s_l_side).getD 0 (.Pass ⟨0, 0, 0, 0⟩)
abbrev N_l_sidel_rule : List Str := ["_law_elder", "_law_least", "_law_side_here", "_law_windows", "_law_notes", "_law_one"]
abbrev s_l_far_right : Stmt := top 18
abbrev N_l_far_right : List Str := ["_law_rule", "_law_window", "_law_longer", "_law_both", "_law_told"]
abbrev s_l_far_rightl_rule : Stmt := (defBody s_l_far_right).getD 0 (.Pass ⟨0, 0, 0, 0⟩)
abbrev N_l_far_rightl_rule : List Str := ["_law_room", "_law_needed"]
abbrev s_law : Stmt := top 19
abbrev N_law : List Str := ["_law_script", "_law_bag_here", "_law_turn", "_law_asked", "_law_calls", "_law_notes", "_law_sides", "_law_rooms", "_law_k", "_law_one_rule", "_law_step", "_law_plain", "_law_side_here", "_law_one"]
structure Txt (K : PySem.W.Frag) (mg : Str → Option Value) (c_Array c_Window : Addr) : Prop where
  z_len : mg "len" = none
  z_int : mg "int" = none
  z_abs : mg "abs" = none
  z_list : mg "list" = none
  z_max : mg "max" = none
  z_isinstance : mg "isinstance" = none
  z_all : mg "all" = none
  z_bool : mg "bool" = none
  z_range : mg "range" = none
  cl_Array : Cls K c_Array
  na_Array_cells : NoAttr K c_Array "cells"
  na_Array_size : NoAttr K c_Array "size"
  cl_Window : Cls K c_Window
  na_Window__array : NoAttr K c_Window "_array"
  na_Window__length : NoAttr K c_Window "_length"
  na_Window__rule : NoAttr K c_Window "_rule"
local macro_rules | `(tactic| walk_at "cls") => `(tactic| with_reducible first | assumption | exact Txt.cl_Array (by assumption) | exact Txt.cl_Window (by assumption))
local macro_rules | `(tactic| walk_at "na") => `(tactic| with_reducible first | assumption | exact Txt.na_Array_cells (by assumption) | exact Txt.na_Array_size (by assumption) | exact Txt.na_Window__array (by assumption) | exact Txt.na_Window__length (by assumption) | exact Txt.na_Window__rule (by assumption))
abbrev Tx (K : PySem.W.Frag) (mg : Str → Option Value) (c_Array c_Window : Addr) := Txt K mg c_Array c_Window
section
variable {P : Program} {w : World} {K : PySem.W.Frag} {mg : Str → Option Value} {base : Heap} {c_Array c_Window : Addr}
theorem sc_is_integer : FnScope N_is_integer ["thing"] (defScope s_is_integer) := ⟨rfl, rfl, rfl, by decide +kernel, rfl, by decide +kernel, by decide +kernel⟩
def spIsInt : Sp := fun vs H Q _ => ∃ i : Int, vs = [.int i] ∧ Q (.bl true) H
theorem ok_is_integer {f : Addr} (F : Dt K mg "is_integer" s_is_integer ["thing"] f) (T : Txt K mg c_Array c_Window) : Df P w K mg base 1 "is_integer" f ["thing"] spIsInt := by
  refine F.ok sc_is_integer (fun vs H Q E h => ?_) (fun cdv A outer s H vs Q E hr h => ?_)
  · obtain ⟨i, rfl, _⟩ := h
    rfl
  obtain ⟨i, rfl, q⟩ := h
  refine ⟨_, (pss_one (ps_ret (pe_and (pe_callB (r := rIsi K) call_isi (by rfl) T.z_isinstance (by decide +kernel) (pa_cons (pv 0) (pa_cons (pe_bltn (v := .ty "int") (by rfl) T.z_int (by decide +kernel) rfl) pa_nil))) (pe_one (pe_not (pe_callB (r := rIsi K) call_isi (by rfl) T.z_isinstance (by decide +kernel) (pa_cons (pv 0) (pa_cons (pe_bltn (v := .ty "bool") (by rfl) T.z_bool (by decide +kernel) rfl) pa_nil)))))))), ?_⟩
  walk_at "go"
  exact q
theorem sc_Array_init : FnScope N_Array_init ["self", "cells", "size"] (defScope s_Array_init) := ⟨rfl, rfl, rfl, by decide +kernel, rfl, by decide +kernel, by decide +kernel⟩
def spArr (c_Array : Addr) : Sp := fun vs H Q _ => ∃ (a dx : Addr) (x y : V) (R : List SP), vs = [.ref a, x, y] ∧ Sep (pt a (.ins c_Array dx []) :: R) H ∧ ∀ H', Sep (pt a (.ins c_Array dx [("cells", x), ("size", y)]) :: R) H' → Q .non H'
theorem ok_Array_init {f : Addr} (F : Mt K c_Array "__init__" "Array.__init__" s_Array_init ["self", "cells", "size"] f) (T : Txt K mg c_Array c_Window) : Mf P w K mg base 1 c_Array "__init__" ["self", "cells", "size"] (spArr c_Array) := by
  refine F.ok T.cl_Array sc_Array_init (fun vs H Q E h => ?_) (fun cdv A outer s H vs Q E hr h => ?_)
  · obtain ⟨a, dx, x, y, R, rfl, _⟩ := h
    rfl
  obtain ⟨a, dx, x, y, R, rfl, S, q⟩ := h
  refine ⟨_, (pss_cons (ps_fldK K (pv 0) (pv 1))
      (pss_one (ps_fldK K (pv 0) (pv 2)))), ?_⟩
  walk_at "go"
  exact q _ S
theorem sc_are_marks : FnScope N_are_marks ["thing"] (defScope s_are_marks) := ⟨rfl, rfl, rfl, by decide +kernel, rfl, by decide +kernel, by decide +kernel⟩
def spMarks : Sp := fun vs H Q _ => ∃ (a : Addr) (ns : List Int) (R : List SP), vs = [.ref a] ∧ ns ≠ [] ∧ ns.length ≤ 10000 ∧ Sep (pt a (.lst (ns.map V.int)) :: R) H ∧ ∀ H', Sep (pt a (.lst (ns.map V.int)) :: R) H' → Q (.bl true) H'
theorem ok_are_marks {f f1 : Addr} (F : Dt K mg "_are_marks" s_are_marks ["thing"] f) (T : Txt K mg c_Array c_Window) (D_is_integer : Df P w K mg base 1 "is_integer" f1 ["thing"] spIsInt) : Df P w K mg base 2 "_are_marks" f ["thing"] spMarks := by
  refine F.ok sc_are_marks (fun vs H Q E h => ?_) (fun cdv A outer s H vs Q E hr h => ?_)
  · obtain ⟨a, ns, R, rfl, _⟩ := h
    rfl
  obtain ⟨a, ns, R, rfl, h0, hl, S, q⟩ := h
  refine ⟨_, (pss_one (ps_ret (pe_and (pe_callB (r := rIsi K) call_isi (by rfl) T.z_isinstance (by decide +kernel) (pa_cons (pv 0) (pa_cons (pe_bltn (v := .ty "list") (by rfl) T.z_list (by decide +kernel) rfl) pa_nil))) (pe_and (pe_cmpR (r := rGtI) op_gt (pe_callB (r := cOr (cLenQ K) cLenS) call_lenA (by rfl) T.z_len (by decide +kernel) (pa_cons (pv 0) pa_nil)) pe_int (nomark _)) (pe_one (pe_callB (r := rAll K) (cr_all rfl) (by rfl) T.z_all (by decide +kernel) (pa_cons (pe_lc (own := [("mark", 1)]) rfl sc_are_marks.nd (pi_listK K (pv 0)) (blkOk_by (own := [("mark", 1)]) (N := N_are_marks) (sc := defScope s_are_marks) (by decide +kernel)) (fun _ _ _ _ _ => (pg_name (i := 1) sc_are_marks.nd rfl (by first | exact Or.inl rfl | exact Or.inr rfl))) (fun _ _ _ _ _ => pts_nil) (fun _ _ _ _ _ => (pe_df D_is_integer (hr.mono (by decide)) (pa_cons (pv 1) pa_nil)))) pa_nil))))))), ?_⟩
  have hpos : 0 < ns.length := List.length_pos_iff.mpr h0
  walk_at "go"
  refine q_ite (fun hx => ?_) (fun hx => absurd (by rw [List.length_map]; omega) hx)
  walk_at "go"
  refine r_lc_list (xs := ns.map V.int) (fun i acc Ps => acc = (List.replicate i true).map V.bl ∧ Ps = pt a (.lst (ns.map V.int)) :: R) S ⟨rfl, rfl⟩ (fun D i acc Ps H hi ⟨_, e⟩ S => by subst e; walk_at "sq") (by walk_at "sq") ?_ ?_
  · rintro D i x acc Ps H hi ⟨rfl, rfl⟩ S
    obtain ⟨z, hz, rfl⟩ : ∃ z, ns[i]? = some z ∧ V.int z = x := by
      rw [List.getElem?_map] at hi
      cases e : ns[i]? with
      | none => rw [e] at hi; cases hi
      | some z => rw [e] at hi; exact ⟨z, rfl, Option.some.inj hi⟩
    walk_at "go"
    refine ⟨rfl, ?_⟩
    walk_at "go"
    refine ⟨_, rfl, ?_⟩
    have hi' := (List.getElem?_eq_some_iff.mp hz).1
    refine cn_in S (by simp; omega) ⟨?_, rfl⟩
    rw [List.replicate_succ', List.map_append]
    rfl
  · rintro D acc Ps H ⟨rfl, rfl⟩ S
    walk_at "go"
    refine r_all (by walk_at "sq") ?_
    have e : (List.replicate (ns.map V.int).length true).all id = true := by simp
    rw [e]
    exact q _ S.tl
/-! ### arrays and windows -/
def arP (c_Array A L : Addr) (ms : List Int) (s : Int) : SP := fun G => ∃ dx, Sep [pt A (.ins c_Array dx [("cells", .ref L), ("size", .int s)]), pt L (.lst (ms.map V.int))] G
def wnP (c_Window W A : Addr) (n : Nat) (r : V) : SP := fun G => ∃ dx, pt W (.ins c_Window dx [("_array", .ref A), ("_length", .int n), ("_rule", r)]) G
theorem ar_open {A L : Addr} {ms : List Int} {s : Int} {R : List SP} {H : Hp} (S : Sep (arP c_Array A L ms s :: R) H) : ∃ dx, Sep (pt A (.ins c_Array dx [("cells", .ref L), ("size", .int s)]) :: pt L (.lst (ms.map V.int)) :: R) H := by
  obtain ⟨dx, S⟩ := S.ex
  exact ⟨dx, S.flat⟩
theorem ar_shut {A L dx : Addr} {ms : List Int} {s : Int} {R : List SP} {H : Hp} (S : Sep (pt A (.ins c_Array dx [("cells", .ref L), ("size", .int s)]) :: pt L (.lst (ms.map V.int)) :: R) H) : Sep (arP c_Array A L ms s :: R) H :=
  Sep.ex_in dx (Sep.unflat (As := [_, _]) S)
theorem wn_open {W A : Addr} {n : Nat} {r : V} {R : List SP} {H : Hp} (S : Sep (wnP c_Window W A n r :: R) H) : ∃ dx, Sep (pt W (.ins c_Window dx [("_array", .ref A), ("_length", .int n), ("_rule", r)]) :: R) H := S.ex
theorem wn_shut {W A dx : Addr} {n : Nat} {r : V} {R : List SP} {H : Hp} (S : Sep (pt W (.ins c_Window dx [("_array", .ref A), ("_length", .int n), ("_rule", r)]) :: R) H) : Sep (wnP c_Window W A n r :: R) H := Sep.ex_in dx S
theorem wa_open {W A L : Addr} {n : Nat} {r : V} {ms : List Int} {s : Int} {R : List SP} {H : Hp} (S : Sep (wnP c_Window W A n r :: arP c_Array A L ms s :: R) H) : ∃ dw da, Sep (pt W (.ins c_Window dw [("_array", .ref A), ("_length", .int n), ("_rule", r)]) :: pt A (.ins c_Array da [("cells", .ref L), ("size", .int s)]) :: pt L (.lst (ms.map V.int)) :: R) H := by
  obtain ⟨dw, S⟩ := wn_open S
  obtain ⟨da, S⟩ := ar_open S.swap
  exact ⟨dw, da, S.s3 (by walk_at "sel")⟩
theorem wa_shut {W A L dw da : Addr} {n : Nat} {r : V} {ms : List Int} {s : Int} {R : List SP} {H : Hp} (S : Sep (pt W (.ins c_Window dw [("_array", .ref A), ("_length", .int n), ("_rule", r)]) :: pt A (.ins c_Array da [("cells", .ref L), ("size", .int s)]) :: pt L (.lst (ms.map V.int)) :: R) H) : Sep (wnP c_Window W A n r :: arP c_Array A L ms s :: R) H :=
  wn_shut (S.cons_mono fun _ => ar_shut)
theorem cut_take {xs : List V} {n : Nat} : cutV xs none (some (n : Int)) = xs.take n := by
  unfold cutV HT.sIx
  simp only [List.drop_zero, Nat.sub_zero]
  rw [if_neg (by omega), Int.toNat_natCast, List.take_eq_take_iff]
  omega
/-- self's cells up to its length, as a new list -/
def spSeen (c_Array c_Window : Addr) : Sp := fun vs H Q _ => ∃ (W A L : Addr) (n : Nat) (r : V) (ms : List Int) (s : Int) (R : List SP), vs = [.ref W] ∧ Sep (wnP c_Window W A n r :: arP c_Array A L ms s :: R) H ∧
  ∀ p H', Sep (pt p (.lst ((ms.take n).map V.int)) :: wnP c_Window W A n r :: arP c_Array A L ms s :: R) H' → Q (.ref p) H'
theorem sc_Window_seen : FnScope N_Window_seen ["self"] (defScope s_Window_seen) := ⟨rfl, rfl, rfl, by decide +kernel, rfl, by decide +kernel, by decide +kernel⟩
theorem ok_Window_seen {f : Addr} (F : Mt K c_Window "_seen" "Window._seen" s_Window_seen ["self"] f) (T : Txt K mg c_Array c_Window) : Mf P w K mg base 1 c_Window "_seen" ["self"] (spSeen c_Array c_Window) := by
  refine F.ok T.cl_Window sc_Window_seen (fun vs H Q E h => ?_) (fun cdv A outer s H vs Q E hr h => ?_)
  · obtain ⟨W, A, L, n, r, ms, s, R, rfl, _⟩ := h
    rfl
  obtain ⟨W, A, L, n, r, ms, s, R, rfl, S, q⟩ := h
  refine ⟨_, (pss_one (ps_ret (pe_slice (r := rSlL K) sl_list (pe_fldK K (pe_fldK K (pv 0))) po_none (po_some (pe_fldK K (pv 0)))))), ?_⟩
  obtain ⟨dw, da, S⟩ := wa_open S
  walk_at "go"
  rw [cut_take, ← List.map_take] at S
  exact q _ _ ((S.s4 (by walk_at "sel")).cons_mono fun _ => wa_shut)
theorem sc_Window_marks : FnScope N_Window_marks ["self"] (defScope s_Window_marks) := ⟨rfl, rfl, rfl, by decide +kernel, rfl, by decide +kernel, by decide +kernel⟩
theorem ok_Window_marks {f : Addr} (F : Mt K c_Window "marks" "Window.marks" s_Window_marks ["self"] f) (T : Txt K mg c_Array c_Window) (M_seen : Mf P w K mg base 1 c_Window "_seen" ["self"] (spSeen c_Array c_Window)) : Mf P w K mg base 2 c_Window "marks" ["self"] (spSeen c_Array c_Window) := by
  refine F.ok T.cl_Window sc_Window_marks (fun vs H Q E h => ?_) (fun cdv A outer s H vs Q E hr h => ?_)
  · obtain ⟨W, A, L, n, r, ms, s, R, rfl, _⟩ := h
    rfl
  obtain ⟨W, A, L, n, r, ms, s, R, rfl, S, q⟩ := h
  refine ⟨_, (pss_one (ps_ret (pe_mf0 M_seen (hr.mono (by decide)) (pv 0)))), ?_⟩
  obtain ⟨dw, S0⟩ := wn_open S
  walk_at "go"
  exact ⟨W, A, L, n, r, ms, s, R, rfl, S, q⟩
abbrev gRule : List V → List V → List V := fun vs zs => vs ++ zs
abbrev CfW (P : Program) (w : World) (K : PySem.W.Frag) (mg : Str → Option Value) (base : Heap) (k : Nat) (c_Window : Addr) (sp : Sp) := Cfk P w K mg base k "Window" c_Window ["self", "marks", "rule"] 1 ["rule"] gRule sp
abbrev gRule0 : List V → List V → List V := fun vs _ => vs ++ [V.non]
abbrev CfW0 (P : Program) (w : World) (K : PySem.W.Frag) (mg : Str → Option Value) (base : Heap) (k : Nat) (c_Window : Addr) (sp : Sp) := Cfk P w K mg base k "Window" c_Window ["self", "marks", "rule"] 1 [] gRule0 sp
/-- a new window on a new array -/
def spNewW (c_Array c_Window : Addr) : Sp := fun vs H Q _ => ∃ (W dx M : Addr) (r : V) (ns : List Int) (R : List SP), vs = [.ref W, .ref M, r] ∧ ns ≠ [] ∧ ns.length ≤ 10000 ∧ Sep (pt W (.ins c_Window dx []) :: pt M (.lst (ns.map V.int)) :: R) H ∧
  ∀ A L H', Sep (wnP c_Window W A ns.length r :: arP c_Array A L ns ns.length :: pt M (.lst (ns.map V.int)) :: R) H' → Q .non H'
theorem sc_Window_init : FnScope N_Window_init ["self", "marks", "rule"] (defScope s_Window_init) := ⟨rfl, rfl, rfl, by decide +kernel, rfl, by decide +kernel, by decide +kernel⟩
theorem ok_Window_init {f f1 : Addr} {ks : List Str} {gV : List V → List V → List V} (F : Mtk K c_Window "Window.__init__" s_Window_init ["self", "marks", "rule"] 1 ks gV f) (T : Txt K mg c_Array c_Window) (gW : mg "Window" = some (.ref c_Window)) (D_are_marks : Df P w K mg base 2 "_are_marks" f1 ["thing"] spMarks)
    (M_Array : Cf P w K mg base 1 "Array" c_Array ["self", "cells", "size"] (spArr c_Array)) : Cfk P w K mg base 3 "Window" c_Window ["self", "marks", "rule"] 1 ks gV (spNewW c_Array c_Window) := by
  refine F.ok gW sc_Window_init (fun vs H Q E h => ?_) (fun cdv A outer s H vs Q E hr h => ?_)
  · obtain ⟨W, dx, M, r, ns, R, rfl, _⟩ := h
    rfl
  obtain ⟨W, dx, M, r, ns, R, rfl, h0, hl, S, q⟩ := h
  refine ⟨_, (pss_cons (ps_if (pt_not (pt_val (pe_df D_are_marks (hr.mono (by decide)) (pa_cons (pv 1) pa_nil)))) (pss_one ps_never) pss_nil)
      (pss_cons (ps_fldK K (pv 0) (pe_cf M_Array (hr.mono (by decide)) (pa_cons (pe_callTy (r := cList K) call_list_of (by rfl) T.z_list (by decide +kernel) (pa_cons (pv 1) pa_nil)) (pa_cons (pe_callB (r := cOr (cLenQ K) cLenS) call_lenA (by rfl) T.z_len (by decide +kernel) (pa_cons (pv 1) pa_nil)) pa_nil))))
      (pss_cons (ps_fldK K (pv 0) (pe_callB (r := cOr (cLenQ K) cLenS) call_lenA (by rfl) T.z_len (by decide +kernel) (pa_cons (pv 1) pa_nil)))
      (pss_one (ps_fldK K (pv 0) (pv 2)))))), ?_⟩
  walk_at "go"
  refine ⟨M, ns, _, rfl, h0, hl, S.s1 (by walk_at "sel"), fun H S => ?_⟩
  walk_at "go"
  refine ⟨_, _, _, _, _, rfl, S, fun H S => ⟨rfl, ?_⟩⟩
  walk_at "go"
  walk_at "go"
  walk_at "go"
  rw [List.length_map] at S
  exact q x p _ (wa_shut (S.s4 (by walk_at "sel")))
theorem sc_is_number : FnScope N_is_number ["many", "thing"] (defScope s_is_number) := ⟨rfl, rfl, rfl, by decide +kernel, rfl, by decide +kernel, by decide +kernel⟩
def spIsNum : Sp := fun vs H Q _ => ∃ n i : Int, vs = [.int n, .int i] ∧ Q (.bl (decide (0 ≤ i ∧ i < n))) H
theorem ok_is_number {f f1 : Addr} (F : Dt K mg "is_number" s_is_number ["many", "thing"] f) (T : Txt K mg c_Array c_Window) (D_is_integer : Df P w K mg base 1 "is_integer" f1 ["thing"] spIsInt) : Df P w K mg base 2 "is_number" f ["many", "thing"] spIsNum := by
  refine F.ok sc_is_number (fun vs H Q E h => ?_) (fun cdv A outer s H vs Q E hr h => ?_)
  · obtain ⟨n, i, rfl, _⟩ := h
    rfl
  obtain ⟨n, i, rfl, q⟩ := h
  refine ⟨_, (pss_one (ps_ret (pe_and (pe_df D_is_integer (hr.mono (by decide)) (pa_cons (pv 1) pa_nil)) (pe_one (pe_chain (r := rLeI) (r' := rLtI) op_le op_lt pe_int (pv 1) (pv 0)))))), ?_⟩
  walk_at "go"
  refine ⟨i, rfl, ?_⟩
  walk_at "go"
  refine q_ite (fun h0 => ?_) (fun h0 => ?_)
  · walk_at "go"
    have e : decide (0 ≤ i ∧ i < n) = decide (i < n) := by simp [h0]
    rw [e] at q
    exact q
  · have e : decide (0 ≤ i ∧ i < n) = false := decide_eq_false fun h => h0 h.1
    rw [e] at q
    exact q
theorem sc_Window_on : FnScope N_Window_on ["self", "array", "length"] (defScope s_Window_on) := ⟨rfl, rfl, rfl, by decide +kernel, rfl, by decide +kernel, by decide +kernel⟩
def spOn (c_Array c_Window : Addr) : Sp := fun vs H Q _ => ∃ (W A0 A : Addr) (n0 n : Nat) (r : V) (R : List SP), vs = [.ref W, .ref A, .int n] ∧ Sep (wnP c_Window W A0 n0 r :: R) H ∧ ∀ W' H', Sep (wnP c_Window W' A n r :: wnP c_Window W A0 n0 r :: R) H' → Q (.ref W') H'
theorem ok_Window_on {f : Addr} (F : Mt K c_Window "_on" "Window._on" s_Window_on ["self", "array", "length"] f) (T : Txt K mg c_Array c_Window) (M_Window : CfW P w K mg base 3 c_Window (spNewW c_Array c_Window)) : Mf P w K mg base 5 c_Window "_on" ["self", "array", "length"] (spOn c_Array c_Window) := by
  refine F.ok T.cl_Window sc_Window_on (fun vs H Q E h => ?_) (fun cdv A outer s H vs Q E hr h => ?_)
  · obtain ⟨W, A0, A, n0, n, r, R, rfl, _⟩ := h
    rfl
  obtain ⟨W, A0, A, n0, n, r, R, rfl, S, q⟩ := h
  refine ⟨_, (pss_cons (ps_set (i := 3) sc_Window_on.nd rfl (by first | exact Or.inl rfl | exact Or.inr rfl) (pe_cfk M_Window (hr.mono (by decide)) (pa_cons (pe_lst (pa_cons pe_int pa_nil)) pa_nil) (pk_cons (pe_fldK K (pv 0)) pk_nil)))
      (pss_cons (ps_fldK K (pv 3) (pv 1))
      (pss_cons (ps_fldK K (pv 3) (pv 2))
      (pss_one (ps_ret (pv 3)))))), ?_⟩
  obtain ⟨dw, S⟩ := wn_open S
  walk_at "go"
  refine ⟨x, dx, p, r, [0], _, rfl, by simp, by simp, S, fun A' L' H S => ⟨rfl, ?_⟩⟩
  obtain ⟨d2, S⟩ := wn_open S
  walk_at "go"
  exact q _ _ (Sep.cons_mono (fun _ => wn_shut) (wn_shut (S.s2 (by walk_at "sel"))))
/-- the room of a window that must move -/
def spSize (P : Program) (w : World) (K : PySem.W.Frag) (mg : Str → Option Value) (base : Heap) (c_Array c_Window : Addr) : Sp := fun vs H Q _ => ∃ (W A L : Addr) (k : Nat) (r : V) (ms : List Int) (s n : Int) (R : List SP), vs = [.ref W, .int n] ∧ Sep (wnP c_Window W A k r :: arP c_Array A L ms s :: R) H ∧
  RuleAt P w K mg base 3 r s n H fun m H' => Q (.int m) H'
theorem sc_Window_size_for : FnScope N_Window_size_for ["self", "needed"] (defScope s_Window_size_for) := ⟨rfl, rfl, rfl, by decide +kernel, rfl, by decide +kernel, by decide +kernel⟩
theorem ok_Window_size_for {f f1 : Addr} (F : Mt K c_Window "_size_for" "Window._size_for" s_Window_size_for ["self", "needed"] f) (T : Tx K mg c_Array c_Window) (D_is_integer : Df P w K mg base 1 "is_integer" f1 ["thing"] spIsInt) :
    Mf P w K mg base 4 c_Window "_size_for" ["self", "needed"] (spSize P w K mg base c_Array c_Window) := by
  refine F.ok T.cl_Window sc_Window_size_for (fun vs H Q E h => ?_) (fun cdv A outer s H vs Q E hr h => ?_)
  · obtain ⟨W, A, L, k, r, ms, s, n, R, rfl, _⟩ := h
    rfl
  obtain ⟨W, A, L, k, r, ms, s, n, R, rfl, S, hR⟩ := h
  refine ⟨_, (pss_cons (ps_set (i := 2) sc_Window_size_for.nd rfl (by first | exact Or.inl rfl | exact Or.inr rfl) (pe_fldK K (pv 0)))
      (pss_cons (ps_if (pt_cmpR (r := rIsN) op_isN (pv 2) pe_non (nomark _)) (pss_one (ps_ret (pv 1))) pss_nil)
      (pss_cons (ps_set (i := 3) sc_Window_size_for.nd rfl (by first | exact Or.inl rfl | exact Or.inr rfl) (pe_clo (i := 2) (k := 3) (hr.mono (by decide)) (pa_cons (pe_fldK K (pe_fldK K (pv 0))) (pa_cons (pv 1) pa_nil))))
      (pss_cons (ps_if (PW.pt (pw_or (pt_not (pt_val (pe_df D_is_integer (hr.mono (by decide)) (pa_cons (pv 3) pa_nil)))) (pw_or1 (pt_cmpR (r := rLtI) op_lt (pv 3) (pv 1) (nomark _))))) (pss_one ps_never) pss_nil)
      (pss_one (ps_ret (pv 3))))))), ?_⟩
  obtain ⟨dw, da, S⟩ := wa_open S
  walk_at "go"
  rcases hR with ⟨rfl, q⟩ | ⟨f, F, ps, fr, cs, sp, rfl, hN, C, q⟩
  · refine q_ite (fun hx => ?_) (fun hx => absurd rfl hx)
    walk_at "go"
    exact q
  · refine q_ite (fun hx => nomatch hx) (fun hx => ?_)
    walk_at "go"
    refine ⟨f, rfl, ⟨F, C.fn⟩, ?_⟩
    walk_at "go"
    refine ⟨F, ps, fr, cs, sp, hN, C, ?_⟩
    refine q _ fun m H2 hm k2 hf => ?_
    have q := k2 hf
    clear k2
    generalize plus cs H2 = H2 at q
    walk_at "go"
    refine ⟨_, rfl, ?_⟩
    walk_at "go"
    refine q_ite (fun hx => absurd hx (by omega)) (fun hx => ?_)
    walk_at "go"
    exact q
/-- put: where it stays, where it moves -/
def spPut (P : Program) (w : World) (K : PySem.W.Frag) (mg : Str → Option Value) (base : Heap) (c_Array c_Window : Addr) : Sp := fun vs H Q _ => ∃ (W A L M : Addr) (n : Nat) (r : V) (ms xs : List Int) (s : Int) (R : List SP), vs = [.ref W, .ref M] ∧ n ≤ ms.length ∧ (ms.length : Int) ≤ s ∧ xs ≠ [] ∧ xs.length ≤ 10000 ∧ ms.length ≤ 10000 ∧
  Sep (wnP c_Window W A n r :: arP c_Array A L ms s :: pt M (.lst (xs.map V.int)) :: R) H ∧
  (((n + xs.length : Nat) : Int) ≤ s → ∀ W' H', Sep (wnP c_Window W' A (n + xs.length) r :: wnP c_Window W A n r :: arP c_Array A L (ms.take n ++ xs ++ ms.drop (n + xs.length)) s :: pt M (.lst (xs.map V.int)) :: R) H' → Q (.ref W') H') ∧
  (s < ((n + xs.length : Nat) : Int) → RuleAt P w K mg base 3 r s ((n + xs.length : Nat) : Int) H fun m H1 => ∃ R', Sep (wnP c_Window W A n r :: arP c_Array A L ms s :: pt M (.lst (xs.map V.int)) :: R') H1 ∧
    ∀ W' A' L' H', Sep (wnP c_Window W' A' (n + xs.length) r :: arP c_Array A' L' (ms.take n ++ xs) m :: wnP c_Window W A n r :: arP c_Array A L ms s :: pt M (.lst (xs.map V.int)) :: R') H' → Q (.ref W') H')
theorem sc_Window_put : FnScope N_Window_put ["self", "marks"] (defScope s_Window_put) := ⟨rfl, rfl, rfl, by decide +kernel, rfl, by decide +kernel, by decide +kernel⟩
theorem ok_Window_put {f : Addr} (F : Mt K c_Window "put" "Window.put" s_Window_put ["self", "marks"] f) (T : Tx K mg c_Array c_Window) (M_seen : Mf P w K mg base 1 c_Window "_seen" ["self"] (spSeen c_Array c_Window)) (M_on : Mf P w K mg base 5 c_Window "_on" ["self", "array", "length"] (spOn c_Array c_Window))
    (M_size_for : Mf P w K mg base 4 c_Window "_size_for" ["self", "needed"] (spSize P w K mg base c_Array c_Window)) (M_Array : Cf P w K mg base 1 "Array" c_Array ["self", "cells", "size"] (spArr c_Array)) : Mf P w K mg base 6 c_Window "put" ["self", "marks"] (spPut P w K mg base c_Array c_Window) := by
  refine F.ok T.cl_Window sc_Window_put (fun vs H Q E h => ?_) (fun cdv A outer s H vs Q E hr h => ?_)
  · obtain ⟨W, A, L, M, n, r, ms, xs, s, R, rfl, _⟩ := h
    rfl
  obtain ⟨W, A, L, M, n, r, ms, xs, s, R, rfl, hn, hs, h0, hl, hm, S, q1, q2⟩ := h
  refine ⟨_, (pss_cons (ps_set (i := 2) sc_Window_put.nd rfl (by first | exact Or.inl rfl | exact Or.inr rfl) (pe_op (r := rAddA) op_addA (pe_fldK K (pv 0)) (pe_callB (r := cOr (cLenQ K) cLenS) call_lenA (by rfl) T.z_len (by decide +kernel) (pa_cons (pv 1) pa_nil))))
      (pss_cons (ps_if (pt_cmpR (r := rLeI) op_le (pv 2) (pe_fldK K (pe_fldK K (pv 0))) (nomark _)) (pss_cons (ps_asg (pe_callTy (r := cList K) call_list_of (by rfl) T.z_list (by decide +kernel) (pa_cons (pv 1) pa_nil)) (pg_slice (pe_fldK K (pe_fldK K (pv 0))) (po_some (pe_fldK K (pv 0))) (po_some (pv 2))))
      (pss_one (ps_ret (pe_mf M_on (hr.mono (by decide)) (pv 0) (pa_cons (pe_fldK K (pv 0)) (pa_cons (pv 2) pa_nil)))))) pss_nil)
      (pss_cons (ps_set (i := 3) sc_Window_put.nd rfl (by first | exact Or.inl rfl | exact Or.inr rfl) (pe_mf M_size_for (hr.mono (by decide)) (pv 0) (pa_cons (pv 2) pa_nil)))
      (pss_one (ps_ret (pe_mf M_on (hr.mono (by decide)) (pv 0) (pa_cons (pe_cf M_Array (hr.mono (by decide)) (pa_cons (pe_op (r := rAddA) op_addA (pe_mf0 M_seen (hr.mono (by decide)) (pv 0)) (pe_callTy (r := cList K) call_list_of (by rfl) T.z_list (by decide +kernel) (pa_cons (pv 1) pa_nil))) (pa_cons (pv 3) pa_nil))) (pa_cons (pv 2) pa_nil)))))))), ?_⟩
  obtain ⟨dw, da, S⟩ := wa_open S
  walk_at "go"
  have ez : (n : Int) + ((xs.map V.int).length : Int) = ((n + xs.length : Nat) : Int) := by simp
  rw [ez]
  refine q_ite (fun hx => ?_) (fun hx => ?_)
  · walk_at "go"
    have ne : L ≠ p := Sep.ne (S.s2 (A := pt L _) (B := pt p _) (by walk_at "sel"))
    refine ⟨L, p, ms.map V.int, xs.map V.int, n, n + xs.length, rfl, rfl, rfl, rfl, by walk_at "at", by walk_at "at", ne, by simpa using hn, by omega, Nat.le_trans (by simp; omega : _ ≤ 20000) (by decide), ?_⟩
    have el : (ms.map V.int).take n ++ xs.map V.int ++ (ms.map V.int).drop (n + xs.length) = (ms.take n ++ xs ++ ms.drop (n + xs.length)).map V.int := by simp
    rw [el]
    have S := S.set (a := L) (o' := .lst ((ms.take n ++ xs ++ ms.drop (n + xs.length)).map V.int)) (by walk_at "rep")
    generalize upd H L _ = H at S
    walk_at "go"
    refine ⟨W, A, A, n, n + xs.length, r, _, rfl, wn_shut (S.s1 (by walk_at "sel")), fun W' H S => ?_⟩
    have S := ar_shut (A := A) (L := L) (S.s2 (by walk_at "sel"))
    exact q1 hx _ _ (S.s4 (by walk_at "sel"))
  · walk_at "go"
    have q2 := q2 (by omega)
    have S := wa_shut S
    refine ⟨W, A, L, n, r, ms, s, _, _, rfl, S, q2.mono fun m H ⟨R', S, q⟩ => ?_⟩
    obtain ⟨dw, da, S⟩ := wa_open S
    walk_at "go"
    refine ⟨W, A, L, n, r, ms, s, _, rfl, wa_shut (S.s3 (by walk_at "sel")), fun p H S => ?_⟩
    obtain ⟨dw, da, S⟩ := wa_open (S.s2 (by walk_at "sel"))
    walk_at "go"
    refine ⟨x, dx, _, _, _, rfl, S, fun H S => ⟨rfl, ?_⟩⟩
    walk_at "go"
    refine ⟨W, A, x, n, n + xs.length, r, _, rfl, wn_shut (S.s1 (by walk_at "sel")), fun W' H S => ?_⟩
    rw [← List.map_append] at S
    have S1 := ar_shut (A := x) (L := p) (S.s2 (by walk_at "sel"))
    have S2 := ar_shut (A := A) (L := L) (S1.s2 (by walk_at "sel"))
    exact q W' x p _ (S2.s5 (by walk_at "sel"))
end
section
variable {P : Program} {w : World} {K : PySem.W.Frag} {mg : Str → Option Value} {base : Heap} {c_Array c_Window : Addr}
/-- window.spare -/
def spSpare (c_Array c_Window : Addr) : Sp := fun vs H Q _ => ∃ (W A L : Addr) (n : Nat) (r : V) (ms : List Int) (s : Int) (R : List SP), vs = [.ref W] ∧ Sep (wnP c_Window W A n r :: arP c_Array A L ms s :: R) H ∧ Q (.int (s - n)) H
theorem sc_Window_spare : FnScope N_Window_spare ["self"] (defScope s_Window_spare) := ⟨rfl, rfl, rfl, by decide +kernel, rfl, by decide +kernel, by decide +kernel⟩
theorem ok_Window_spare {f : Addr} (F : Pt K c_Window "spare" "Window.spare" s_Window_spare f) (T : Tx K mg c_Array c_Window) : Pf P w K mg base 1 c_Window "spare" (spSpare c_Array c_Window) := by
  refine F.ok T.cl_Window sc_Window_spare (fun vs H Q E h => ?_) (fun cdv A outer s H vs Q E hr h => ?_)
  · obtain ⟨W, A, L, n, r, ms, s, R, rfl, _⟩ := h
    rfl
  obtain ⟨W, A, L, n, r, ms, s, R, rfl, S, q⟩ := h
  refine ⟨_, (pss_one (ps_ret (pe_op (r := rSubI) op_sub (pe_fldK K (pe_fldK K (pv 0))) (pe_fldK K (pv 0))))), ?_⟩
  obtain ⟨dw, da, S⟩ := wa_open S
  walk_at "go"
  exact q
end
section
variable {P : Program} {w : World} {K : PySem.W.Frag} {mg : Str → Option Value} {base : Heap} {c_Array c_Window : Addr}
/-- window.room -/
def spRoom (c_Array c_Window : Addr) : Sp := fun vs H Q _ => ∃ (W A L : Addr) (n : Nat) (r : V) (ms : List Int) (s : Int) (R : List SP), vs = [.ref W] ∧ Sep (wnP c_Window W A n r :: arP c_Array A L ms s :: R) H ∧ Q (.int s) H
theorem sc_Window_room : FnScope N_Window_room ["self"] (defScope s_Window_room) := ⟨rfl, rfl, rfl, by decide +kernel, rfl, by decide +kernel, by decide +kernel⟩
theorem ok_Window_room {f : Addr} (F : Pt K c_Window "room" "Window.room" s_Window_room f) (T : Tx K mg c_Array c_Window) : Pf P w K mg base 1 c_Window "room" (spRoom c_Array c_Window) := by
  refine F.ok T.cl_Window sc_Window_room (fun vs H Q E h => ?_) (fun cdv A outer s H vs Q E hr h => ?_)
  · obtain ⟨W, A, L, n, r, ms, s, R, rfl, _⟩ := h
    rfl
  obtain ⟨W, A, L, n, r, ms, s, R, rfl, S, q⟩ := h
  refine ⟨_, (pss_one (ps_ret (pe_fldK K (pe_fldK K (pv 0))))), ?_⟩
  obtain ⟨dw, da, S⟩ := wa_open S
  walk_at "go"
  exact q
end
section
variable {P : Program} {w : World} {K : PySem.W.Frag} {mg : Str → Option Value} {base : Heap} {c_Array c_Window : Addr}
/-- window.shares(other) -/
def spShares (c_Array c_Window : Addr) : Sp := fun vs H Q _ => ∃ (W1 A1 W2 A2 d1 d2 e1 e2 : Addr) (n1 n2 : Nat) (r1 r2 : V) (f1 f2 : List (Str × V)), vs = [.ref W1, .ref W2] ∧ H W1 = some (.ins c_Window d1 [("_array", .ref A1), ("_length", .int n1), ("_rule", r1)]) ∧ H W2 = some (.ins c_Window d2 [("_array", .ref A2), ("_length", .int n2), ("_rule", r2)]) ∧
  H A1 = some (.ins c_Array e1 f1) ∧ H A2 = some (.ins c_Array e2 f2) ∧ Q (.bl (decide (A1 = A2))) H
theorem sc_Window_shares : FnScope N_Window_shares ["self", "other"] (defScope s_Window_shares) := ⟨rfl, rfl, rfl, by decide +kernel, rfl, by decide +kernel, by decide +kernel⟩
theorem ok_Window_shares {f : Addr} (F : Mt K c_Window "shares" "Window.shares" s_Window_shares ["self", "other"] f) (T : Tx K mg c_Array c_Window) (hm : PySem.W.mroIn K c_Array (.type "object") = some true) (he : PySem.W.findIn K (.ref c_Array) "__eq__" = some (some (.builtin "object.__eq__"))) :
    Mf P w K mg base 1 c_Window "shares" ["self", "other"] (spShares c_Array c_Window) := by
  refine F.ok T.cl_Window sc_Window_shares (fun vs H Q E h => ?_) (fun cdv A outer s H vs Q E hr h => ?_)
  · obtain ⟨W1, A1, W2, A2, d1, d2, e1, e2, n1, n2, r1, r2, f1, f2, rfl, _⟩ := h
    rfl
  obtain ⟨W1, A1, W2, A2, d1, d2, e1, e2, n1, n2, r1, r2, f1, f2, rfl, h1, h2, h3, h4, q⟩ := h
  refine ⟨_, (pss_one (ps_ret (pe_cmpR (r := rEqIns K) (op_eqIns hr.units) (pe_fldK K (pv 0)) (pe_fldK K (pv 1)) (nomark _)))), ?_⟩
  walk_at "go"
  refine ⟨W1, _, d1, _, _, rfl, h1, T.cl_Window, T.na_Window__array, (by walk_at "lk"), ?_⟩
  walk_at "go"
  refine ⟨W2, _, d2, _, _, rfl, h2, T.cl_Window, T.na_Window__array, (by walk_at "lk"), ?_⟩
  exact ⟨A1, A2, c_Array, e1, f1, e2, f2, rfl, rfl, h3, h4, hm, he, q⟩
end
section
variable {P : Program} {w : World} {K : PySem.W.Frag} {mg : Str → Option Value} {base : Heap} {c_Array c_Window : Addr}
/-- a window on its own array, as many cells as there is room -/
def spCopied (c_Array c_Window : Addr) : Sp := fun vs H Q _ => ∃ (W A L : Addr) (n : Nat) (r : V) (ms : List Int) (s : Int) (R : List SP), vs = [.ref W] ∧ Sep (wnP c_Window W A n r :: arP c_Array A L ms s :: R) H ∧
  ∀ W' A' L' H', Sep (wnP c_Window W' A' n r :: arP c_Array A' L' (ms.take n) n :: wnP c_Window W A n r :: arP c_Array A L ms s :: R) H' → Q (.ref W') H'
theorem sc_Window_copied : FnScope N_Window_copied ["self"] (defScope s_Window_copied) := ⟨rfl, rfl, rfl, by decide +kernel, rfl, by decide +kernel, by decide +kernel⟩
theorem ok_Window_copied {f : Addr} (F : Mt K c_Window "copied" "Window.copied" s_Window_copied ["self"] f) (T : Tx K mg c_Array c_Window) (M_seen : Mf P w K mg base 1 c_Window "_seen" ["self"] (spSeen c_Array c_Window)) (M_on : Mf P w K mg base 5 c_Window "_on" ["self", "array", "length"] (spOn c_Array c_Window))
    (M_Array : Cf P w K mg base 1 "Array" c_Array ["self", "cells", "size"] (spArr c_Array)) : Mf P w K mg base 6 c_Window "copied" ["self"] (spCopied c_Array c_Window) := by
  refine F.ok T.cl_Window sc_Window_copied (fun vs H Q E h => ?_) (fun cdv A outer s H vs Q E hr h => ?_)
  · obtain ⟨W, A, L, n, r, ms, s, R, rfl, _⟩ := h
    rfl
  obtain ⟨W, A, L, n, r, ms, s, R, rfl, S, q⟩ := h
  refine ⟨_, (pss_one (ps_ret (pe_mf M_on (hr.mono (by decide)) (pv 0) (pa_cons (pe_cf M_Array (hr.mono (by decide)) (pa_cons (pe_mf0 M_seen (hr.mono (by decide)) (pv 0)) (pa_cons (pe_fldK K (pv 0)) pa_nil))) (pa_cons (pe_fldK K (pv 0)) pa_nil))))), ?_⟩
  obtain ⟨dw, da, S⟩ := wa_open S
  walk_at "go"
  refine ⟨W, A, L, n, r, ms, s, _, rfl, wa_shut (S.s3 (by walk_at "sel")), fun p H S => ?_⟩
  obtain ⟨dw, da, S⟩ := wa_open (S.s2 (by walk_at "sel"))
  walk_at "go"
  refine ⟨x, dx, _, _, _, rfl, S, fun H S => ⟨rfl, ?_⟩⟩
  walk_at "go"
  refine ⟨W, A, x, n, n, r, _, rfl, wn_shut (S.s1 (by walk_at "sel")), fun W' H S => ?_⟩
  have S1 := ar_shut (A := x) (L := p) (S.s2 (by walk_at "sel"))
  have S2 := ar_shut (A := A) (L := L) (S1.s2 (by walk_at "sel"))
  exact q W' x p _ (S2.s4 (by walk_at "sel"))
end
section
variable {P : Program} {w : World} {K : PySem.W.Frag} {mg : Str → Option Value} {base : Heap} {c_Array c_Window : Addr}
/-- len(window) -/
def spLen (c_Window : Addr) : Sp := fun vs H Q _ => ∃ (W A : Addr) (n : Nat) (r : V) (R : List SP), vs = [.ref W] ∧ n ≤ 1000000 ∧ Sep (wnP c_Window W A n r :: R) H ∧ Q (.int n) H
theorem sc_Window_len : FnScope N_Window_len ["self"] (defScope s_Window_len) := ⟨rfl, rfl, rfl, by decide +kernel, rfl, by decide +kernel, by decide +kernel⟩
theorem ok_Window_len {f : Addr} (F : Mt K c_Window "__len__" "Window.__len__" s_Window_len ["self"] f) (T : Tx K mg c_Array c_Window) : Mf P w K mg base 1 c_Window "__len__" ["self"] (spLen c_Window) := by
  refine F.ok T.cl_Window sc_Window_len (fun vs H Q E h => ?_) (fun cdv A outer s H vs Q E hr h => ?_)
  · obtain ⟨W, A, n, r, R, rfl, _⟩ := h
    rfl
  obtain ⟨W, A, n, r, R, rfl, hn, S, q⟩ := h
  refine ⟨_, (pss_one (ps_ret (pe_lenRng (pe_fldK K (pv 0)) T.z_len T.z_range))), ?_⟩
  obtain ⟨dw, S⟩ := wn_open S
  walk_at "go"
  refine r_lenRng ?_
  walk_at "go"
  exact ⟨n, rfl, by omega, q⟩
end
section
variable {P : Program} {w : World} {K : PySem.W.Frag} {mg : Str → Option Value} {base : Heap} {c_Array c_Window : Addr}
/-- window.cut(many) -/
def spCut (c_Array c_Window : Addr) : Sp := fun vs H Q _ => ∃ (W A : Addr) (n m : Nat) (r : V) (R : List SP), vs = [.ref W, .int m] ∧ 1 ≤ m ∧ m ≤ n ∧ Sep (wnP c_Window W A n r :: R) H ∧ ∀ W' H', Sep (wnP c_Window W' A m r :: wnP c_Window W A n r :: R) H' → Q (.ref W') H'
theorem sc_Window_cut : FnScope N_Window_cut ["self", "many"] (defScope s_Window_cut) := ⟨rfl, rfl, rfl, by decide +kernel, rfl, by decide +kernel, by decide +kernel⟩
theorem ok_Window_cut {f f1 : Addr} (F : Mt K c_Window "cut" "Window.cut" s_Window_cut ["self", "many"] f) (T : Tx K mg c_Array c_Window) (D_is_integer : Df P w K mg base 1 "is_integer" f1 ["thing"] spIsInt) (M_on : Mf P w K mg base 5 c_Window "_on" ["self", "array", "length"] (spOn c_Array c_Window)) : Mf P w K mg base 6 c_Window "cut" ["self", "many"] (spCut c_Array c_Window) := by
  refine F.ok T.cl_Window sc_Window_cut (fun vs H Q E h => ?_) (fun cdv A outer s H vs Q E hr h => ?_)
  · obtain ⟨W, A, n, m, r, R, rfl, _⟩ := h
    rfl
  obtain ⟨W, A, n, m, r, R, rfl, h1, h2, S, q⟩ := h
  refine ⟨_, (pss_cons (ps_if (PW.pt (pw_or (pt_not (pt_val (pe_df D_is_integer (hr.mono (by decide)) (pa_cons (pv 1) pa_nil)))) (pw_or1 (pt_not (pt_chain (r := rLeI) (r' := rLeI) op_le op_le pe_int (pv 1) (pe_fldK K (pv 0))))))) (pss_one ps_never) pss_nil)
      (pss_one (ps_ret (pe_mf M_on (hr.mono (by decide)) (pv 0) (pa_cons (pe_fldK K (pv 0)) (pa_cons (pv 1) pa_nil)))))), ?_⟩
  obtain ⟨dw, S⟩ := wn_open S
  walk_at "go"
  refine ⟨_, rfl, ?_⟩
  walk_at "go"
  refine q_ite (fun hx => ?_) (fun hx => absurd (by omega) hx)
  walk_at "go"
  rw [decide_eq_true (show (m : Int) ≤ (n : Int) by omega)]
  walk_at "go"
  exact ⟨W, A, A, n, m, r, _, rfl, wn_shut S, fun W' H S => q W' H S⟩
end
section
variable {P : Program} {w : World} {K : PySem.W.Frag} {mg : Str → Option Value} {base : Heap} {c_Array c_Window : Addr}
/-- window[k] = mark -/
def spSetW (c_Array c_Window : Addr) : Sp := fun vs H Q _ => ∃ (W A L : Addr) (n k : Nat) (r : V) (ms : List Int) (s z : Int) (R : List SP), vs = [.ref W, .int k, .int z] ∧ k < n ∧ n ≤ ms.length ∧ Sep (wnP c_Window W A n r :: arP c_Array A L ms s :: R) H ∧
  ∀ H', Sep (wnP c_Window W A n r :: arP c_Array A L (ms.set k z) s :: R) H' → Q .non H'
theorem sc_Window_setitem : FnScope N_Window_setitem ["self", "at", "worth"] (defScope s_Window_setitem) := ⟨rfl, rfl, rfl, by decide +kernel, rfl, by decide +kernel, by decide +kernel⟩
theorem ok_Window_setitem {f f1 : Addr} (F : Mt K c_Window "__setitem__" "Window.__setitem__" s_Window_setitem ["self", "at", "worth"] f) (T : Tx K mg c_Array c_Window) (D_is_number : Df P w K mg base 2 "is_number" f1 ["many", "thing"] spIsNum) : Mf P w K mg base 3 c_Window "__setitem__" ["self", "at", "worth"] (spSetW c_Array c_Window) := by
  refine F.ok T.cl_Window sc_Window_setitem (fun vs H Q E h => ?_) (fun cdv A outer s H vs Q E hr h => ?_)
  · obtain ⟨W, A, L, n, k, r, ms, s, z, R, rfl, _⟩ := h
    rfl
  obtain ⟨W, A, L, n, k, r, ms, s, z, R, rfl, hk, hn, S, q⟩ := h
  refine ⟨_, (pss_cons (ps_if (pt_not (pt_val (pe_df D_is_number (hr.mono (by decide)) (pa_cons (pe_fldK K (pv 0)) (pa_cons (pv 1) pa_nil))))) (pss_one ps_never) pss_nil)
      (pss_one (ps_asg (pv 2) (pg_sub (pe_fldK K (pe_fldK K (pv 0))) (pv 1) set_list)))), ?_⟩
  obtain ⟨dw, da, S⟩ := wa_open S
  walk_at "go"
  refine ⟨_, _, rfl, ?_⟩
  rw [decide_eq_true (show (0 : Int) ≤ (k : Int) ∧ (k : Int) < (n : Int) by omega)]
  walk_at "go"
  have ix : ixN (ms.map V.int).length (k : Int) = some k := by
    unfold ixN
    rw [if_pos (by omega), if_pos (by rw [List.length_map]; omega), Int.toNat_natCast]
  refine q_setS S (by walk_at "rep") ix fun H S => ?_
  rw [← List.map_set] at S
  walk_at "go"
  exact q _ (wa_shut (S.s3 (by walk_at "sel")))
end
section
variable {P : Program} {w : World} {K : PySem.W.Frag} {mg : Str → Option Value} {base : Heap} {c_Array c_Window : Addr}
theorem sc_Window_iadd : FnScope N_Window_iadd ["self", "other"] (defScope s_Window_iadd) := ⟨rfl, rfl, rfl, by decide +kernel, rfl, by decide +kernel, by decide +kernel⟩
theorem ok_Window_iadd {f : Addr} (F : Mt K c_Window "__iadd__" "Window.__iadd__" s_Window_iadd ["self", "other"] f) (T : Tx K mg c_Array c_Window) (M_put : Mf P w K mg base 6 c_Window "put" ["self", "marks"] (spPut P w K mg base c_Array c_Window)) : Mf P w K mg base 7 c_Window "__iadd__" ["self", "other"] (spPut P w K mg base c_Array c_Window) := by
  refine F.ok T.cl_Window sc_Window_iadd (fun vs H Q E h => ?_) (fun cdv A outer s H vs Q E hr h => ?_)
  · obtain ⟨W, A, L, M, n, r, ms, xs, s, R, rfl, _⟩ := h
    rfl
  obtain ⟨W, A, L, M, n, r, ms, xs, s, R, rfl, hn, hs, h0, hl, hm, S, q1, q2⟩ := h
  refine ⟨_, (pss_one (ps_ret (pe_mf M_put (hr.mono (by decide)) (pv 0) (pa_cons (pv 1) pa_nil)))), ?_⟩
  walk_at "go"
  obtain ⟨dw, Sw⟩ := wn_open (S.s1 (A := wnP c_Window W A n r) (by walk_at "sel"))
  refine ⟨W, _, _, rfl, Sw.hd_at, rfl, ?_⟩
  walk_at "go"
  exact ⟨W, A, L, M, n, r, ms, xs, s, R, rfl, hn, hs, h0, hl, hm, S, q1, q2⟩
end
/-- the drawing bag at b -/
def bag (b : Addr) : SP := fun G => ∃ (x y z : Int) (c : Addr) (ns : List Int), 0 ≤ z ∧ Sep [pt b (.lst [.int x, .int y, .int z, .ref c]), pt c (.lst (ns.map V.int))] G
def spTake : Sp := fun vs H Q _ => ∃ (b : Addr) (n : Int) (R : List SP), vs = [.ref b, .int n] ∧ 0 < n ∧ n < 1073741824 ∧ Sep (bag b :: R) H ∧ ∀ v H', 0 ≤ v → v < n → Sep (bag b :: R) H' → Q (.int v) H'
def spBag (K : PySem.W.Frag) : Sp := fun vs H Q _ => ∃ (a : Addr) (ns : List Int) (R : List SP), vs = [.ref a] ∧ SqL K H a (ns.map V.int) ∧ ns.length ≤ 63 ∧ Sep R H ∧ ∀ b H', Sep (bag b :: R) H' → Q (.ref b) H'
theorem bag_open {b : Addr} {R : List SP} {H : Hp} (S : Sep (bag b :: R) H) : ∃ (x y z : Int) (c : Addr) (ns : List Int), 0 ≤ z ∧ Sep (pt b (.lst [.int x, .int y, .int z, .ref c]) :: pt c (.lst (ns.map V.int)) :: R) H := by
  obtain ⟨x, S⟩ := S.ex
  obtain ⟨y, S⟩ := S.ex
  obtain ⟨z, S⟩ := S.ex
  obtain ⟨c, S⟩ := S.ex
  obtain ⟨ns, S⟩ := S.ex
  obtain ⟨hz, S⟩ := S.pure
  exact ⟨x, y, z, c, ns, hz, S.flat⟩
theorem bag_shut {b : Addr} {R : List SP} {H : Hp} {x y z : Int} {c : Addr} {ns : List Int} (hz : 0 ≤ z) (S : Sep (pt b (.lst [.int x, .int y, .int z, .ref c]) :: pt c (.lst (ns.map V.int)) :: R) H) : Sep (bag b :: R) H :=
  Sep.ex_in x (Sep.ex_in y (Sep.ex_in z (Sep.ex_in c (Sep.ex_in ns (Sep.pure_in hz (Sep.unflat (As := [_, _]) S))))))
section
variable {P : Program} {w : World} {K : PySem.W.Frag} {mg : Str → Option Value} {base : Heap}
theorem sc_l_take : FnScope N_l_take ["_law_bag_here", "_law_many"] (defScope s_l_take) := ⟨rfl, rfl, rfl, by decide +kernel, rfl, by decide +kernel, by decide +kernel⟩
theorem ok_l_take {c_Array c_Window f_doubled : Addr} {f : Addr} (F : Dt K mg "_law_take" s_l_take ["_law_bag_here", "_law_many"] f) (T : Txt K mg c_Array c_Window) : Df P w K mg base 1 "_law_take" f ["_law_bag_here", "_law_many"] spTake := by
  refine F.ok sc_l_take (fun vs H Q E h => ?_) (fun cdv A outer s H vs Q E hr h => ?_)
  · obtain ⟨b, n, R, rfl, _⟩ := h
    rfl
  obtain ⟨b, n, R, rfl, h0, h1, S, q⟩ := h
  refine ⟨_, (C8.pss_cut (ps_if (pt_cmpR (r := rEqA K) (op_eqA hr.units) (pe_ix (r := rIx K) ix_seq (pv 0) pe_int (fun _ _ => rfl)) pe_int (nomark _)) (pss_cons (ps_set (i := 2) sc_l_take.nd rfl (by first | exact Or.inl rfl | exact Or.inr rfl) pe_int)
      (C8.pss_cut (ps_if (pt_cmpR (r := rLtI) op_lt (pe_ix (r := rIx K) ix_seq (pv 0) pe_int (fun _ _ => rfl)) (pe_callB (r := cOr (cLenQ K) cLenS) call_lenA (by rfl) T.z_len (by decide +kernel) (pa_cons (pe_ix (r := rIx K) ix_seq (pv 0) pe_int (fun _ _ => rfl)) pa_nil)) (nomark _)) (pss_one (ps_set (i := 2) sc_l_take.nd rfl (by first | exact Or.inl rfl | exact Or.inr rfl) (pe_ix (r := rIx K) ix_seq (pe_ix (r := rIx K) ix_seq (pv 0) pe_int (fun _ _ => rfl)) (pe_ix (r := rIx K) ix_seq (pv 0) pe_int (fun _ _ => rfl)) (fun _ _ => rfl)))) pss_nil)
      (pss_cons (ps_augS (tget := rIxL K) (pv 0) pe_int get_list pe_int ip_add set_list)
      (C8.pss_cut (ps_if (pt_cmpR (r := rGeI) op_ge (pv 2) pe_int (nomark _)) (pss_one (ps_asg (pv 2) (pg_sub (pv 0) pe_int set_list))) pss_nil)
      (pss_cons (ps_set (i := 3) sc_l_take.nd rfl (by first | exact Or.inl rfl | exact Or.inr rfl) (pe_op (r := rAddA) op_addA (pe_op (r := rAddA) op_addA (pe_op (r := rMulA) op_mulA (pe_ix (r := rIx K) ix_seq (pv 0) pe_int (fun _ _ => rfl)) pe_int) (pe_op (r := rModI) op_mod (pe_callTy (r := cInt) call_int1 (by rfl) T.z_int (by decide +kernel) (pa_cons (pv 2) pa_nil)) pe_int)) (pe_op (r := rMulA) op_mulA pe_int (pe_ix (r := rIx K) ix_seq (pv 0) pe_int (fun _ _ => rfl)))))
      (pss_one (ps_asg (pe_op (r := rModI) op_mod (pe_callTy (r := cInt) call_int1 (by rfl) T.z_int (by decide +kernel) (pa_cons (pv 3) pa_nil)) pe_int) (pg_sub (pv 0) pe_int set_list)))))))) pss_nil)
      (pss_cons (ps_if (pt_cmpR (r := rGtI) op_gt (pe_ix (r := rIx K) ix_seq (pv 0) pe_int (fun _ _ => rfl)) pe_int (nomark _)) (pss_cons (ps_set (i := 4) sc_l_take.nd rfl (by first | exact Or.inl rfl | exact Or.inr rfl) (pe_op (r := rModI) op_mod (pe_callTy (r := cInt) call_int1 (by rfl) T.z_int (by decide +kernel) (pa_cons (pe_ix (r := rIx K) ix_seq (pv 0) pe_int (fun _ _ => rfl)) pa_nil)) (pv 1)))
      (pss_cons (ps_asg (pe_op (r := rDivI) op_fdiv (pe_ix (r := rIx K) ix_seq (pv 0) pe_int (fun _ _ => rfl)) (pv 1)) (pg_sub (pv 0) pe_int set_list))
      (pss_one (ps_ret (pv 4))))) pss_nil)
      (pss_cons (ps_set (i := 5) sc_l_take.nd rfl (by first | exact Or.inl rfl | exact Or.inr rfl) (pe_op (r := rModI) op_mod (pe_callTy (r := cInt) call_int1 (by rfl) T.z_int (by decide +kernel) (pa_cons (pe_op (r := rMulA) op_mulA (pe_op (r := rAddA) op_addA (pe_ix (r := rIx K) ix_seq (pv 0) pe_int (fun _ _ => rfl)) pe_int) pe_int) pa_nil)) pe_int))
      (pss_cons (ps_set (i := 6) sc_l_take.nd rfl (by first | exact Or.inl rfl | exact Or.inr rfl) (pe_op (r := rModI) op_mod (pe_callTy (r := cInt) call_int1 (by rfl) T.z_int (by decide +kernel) (pa_cons (pe_op (r := rMulA) op_mulA (pe_op (r := rModI) op_mod (pe_callTy (r := cInt) call_int1 (by rfl) T.z_int (by decide +kernel) (pa_cons (pe_op (r := rMulA) op_mulA (pv 5) (pv 5)) pa_nil)) pe_int) pe_int) pa_nil)) pe_int))
      (pss_cons (ps_if (pt_cmpR (r := rGtI) op_gt (pv 1) pe_int (nomark _)) (pss_one (ps_ret (pe_op (r := rModI) op_mod (pe_callTy (r := cInt) call_int1 (by rfl) T.z_int (by decide +kernel) (pa_cons (pe_op (r := rAddA) op_addA (pe_op (r := rMulA) op_mulA (pv 6) pe_int) (pv 5)) pa_nil)) (pv 1)))) pss_nil)
      (pss_one (ps_ret (pe_op (r := rModI) op_mod (pe_callTy (r := cInt) call_int1 (by rfl) T.z_int (by decide +kernel) (pa_cons (pe_op (r := rDivI) op_fdiv (pv 6) pe_int) pa_nil)) (pv 1))))))))), ?_⟩
  obtain ⟨x, y, z, c, ns, hz, S⟩ := bag_open S
  refine q_cut (Mid := fun σ H => ∃ u2 u3, σ = [some (.ref b), some (.int n), u2, u3, none, none, none] ∧ ∃ (x y z : Int) (c : Addr) (ns : List Int), 0 ≤ z ∧ Sep (pt b (.lst [.int x, .int y, .int z, .ref c]) :: pt c (.lst (ns.map V.int)) :: R) H) ?_ ?_
  · walk_at "go"
    refine q_ite (fun hx => ?_) (fun hx => ?_)
    · walk_at "go"
      refine q_cut (Mid := fun σ H => ∃ u, σ = [some (.ref b), some (.int n), some (.int u), none, none, none, none] ∧ Sep (pt b (.lst [.int x, .int y, .int z, .ref c]) :: pt c (.lst (ns.map V.int)) :: R) H) ?_ ?_
      · walk_at "go"
        refine q_ite (fun hl => ?_) (fun hl => ?_)
        · walk_at "go"
          rw [List.length_map] at hl
          obtain ⟨j, rfl⟩ := Int.eq_ofNat_of_zero_le hz
          refine q_ixL (by walk_at "sq") (atI_nat (v := V.int (ns[j]'(by omega))) (by simp)) ?_
          exact ⟨_, rfl, S⟩
        · exact ⟨_, rfl, S⟩
      rintro σ H ⟨u, rfl, S⟩
      walk_at "go"
      refine q_cut (Mid := fun σ H => σ = [some (.ref b), some (.int n), some (.int u), none, none, none, none] ∧ ∃ x', Sep (pt b (.lst [.int x', .int y, .int (z + 1), .ref c]) :: pt c (.lst (ns.map V.int)) :: R) H) ?_ ?_
      · walk_at "go"
        refine q_ite (fun hu => ?_) (fun hu => ?_)
        · walk_at "go"
          exact ⟨rfl, _, S⟩
        · exact ⟨rfl, _, S⟩
      rintro σ H ⟨rfl, x', S⟩
      walk_at "go"
      exact ⟨_, _, rfl, _, _, _, _, _, by omega, S⟩
    · exact ⟨_, _, rfl, _, _, _, _, _, hz, S⟩
  rintro σ H ⟨u2, u3, rfl, x, y, z, c, ns, hz, S⟩
  walk_at "go"
  refine q_ite (fun hx => ?_) (fun hx => ?_)
  · walk_at "go"
    exact q _ _ (Int.emod_nonneg _ (by omega)) (Int.emod_lt_of_pos _ h0) (bag_shut hz S)
  · walk_at "go"
    refine q_ite (fun hm => ?_) (fun hm => ?_)
    · walk_at "go"
      exact q _ _ (Int.emod_nonneg _ (by omega)) (Int.emod_lt_of_pos _ h0) (bag_shut hz S)
    · walk_at "go"
      exact q _ _ (Int.emod_nonneg _ (by omega)) (Int.emod_lt_of_pos _ h0) (bag_shut hz S)
theorem sc_l_bag : FnScope N_l_bag ["_law_script"] (defScope s_l_bag) := ⟨rfl, rfl, rfl, by decide +kernel, rfl, by decide +kernel, by decide +kernel⟩
theorem ok_l_bag {c_Array c_Window f_doubled : Addr} {f : Addr} (F : Dt K mg "_law_bag" s_l_bag ["_law_script"] f) (T : Txt K mg c_Array c_Window) : Df P w K mg base 1 "_law_bag" f ["_law_script"] (spBag K) := by
  refine F.ok sc_l_bag (fun vs H Q E h => ?_) (fun cdv A outer s H vs Q E hr h => ?_)
  · obtain ⟨a, ns, R, rfl, _⟩ := h
    rfl
  obtain ⟨a, ns, R, rfl, hq, hl, S, q⟩ := h
  refine ⟨_, (pss_one (ps_ret (pe_lst (pa_cons pe_int (pa_cons pe_int (pa_cons pe_int (pa_cons (pe_lc (own := [("_law_cell", 1)]) rfl sc_l_bag.nd (pi_listK K (pe_slice (r := rSlL K) sl_list (pv 0) po_none (po_some pe_int))) (blkOk_by (own := [("_law_cell", 1)]) (N := N_l_bag) (sc := defScope s_l_bag) (by decide +kernel)) (fun _ _ _ _ _ => (pg_name (i := 1) sc_l_bag.nd rfl (by first | exact Or.inl rfl | exact Or.inr rfl))) (fun _ _ _ _ _ => pts_nil) (fun _ _ _ _ _ => (pe_callB (r := cAbs) call_abs (by rfl) T.z_abs (by decide +kernel) (pa_cons (pv 1) pa_nil)))) pa_nil))))))), ?_⟩
  walk_at "go"
  have ec : cutV (ns.map V.int) none (some (63 : Int)) = (ns.take 63).map V.int := by
    have := cut_take (xs := ns.map V.int) (n := 63)
    rw [List.map_take]
    exact this
  rw [ec] at S
  have hm : (ns.take 63).length ≤ 63 := by simp; omega
  generalize ns.take 63 = ms at S hm
  refine r_lc_list (xs := ms.map V.int) (fun i acc Ps => ∃ zs : List Int, acc = zs.map V.int ∧ zs.length = i ∧ Ps = pt p (.lst (ms.map V.int)) :: R) S ⟨[], rfl, rfl, rfl⟩ (fun D i acc Ps H hi ⟨_, _, _, e⟩ S => by subst e; walk_at "sq") (by walk_at "sq") ?_ ?_
  · rintro D i x acc Ps H hi ⟨zs, rfl, ez, rfl⟩ S
    obtain ⟨z, hz, rfl⟩ : ∃ z, ms[i]? = some z ∧ V.int z = x := by
      rw [List.getElem?_map] at hi
      cases e : ms[i]? with
      | none => rw [e] at hi; cases hi
      | some z => rw [e] at hi; exact ⟨z, rfl, Option.some.inj hi⟩
    walk_at "go"
    refine ⟨rfl, ?_⟩
    walk_at "go"
    have hi' := (List.getElem?_eq_some_iff.mp hz).1
    refine cn_in S (by rw [List.length_map]; omega) ⟨zs ++ [if z < 0 then -z else z], by simp, by simp [ez], rfl⟩
  · rintro D acc Ps H ⟨zs, rfl, ez, rfl⟩ S
    walk_at "go"
    exact q _ _ (bag_shut (x := 0) (y := 1234567891) (z := 0) (c := D) (ns := zs) (by decide) (S.s2 (by walk_at "sel")))
end

end Pf

set_option Elab.async false
set_option linter.all false
set_option maxRecDepth 100000
set_option maxHeartbeats 4000000
namespace Pf
open PySem L2 Kt NdefX
set_option hygiene false
local macro_rules | `(tactic| walk_at "mem") => `(tactic| (with_reducible (repeat (first | exact Pick.hd | apply Pick.tl)); done))
local macro_rules | `(tactic| walk_at "rep") => `(tactic| (with_reducible (repeat (first | exact Repl.hd | apply Repl.tl)); done))
local macro_rules | `(tactic| walk_at "sel") => `(tactic| ((repeat (with_reducible apply Sel.cons; (focus walk_at "mem"))); (with_reducible apply Sel.nil); (with_reducible (repeat (first | exact Dr.all | apply Dr.skip)); done)))
local macro_rules | `(tactic| walk_at "at") => `(tactic| (refine' Sep.at_ (by assumption) ?kkpk; (case kkpk => walk_at "mem")))
local macro_rules | `(tactic| walk_at "sq") => `(tactic| first | assumption | (refine' Sep.sq (by assumption) ?kkpk; (case kkpk => walk_at "mem")))
local macro_rules | `(tactic| walk_at "st") => `(tactic| first | assumption | (refine' Sep.st (by assumption) ?kkpk; (case kkpk => walk_at "mem")))
local macro_rules | `(tactic| walk_at "lk") => `(tactic| (repeat (first | (with_reducible exact lk_eq) | exact rfl | refine (lk_ne (by decide +kernel)).trans ?_)))
local macro_rules | `(tactic| walk_at "pf") => `(tactic| (repeat (first | (with_reducible exact pf_nil) | (with_reducible exact pf_eq) | (apply pf_ne; (focus decide +kernel)))))
local macro_rules | `(tactic| walk_at "ty") => `(tactic| first | exact ty_int | (refine' ty_lst ?kkh; (case kkh => walk_at "at")))
local macro_rules | `(tactic| walk_at "k1") => `(tactic| with_reducible first
  | refine q_seq ?_ | refine q_set ?_ | refine q_asg ?_ | refine q_ret ?_ | refine q_drop ?_ | refine q_next ?_ | refine q_c ?_ | refine q_op ?_ | refine q_un ?_ | refine q_nil ?_ | refine q_cons ?_ | refine q_cb ?_
  | refine q_call ?_ | refine q_ifs ?_ | refine q_if ?_ | refine q_test ?_ | refine q_tb ?_ | refine q_bl ?_ | refine q_notT ?_ | refine q_andT ?_ | refine q_orT ?_ | refine q_andV ?_ | refine q_orV ?_ | refine q_notV ?_
  | refine q_addA ?_ | refine q_subI ?_ | refine q_ltI ?_ | refine q_leI ?_ | refine q_gtI ?_ | refine q_geI ?_ | refine q_eqI ?_ | refine q_neI ?_ | refine q_abs ?_ | refine q_int ?_ | refine q_intB ?_ | refine q_max ?_ | refine q_min ?_
  | refine q_ipAdd ?_ | refine q_ipSub ?_ | refine q_gsub ?_ | refine q_augs ?_ | refine q_lst ?_ | refine q_tup ?_ | refine q_blI ?_ | refine iteT ?_ | refine iteF ?_ | refine iteNT ?_ | refine iteNF ?_
  | refine r_prop ?_ | refine r_fld ?_ | refine r_sfld ?_ | refine r_meth ?_ | refine r_make ?_ | refine r_sl ?_ | refine r_nopart ?_ | refine r_part ?_ | refine r_parti ?_ | refine r_gsl ?_ | refine r_bm ?_ | refine r_bm0 ?_ | refine r_for ?_ | refine r_ilist ?_ | refine r_irng ?_
  | refine r_gname ?_ | refine r_gcons ?_ | refine r_gnil ?_ | refine r_par ?_ | refine r_parA ?_ | refine r_chain ?_ | refine r_isN ?_ | refine r_tlc ?_ | refine r_yes ?_ | refine r_makek ?_ | refine r_neg ?_)
local macro_rules | `(tactic| walk_at "k2") => `(tactic| first
  | ((with_reducible refine' q_var ?kke ?_); (case kke => rfl))
  | ((with_reducible refine' q_aug ?kke ?_); (case kke => rfl))
  | ((with_reducible refine' q_ixL ?kks ?kke ?_); (case kks => walk_at "sq"); (case kke => first | rfl | assumption))
  | ((with_reducible refine' q_ixT ?kks ?kke ?_); (case kks => walk_at "st"); (case kke => first | rfl | assumption))
  | ((with_reducible refine' q_ixLL ?kks ?kke ?_); (case kks => walk_at "sq"); (case kke => first | rfl | assumption))
  | ((with_reducible refine' q_lenL ?kks ?_); (case kks => walk_at "sq"))
  | ((with_reducible refine' q_mulI ?kkc ?_); (case kkc => first | exact .inl (by omega) | exact .inr (by omega)))
  | ((with_reducible refine' q_modI ?kkc ?_); (case kkc => omega))
  | ((with_reducible refine' q_divI ?kkc ?_); (case kkc => exact ⟨by omega, by omega⟩))
  | ((with_reducible refine' q_powI ?kkc ?_); (case kkc => exact ⟨by decide, by decide, by decide⟩))
  | ((with_reducible refine' r_kfld ?kkS ?kkp ?kkc ?kkn ?kkl ?_); (case kkS => assumption); (case kkp => walk_at "mem"); (case kkc => walk_at "cls"); (case kkn => walk_at "na"); (case kkl => walk_at "lk"))
  | ((with_reducible refine' r_kprop ?kkS ?kkp ?_); (case kkS => assumption); (case kkp => walk_at "mem"))
  | ((with_reducible refine' r_kmeth ?kkS ?kkp ?kkl ?_); (case kkS => assumption); (case kkp => walk_at "mem"); (case kkl => walk_at "lk"))
  | ((with_reducible refine' r_calll ?kks ?_); (case kks => rfl))
  | ((with_reducible refine' r_tyl ?kks ?_); (case kks => walk_at "sq"))
  | ((with_reducible refine' r_isi (k := true) ?kkt ?kke ?_); (case kkt => walk_at "ty"); (case kke => decide +kernel))
  | ((with_reducible refine' r_isi (k := false) ?kkt ?kke ?_); (case kkt => walk_at "ty"); (case kke => decide +kernel)))
local macro_rules | `(tactic| walk_at "k3") => `(tactic| first
  | ((with_reducible refine' q_setS ?kkS ?kkr ?kke ?_); (case kkS => assumption); (case kkr => walk_at "rep"); (case kke => rfl); intro H S)
  | ((with_reducible refine' r_kset ?kkS ?kkr ?kkc ?kkn ?kkl ?kke ?_); (case kkS => assumption); (case kkr => walk_at "rep"); (case kkc => walk_at "cls"); (case kkn => walk_at "na"); (case kkl => first | exact Nat.le_of_ble_eq_true rfl | assumption | omega | (simp; done) | (simp; omega)); (case kke => walk_at "pf"); intro H S)
  | ((with_reducible refine' q_new ?kkS ?kkl ?_); (case kkS => assumption); (case kkl => first | exact Nat.le_of_ble_eq_true rfl | assumption | omega | (simp; done) | (simp; omega)); intro p H S)
  | ((with_reducible refine' q_newT ?kkS ?kkl ?_); (case kkS => assumption); (case kkl => first | exact Nat.le_of_ble_eq_true rfl | assumption | omega | (simp; done) | (simp; omega)); intro p H S)
  | ((with_reducible refine' r_knew ?kkS ?_); (case kkS => assumption); intro x dx H S)
  | ((with_reducible refine' r_knewk ?kkS ?kkl1 ?kkl2 ?_); (case kkS => assumption); (case kkl1 => rfl); (case kkl2 => rfl); intro x dx H S)
  | ((with_reducible refine' r_ksl ?kkS ?kks ?_); (case kkS => assumption); (case kks => walk_at "sq"); intro p H S)
  | ((with_reducible refine' r_list ?kkS ?kks ?_); (case kkS => assumption); (case kks => walk_at "sq"); intro p H S)
  | ((with_reducible refine' r_cat ?kkS ?kks1 ?kks2 ?kkz ?_); (case kkS => assumption); (case kks1 => walk_at "at"); (case kks2 => walk_at "at"); (case kkz => first | omega | (simp; omega)); intro p H S)
  | ((with_reducible refine' r_append ?kkS ?kkr ?kkz ?_); (case kkS => assumption); (case kkr => walk_at "rep"); (case kkz => first | omega | (simp; omega)); intro H S)
  | ((with_reducible refine' r_reverse ?kkS ?kkr ?_); (case kkS => assumption); (case kkr => walk_at "rep"); intro H S)
  | ((with_reducible refine' r_clear ?kkS ?kkr ?_); (case kkS => assumption); (case kkr => walk_at "rep"); intro H S))
local macro_rules | `(tactic| walk_at "gn") => `(tactic| repeat (first | walk_at "k1" | walk_at "k2"))
local macro_rules | `(tactic| walk_at "go") => `(tactic| repeat (first | walk_at "k1" | walk_at "k2" | walk_at "k3"))

local macro_rules | `(tactic| walk_at "cls") => `(tactic| with_reducible first | assumption | exact Txt.cl_Array (by assumption) | exact Txt.cl_Window (by assumption))
local macro_rules | `(tactic| walk_at "na") => `(tactic| with_reducible first | assumption | exact Txt.na_Array_cells (by assumption) | exact Txt.na_Array_size (by assumption) | exact Txt.na_Window__array (by assumption) | exact Txt.na_Window__length (by assumption) | exact Txt.na_Window__rule (by assumption))
/-! ### many windows on many arrays -/
structure AS where
  L : Addr
  cs : List Int
  s : Int
abbrev GS := Addr → AS
def up (G : GS) (A : Addr) (x : AS) : GS := fun B => if B = A then x else G B
theorem up_same {G : GS} {A : Addr} {x : AS} : up G A x A = x := if_pos rfl
theorem up_ne {G : GS} {A B : Addr} {x : AS} (h : B ≠ A) : up G A x B = G B := if_neg h
theorem up_id {G : GS} {A : Addr} : up G A (G A) = G := funext fun B => by
  by_cases h : B = A
  · subst h; exact up_same
  · exact up_ne h
structure Wi where
  W : Addr
  A : Addr
  n : Nat
def ars (c_Array : Addr) (as : List Addr) (G : GS) : SP := Sep (as.map fun A => arP c_Array A (G A).L (G A).cs (G A).s)
def wis (c_Window : Addr) (rv : V) (ws : List Wi) : SP := Sep (ws.map fun w => wnP c_Window w.W w.A w.n rv)
/-- what a window sees -/
def sees (G : GS) (w : Wi) : List Int := (G w.A).cs.take w.n
structure WF (as : List Addr) (G : GS) (ws : List Wi) : Prop where
  nd : as.Nodup
  ok : ∀ w ∈ ws, w.A ∈ as ∧ 1 ≤ w.n ∧ w.n ≤ (G w.A).cs.length
  rm : ∀ A ∈ as, ((G A).cs.length : Int) ≤ (G A).s
  sm : ∀ A ∈ as, (G A).cs.length ≤ 5000
section
variable {P : Program} {w : World} {K : PySem.W.Frag} {mg : Str → Option Value} {base : Heap} {c_Array c_Window : Addr}
theorem ars_congr {as : List Addr} {G G' : GS} (h : ∀ A ∈ as, G A = G' A) : ars c_Array as G = ars c_Array as G' := by
  unfold ars
  congr 1
  exact List.map_congr_left fun A hA => by rw [h A hA]
theorem ars_open {as : List Addr} {G : GS} {A : Addr} {R : List SP} {H : Hp} (S : Sep (ars c_Array as G :: R) H) (hA : A ∈ as) : ∃ a1 a2, as = a1 ++ A :: a2 ∧ Sep (arP c_Array A (G A).L (G A).cs (G A).s :: ars c_Array (a1 ++ a2) G :: R) H := by
  obtain ⟨a1, a2, rfl⟩ := List.append_of_mem hA
  refine ⟨a1, a2, rfl, ?_⟩
  unfold ars at S ⊢
  rw [List.map_append] at S ⊢
  exact Sep.b_open S
theorem ars_shut {a1 a2 : List Addr} {G : GS} {A : Addr} {x : AS} {R : List SP} {H : Hp} (nd : (a1 ++ A :: a2).Nodup) (S : Sep (arP c_Array A x.L x.cs x.s :: ars c_Array (a1 ++ a2) G :: R) H) : Sep (ars c_Array (a1 ++ A :: a2) (up G A x) :: R) H := by
  have e : ars c_Array (a1 ++ a2) G = ars c_Array (a1 ++ a2) (up G A x) := ars_congr fun B hB => by
    refine (up_ne fun q => ?_).symm
    subst q
    obtain ⟨_, h1, h2⟩ := List.nodup_append.mp nd
    rcases List.mem_append.mp hB with hB | hB
    · exact h2 _ hB _ List.mem_cons_self rfl
    · exact (List.nodup_cons.mp h1).1 hB
  rw [e] at S
  have S : Sep (arP c_Array A (up G A x A).L (up G A x A).cs (up G A x A).s :: ars c_Array (a1 ++ a2) (up G A x) :: R) H := by
    rw [up_same]; exact S
  unfold ars at S ⊢
  rw [List.map_append] at S ⊢
  exact Sep.b_shut S
theorem ars_fresh {as : List Addr} {G : GS} {A L : Addr} {ms : List Int} {s : Int} {R : List SP} {H : Hp} (S : Sep (arP c_Array A L ms s :: ars c_Array as G :: R) H) : A ∉ as := fun hA => by
  obtain ⟨a1, a2, _, S2⟩ := ars_open S.swap hA
  obtain ⟨d1, S2⟩ := ar_open S2
  have S2 := S2.swap.tl
  obtain ⟨d2, S2⟩ := ar_open (S2.s1 (A := arP c_Array A L ms s) (by walk_at "sel"))
  exact S2.cons_mono (fun _ S => S.tl) |>.ne rfl
theorem ars_add {as : List Addr} {G : GS} {A : Addr} {x : AS} {R : List SP} {H : Hp} (S : Sep (arP c_Array A x.L x.cs x.s :: ars c_Array as G :: R) H) : A ∉ as ∧ Sep (ars c_Array (as ++ [A]) (up G A x) :: R) H := by
  have hA := ars_fresh S
  refine ⟨hA, ?_⟩
  have e : ars c_Array as G = ars c_Array as (up G A x) := ars_congr fun B hB => (up_ne (by intro q; subst q; exact hA hB)).symm
  rw [e] at S
  have S : Sep (arP c_Array A (up G A x A).L (up G A x A).cs (up G A x A).s :: ars c_Array as (up G A x) :: R) H := by
    rw [up_same]; exact S
  unfold ars at S ⊢
  rw [List.map_append]
  exact Sep.b_add S
theorem wis_open {rv : V} {ws : List Wi} {x : Wi} {R : List SP} {H : Hp} (S : Sep (wis c_Window rv ws :: R) H) (hx : x ∈ ws) : ∃ w1 w2, ws = w1 ++ x :: w2 ∧ Sep (wnP c_Window x.W x.A x.n rv :: wis c_Window rv (w1 ++ w2) :: R) H := by
  obtain ⟨a1, a2, rfl⟩ := List.append_of_mem hx
  refine ⟨a1, a2, rfl, ?_⟩
  unfold wis at S ⊢
  rw [List.map_append] at S ⊢
  exact Sep.b_open S
theorem wis_shut {rv : V} {w1 w2 : List Wi} {x : Wi} {R : List SP} {H : Hp} (S : Sep (wnP c_Window x.W x.A x.n rv :: wis c_Window rv (w1 ++ w2) :: R) H) : Sep (wis c_Window rv (w1 ++ x :: w2) :: R) H := by
  unfold wis at S ⊢
  rw [List.map_append] at S ⊢
  exact Sep.b_shut S
theorem wis_add {rv : V} {ws : List Wi} (x : Wi) {R : List SP} {H : Hp} (S : Sep (wnP c_Window x.W x.A x.n rv :: wis c_Window rv ws :: R) H) : Sep (wis c_Window rv (ws ++ [x]) :: R) H := by
  unfold wis at S ⊢
  rw [List.map_append]
  exact Sep.b_add S
theorem w_focus {rv : V} {as : List Addr} {G : GS} {ws : List Wi} {x : Wi} {R : List SP} {H : Hp} (wf : WF as G ws) (hx : x ∈ ws) (S : Sep (ars c_Array as G :: wis c_Window rv ws :: R) H) : ∃ F : SP, Sep (wnP c_Window x.W x.A x.n rv :: arP c_Array x.A (G x.A).L (G x.A).cs (G x.A).s :: F :: R) H ∧
    ∀ (R' : List SP) (y : AS) H', Sep (wnP c_Window x.W x.A x.n rv :: arP c_Array x.A y.L y.cs y.s :: F :: R') H' → Sep (ars c_Array as (up G x.A y) :: wis c_Window rv ws :: R') H' := by
  obtain ⟨a1, a2, ea, S⟩ := ars_open S (wf.ok x hx).1
  have S : Sep (wis c_Window rv ws :: arP c_Array x.A (G x.A).L (G x.A).cs (G x.A).s :: ars c_Array (a1 ++ a2) G :: R) H := S.s3 (A := wis c_Window rv ws) (by walk_at "sel")
  obtain ⟨w1, w2, ew, S⟩ := wis_open S hx
  have S : Sep (Sep [ars c_Array (a1 ++ a2) G, wis c_Window rv (w1 ++ w2)] :: wnP c_Window x.W x.A x.n rv :: arP c_Array x.A (G x.A).L (G x.A).cs (G x.A).s :: R) H := Sep.unflat (As := [ars c_Array (a1 ++ a2) G, wis c_Window rv (w1 ++ w2)]) (S.s4 (by walk_at "sel"))
  refine ⟨Sep [ars c_Array (a1 ++ a2) G, wis c_Window rv (w1 ++ w2)], S.s3 (by walk_at "sel"), fun R' y H' S' => ?_⟩
  have S' : Sep (ars c_Array (a1 ++ a2) G :: wis c_Window rv (w1 ++ w2) :: wnP c_Window x.W x.A x.n rv :: arP c_Array x.A y.L y.cs y.s :: R') H' := Sep.flat (As := [ars c_Array (a1 ++ a2) G, wis c_Window rv (w1 ++ w2)]) (S'.s3 (A := Sep [ars c_Array (a1 ++ a2) G, wis c_Window rv (w1 ++ w2)]) (by walk_at "sel"))
  have S1 : Sep (wis c_Window rv ws :: arP c_Array x.A y.L y.cs y.s :: ars c_Array (a1 ++ a2) G :: R') H' := by
    rw [ew]
    exact wis_shut (S'.s4 (A := wnP c_Window x.W x.A x.n rv) (B := wis c_Window rv (w1 ++ w2)) (C := arP c_Array x.A y.L y.cs y.s) (D := ars c_Array (a1 ++ a2) G) (by walk_at "sel"))
  have nd := wf.nd
  rw [ea] at nd
  rw [ea]
  exact ars_shut nd (S1.s3 (A := arP c_Array x.A y.L y.cs y.s) (B := ars c_Array (a1 ++ a2) G) (C := wis c_Window rv ws) (by walk_at "sel"))
theorem w_focus1 {rv : V} {as : List Addr} {G : GS} {ws : List Wi} {x : Wi} {R : List SP} {H : Hp} (wf : WF as G ws) (hx : x ∈ ws) (S : Sep (ars c_Array as G :: wis c_Window rv ws :: R) H) : ∃ F : SP, Sep (wnP c_Window x.W x.A x.n rv :: arP c_Array x.A (G x.A).L (G x.A).cs (G x.A).s :: F :: R) H ∧
    (∀ (R' : List SP) H', Sep (wnP c_Window x.W x.A x.n rv :: arP c_Array x.A (G x.A).L (G x.A).cs (G x.A).s :: F :: R') H' → Sep (ars c_Array as G :: wis c_Window rv ws :: R') H') ∧
    ∀ (R' : List SP) (y : AS) H', Sep (wnP c_Window x.W x.A x.n rv :: arP c_Array x.A y.L y.cs y.s :: F :: R') H' → Sep (ars c_Array as (up G x.A y) :: wis c_Window rv ws :: R') H' := by
  obtain ⟨F, S, k⟩ := w_focus wf hx S
  exact ⟨F, S, fun R' H' S' => by have := k R' (G x.A) H' S'; rw [up_id] at this; exact this, k⟩
section
variable {rv : V} {as : List Addr} {G : GS} {ws : List Wi} {x y : Wi} {Ps Rs : List SP} {H : Hp} {Q : VK} {σ : L2.St} {E : XK}
theorem wl_at (wf : WF as G ws) (hx : x ∈ ws) (S : Sep Ps H) (p : Sel [ars c_Array as G, wis c_Window rv ws] Ps Rs) : ∃ dw, H x.W = some (.ins c_Window dw [("_array", .ref x.A), ("_length", .int x.n), ("_rule", rv)]) := by
  obtain ⟨F, S, _⟩ := w_focus wf hx (S.s2 p)
  obtain ⟨dw, S⟩ := wn_open S
  exact ⟨dw, S.hd_at⟩
theorem wl_atA (wf : WF as G ws) (hx : x ∈ ws) (S : Sep Ps H) (p : Sel [ars c_Array as G, wis c_Window rv ws] Ps Rs) : ∃ da fs, H x.A = some (.ins c_Array da fs) := by
  obtain ⟨F, S, _⟩ := w_focus wf hx (S.s2 p)
  obtain ⟨da, S⟩ := ar_open S.tl
  exact ⟨da, _, S.hd_at⟩
/-- a method of a window is called -/
theorem wl_meth {m : Str} {sp : Sp} {tr : TA} (wf : WF as G ws) (hx : x ∈ ws) (S : Sep Ps H) (p : Sel [ars c_Array as G, wis c_Window rv ws] Ps Rs) (l : ∀ a b c : V, List.lookup m [(("_array" : Str), a), (("_length" : Str), b), (("_rule" : Str), c)] = none) (h : tr σ H fun vs H2 => sp (.ref x.W :: vs) H2 Q E0) : kMeth c_Window m sp tr σ Q (.ref x.W) H := by
  obtain ⟨dw, hw⟩ := wl_at wf hx S p
  exact ⟨x.W, dw, _, rfl, hw, l _ _ _, h⟩
theorem wl_prop {sp : Sp} (wf : WF as G ws) (hx : x ∈ ws) (S : Sep Ps H) (p : Sel [ars c_Array as G, wis c_Window rv ws] Ps Rs) (h : sp [.ref x.W] H Q E0) : kProp c_Window sp Q (.ref x.W) H := by
  obtain ⟨dw, hw⟩ := wl_at wf hx S p
  exact ⟨x.W, dw, _, rfl, hw, h⟩
theorem wl_room (wf : WF as G ws) (hx : x ∈ ws) (S : Sep Ps H) (p : Sel [ars c_Array as G, wis c_Window rv ws] Ps Rs) (h : Q (.int (G x.A).s) H) : spRoom c_Array c_Window [.ref x.W] H Q E := by
  obtain ⟨F, S, _⟩ := w_focus wf hx (S.s2 p)
  exact ⟨_, _, _, _, _, _, _, _, rfl, S, h⟩
theorem wl_spare (wf : WF as G ws) (hx : x ∈ ws) (S : Sep Ps H) (p : Sel [ars c_Array as G, wis c_Window rv ws] Ps Rs) (h : Q (.int ((G x.A).s - x.n)) H) : spSpare c_Array c_Window [.ref x.W] H Q E := by
  obtain ⟨F, S, _⟩ := w_focus wf hx (S.s2 p)
  exact ⟨_, _, _, _, _, _, _, _, rfl, S, h⟩
theorem wl_n (wf : WF as G ws) (hx : x ∈ ws) : 1 ≤ x.n ∧ x.n ≤ 5000 := by
  obtain ⟨h1, h2, h3⟩ := wf.ok x hx
  have := wf.sm x.A h1
  omega
theorem wl_len (wf : WF as G ws) (hx : x ∈ ws) (S : Sep Ps H) (p : Sel [ars c_Array as G, wis c_Window rv ws] Ps Rs) (h : Q (.int x.n) H) : cLenOwn c_Window (spLen c_Window) [.ref x.W] H Q := by
  obtain ⟨F, S1, _⟩ := w_focus wf hx (S.s2 p)
  obtain ⟨dw, hw⟩ := wl_at wf hx S p
  have := wl_n wf hx
  exact ⟨x.W, dw, _, rfl, hw, x.W, x.A, x.n, rv, _, rfl, by omega, S1, x.n, rfl, by omega, h⟩
theorem wl_shares (wf : WF as G ws) (hx : x ∈ ws) (hy : y ∈ ws) (S : Sep Ps H) (p : Sel [ars c_Array as G, wis c_Window rv ws] Ps Rs) (h : Q (.bl (decide (x.A = y.A))) H) : spShares c_Array c_Window [.ref x.W, .ref y.W] H Q E := by
  obtain ⟨d1, h1⟩ := wl_at wf hx S p
  obtain ⟨d2, h2⟩ := wl_at wf hy S p
  obtain ⟨e1, f1, g1⟩ := wl_atA wf hx S p
  obtain ⟨e2, f2, g2⟩ := wl_atA wf hy S p
  exact ⟨_, _, _, _, _, _, _, _, _, _, _, _, _, _, rfl, h1, h2, g1, g2, h⟩
theorem wl_seen (wf : WF as G ws) (hx : x ∈ ws) (S : Sep Ps H) (p : Sel [ars c_Array as G, wis c_Window rv ws] Ps Rs) (h : ∀ t H', Sep (pt t (.lst ((sees G x).map V.int)) :: ars c_Array as G :: wis c_Window rv ws :: Rs) H' → Q (.ref t) H') : spSeen c_Array c_Window [.ref x.W] H Q E := by
  obtain ⟨F, S, k, _⟩ := w_focus1 wf hx (S.s2 p)
  exact ⟨_, _, _, _, _, _, _, _, rfl, S, fun t H' S => h t H' (S.cons_mono fun _ => k _ _)⟩
theorem wl_cut {m : Nat} (wf : WF as G ws) (hx : x ∈ ws) (h1 : 1 ≤ m) (h2 : m ≤ x.n) (S : Sep Ps H) (p : Sel [ars c_Array as G, wis c_Window rv ws] Ps Rs) (h : ∀ W' H', Sep (ars c_Array as G :: wis c_Window rv (ws ++ [⟨W', x.A, m⟩]) :: Rs) H' → Q (.ref W') H') : spCut c_Array c_Window [.ref x.W, .int m] H Q E := by
  obtain ⟨F, S, k, _⟩ := w_focus1 wf hx (S.s2 p)
  refine ⟨x.W, x.A, x.n, m, rv, _, rfl, h1, h2, S, fun W' H' S => h W' H' ?_⟩
  have S := (S.cons_mono fun _ => k _ _).s3 (A := wnP c_Window W' x.A m rv) (B := wis c_Window rv ws) (C := ars c_Array as G) (Rs := Rs) (by walk_at "sel")
  exact (wis_add ⟨W', x.A, m⟩ S).swap
theorem wl_copied (wf : WF as G ws) (hx : x ∈ ws) (S : Sep Ps H) (p : Sel [ars c_Array as G, wis c_Window rv ws] Ps Rs) (h : ∀ W' A' L' H', A' ∉ as → Sep (ars c_Array (as ++ [A']) (up G A' ⟨L', sees G x, (x.n : Int)⟩) :: wis c_Window rv (ws ++ [⟨W', A', x.n⟩]) :: Rs) H' → Q (.ref W') H') : spCopied c_Array c_Window [.ref x.W] H Q E := by
  obtain ⟨F, S, k, _⟩ := w_focus1 wf hx (S.s2 p)
  refine ⟨x.W, x.A, _, x.n, rv, _, _, _, rfl, S, fun W' A' L' H' S => ?_⟩
  have S : Sep (wnP c_Window W' A' x.n rv :: arP c_Array A' L' (sees G x) x.n :: ars c_Array as G :: wis c_Window rv ws :: Rs) H' := S.cons_mono fun _ S => S.cons_mono fun _ => k _ _
  have S := wis_add ⟨W', A', x.n⟩ (S.s4 (A := wnP c_Window W' A' x.n rv) (B := wis c_Window rv ws) (C := arP c_Array A' L' (sees G x) x.n) (D := ars c_Array as G) (Rs := Rs) (by walk_at "sel"))
  obtain ⟨nA, S⟩ := ars_add (x := ⟨L', sees G x, (x.n : Int)⟩) (S.s3 (A := arP c_Array A' L' (sees G x) x.n) (B := ars c_Array as G) (C := wis c_Window rv (ws ++ [⟨W', A', x.n⟩])) (Rs := Rs) (by walk_at "sel"))
  exact h W' A' L' H' nA S
theorem wl_set {k : Nat} {z : Int} (wf : WF as G ws) (hx : x ∈ ws) (hk : k < x.n) (S : Sep Ps H) (p : Sel [ars c_Array as G, wis c_Window rv ws] Ps Rs) (h : ∀ H', Sep (ars c_Array as (up G x.A ⟨(G x.A).L, (G x.A).cs.set k z, (G x.A).s⟩) :: wis c_Window rv ws :: Rs) H' → Q .non H') : spSetW c_Array c_Window [.ref x.W, .int k, .int z] H Q E := by
  obtain ⟨F, S, _, k'⟩ := w_focus1 wf hx (S.s2 p)
  exact ⟨x.W, x.A, _, x.n, k, rv, _, _, z, _, rfl, hk, (wf.ok x hx).2.2, S, fun H' S => h H' (k' _ ⟨(G x.A).L, (G x.A).cs.set k z, (G x.A).s⟩ H' S)⟩
theorem wl_put {M : Addr} {xs : List Int} (wf : WF as G ws) (hx : x ∈ ws) (h0 : xs ≠ []) (hl : xs.length ≤ 1000) (S : Sep Ps H) (p : Sel [ars c_Array as G, wis c_Window rv ws, pt M (.lst (xs.map V.int))] Ps Rs)
    (h1 : ((x.n + xs.length : Nat) : Int) ≤ (G x.A).s → ∀ W' H', Sep (ars c_Array as (up G x.A ⟨(G x.A).L, (G x.A).cs.take x.n ++ xs ++ (G x.A).cs.drop (x.n + xs.length), (G x.A).s⟩) :: wis c_Window rv (ws ++ [⟨W', x.A, x.n + xs.length⟩]) :: pt M (.lst (xs.map V.int)) :: Rs) H' → Q (.ref W') H')
    (h2 : (G x.A).s < ((x.n + xs.length : Nat) : Int) → RuleAt P w K mg base 3 rv (G x.A).s ((x.n + xs.length : Nat) : Int) H fun m H1 => ∃ Rs', Sep (ars c_Array as G :: wis c_Window rv ws :: pt M (.lst (xs.map V.int)) :: Rs') H1 ∧
      ∀ W' A' L' H', A' ∉ as → Sep (ars c_Array (as ++ [A']) (up G A' ⟨L', sees G x ++ xs, m⟩) :: wis c_Window rv (ws ++ [⟨W', A', x.n + xs.length⟩]) :: pt M (.lst (xs.map V.int)) :: Rs') H' → Q (.ref W') H') :
    spPut P w K mg base c_Array c_Window [.ref x.W, .ref M] H Q E := by
  obtain ⟨F, S, k, k'⟩ := w_focus1 wf hx (S.s3 p)
  obtain ⟨g1, g2, g3⟩ := wf.ok x hx
  have g4 := wf.sm x.A g1
  refine ⟨x.W, x.A, _, M, x.n, rv, _, xs, _, _, rfl, g3, wf.rm x.A g1, h0, by omega, by omega, S.s3 (C := pt M (.lst (xs.map V.int))) (by walk_at "sel"), fun hs W' H' S => h1 hs W' H' ?_, fun hs => (h2 hs).mono fun m H1 ⟨Rs', S1, q⟩ => ?_⟩
  · have S := S.sel (As := [wnP c_Window W' x.A (x.n + xs.length) rv, wnP c_Window x.W x.A x.n rv, arP c_Array x.A (G x.A).L ((G x.A).cs.take x.n ++ xs ++ (G x.A).cs.drop (x.n + xs.length)) (G x.A).s, F, pt M (.lst (xs.map V.int))]) (Rs := Rs) (by walk_at "sel")
    have S := S.cons_mono fun _ => k' (pt M (.lst (xs.map V.int)) :: Rs) ⟨(G x.A).L, (G x.A).cs.take x.n ++ xs ++ (G x.A).cs.drop (x.n + xs.length), (G x.A).s⟩ _
    exact (wis_add ⟨W', x.A, x.n + xs.length⟩ (S.cons_mono fun _ S => S.swap)).swap
  · obtain ⟨F1, S1, k1, _⟩ := w_focus1 wf hx S1
    refine ⟨F1 :: Rs', S1.s3 (by walk_at "sel"), fun W' A' L' H' S => ?_⟩
    have S := S.sel (As := [arP c_Array A' L' ((G x.A).cs.take x.n ++ xs) m, wnP c_Window W' A' (x.n + xs.length) rv, wnP c_Window x.W x.A x.n rv, arP c_Array x.A (G x.A).L (G x.A).cs (G x.A).s, F1, pt M (.lst (xs.map V.int))]) (Rs := Rs') (by walk_at "sel")
    have S := S.cons_mono fun _ S => wis_add ⟨W', A', x.n + xs.length⟩ ((S.cons_mono fun _ => k1 (pt M (.lst (xs.map V.int)) :: Rs') _).cons_mono fun _ S => S.swap)
    obtain ⟨nA, S⟩ := ars_add (x := ⟨L', sees G x ++ xs, m⟩) (S.cons_mono fun _ S => S.swap)
    exact q W' A' L' H' nA S
theorem wl_setown {k : Nat} {z : Int} {QH : Hp → Prop} (wf : WF as G ws) (hx : x ∈ ws) (hk : k < x.n) (S : Sep Ps H) (p : Sel [ars c_Array as G, wis c_Window rv ws] Ps Rs) (h : ∀ H', Sep (ars c_Array as (up G x.A ⟨(G x.A).L, (G x.A).cs.set k z, (G x.A).s⟩) :: wis c_Window rv ws :: Rs) H' → QH H') : rSetOwn c_Window (spSetW c_Array c_Window) (.ref x.W) (.int k) (.int z) H QH := by
  obtain ⟨d1, h1⟩ := wl_at wf hx S p
  exact ⟨x.W, d1, _, rfl, h1, wl_set wf hx hk S p h⟩
end
end

end Pf

set_option Elab.async false
set_option linter.all false
set_option maxRecDepth 100000
set_option maxHeartbeats 4000000
namespace Pf
open PySem L2 Kt NdefX
set_option hygiene false
local macro_rules | `(tactic| walk_at "mem") => `(tactic| (with_reducible (repeat (first | exact Pick.hd | apply Pick.tl)); done))
local macro_rules | `(tactic| walk_at "rep") => `(tactic| (with_reducible (repeat (first | exact Repl.hd | apply Repl.tl)); done))
local macro_rules | `(tactic| walk_at "sel") => `(tactic| ((repeat (with_reducible apply Sel.cons; (focus walk_at "mem"))); (with_reducible apply Sel.nil); (with_reducible (repeat (first | exact Dr.all | apply Dr.skip)); done)))
local macro_rules | `(tactic| walk_at "at") => `(tactic| (refine' Sep.at_ (by assumption) ?kkpk; (case kkpk => walk_at "mem")))
local macro_rules | `(tactic| walk_at "sq") => `(tactic| first | assumption | (refine' Sep.sq (by assumption) ?kkpk; (case kkpk => walk_at "mem")))
local macro_rules | `(tactic| walk_at "st") => `(tactic| first | assumption | (refine' Sep.st (by assumption) ?kkpk; (case kkpk => walk_at "mem")))
local macro_rules | `(tactic| walk_at "lk") => `(tactic| (repeat (first | (with_reducible exact lk_eq) | exact rfl | refine (lk_ne (by decide +kernel)).trans ?_)))
local macro_rules | `(tactic| walk_at "pf") => `(tactic| (repeat (first | (with_reducible exact pf_nil) | (with_reducible exact pf_eq) | (apply pf_ne; (focus decide +kernel)))))
local macro_rules | `(tactic| walk_at "ty") => `(tactic| first | exact ty_int | (refine' ty_lst ?kkh; (case kkh => walk_at "at")))
local macro_rules | `(tactic| walk_at "k1") => `(tactic| with_reducible first
  | refine q_seq ?_ | refine q_set ?_ | refine q_asg ?_ | refine q_ret ?_ | refine q_drop ?_ | refine q_next ?_ | refine q_c ?_ | refine q_op ?_ | refine q_un ?_ | refine q_nil ?_ | refine q_cons ?_ | refine q_cb ?_
  | refine q_call ?_ | refine q_ifs ?_ | refine q_if ?_ | refine q_test ?_ | refine q_tb ?_ | refine q_bl ?_ | refine q_notT ?_ | refine q_andT ?_ | refine q_orT ?_ | refine q_andV ?_ | refine q_orV ?_ | refine q_notV ?_
  | refine q_addA ?_ | refine q_subI ?_ | refine q_ltI ?_ | refine q_leI ?_ | refine q_gtI ?_ | refine q_geI ?_ | refine q_eqI ?_ | refine q_neI ?_ | refine q_abs ?_ | refine q_int ?_ | refine q_intB ?_ | refine q_max ?_ | refine q_min ?_
  | refine q_ipAdd ?_ | refine q_ipSub ?_ | refine q_gsub ?_ | refine q_augs ?_ | refine q_lst ?_ | refine q_tup ?_ | refine q_blI ?_ | refine iteT ?_ | refine iteF ?_ | refine iteNT ?_ | refine iteNF ?_
  | refine r_prop ?_ | refine r_fld ?_ | refine r_sfld ?_ | refine r_meth ?_ | refine r_make ?_ | refine r_sl ?_ | refine r_nopart ?_ | refine r_part ?_ | refine r_parti ?_ | refine r_gsl ?_ | refine r_bm ?_ | refine r_bm0 ?_ | refine r_for ?_ | refine r_ilist ?_ | refine r_irng ?_
  | refine r_gname ?_ | refine r_gcons ?_ | refine r_gnil ?_ | refine r_par ?_ | refine r_parA ?_ | refine r_chain ?_ | refine r_isN ?_ | refine r_tlc ?_ | refine r_yes ?_ | refine r_makek ?_ | refine r_neg ?_)
local macro_rules | `(tactic| walk_at "k2") => `(tactic| first
  | ((with_reducible refine' q_var ?kke ?_); (case kke => rfl))
  | ((with_reducible refine' q_aug ?kke ?_); (case kke => rfl))
  | ((with_reducible refine' q_ixL ?kks ?kke ?_); (case kks => walk_at "sq"); (case kke => first | rfl | assumption))
  | ((with_reducible refine' q_ixT ?kks ?kke ?_); (case kks => walk_at "st"); (case kke => first | rfl | assumption))
  | ((with_reducible refine' q_ixLL ?kks ?kke ?_); (case kks => walk_at "sq"); (case kke => first | rfl | assumption))
  | ((with_reducible refine' q_lenL ?kks ?_); (case kks => walk_at "sq"))
  | ((with_reducible refine' q_mulI ?kkc ?_); (case kkc => first | exact .inl (by omega) | exact .inr (by omega)))
  | ((with_reducible refine' q_modI ?kkc ?_); (case kkc => omega))
  | ((with_reducible refine' q_divI ?kkc ?_); (case kkc => exact ⟨by omega, by omega⟩))
  | ((with_reducible refine' q_powI ?kkc ?_); (case kkc => exact ⟨by decide, by decide, by decide⟩))
  | ((with_reducible refine' r_kfld ?kkS ?kkp ?kkc ?kkn ?kkl ?_); (case kkS => assumption); (case kkp => walk_at "mem"); (case kkc => walk_at "cls"); (case kkn => walk_at "na"); (case kkl => walk_at "lk"))
  | ((with_reducible refine' r_kprop ?kkS ?kkp ?_); (case kkS => assumption); (case kkp => walk_at "mem"))
  | ((with_reducible refine' r_kmeth ?kkS ?kkp ?kkl ?_); (case kkS => assumption); (case kkp => walk_at "mem"); (case kkl => walk_at "lk"))
  | ((with_reducible refine' r_calll ?kks ?_); (case kks => rfl))
  | ((with_reducible refine' r_tyl ?kks ?_); (case kks => walk_at "sq"))
  | ((with_reducible refine' r_isi (k := true) ?kkt ?kke ?_); (case kkt => walk_at "ty"); (case kke => decide +kernel))
  | ((with_reducible refine' r_isi (k := false) ?kkt ?kke ?_); (case kkt => walk_at "ty"); (case kke => decide +kernel)))
local macro_rules | `(tactic| walk_at "k3") => `(tactic| first
  | ((with_reducible refine' q_setS ?kkS ?kkr ?kke ?_); (case kkS => assumption); (case kkr => walk_at "rep"); (case kke => rfl); intro H S)
  | ((with_reducible refine' r_kset ?kkS ?kkr ?kkc ?kkn ?kkl ?kke ?_); (case kkS => assumption); (case kkr => walk_at "rep"); (case kkc => walk_at "cls"); (case kkn => walk_at "na"); (case kkl => first | exact Nat.le_of_ble_eq_true rfl | assumption | omega | (simp; done) | (simp; omega)); (case kke => walk_at "pf"); intro H S)
  | ((with_reducible refine' q_new ?kkS ?kkl ?_); (case kkS => assumption); (case kkl => first | exact Nat.le_of_ble_eq_true rfl | assumption | omega | (simp; done) | (simp; omega)); intro p H S)
  | ((with_reducible refine' q_newT ?kkS ?kkl ?_); (case kkS => assumption); (case kkl => first | exact Nat.le_of_ble_eq_true rfl | assumption | omega | (simp; done) | (simp; omega)); intro p H S)
  | ((with_reducible refine' r_knew ?kkS ?_); (case kkS => assumption); intro x dx H S)
  | ((with_reducible refine' r_knewk ?kkS ?kkl1 ?kkl2 ?_); (case kkS => assumption); (case kkl1 => rfl); (case kkl2 => rfl); intro x dx H S)
  | ((with_reducible refine' r_ksl ?kkS ?kks ?_); (case kkS => assumption); (case kks => walk_at "sq"); intro p H S)
  | ((with_reducible refine' r_list ?kkS ?kks ?_); (case kkS => assumption); (case kks => walk_at "sq"); intro p H S)
  | ((with_reducible refine' r_cat ?kkS ?kks1 ?kks2 ?kkz ?_); (case kkS => assumption); (case kks1 => walk_at "at"); (case kks2 => walk_at "at"); (case kkz => first | omega | (simp; omega)); intro p H S)
  | ((with_reducible refine' r_append ?kkS ?kkr ?kkz ?_); (case kkS => assumption); (case kkr => walk_at "rep"); (case kkz => first | omega | (simp; omega)); intro H S)
  | ((with_reducible refine' r_reverse ?kkS ?kkr ?_); (case kkS => assumption); (case kkr => walk_at "rep"); intro H S)
  | ((with_reducible refine' r_clear ?kkS ?kkr ?_); (case kkS => assumption); (case kkr => walk_at "rep"); intro H S))
local macro_rules | `(tactic| walk_at "gn") => `(tactic| repeat (first | walk_at "k1" | walk_at "k2"))
local macro_rules | `(tactic| walk_at "go") => `(tactic| repeat (first | walk_at "k1" | walk_at "k2" | walk_at "k3"))

local macro_rules | `(tactic| walk_at "cls") => `(tactic| with_reducible first | assumption | exact Txt.cl_Array (by assumption) | exact Txt.cl_Window (by assumption))
local macro_rules | `(tactic| walk_at "na") => `(tactic| with_reducible first | assumption | exact Txt.na_Array_cells (by assumption) | exact Txt.na_Array_size (by assumption) | exact Txt.na_Window__array (by assumption) | exact Txt.na_Window__length (by assumption) | exact Txt.na_Window__rule (by assumption))
section
variable {K : PySem.W.Frag}
/-! ### lists of data that grow -/
def lsP (K : PySem.W.Frag) (a : Addr) (ds : List PyData) : SP := fun G => ∃ vs : List V, Sep [pt a (.lst vs), dall K vs ds] G
theorem ls_open {a : Addr} {ds : List PyData} {R : List SP} {H : Hp} (S : Sep (lsP K a ds :: R) H) : ∃ vs : List V, vs.length = ds.length ∧ Sep (pt a (.lst vs) :: dall K vs ds :: R) H := by
  obtain ⟨vs, S⟩ := S.ex
  have S := S.flat
  obtain ⟨G, l, h, _⟩ := S.tl
  have len : ∀ (ds : List PyData) (vs : List V), DpAll K G vs ds → vs.length = ds.length := by
    intro ds
    induction ds with
    | nil => intro vs h; cases h; rfl
    | cons d ds ih =>
      intro vs h
      cases h with
      | cons _ t => rw [List.length_cons, List.length_cons, ih _ t]
  exact ⟨vs, len ds vs h, S⟩
theorem ls_shut {a : Addr} {vs : List V} {ds : List PyData} {R : List SP} {H : Hp} (S : Sep (pt a (.lst vs) :: dall K vs ds :: R) H) : Sep (lsP K a ds :: R) H := Sep.ex_in vs (Sep.unflat (As := [_, _]) S)
theorem ls_dat {a : Addr} {ds : List PyData} {R : List SP} {H : Hp} (S : Sep (lsP K a ds :: R) H) : Sep (dat K a (.list ds) :: R) H := by
  obtain ⟨vs, _, S⟩ := ls_open S
  exact dat_list S
theorem ls_nil {a : Addr} {R : List SP} {H : Hp} (S : Sep (pt a (.lst []) :: R) H) : Sep (lsP K a [] :: R) H := ls_shut (S.cons_mono fun _ => dall_nil)
/-- one more -/
theorem ls_add {a p : Addr} {vs : List V} {ds : List PyData} {d : PyData} {R : List SP} {H : Hp} (S : Sep (pt a (.lst (vs ++ [.ref p])) :: dat K p d :: dall K vs ds :: R) H) : Sep (lsP K a (ds ++ [d]) :: R) H := ls_shut (S.cons_mono fun _ => dall_add)
theorem dat_pair {p : Addr} {x y : Int} {R : List SP} {H : Hp} (S : Sep (pt p (.tup [.int x, .int y]) :: R) H) : Sep (dat K p (.tuple [.int x, .int y]) :: R) H := S.hd_mono fun G e => .tup (SqT.of e) (.cons (.int _) (.cons (.int _) .nil))
theorem dpall_ints {G : Hp} : ∀ ns : List Int, DpAll K G (ns.map V.int) (ns.map PyData.int)
  | [] => .nil
  | n :: ns => .cons (.int n) (dpall_ints ns)
theorem dat_ints {p : Addr} {ns : List Int} {R : List SP} {H : Hp} (S : Sep (pt p (.lst (ns.map V.int)) :: R) H) : Sep (dat K p (.list (ns.map PyData.int)) :: R) H := dat_flat (fun _ => dpall_ints ns) S
end
abbrev dq (qs : List (Int × Int)) : List PyData := qs.map fun q => .tuple [.int q.1, .int q.2]
abbrev dI (ms : List Int) : PyData := .list (ms.map PyData.int)
abbrev dLk (n : List (List Int)) : PyData := .list (n.map dI)
abbrev looks (G : GS) (ws : List Wi) : List (List Int) := ws.map (sees G)
abbrev wrefs (ws : List Wi) : List V := ws.map fun x => .ref x.W
section
variable {P : Program} {w : World} {K : PySem.W.Frag} {mg : Str → Option Value} {base : Heap} {c_Array c_Window : Addr}
/-- what all windows show, as a new list -/
theorem r_look {σ : L2.St} {H : Hp} {Q : VK} {l : Addr} {as : List Addr} {G : GS} {rv : V} {ws : List Wi} {Rest : List SP} {i : Nat} {vs : List Nat} (wf : WF as G ws) (S : Sep (pt l (.lst (wrefs ws)) :: ars c_Array as G :: wis c_Window rv ws :: Rest) H) (hL : ws.length ≤ 100) (hv : ∀ x : Option V, ((wipe σ vs).set i x)[i]? = some x) (hw : ∀ x : Option V, wipe ((wipe σ vs).set i x) vs = wipe σ vs)
    (q : ∀ D H', Sep (dat K D (dLk (looks G ws)) :: pt l (.lst (wrefs ws)) :: ars c_Array as G :: wis c_Window rv ws :: Rest) H' → Q (.ref D) H') :
    ∃ a', V.ref l = .ref a' ∧ (∃ xs, SqL K H a' xs) ∧ LcW (Itl K a') (gName i) tYes (tMeth c_Window "marks" (spSeen c_Array c_Window) [] E0 (tVar i) tNil) vs Q σ H := by
  refine r_lc_list (xs := wrefs ws) (fun n acc Ps => acc.length = n ∧ Ps = dall K acc ((looks G (ws.take n)).map dI) :: pt l (.lst (wrefs ws)) :: ars c_Array as G :: wis c_Window rv ws :: Rest) (dall_nil S) ⟨rfl, rfl⟩ ?_ (by walk_at "sq") ?_ ?_
  · rintro D n acc Ps H hn ⟨el, rfl⟩ S
    walk_at "sq"
  · rintro D n x acc Ps H hx ⟨el, rfl⟩ S
    obtain ⟨y, hy, rfl⟩ : ∃ e, ws[n]? = some e ∧ V.ref e.W = x := by
      rw [List.getElem?_map] at hx
      cases e : ws[n]? with
      | none => rw [e] at hx; cases hx
      | some z => rw [e] at hx; exact ⟨z, rfl, Option.some.inj hx⟩
    have hm := List.mem_of_getElem? hy
    have hlt : n < ws.length := (List.getElem?_eq_some_iff.mp hy).1
    refine r_gname ⟨hw _, r_yes ?_⟩
    rw [if_pos rfl]
    refine r_meth (q_var (hv _) ?_)
    refine wl_meth wf hm S (by walk_at "sel") (fun _ _ _ => rfl) (q_nil ?_)
    refine wl_seen wf hm S (by walk_at "sel") fun t H' S => ?_
    have S := dat_ints (K := K) S
    have S := S.sel (As := [pt D (.lst acc), dat K t (dI (sees G y)), dall K acc ((looks G (ws.take n)).map dI), pt l (.lst (wrefs ws)), ars c_Array as G, wis c_Window rv ws]) (Rs := Rest) (by walk_at "sel")
    refine cn_in (S.cons_mono fun _ S => dall_add S) (by omega) ⟨by rw [List.length_append, el]; rfl, ?_⟩
    have e : (looks G (ws.take n)).map dI ++ [dI (sees G y)] = (looks G (ws.take (n + 1))).map dI := by
      rw [List.take_add_one, hy]
      simp [looks]
    rw [e]
    rfl
  · rintro D acc Ps H ⟨el, rfl⟩ S
    rw [List.length_map] at S
    rw [List.take_of_length_le (Nat.le_refl _)] at S
    exact q D H (dat_list S)
/-- the rule of this law's own -/
def spRule (K : PySem.W.Frag) (c_Array c_Window : Addr) : List (Option V) → Sp := fun fv vs H Q _ => ∃ (a l t : Addr) (s n : Int) (qs : List (Int × Int)) (ns : List (List (List Int))) (as : List Addr) (G : GS) (rv : V) (ws : List Wi) (R : List SP),
  fv = [some (.ref a), some (.ref l), some (.ref t)] ∧ vs = [.int s, .int n] ∧ WF as G ws ∧ ws.length ≤ 100 ∧ qs.length ≤ 100 ∧ ns.length ≤ 100 ∧
  Sep (lsP K a (dq qs) :: lsP K t (ns.map dLk) :: pt l (.lst (wrefs ws)) :: ars c_Array as G :: wis c_Window rv ws :: R) H ∧
  ∀ H', Sep (lsP K a (dq (qs ++ [(s, n)])) :: lsP K t ((ns ++ [looks G ws]).map dLk) :: pt l (.lst (wrefs ws)) :: ars c_Array as G :: wis c_Window rv ws :: R) H' → Q (.int (n + ((qs.length + 1 : Nat) : Int) % 3)) H'
theorem sc_l_sidel_rule : NScope N_l_sidel_rule ["_law_elder", "_law_least"] ["_law_side_here", "_law_windows", "_law_notes"] (C8.fnScope s_l_sidel_rule) := nscope_by (by decide +kernel)
theorem ok_rule {f : Addr} {q : Str} {cl : List (Str × Addr)} {c' : Addr} (T : Tx K mg c_Array c_Window) (M_marks : Mf P w K mg base 2 c_Window "marks" ["self"] (spSeen c_Array c_Window)) :
    NOk P w K mg base CX0 3 f (NF.of s_l_sidel_rule "_law_rule" q cl c') ["_law_elder", "_law_least"] ["_law_side_here", "_law_windows", "_law_notes"] (spRule K c_Array c_Window) := by
  refine nok_of sc_l_sidel_rule (fun doc pm ctv us hl => match us, hl with | [_, _], _ => rfl) (fun ws vs H Q E h => ?_) (fun A outer s H vs ws Q E hr hf hc hw h => ?_)
  · obtain ⟨a, l, t, s, n, qs, ns, as, G, rv, wl, R, _, rfl, _⟩ := h
    rfl
  obtain ⟨a, l, t, s, n, qs, ns, as, G, rv, wl, R, rfl, rfl, wf, hwl, hq, hn, S, q⟩ := h
  refine ⟨_, PSs.nox (pss_cons (ps_expr (pe_bmK K PySem.F.plainAttrs_list PySem.F.slot_list_append PySem.F.type_list_append mt_append (pv 2) (pa_cons (pe_tup (pa_cons (pv 0) (pa_cons (pv 1) pa_nil))) pa_nil)))
      (pss_cons (ps_expr (pe_bmK K PySem.F.plainAttrs_list PySem.F.slot_list_append PySem.F.type_list_append mt_append (pv 4) (pa_cons (pe_lc (own := [("_law_one", 5)]) rfl sc_l_sidel_rule.nd (pi_listK K (pv 3)) (blkOk_by (own := [("_law_one", 5)]) (N := N_l_sidel_rule) (sc := defScope s_l_sidel_rule) (by decide +kernel)) (fun _ _ _ _ _ => (pg_name (i := 5) sc_l_sidel_rule.nd rfl (by first | exact Or.inl rfl | exact Or.inr rfl))) (fun _ _ _ _ _ => pts_nil) (fun _ _ _ _ _ => (pe_mf0 M_marks (hr.mono (by decide)) (pv 5)))) pa_nil)))
      (pss_one (ps_ret (pe_op (r := rAddA) op_addA (pv 1) (pe_op (r := rModI) op_mod (pe_callTy (r := cInt) call_int1 (by rfl) T.z_int (by decide +kernel) (pa_cons (pe_callB (r := cOr (cLenQ K) cLenS) call_lenA (by rfl) T.z_len (by decide +kernel) (pa_cons (pv 2) pa_nil)) pa_nil)) pe_int)))))), ?_⟩
  obtain ⟨vq, lq, S⟩ := ls_open S
  obtain ⟨vn, ln, S⟩ := ls_open (S.s1 (A := lsP K t (ns.map dLk)) (by walk_at "sel"))
  have lq : vq.length = qs.length := by rw [lq, List.length_map]
  have ln : vn.length = ns.length := by rw [ln, List.length_map]
  walk_at "go"
  refine r_look wf (S.s3 (A := pt l (.lst (wrefs wl))) (by walk_at "sel")) hwl (fun x => rfl) (fun x => rfl) fun D H S => ?_
  walk_at "go"
  have e1 : ((vq ++ [V.ref p]).length : Int) = ((qs.length + 1 : Nat) : Int) := by rw [List.length_append, lq]; rfl
  rw [e1]
  have S := dat_pair (K := K) (S.s1 (A := pt p (.tup [.int s, .int n])) (by walk_at "sel"))
  have S := ls_add (S.s3 (A := pt a (.lst (vq ++ [.ref p]))) (B := dat K p (.tuple [.int s, .int n])) (C := dall K vq (dq qs)) (by walk_at "sel"))
  have S := ls_add (S.s3 (A := pt t (.lst (vn ++ [.ref D]))) (B := dat K D (dLk (looks G wl))) (C := dall K vn (ns.map dLk)) (by walk_at "sel"))
  have e2 : dq qs ++ [.tuple [.int s, .int n]] = dq (qs ++ [(s, n)]) := by simp [dq]
  have e3 : ns.map dLk ++ [dLk (looks G wl)] = (ns ++ [looks G wl]).map dLk := by simp
  rw [e2, e3] at S
  exact q _ (S.sel (As := [lsP K a (dq (qs ++ [(s, n)])), lsP K t ((ns ++ [looks G wl]).map dLk), pt l (.lst (wrefs wl)), ars c_Array as G, wis c_Window rv wl]) (Rs := R) (by walk_at "sel"))
end

end Pf

set_option Elab.async false
set_option linter.all false
set_option maxRecDepth 100000
set_option maxHeartbeats 4000000
namespace Pf
open PySem L2 Kt NdefX
set_option hygiene false
local macro_rules | `(tactic| walk_at "mem") => `(tactic| (with_reducible (repeat (first | exact Pick.hd | apply Pick.tl)); done))
local macro_rules | `(tactic| walk_at "rep") => `(tactic| (with_reducible (repeat (first | exact Repl.hd | apply Repl.tl)); done))
local macro_rules | `(tactic| walk_at "sel") => `(tactic| ((repeat (with_reducible apply Sel.cons; (focus walk_at "mem"))); (with_reducible apply Sel.nil); (with_reducible (repeat (first | exact Dr.all | apply Dr.skip)); done)))
local macro_rules | `(tactic| walk_at "at") => `(tactic| (refine' Sep.at_ (by assumption) ?kkpk; (case kkpk => walk_at "mem")))
local macro_rules | `(tactic| walk_at "sq") => `(tactic| first | assumption | (refine' Sep.sq (by assumption) ?kkpk; (case kkpk => walk_at "mem")))
local macro_rules | `(tactic| walk_at "st") => `(tactic| first | assumption | (refine' Sep.st (by assumption) ?kkpk; (case kkpk => walk_at "mem")))
local macro_rules | `(tactic| walk_at "lk") => `(tactic| (repeat (first | (with_reducible exact lk_eq) | exact rfl | refine (lk_ne (by decide +kernel)).trans ?_)))
local macro_rules | `(tactic| walk_at "pf") => `(tactic| (repeat (first | (with_reducible exact pf_nil) | (with_reducible exact pf_eq) | (apply pf_ne; (focus decide +kernel)))))
local macro_rules | `(tactic| walk_at "ty") => `(tactic| first | exact ty_int | (refine' ty_lst ?kkh; (case kkh => walk_at "at")))
local macro_rules | `(tactic| walk_at "k1") => `(tactic| with_reducible first
  | refine q_seq ?_ | refine q_set ?_ | refine q_asg ?_ | refine q_ret ?_ | refine q_drop ?_ | refine q_next ?_ | refine q_c ?_ | refine q_op ?_ | refine q_un ?_ | refine q_nil ?_ | refine q_cons ?_ | refine q_cb ?_
  | refine q_call ?_ | refine q_ifs ?_ | refine q_if ?_ | refine q_test ?_ | refine q_tb ?_ | refine q_bl ?_ | refine q_notT ?_ | refine q_andT ?_ | refine q_orT ?_ | refine q_andV ?_ | refine q_orV ?_ | refine q_notV ?_
  | refine q_addA ?_ | refine q_subI ?_ | refine q_ltI ?_ | refine q_leI ?_ | refine q_gtI ?_ | refine q_geI ?_ | refine q_eqI ?_ | refine q_neI ?_ | refine q_abs ?_ | refine q_int ?_ | refine q_intB ?_ | refine q_max ?_ | refine q_min ?_
  | refine q_ipAdd ?_ | refine q_ipSub ?_ | refine q_gsub ?_ | refine q_augs ?_ | refine q_lst ?_ | refine q_tup ?_ | refine q_blI ?_ | refine iteT ?_ | refine iteF ?_ | refine iteNT ?_ | refine iteNF ?_
  | refine r_prop ?_ | refine r_fld ?_ | refine r_sfld ?_ | refine r_meth ?_ | refine r_make ?_ | refine r_sl ?_ | refine r_nopart ?_ | refine r_part ?_ | refine r_parti ?_ | refine r_gsl ?_ | refine r_bm ?_ | refine r_bm0 ?_ | refine r_for ?_ | refine r_ilist ?_ | refine r_irng ?_
  | refine r_gname ?_ | refine r_gcons ?_ | refine r_gnil ?_ | refine r_par ?_ | refine r_parA ?_ | refine r_chain ?_ | refine r_isN ?_ | refine r_tlc ?_ | refine r_yes ?_ | refine r_makek ?_ | refine r_neg ?_)
local macro_rules | `(tactic| walk_at "k2") => `(tactic| first
  | ((with_reducible refine' q_var ?kke ?_); (case kke => rfl))
  | ((with_reducible refine' q_aug ?kke ?_); (case kke => rfl))
  | ((with_reducible refine' q_ixL ?kks ?kke ?_); (case kks => walk_at "sq"); (case kke => first | rfl | assumption))
  | ((with_reducible refine' q_ixT ?kks ?kke ?_); (case kks => walk_at "st"); (case kke => first | rfl | assumption))
  | ((with_reducible refine' q_ixLL ?kks ?kke ?_); (case kks => walk_at "sq"); (case kke => first | rfl | assumption))
  | ((with_reducible refine' q_lenL ?kks ?_); (case kks => walk_at "sq"))
  | ((with_reducible refine' q_mulI ?kkc ?_); (case kkc => first | exact .inl (by omega) | exact .inr (by omega)))
  | ((with_reducible refine' q_modI ?kkc ?_); (case kkc => omega))
  | ((with_reducible refine' q_divI ?kkc ?_); (case kkc => exact ⟨by omega, by omega⟩))
  | ((with_reducible refine' q_powI ?kkc ?_); (case kkc => exact ⟨by decide, by decide, by decide⟩))
  | ((with_reducible refine' r_kfld ?kkS ?kkp ?kkc ?kkn ?kkl ?_); (case kkS => assumption); (case kkp => walk_at "mem"); (case kkc => walk_at "cls"); (case kkn => walk_at "na"); (case kkl => walk_at "lk"))
  | ((with_reducible refine' r_kprop ?kkS ?kkp ?_); (case kkS => assumption); (case kkp => walk_at "mem"))
  | ((with_reducible refine' r_kmeth ?kkS ?kkp ?kkl ?_); (case kkS => assumption); (case kkp => walk_at "mem"); (case kkl => walk_at "lk"))
  | ((with_reducible refine' r_calll ?kks ?_); (case kks => rfl))
  | ((with_reducible refine' r_tyl ?kks ?_); (case kks => walk_at "sq"))
  | ((with_reducible refine' r_isi (k := true) ?kkt ?kke ?_); (case kkt => walk_at "ty"); (case kke => decide +kernel))
  | ((with_reducible refine' r_isi (k := false) ?kkt ?kke ?_); (case kkt => walk_at "ty"); (case kke => decide +kernel)))
local macro_rules | `(tactic| walk_at "k3") => `(tactic| first
  | ((with_reducible refine' q_setS ?kkS ?kkr ?kke ?_); (case kkS => assumption); (case kkr => walk_at "rep"); (case kke => rfl); intro H S)
  | ((with_reducible refine' r_kset ?kkS ?kkr ?kkc ?kkn ?kkl ?kke ?_); (case kkS => assumption); (case kkr => walk_at "rep"); (case kkc => walk_at "cls"); (case kkn => walk_at "na"); (case kkl => first | exact Nat.le_of_ble_eq_true rfl | assumption | omega | (simp; done) | (simp; omega)); (case kke => walk_at "pf"); intro H S)
  | ((with_reducible refine' q_new ?kkS ?kkl ?_); (case kkS => assumption); (case kkl => first | exact Nat.le_of_ble_eq_true rfl | assumption | omega | (simp; done) | (simp; omega)); intro p H S)
  | ((with_reducible refine' q_newT ?kkS ?kkl ?_); (case kkS => assumption); (case kkl => first | exact Nat.le_of_ble_eq_true rfl | assumption | omega | (simp; done) | (simp; omega)); intro p H S)
  | ((with_reducible refine' r_knew ?kkS ?_); (case kkS => assumption); intro x dx H S)
  | ((with_reducible refine' r_knewk ?kkS ?kkl1 ?kkl2 ?_); (case kkS => assumption); (case kkl1 => rfl); (case kkl2 => rfl); intro x dx H S)
  | ((with_reducible refine' r_ksl ?kkS ?kks ?_); (case kkS => assumption); (case kks => walk_at "sq"); intro p H S)
  | ((with_reducible refine' r_list ?kkS ?kks ?_); (case kkS => assumption); (case kks => walk_at "sq"); intro p H S)
  | ((with_reducible refine' r_cat ?kkS ?kks1 ?kks2 ?kkz ?_); (case kkS => assumption); (case kks1 => walk_at "at"); (case kks2 => walk_at "at"); (case kkz => first | omega | (simp; omega)); intro p H S)
  | ((with_reducible refine' r_append ?kkS ?kkr ?kkz ?_); (case kkS => assumption); (case kkr => walk_at "rep"); (case kkz => first | omega | (simp; omega)); intro H S)
  | ((with_reducible refine' r_reverse ?kkS ?kkr ?_); (case kkS => assumption); (case kkr => walk_at "rep"); intro H S)
  | ((with_reducible refine' r_clear ?kkS ?kkr ?_); (case kkS => assumption); (case kkr => walk_at "rep"); intro H S))
local macro_rules | `(tactic| walk_at "gn") => `(tactic| repeat (first | walk_at "k1" | walk_at "k2"))
local macro_rules | `(tactic| walk_at "go") => `(tactic| repeat (first | walk_at "k1" | walk_at "k2" | walk_at "k3"))

local macro_rules | `(tactic| walk_at "cls") => `(tactic| with_reducible first | assumption | exact Txt.cl_Array (by assumption) | exact Txt.cl_Window (by assumption))
local macro_rules | `(tactic| walk_at "na") => `(tactic| with_reducible first | assumption | exact Txt.na_Array_cells (by assumption) | exact Txt.na_Array_size (by assumption) | exact Txt.na_Window__array (by assumption) | exact Txt.na_Window__length (by assumption) | exact Txt.na_Window__rule (by assumption))
section
variable {P : Program} {w : World} {K : PySem.W.Frag} {mg : Str → Option Value} {base : Heap} {c_Array c_Window : Addr}
abbrev qR : Str := "_law_side.<locals>._law_rule"
abbrev posR : Pos := posOf s_l_sidel_rule
abbrev frR : List Str := ["_law_side_here", "_law_windows", "_law_notes"]
/-- a rule of this law's own, over these three lists -/
def spSide (Pt : Addr) : Sp := fun vs H Q _ => ∃ (a l t : Addr) (o : Option Addr) (R : List SP), vs = [.ref a, .ref l, .ref t] ∧ Sep (tbP Pt posR qR o :: R) H ∧
  ∀ f cl c' cs H', (o = none ∨ o = some c') → CloF (NF.of s_l_sidel_rule "_law_rule" qR cl c') frR cs → cs.map (·.2) = [.ref a, .ref l, .ref t] → Sep (pt f (FnO f (NF.of s_l_sidel_rule "_law_rule" qR cl c')) :: cells cs :: tbP Pt posR qR (some c') :: R) H' → Q (.ref f) H'
theorem sc_l_side : FnScope N_l_side ["_law_side_here", "_law_windows", "_law_notes"] (defScope s_l_side) := ⟨rfl, rfl, rfl, by decide +kernel, rfl, by decide +kernel, by decide +kernel⟩
theorem ok_l_side {f c Pt : Addr} (F : DtC K mg "_law_side" s_l_side ["_law_side_here", "_law_windows", "_law_notes"] f c) (TB : LamX.TabB base mg c Pt) (T : Tx K mg c_Array c_Window) : Df P w K mg base 1 "_law_side" f ["_law_side_here", "_law_windows", "_law_notes"] (spSide Pt) := by
  refine F.ok sc_l_side (nd := s_l_sidel_rule) (y := "_law_rule") (fr := frR) (js := [0, 1, 2]) (i := 3) (fun vs H Q E h => ?_) rfl rfl (by decide +kernel) (by decide +kernel) (by decide +kernel) rfl (by exact Or.inl rfl) (fun A outer s H vs Q E hr h => ?_)
  · obtain ⟨a, l, t, o, R, rfl, _⟩ := h
    rfl
  obtain ⟨a, l, t, o, R, rfl, S, q⟩ := h
  refine ⟨_, ps_ndefC (st := s_l_sidel_rule) (i := 3) (by rfl) TB rfl (ndef_free (sc := defScope s_l_side) (fr := frR) (by decide +kernel)) rfl rfl rfl sc_l_side.nd rfl (by first | exact Or.inl rfl | exact Or.inr rfl) (Or.inl rfl), ?_⟩
  refine q_ndef (q := qR) S (fun c => rfl) fun f' c' H' ho S => ?_
  refine ⟨f', _, [.ref a, .ref l, .ref t], rfl, S.hd_at, tb_code S.tl, rfl, rfl, fun cs C e hf => ?_⟩
  have S := sep_plus C.nd hf S
  exact q f' _ c' cs _ ho C e S.swap
end

end Pf

set_option Elab.async false
set_option linter.all false
set_option maxRecDepth 100000
set_option maxHeartbeats 4000000
namespace Pf
open PySem L2 Kt NdefX
set_option hygiene false
local macro_rules | `(tactic| walk_at "mem") => `(tactic| (with_reducible (repeat (first | exact Pick.hd | apply Pick.tl)); done))
local macro_rules | `(tactic| walk_at "rep") => `(tactic| (with_reducible (repeat (first | exact Repl.hd | apply Repl.tl)); done))
local macro_rules | `(tactic| walk_at "sel") => `(tactic| ((repeat (with_reducible apply Sel.cons; (focus walk_at "mem"))); (with_reducible apply Sel.nil); (with_reducible (repeat (first | exact Dr.all | apply Dr.skip)); done)))
local macro_rules | `(tactic| walk_at "at") => `(tactic| (refine' Sep.at_ (by assumption) ?kkpk; (case kkpk => walk_at "mem")))
local macro_rules | `(tactic| walk_at "sq") => `(tactic| first | assumption | (refine' Sep.sq (by assumption) ?kkpk; (case kkpk => walk_at "mem")))
local macro_rules | `(tactic| walk_at "st") => `(tactic| first | assumption | (refine' Sep.st (by assumption) ?kkpk; (case kkpk => walk_at "mem")))
local macro_rules | `(tactic| walk_at "lk") => `(tactic| (repeat (first | (with_reducible exact lk_eq) | exact rfl | refine (lk_ne (by decide +kernel)).trans ?_)))
local macro_rules | `(tactic| walk_at "pf") => `(tactic| (repeat (first | (with_reducible exact pf_nil) | (with_reducible exact pf_eq) | (apply pf_ne; (focus decide +kernel)))))
local macro_rules | `(tactic| walk_at "ty") => `(tactic| first | exact ty_int | (refine' ty_lst ?kkh; (case kkh => walk_at "at")))
local macro_rules | `(tactic| walk_at "k1") => `(tactic| with_reducible first
  | refine q_seq ?_ | refine q_set ?_ | refine q_asg ?_ | refine q_ret ?_ | refine q_drop ?_ | refine q_next ?_ | refine q_c ?_ | refine q_op ?_ | refine q_un ?_ | refine q_nil ?_ | refine q_cons ?_ | refine q_cb ?_
  | refine q_call ?_ | refine q_ifs ?_ | refine q_if ?_ | refine q_test ?_ | refine q_tb ?_ | refine q_bl ?_ | refine q_notT ?_ | refine q_andT ?_ | refine q_orT ?_ | refine q_andV ?_ | refine q_orV ?_ | refine q_notV ?_
  | refine q_addA ?_ | refine q_subI ?_ | refine q_ltI ?_ | refine q_leI ?_ | refine q_gtI ?_ | refine q_geI ?_ | refine q_eqI ?_ | refine q_neI ?_ | refine q_abs ?_ | refine q_int ?_ | refine q_intB ?_ | refine q_max ?_ | refine q_min ?_
  | refine q_ipAdd ?_ | refine q_ipSub ?_ | refine q_gsub ?_ | refine q_augs ?_ | refine q_lst ?_ | refine q_tup ?_ | refine q_blI ?_ | refine iteT ?_ | refine iteF ?_ | refine iteNT ?_ | refine iteNF ?_
  | refine r_prop ?_ | refine r_fld ?_ | refine r_sfld ?_ | refine r_meth ?_ | refine r_make ?_ | refine r_sl ?_ | refine r_nopart ?_ | refine r_part ?_ | refine r_parti ?_ | refine r_gsl ?_ | refine r_bm ?_ | refine r_bm0 ?_ | refine r_for ?_ | refine r_ilist ?_ | refine r_irng ?_
  | refine r_gname ?_ | refine r_gcons ?_ | refine r_gnil ?_ | refine r_par ?_ | refine r_parA ?_ | refine r_chain ?_ | refine r_isN ?_ | refine r_tlc ?_ | refine r_yes ?_ | refine r_makek ?_ | refine r_neg ?_)
local macro_rules | `(tactic| walk_at "k2") => `(tactic| first
  | ((with_reducible refine' q_var ?kke ?_); (case kke => rfl))
  | ((with_reducible refine' q_aug ?kke ?_); (case kke => rfl))
  | ((with_reducible refine' q_ixL ?kks ?kke ?_); (case kks => walk_at "sq"); (case kke => first | rfl | assumption))
  | ((with_reducible refine' q_ixT ?kks ?kke ?_); (case kks => walk_at "st"); (case kke => first | rfl | assumption))
  | ((with_reducible refine' q_ixLL ?kks ?kke ?_); (case kks => walk_at "sq"); (case kke => first | rfl | assumption))
  | ((with_reducible refine' q_lenL ?kks ?_); (case kks => walk_at "sq"))
  | ((with_reducible refine' q_mulI ?kkc ?_); (case kkc => first | exact .inl (by omega) | exact .inr (by omega)))
  | ((with_reducible refine' q_modI ?kkc ?_); (case kkc => omega))
  | ((with_reducible refine' q_divI ?kkc ?_); (case kkc => exact ⟨by omega, by omega⟩))
  | ((with_reducible refine' q_powI ?kkc ?_); (case kkc => exact ⟨by decide, by decide, by decide⟩))
  | ((with_reducible refine' r_kfld ?kkS ?kkp ?kkc ?kkn ?kkl ?_); (case kkS => assumption); (case kkp => walk_at "mem"); (case kkc => walk_at "cls"); (case kkn => walk_at "na"); (case kkl => walk_at "lk"))
  | ((with_reducible refine' r_kprop ?kkS ?kkp ?_); (case kkS => assumption); (case kkp => walk_at "mem"))
  | ((with_reducible refine' r_kmeth ?kkS ?kkp ?kkl ?_); (case kkS => assumption); (case kkp => walk_at "mem"); (case kkl => walk_at "lk"))
  | ((with_reducible refine' r_calll ?kks ?_); (case kks => rfl))
  | ((with_reducible refine' r_tyl ?kks ?_); (case kks => walk_at "sq"))
  | ((with_reducible refine' r_isi (k := true) ?kkt ?kke ?_); (case kkt => walk_at "ty"); (case kke => decide +kernel))
  | ((with_reducible refine' r_isi (k := false) ?kkt ?kke ?_); (case kkt => walk_at "ty"); (case kke => decide +kernel)))
local macro_rules | `(tactic| walk_at "k3") => `(tactic| first
  | ((with_reducible refine' q_setS ?kkS ?kkr ?kke ?_); (case kkS => assumption); (case kkr => walk_at "rep"); (case kke => rfl); intro H S)
  | ((with_reducible refine' r_kset ?kkS ?kkr ?kkc ?kkn ?kkl ?kke ?_); (case kkS => assumption); (case kkr => walk_at "rep"); (case kkc => walk_at "cls"); (case kkn => walk_at "na"); (case kkl => first | exact Nat.le_of_ble_eq_true rfl | assumption | omega | (simp; done) | (simp; omega)); (case kke => walk_at "pf"); intro H S)
  | ((with_reducible refine' q_new ?kkS ?kkl ?_); (case kkS => assumption); (case kkl => first | exact Nat.le_of_ble_eq_true rfl | assumption | omega | (simp; done) | (simp; omega)); intro p H S)
  | ((with_reducible refine' q_newT ?kkS ?kkl ?_); (case kkS => assumption); (case kkl => first | exact Nat.le_of_ble_eq_true rfl | assumption | omega | (simp; done) | (simp; omega)); intro p H S)
  | ((with_reducible refine' r_knew ?kkS ?_); (case kkS => assumption); intro x dx H S)
  | ((with_reducible refine' r_knewk ?kkS ?kkl1 ?kkl2 ?_); (case kkS => assumption); (case kkl1 => rfl); (case kkl2 => rfl); intro x dx H S)
  | ((with_reducible refine' r_ksl ?kkS ?kks ?_); (case kkS => assumption); (case kks => walk_at "sq"); intro p H S)
  | ((with_reducible refine' r_list ?kkS ?kks ?_); (case kkS => assumption); (case kks => walk_at "sq"); intro p H S)
  | ((with_reducible refine' r_cat ?kkS ?kks1 ?kks2 ?kkz ?_); (case kkS => assumption); (case kks1 => walk_at "at"); (case kks2 => walk_at "at"); (case kkz => first | omega | (simp; omega)); intro p H S)
  | ((with_reducible refine' r_append ?kkS ?kkr ?kkz ?_); (case kkS => assumption); (case kkr => walk_at "rep"); (case kkz => first | omega | (simp; omega)); intro H S)
  | ((with_reducible refine' r_reverse ?kkS ?kkr ?_); (case kkS => assumption); (case kkr => walk_at "rep"); intro H S)
  | ((with_reducible refine' r_clear ?kkS ?kkr ?_); (case kkS => assumption); (case kkr => walk_at "rep"); intro H S))
local macro_rules | `(tactic| walk_at "gn") => `(tactic| repeat (first | walk_at "k1" | walk_at "k2"))
local macro_rules | `(tactic| walk_at "go") => `(tactic| repeat (first | walk_at "k1" | walk_at "k2" | walk_at "k3"))

local macro_rules | `(tactic| walk_at "cls") => `(tactic| with_reducible first | assumption | exact Txt.cl_Array (by assumption) | exact Txt.cl_Window (by assumption))
local macro_rules | `(tactic| walk_at "na") => `(tactic| with_reducible first | assumption | exact Txt.na_Array_cells (by assumption) | exact Txt.na_Array_size (by assumption) | exact Txt.na_Window__array (by assumption) | exact Txt.na_Window__length (by assumption) | exact Txt.na_Window__rule (by assumption))
section
variable {P : Program} {w : World} {K : PySem.W.Frag} {mg : Str → Option Value} {base : Heap} {c_Array c_Window : Addr}
theorem less_nil {H : Hp} : less [] H = H := funext fun b => less_out (by simp)
theorem plus_nil {H : Hp} : plus [] H = H := funext fun b => plus_out (by simp)
/-- the rule that lets a room of forty digits -/
def spFarRule : List (Option V) → Sp := fun fv vs H Q _ => ∃ s n : Int, vs = [.int s, .int n] ∧ Q (.int (10 ^ 39)) H
theorem sc_l_far_rightl_rule : NScope N_l_far_rightl_rule ["_law_room", "_law_needed"] [] (C8.fnScope s_l_far_rightl_rule) := nscope_by (by decide +kernel)
theorem ok_far_rule {f : Addr} {q : Str} {cl : List (Str × Addr)} {c' : Addr} (T : Tx K mg c_Array c_Window) : NOk P w K mg base CX0 3 f (NF.of s_l_far_rightl_rule "_law_rule" q cl c') ["_law_room", "_law_needed"] [] spFarRule := by
  refine NOk.mono (nok_of (k := 0) sc_l_far_rightl_rule (fun doc pm ctv us hl => match us, hl with | [_, _], _ => rfl) (fun ws vs H Q E h => ?_) (fun A outer s H vs ws Q E hr hf hc hw h => ?_)) (by decide)
  · obtain ⟨s, n, rfl, _⟩ := h
    rfl
  obtain ⟨s, n, rfl, q⟩ := h
  refine ⟨_, PSs.nox (pss_one (ps_ret (pe_op (r := rPowI) op_pow pe_int pe_int))), ?_⟩
  walk_at "go"
  exact q
section
variable {σ : L2.St} {H : Hp} {Q : VK} {W A : Addr} {n : Nat} {r : V} {Ps Qs : List SP}
theorem wn_meth {m : Str} {sp : Sp} {tr : TA} (S : Sep Ps H) (p : Pick (wnP c_Window W A n r) Ps Qs) (l : ∀ a b c : V, List.lookup m [(("_array" : Str), a), (("_length" : Str), b), (("_rule" : Str), c)] = none) (h : tr σ H fun vs H2 => sp (.ref W :: vs) H2 Q E0) : kMeth c_Window m sp tr σ Q (.ref W) H := by
  obtain ⟨dw, S⟩ := wn_open (S.pk p)
  exact ⟨W, dw, _, rfl, S.hd_at, l _ _ _, h⟩
theorem wn_prop {sp : Sp} (S : Sep Ps H) (p : Pick (wnP c_Window W A n r) Ps Qs) (h : sp [.ref W] H Q E0) : kProp c_Window sp Q (.ref W) H := by
  obtain ⟨dw, S⟩ := wn_open (S.pk p)
  exact ⟨W, dw, _, rfl, S.hd_at, h⟩
end
theorem cloF_nil {F : NF} (h : F.cl = []) : CloF F [] [] := by
  refine ⟨fun y c e => ?_, fun x y c e => ?_, rfl, fun i y e => ?_, List.nodup_nil⟩
  · rw [h] at e; cases e
  · rw [h] at e; cases e
  · simp at e
abbrev qF : Str := "_law_far_right.<locals>._law_rule"
abbrev posF : Pos := posOf s_l_far_rightl_rule
def spFar (Pt : Addr) : Sp := fun vs H Q _ => ∃ (R : List SP), vs = [] ∧ Sep (tbP Pt posF qF none :: R) H ∧ ∀ H', Q (.bl true) H'
theorem sc_l_far_right : FnScope N_l_far_right [] (defScope s_l_far_right) := ⟨rfl, rfl, rfl, by decide +kernel, rfl, by decide +kernel, by decide +kernel⟩
theorem ok_l_far_right {f c Pt : Addr} (F : DtC K mg "_law_far_right" s_l_far_right [] f c) (TB : LamX.TabB base mg c Pt) (T : Tx K mg c_Array c_Window) (M_Window : CfW P w K mg base 3 c_Window (spNewW c_Array c_Window)) (M_put : Mf P w K mg base 6 c_Window "put" ["self", "marks"] (spPut P w K mg base c_Array c_Window)) (M_cut : Mf P w K mg base 6 c_Window "cut" ["self", "many"] (spCut c_Array c_Window))
    (M_room : Pf P w K mg base 1 c_Window "room" (spRoom c_Array c_Window)) (M_spare : Pf P w K mg base 1 c_Window "spare" (spSpare c_Array c_Window)) (M_marks : Mf P w K mg base 2 c_Window "marks" ["self"] (spSeen c_Array c_Window)) (M_shares : Mf P w K mg base 1 c_Window "shares" ["self", "other"] (spShares c_Array c_Window)) (M_copied : Mf P w K mg base 6 c_Window "copied" ["self"] (spCopied c_Array c_Window)) :
    Df P w K mg base 8 "_law_far_right" f [] (spFar Pt) := by
  refine F.okB sc_l_far_right (fun vs H Q E h => ?_) (fun A outer s H vs Q E hr h => ?_)
  · obtain ⟨R, rfl, _⟩ := h
    rfl
  obtain ⟨R, rfl, S, q⟩ := h
  refine ⟨_, (pss_cons (ps_ndefC (st := s_l_far_rightl_rule) (i := 0) (by rfl) TB rfl (ndef_free (sc := defScope s_l_far_right) (fr := []) (by decide +kernel)) rfl rfl rfl sc_l_far_right.nd rfl (by first | exact Or.inl rfl | exact Or.inr rfl) (Or.inl rfl))
      (pss_cons (ps_set (i := 1) sc_l_far_right.nd rfl (by first | exact Or.inl rfl | exact Or.inr rfl) (pe_cfk M_Window (hr.mono (by decide)) (pa_cons (pe_lst (pa_cons pe_int (pa_cons pe_int pa_nil))) pa_nil) (pk_cons (pv 0) pk_nil)))
      (pss_cons (ps_set (i := 2) sc_l_far_right.nd rfl (by first | exact Or.inl rfl | exact Or.inr rfl) (pe_mf M_put (hr.mono (by decide)) (pv 1) (pa_cons (pe_lst (pa_cons pe_int pa_nil)) pa_nil)))
      (pss_cons (ps_set (i := 3) sc_l_far_right.nd rfl (by first | exact Or.inl rfl | exact Or.inr rfl) (pe_mf M_put (hr.mono (by decide)) (pe_mf M_cut (hr.mono (by decide)) (pv 2) (pa_cons pe_int pa_nil)) (pa_cons (pe_lst (pa_cons pe_int pa_nil)) pa_nil)))
      (pss_cons (ps_set (i := 4) sc_l_far_right.nd rfl (by first | exact Or.inl rfl | exact Or.inr rfl) (pe_lst (pa_cons (pe_pr M_room (hr.mono (by decide)) (pv 2)) (pa_cons (pe_pr M_spare (hr.mono (by decide)) (pv 2)) (pa_cons (pe_mf0 M_marks (hr.mono (by decide)) (pv 2)) (pa_cons (pe_mf0 M_marks (hr.mono (by decide)) (pv 3)) (pa_cons (pe_mf M_shares (hr.mono (by decide)) (pv 3) (pa_cons (pv 2) pa_nil)) (pa_cons (pe_pr M_room (hr.mono (by decide)) (pe_mf0 M_copied (hr.mono (by decide)) (pv 2))) pa_nil))))))))
      (pss_one (ps_ret (pe_cmpR (r := rEqA K) (op_eqA hr.units) (pv 4) (pe_lst (pa_cons (pe_op (r := rPowI) op_pow pe_int pe_int) (pa_cons (pe_op (r := rSubI) op_sub (pe_op (r := rPowI) op_pow pe_int pe_int) pe_int) (pa_cons (pe_lst (pa_cons pe_int (pa_cons pe_int (pa_cons pe_int pa_nil)))) (pa_cons (pe_lst (pa_cons pe_int (pa_cons pe_int pa_nil))) (pa_cons pe_bl (pa_cons pe_int pa_nil))))))) (nomark _))))))))), ?_⟩
  walk_at "go"
  refine q_ndef (q := qF) S (fun c => rfl) fun f c' H ho S => ?_
  generalize hF : NF.of s_l_far_rightl_rule "_law_rule" qF [] c' = FF
  have S : Sep (pt f (FnO f FF) :: tbP Pt posF qF (some c') :: R) H := by rw [← hF]; exact S
  have hR : ∀ (s n : Int) (H : Hp) (q : Int → Hp → Prop) (Ps : List SP), n ≤ 10 ^ 39 → Sep (pt f (FnO f FF) :: tbP Pt posF qF (some c') :: Ps) H → q (10 ^ 39) H → RuleAt P w K mg base 3 (.ref f) s n H q := fun s n H q Ps hn S h => by
    refine .inr ⟨f, FF, _, [], [], spFarRule, rfl, hF ▸ ok_far_rule T, (cloF_nil (by rw [← hF]; rfl)).at_ S.hd_at ?_ (fun p hp => by simp at hp), fun Q g => ⟨s, n, rfl, ?_⟩⟩
    · have := tb_code S.tl
      rw [← hF]
      exact this
    · rw [less_nil]
      exact g _ _ hn fun _ => by rw [plus_nil]; exact h
  clear ho
  walk_at "go"
  refine ⟨x, dx, p, .ref f, [1, 2], _, rfl, by simp, by simp, S.s2 (A := pt x (.ins c_Window dx [])) (B := pt p (.lst [.int 1, .int 2])) (by walk_at "sel"), fun A1 L1 H S => ⟨rfl, ?_⟩⟩
  obtain ⟨W1, hq1⟩ : ∃ q, q = x := ⟨x, rfl⟩
  subst hq1
  have S : Sep (wnP c_Window W1 A1 2 (.ref f) :: arP c_Array A1 L1 [1, 2] 2 :: pt p (.lst [.int 1, .int 2]) :: pt f (FnO f FF) :: tbP Pt posF qF (some c') :: R) H := S
  walk_at "go"
  refine wn_meth S (by walk_at "mem") (fun _ _ _ => rfl) ?_
  walk_at "go"
  refine ⟨W1, A1, L1, p, 2, .ref f, [1, 2], [3], 2, _, rfl, by decide, by decide, by simp, by decide, by decide, S.s3 (A := wnP c_Window W1 A1 2 (.ref f)) (B := arP c_Array A1 L1 [1, 2] 2) (C := pt p (.lst [.int 3])) (by walk_at "sel"), fun h => absurd h (by decide), fun _ => hR 2 3 _ _ _ (by decide) (S.s2 (A := pt f (FnO f FF)) (B := tbP Pt posF qF (some c')) (by walk_at "sel")) ⟨_, S.s3 (A := wnP c_Window W1 A1 2 (.ref f)) (B := arP c_Array A1 L1 [1, 2] 2) (C := pt p (.lst [.int 3])) (by walk_at "sel"), fun W2 A2 Lx H S => ?_⟩⟩
  have S : Sep (wnP c_Window W2 A2 3 (.ref f) :: arP c_Array A2 Lx [1, 2, 3] (10 ^ 39) :: wnP c_Window W1 A1 2 (.ref f) :: arP c_Array A1 L1 [1, 2] 2 :: pt p (.lst [.int 3]) :: _) H := S
  walk_at "go"
  refine wn_meth S (by walk_at "mem") (fun _ _ _ => rfl) ?_
  walk_at "go"
  refine ⟨W2, A2, 3, 1, .ref f, _, rfl, by decide, by decide, S.s1 (A := wnP c_Window W2 A2 3 (.ref f)) (by walk_at "sel"), fun W3 H S => ?_⟩
  walk_at "go"
  refine wn_meth (n := 1) S (by walk_at "mem") (fun _ _ _ => rfl) ?_
  walk_at "go"
  refine ⟨W3, A2, Lx, p, 1, .ref f, [1, 2, 3], [4], 10 ^ 39, _, rfl, by decide, by decide, by simp, by decide, by decide, S.s3 (A := wnP c_Window W3 A2 1 (.ref f)) (B := arP c_Array A2 Lx [1, 2, 3] (10 ^ 39)) (C := pt p (.lst [.int 4])) (by walk_at "sel"), fun _ W4 H S => ?_, fun h => absurd h (by decide)⟩
  have S : Sep (wnP c_Window W4 A2 2 (.ref f) :: wnP c_Window W3 A2 1 (.ref f) :: arP c_Array A2 Lx [1, 4, 3] (10 ^ 39) :: _) H := S
  walk_at "go"
  refine wn_prop (W := W2) S (by walk_at "mem") ?_
  refine ⟨W2, A2, Lx, 3, .ref f, [1, 4, 3], 10 ^ 39, _, rfl, S.s2 (by walk_at "sel"), ?_⟩
  walk_at "go"
  refine wn_prop (W := W2) S (by walk_at "mem") ?_
  refine ⟨W2, A2, Lx, 3, .ref f, [1, 4, 3], 10 ^ 39, _, rfl, S.s2 (by walk_at "sel"), ?_⟩
  walk_at "go"
  refine wn_meth (W := W2) S (by walk_at "mem") (fun _ _ _ => rfl) ?_
  walk_at "go"
  refine ⟨W2, A2, Lx, 3, .ref f, [1, 4, 3], 10 ^ 39, _, rfl, S.s2 (by walk_at "sel"), fun t1 H S => ?_⟩
  walk_at "go"
  refine wn_meth (W := W4) S (by walk_at "mem") (fun _ _ _ => rfl) ?_
  walk_at "go"
  refine ⟨W4, A2, Lx, 2, .ref f, [1, 4, 3], 10 ^ 39, _, rfl, S.s2 (by walk_at "sel"), fun t2 H S => ?_⟩
  walk_at "go"
  refine wn_meth (W := W4) S (by walk_at "mem") (fun _ _ _ => rfl) ?_
  walk_at "go"
  obtain ⟨d4, S4⟩ := wn_open (S.s1 (A := wnP c_Window W4 A2 2 (.ref f)) (by walk_at "sel"))
  obtain ⟨d2, S2⟩ := wn_open (S.s1 (A := wnP c_Window W2 A2 3 (.ref f)) (by walk_at "sel"))
  obtain ⟨da, Sa⟩ := ar_open (S.s1 (A := arP c_Array A2 Lx [1, 4, 3] (10 ^ 39)) (by walk_at "sel"))
  refine ⟨W4, A2, W2, A2, _, _, _, _, _, _, _, _, _, _, rfl, S4.hd_at, S2.hd_at, Sa.hd_at, Sa.hd_at, ?_⟩
  clear S4 S2 Sa
  rw [decide_eq_true rfl]
  walk_at "go"
  refine wn_meth (W := W2) S (by walk_at "mem") (fun _ _ _ => rfl) ?_
  walk_at "go"
  refine ⟨W2, A2, Lx, 3, .ref f, [1, 4, 3], 10 ^ 39, _, rfl, S.s2 (by walk_at "sel"), fun W5 A5 L5 H S => ?_⟩
  have S : Sep (wnP c_Window W5 A5 3 (.ref f) :: arP c_Array A5 L5 [1, 4, 3] 3 :: _) H := S
  walk_at "go"
  refine wn_prop (W := W5) S (by walk_at "mem") ?_
  refine ⟨W5, A5, L5, 3, .ref f, [1, 4, 3], 3, _, rfl, S.s2 (by walk_at "sel"), ?_⟩
  walk_at "go"
  rename_i TL _ _ e1 _ _ e2 _ _
  have h1 : SqL K H t1 (List.map V.int (List.take 3 [1, 4, 3])) := by walk_at "sq"
  have h2 : SqL K H t2 (List.map V.int (List.take 2 [1, 4, 3])) := by walk_at "sq"
  have h3 : SqL K H e1 [.int 1, .int 4, .int 3] := by walk_at "sq"
  have h4 : SqL K H e2 [.int 1, .int 4] := by walk_at "sq"
  have h5 := S.sq (K := K) (a := p) (by walk_at "mem")
  have h6 := S.sq (K := K) (a := TL) (by walk_at "mem")
  have D1 : Dp K H (.ref t1) (.list [.int 1, .int 4, .int 3]) := .lst h1 (.cons (.int 1) (.cons (.int 4) (.cons (.int 3) .nil)))
  have D2 : Dp K H (.ref t2) (.list [.int 1, .int 4]) := .lst h2 (.cons (.int 1) (.cons (.int 4) .nil))
  have D3 : Dp K H (.ref e1) (.list [.int 1, .int 4, .int 3]) := .lst h3 (.cons (.int 1) (.cons (.int 4) (.cons (.int 3) .nil)))
  have D4 : Dp K H (.ref e2) (.list [.int 1, .int 4]) := .lst h4 (.cons (.int 1) (.cons (.int 4) .nil))
  refine r_eq_same (k := 2) (d := .list [.int (10 ^ 39), .int (10 ^ 39 - 3), .list [.int 1, .int 4, .int 3], .list [.int 1, .int 4], .bool true, .int 3])
    (.lst h6 (.cons (.int _) (.cons (.int _) (.cons D1 (.cons D2 (.cons (.bl _) (.cons (.int _) .nil)))))))
    (.lst h5 (.cons (.int _) (.cons (.int _) (.cons D3 (.cons D4 (.cons (.bl _) (.cons (.int _) .nil)))))))
    ⟨rfl, by decide⟩ (by decide) (q _)
end

end Pf

set_option Elab.async false
set_option linter.all false
set_option maxRecDepth 100000
set_option maxHeartbeats 4000000
namespace Pf
open PySem L2 Kt NdefX
set_option hygiene false
local macro_rules | `(tactic| walk_at "mem") => `(tactic| (with_reducible (repeat (first | exact Pick.hd | apply Pick.tl)); done))
local macro_rules | `(tactic| walk_at "rep") => `(tactic| (with_reducible (repeat (first | exact Repl.hd | apply Repl.tl)); done))
local macro_rules | `(tactic| walk_at "sel") => `(tactic| ((repeat (with_reducible apply Sel.cons; (focus walk_at "mem"))); (with_reducible apply Sel.nil); (with_reducible (repeat (first | exact Dr.all | apply Dr.skip)); done)))
local macro_rules | `(tactic| walk_at "at") => `(tactic| (refine' Sep.at_ (by assumption) ?kkpk; (case kkpk => walk_at "mem")))
local macro_rules | `(tactic| walk_at "sq") => `(tactic| first | assumption | (refine' Sep.sq (by assumption) ?kkpk; (case kkpk => walk_at "mem")))
local macro_rules | `(tactic| walk_at "st") => `(tactic| first | assumption | (refine' Sep.st (by assumption) ?kkpk; (case kkpk => walk_at "mem")))
local macro_rules | `(tactic| walk_at "lk") => `(tactic| (repeat (first | (with_reducible exact lk_eq) | exact rfl | refine (lk_ne (by decide +kernel)).trans ?_)))
local macro_rules | `(tactic| walk_at "pf") => `(tactic| (repeat (first | (with_reducible exact pf_nil) | (with_reducible exact pf_eq) | (apply pf_ne; (focus decide +kernel)))))
local macro_rules | `(tactic| walk_at "ty") => `(tactic| first | exact ty_int | (refine' ty_lst ?kkh; (case kkh => walk_at "at")))
local macro_rules | `(tactic| walk_at "k1") => `(tactic| with_reducible first
  | refine q_seq ?_ | refine q_set ?_ | refine q_asg ?_ | refine q_ret ?_ | refine q_drop ?_ | refine q_next ?_ | refine q_c ?_ | refine q_op ?_ | refine q_un ?_ | refine q_nil ?_ | refine q_cons ?_ | refine q_cb ?_
  | refine q_call ?_ | refine q_ifs ?_ | refine q_if ?_ | refine q_test ?_ | refine q_tb ?_ | refine q_bl ?_ | refine q_notT ?_ | refine q_andT ?_ | refine q_orT ?_ | refine q_andV ?_ | refine q_orV ?_ | refine q_notV ?_
  | refine q_addA ?_ | refine q_subI ?_ | refine q_ltI ?_ | refine q_leI ?_ | refine q_gtI ?_ | refine q_geI ?_ | refine q_eqI ?_ | refine q_neI ?_ | refine q_abs ?_ | refine q_int ?_ | refine q_intB ?_ | refine q_max ?_ | refine q_min ?_
  | refine q_ipAdd ?_ | refine q_ipSub ?_ | refine q_gsub ?_ | refine q_augs ?_ | refine q_lst ?_ | refine q_tup ?_ | refine q_blI ?_ | refine iteT ?_ | refine iteF ?_ | refine iteNT ?_ | refine iteNF ?_
  | refine r_prop ?_ | refine r_fld ?_ | refine r_sfld ?_ | refine r_meth ?_ | refine r_make ?_ | refine r_sl ?_ | refine r_nopart ?_ | refine r_part ?_ | refine r_parti ?_ | refine r_gsl ?_ | refine r_bm ?_ | refine r_bm0 ?_ | refine r_for ?_ | refine r_ilist ?_ | refine r_irng ?_
  | refine r_gname ?_ | refine r_gcons ?_ | refine r_gnil ?_ | refine r_par ?_ | refine r_parA ?_ | refine r_chain ?_ | refine r_isN ?_ | refine r_tlc ?_ | refine r_yes ?_ | refine r_makek ?_ | refine r_neg ?_)
local macro_rules | `(tactic| walk_at "k2") => `(tactic| first
  | ((with_reducible refine' q_var ?kke ?_); (case kke => rfl))
  | ((with_reducible refine' q_aug ?kke ?_); (case kke => rfl))
  | ((with_reducible refine' q_ixL ?kks ?kke ?_); (case kks => walk_at "sq"); (case kke => first | rfl | assumption))
  | ((with_reducible refine' q_ixT ?kks ?kke ?_); (case kks => walk_at "st"); (case kke => first | rfl | assumption))
  | ((with_reducible refine' q_ixLL ?kks ?kke ?_); (case kks => walk_at "sq"); (case kke => first | rfl | assumption))
  | ((with_reducible refine' q_lenL ?kks ?_); (case kks => walk_at "sq"))
  | ((with_reducible refine' q_mulI ?kkc ?_); (case kkc => first | exact .inl (by omega) | exact .inr (by omega)))
  | ((with_reducible refine' q_modI ?kkc ?_); (case kkc => omega))
  | ((with_reducible refine' q_divI ?kkc ?_); (case kkc => exact ⟨by omega, by omega⟩))
  | ((with_reducible refine' q_powI ?kkc ?_); (case kkc => exact ⟨by decide, by decide, by decide⟩))
  | ((with_reducible refine' r_kfld ?kkS ?kkp ?kkc ?kkn ?kkl ?_); (case kkS => assumption); (case kkp => walk_at "mem"); (case kkc => walk_at "cls"); (case kkn => walk_at "na"); (case kkl => walk_at "lk"))
  | ((with_reducible refine' r_kprop ?kkS ?kkp ?_); (case kkS => assumption); (case kkp => walk_at "mem"))
  | ((with_reducible refine' r_kmeth ?kkS ?kkp ?kkl ?_); (case kkS => assumption); (case kkp => walk_at "mem"); (case kkl => walk_at "lk"))
  | ((with_reducible refine' r_calll ?kks ?_); (case kks => rfl))
  | ((with_reducible refine' r_tyl ?kks ?_); (case kks => walk_at "sq"))
  | ((with_reducible refine' r_isi (k := true) ?kkt ?kke ?_); (case kkt => walk_at "ty"); (case kke => decide +kernel))
  | ((with_reducible refine' r_isi (k := false) ?kkt ?kke ?_); (case kkt => walk_at "ty"); (case kke => decide +kernel)))
local macro_rules | `(tactic| walk_at "k3") => `(tactic| first
  | ((with_reducible refine' q_setS ?kkS ?kkr ?kke ?_); (case kkS => assumption); (case kkr => walk_at "rep"); (case kke => rfl); intro H S)
  | ((with_reducible refine' r_kset ?kkS ?kkr ?kkc ?kkn ?kkl ?kke ?_); (case kkS => assumption); (case kkr => walk_at "rep"); (case kkc => walk_at "cls"); (case kkn => walk_at "na"); (case kkl => first | exact Nat.le_of_ble_eq_true rfl | assumption | omega | (simp; done) | (simp; omega)); (case kke => walk_at "pf"); intro H S)
  | ((with_reducible refine' q_new ?kkS ?kkl ?_); (case kkS => assumption); (case kkl => first | exact Nat.le_of_ble_eq_true rfl | assumption | omega | (simp; done) | (simp; omega)); intro p H S)
  | ((with_reducible refine' q_newT ?kkS ?kkl ?_); (case kkS => assumption); (case kkl => first | exact Nat.le_of_ble_eq_true rfl | assumption | omega | (simp; done) | (simp; omega)); intro p H S)
  | ((with_reducible refine' r_knew ?kkS ?_); (case kkS => assumption); intro x dx H S)
  | ((with_reducible refine' r_knewk ?kkS ?kkl1 ?kkl2 ?_); (case kkS => assumption); (case kkl1 => rfl); (case kkl2 => rfl); intro x dx H S)
  | ((with_reducible refine' r_ksl ?kkS ?kks ?_); (case kkS => assumption); (case kks => walk_at "sq"); intro p H S)
  | ((with_reducible refine' r_list ?kkS ?kks ?_); (case kkS => assumption); (case kks => walk_at "sq"); intro p H S)
  | ((with_reducible refine' r_cat ?kkS ?kks1 ?kks2 ?kkz ?_); (case kkS => assumption); (case kks1 => walk_at "at"); (case kks2 => walk_at "at"); (case kkz => first | omega | (simp; omega)); intro p H S)
  | ((with_reducible refine' r_append ?kkS ?kkr ?kkz ?_); (case kkS => assumption); (case kkr => walk_at "rep"); (case kkz => first | omega | (simp; omega)); intro H S)
  | ((with_reducible refine' r_reverse ?kkS ?kkr ?_); (case kkS => assumption); (case kkr => walk_at "rep"); intro H S)
  | ((with_reducible refine' r_clear ?kkS ?kkr ?_); (case kkS => assumption); (case kkr => walk_at "rep"); intro H S))
local macro_rules | `(tactic| walk_at "gn") => `(tactic| repeat (first | walk_at "k1" | walk_at "k2"))
local macro_rules | `(tactic| walk_at "go") => `(tactic| repeat (first | walk_at "k1" | walk_at "k2" | walk_at "k3"))

local macro_rules | `(tactic| walk_at "cls") => `(tactic| with_reducible first | assumption | exact Txt.cl_Array (by assumption) | exact Txt.cl_Window (by assumption))
local macro_rules | `(tactic| walk_at "na") => `(tactic| with_reducible first | assumption | exact Txt.na_Array_cells (by assumption) | exact Txt.na_Array_size (by assumption) | exact Txt.na_Window__array (by assumption) | exact Txt.na_Window__length (by assumption) | exact Txt.na_Window__rule (by assumption))
section
variable {K : PySem.W.Frag} {c_Array c_Window : Addr}
/-! ### one side of the law: its rule, its windows, what was told -/
theorem mem_snoc {α : Type} {xs : List α} {x y : α} (h : y ∈ xs ++ [x]) : y ∈ xs ∨ y = x := (List.mem_append.mp h).imp_right List.mem_singleton.mp
structure KB (as : List Addr) (G : GS) (ws : List Wi) (i : Nat) : Prop where
  wf : WF as G ws
  n3 : ∀ A ∈ as, (G A).cs.length ≤ 3 * (i + 1)
  mx : 1 ≤ ws.length ∧ ws.length ≤ i + 1
abbrev rooms (G : GS) (ws : List Wi) : List Int := ws.map fun y => (G y.A).s
theorem kb_add {as : List Addr} {G : GS} {ws : List Wi} {i : Nat} (k : KB as G ws i) {x : Wi} (hx : x ∈ ws) {m : Nat} (h1 : 1 ≤ m) (h2 : m ≤ x.n) (W' : Addr) : KB as G (ws ++ [⟨W', x.A, m⟩]) (i + 1) := by
  obtain ⟨g1, g2, g3⟩ := k.wf.ok x hx
  refine ⟨⟨k.wf.nd, fun y hy => ?_, k.wf.rm, k.wf.sm⟩, fun A hA => Nat.le_trans (k.n3 A hA) (by omega), ?_⟩
  · rcases mem_snoc hy with hy | rfl
    · exact k.wf.ok y hy
    · exact ⟨g1, h1, show m ≤ (G x.A).cs.length by omega⟩
  · have := k.mx
    rw [List.length_append]
    simp only [List.length_cons, List.length_nil]
    omega
theorem kb_new {as : List Addr} {G : GS} {ws : List Wi} {i : Nat} (k : KB as G ws i) {A' Lx W' : Addr} (nA : A' ∉ as) {ms : List Int} {s : Int} (h0 : 1 ≤ ms.length) (h2 : ms.length ≤ 3 * (i + 2)) (hi : i < 100) (h3 : (ms.length : Int) ≤ s) :
    KB (as ++ [A']) (up G A' ⟨Lx, ms, s⟩) (ws ++ [⟨W', A', ms.length⟩]) (i + 1) := by
  have ol : ∀ A ∈ as, up G A' ⟨Lx, ms, s⟩ A = G A := fun A hA => up_ne (by intro q; subst q; exact nA hA)
  refine ⟨⟨List.nodup_append.mpr ⟨k.wf.nd, by simp, fun a ha b hb e => ?_⟩, fun y hy => ?_, fun A hA => ?_, fun A hA => ?_⟩, fun A hA => ?_, ?_⟩
  · rw [List.mem_singleton.mp hb] at e
    subst e
    exact nA ha
  · rcases mem_snoc hy with hy | rfl
    · obtain ⟨g1, g2, g3⟩ := k.wf.ok y hy
      exact ⟨List.mem_append_left _ g1, g2, by rw [ol _ g1]; exact g3⟩
    · exact ⟨List.mem_append_right _ List.mem_cons_self, h0, by rw [up_same]; exact Nat.le_refl _⟩
  · rcases mem_snoc hA with hA | rfl
    · rw [ol _ hA]; exact k.wf.rm A hA
    · rw [up_same]; exact h3
  · rcases mem_snoc hA with hA | rfl
    · rw [ol _ hA]; exact k.wf.sm A hA
    · rw [up_same]; show ms.length ≤ 5000; omega
  · rcases mem_snoc hA with hA | rfl
    · rw [ol _ hA]
      have := k.n3 A hA
      omega
    · rw [up_same]; show ms.length ≤ _; omega
  · have := k.mx
    rw [List.length_append]
    simp only [List.length_cons, List.length_nil]
    omega
theorem kb_upd {as : List Addr} {G : GS} {ws : List Wi} {i : Nat} (k : KB as G ws i) (hi : i < 100) {x : Wi} (hx : x ∈ ws) {cs' : List Int} (hl : (G x.A).cs.length ≤ cs'.length) (h2 : cs'.length ≤ 3 * (i + 2)) (h3 : (cs'.length : Int) ≤ (G x.A).s) :
    KB as (up G x.A ⟨(G x.A).L, cs', (G x.A).s⟩) ws (i + 1) := by
  refine ⟨⟨k.wf.nd, fun y hy => ?_, fun A hA => ?_, fun A hA => ?_⟩, fun A hA => ?_, ⟨k.mx.1, by have := k.mx.2; omega⟩⟩
  · obtain ⟨q1, q2, q3⟩ := k.wf.ok y hy
    refine ⟨q1, q2, ?_⟩
    by_cases e : y.A = x.A
    · rw [e, up_same]; rw [e] at q3; exact Nat.le_trans q3 hl
    · rw [up_ne e]; exact q3
  · by_cases e : A = x.A
    · subst e; rw [up_same]; exact h3
    · rw [up_ne e]; exact k.wf.rm A hA
  · by_cases e : A = x.A
    · subst e; rw [up_same]; show cs'.length ≤ 5000; omega
    · rw [up_ne e]; exact k.wf.sm A hA
  · by_cases e : A = x.A
    · subst e; rw [up_same]; show cs'.length ≤ _; omega
    · rw [up_ne e]
      have := k.n3 A hA
      omega
theorem kb_put {as : List Addr} {G : GS} {ws : List Wi} {i : Nat} (k : KB as G ws i) (hi : i < 100) {x : Wi} (hx : x ∈ ws) {cs' : List Int} {m : Nat} (W' : Addr) (hn0 : 1 ≤ m) (hn1 : m ≤ cs'.length) (hl : (G x.A).cs.length ≤ cs'.length) (h2 : cs'.length ≤ 3 * (i + 2)) (h3 : (cs'.length : Int) ≤ (G x.A).s) :
    KB as (up G x.A ⟨(G x.A).L, cs', (G x.A).s⟩) (ws ++ [⟨W', x.A, m⟩]) (i + 1) := by
  obtain ⟨g1, g2, g3⟩ := k.wf.ok x hx
  have q := kb_upd k hi hx hl h2 h3
  refine ⟨⟨q.wf.nd, fun y hy => ?_, q.wf.rm, q.wf.sm⟩, q.n3, ?_⟩
  · rcases mem_snoc hy with hy | rfl
    · exact q.wf.ok y hy
    · exact ⟨g1, hn0, by rw [up_same]; exact hn1⟩
  · have := k.mx
    rw [List.length_append]
    simp only [List.length_cons, List.length_nil]
    omega
theorem rooms_same {G : GS} {A Lx : Addr} {cs' : List Int} {ws : List Wi} : rooms (up G A ⟨Lx, cs', (G A).s⟩) ws = rooms G ws := List.map_congr_left fun y _ => by
  by_cases e : y.A = A
  · rw [e, up_same]
  · rw [up_ne e]
theorem rooms_new {as : List Addr} {G : GS} {A : Addr} {z : AS} {ws : List Wi} (wf : WF as G ws) (nA : A ∉ as) : rooms (up G A z) ws = rooms G ws := List.map_congr_left fun y hy => by
  have := (wf.ok y hy).1
  rw [up_ne (show y.A ≠ A from fun q => nA (by rw [← q]; exact this))]
/-- the addresses of a side -/
structure SD where
  f : Addr
  a : Addr
  l : Addr
  t : Addr
  C : Addr
  rm : Addr
abbrev NFr (cl : List (Str × Addr)) (c' : Addr) : NF := NF.of s_l_sidel_rule "_law_rule" qR cl c'
abbrev sdL (K : PySem.W.Frag) (c_Array c_Window c' : Addr) (d : SD) (cl : List (Str × Addr)) (cs : List (Addr × V)) (as : List Addr) (G : GS) (ws : List Wi) (qs : List (Int × Int)) (ns : List (List (List Int))) : List SP :=
  [pt d.f (FnO d.f (NFr cl c')), cells cs, lsP K d.a (dq qs), lsP K d.t (ns.map dLk), pt d.l (.lst (wrefs ws)), ars c_Array as G, wis c_Window (.ref d.f) ws, lsP K d.C (dq qs), pt d.rm (.lst ((rooms G ws).map V.int))]
structure SdOk (d : SD) (c' : Addr) (i : Nat) (cl : List (Str × Addr)) (cs : List (Addr × V)) (as : List Addr) (G : GS) (ws : List Wi) (qs : List (Int × Int)) (ns : List (List (List Int))) : Prop where
  C : CloF (NFr cl c') frR cs
  e : cs.map (·.2) = [.ref d.a, .ref d.l, .ref d.t]
  k : KB as G ws i
  hq : qs.length ≤ i
  hn : ns.length ≤ i
def sideP (K : PySem.W.Frag) (c_Array c_Window c' : Addr) (d : SD) (i : Nat) : SP := fun H => ∃ cl cs as G ws qs ns, SdOk d c' i cl cs as G ws qs ns ∧ Sep (sdL K c_Array c_Window c' d cl cs as G ws qs ns) H
theorem sd_open {c' : Addr} {d : SD} {i : Nat} {R : List SP} {H : Hp} (S : Sep (sideP K c_Array c_Window c' d i :: R) H) : ∃ cl cs as G ws qs ns, SdOk d c' i cl cs as G ws qs ns ∧ Sep (pt d.f (FnO d.f (NFr cl c')) :: cells cs :: lsP K d.a (dq qs) :: lsP K d.t (ns.map dLk) :: pt d.l (.lst (wrefs ws)) :: ars c_Array as G :: wis c_Window (.ref d.f) ws :: lsP K d.C (dq qs) :: pt d.rm (.lst ((rooms G ws).map V.int)) :: R) H := by
  obtain ⟨cl, S⟩ := S.ex
  obtain ⟨cs, S⟩ := S.ex
  obtain ⟨as, S⟩ := S.ex
  obtain ⟨G, S⟩ := S.ex
  obtain ⟨ws, S⟩ := S.ex
  obtain ⟨qs, S⟩ := S.ex
  obtain ⟨ns, S⟩ := S.ex
  obtain ⟨h, S⟩ := S.pure
  exact ⟨cl, cs, as, G, ws, qs, ns, h, S.flat⟩
theorem sd_shut {c' : Addr} {d : SD} {i : Nat} {R : List SP} {H : Hp} {cl : List (Str × Addr)} {cs : List (Addr × V)} {as : List Addr} {G : GS} {ws : List Wi} {qs : List (Int × Int)} {ns : List (List (List Int))} (h : SdOk d c' i cl cs as G ws qs ns)
    (S : Sep (pt d.f (FnO d.f (NFr cl c')) :: cells cs :: lsP K d.a (dq qs) :: lsP K d.t (ns.map dLk) :: pt d.l (.lst (wrefs ws)) :: ars c_Array as G :: wis c_Window (.ref d.f) ws :: lsP K d.C (dq qs) :: pt d.rm (.lst ((rooms G ws).map V.int)) :: R) H) : Sep (sideP K c_Array c_Window c' d i :: R) H :=
  Sep.ex_in cl (Sep.ex_in cs (Sep.ex_in as (Sep.ex_in G (Sep.ex_in ws (Sep.ex_in qs (Sep.ex_in ns (Sep.pure_in h (Sep.unflat (As := sdL K c_Array c_Window c' d cl cs as G ws qs ns) S))))))))
end
section
variable {P : Program} {w : World} {K : PySem.W.Frag} {mg : Str → Option Value} {base : Heap} {c_Array c_Window : Addr}
/-- the rule is called by a window that moves -/
theorem wr_rule {f a l t c' Pt : Addr} {cl : List (Str × Addr)} {cs : List (Addr × V)} {as : List Addr} {G : GS} {rv : V} {ws : List Wi} {qs : List (Int × Int)} {ns : List (List (List Int))} {R : List SP} {s n : Int} {H : Hp} {q : Int → Hp → Prop} (T : Tx K mg c_Array c_Window) (M_marks : Mf P w K mg base 2 c_Window "marks" ["self"] (spSeen c_Array c_Window))
    (C : CloF (NFr cl c') frR cs) (e : cs.map (·.2) = [.ref a, .ref l, .ref t]) (wf : WF as G ws) (h1 : ws.length ≤ 100) (h2 : qs.length ≤ 100) (h3 : ns.length ≤ 100)
    (S : Sep (pt f (FnO f (NFr cl c')) :: cells cs :: tbP Pt posR qR (some c') :: lsP K a (dq qs) :: lsP K t (ns.map dLk) :: pt l (.lst (wrefs ws)) :: ars c_Array as G :: wis c_Window rv ws :: R) H)
    (h : ∀ H', Sep (pt f (FnO f (NFr cl c')) :: cells cs :: tbP Pt posR qR (some c') :: lsP K a (dq (qs ++ [(s, n)])) :: lsP K t ((ns ++ [looks G ws]).map dLk) :: pt l (.lst (wrefs ws)) :: ars c_Array as G :: wis c_Window rv ws :: R) H' → q (n + ((qs.length + 1 : Nat) : Int) % 3) H') :
    RuleAt P w K mg base 3 (.ref f) s n H q := by
  refine .inr ⟨f, NFr cl c', _, _, cs, spRule K c_Array c_Window, rfl, ok_rule T M_marks, C.at_ S.hd_at (tb_code S.tl.tl) (sep_cells S.tl), fun Q g => ?_⟩
  have S1 := sep_less S.swap
  refine ⟨a, l, t, s, n, qs, ns, as, G, rv, ws, pt f (FnO f (NFr cl c')) :: tbP Pt posR qR (some c') :: R, ?_, rfl, wf, h1, h2, h3, S1.sel (As := [lsP K a (dq qs), lsP K t (ns.map dLk), pt l (.lst (wrefs ws)), ars c_Array as G, wis c_Window rv ws]) (by walk_at "sel"), fun H' S2 => ?_⟩
  · have : (cs.map fun p => some p.2) = (cs.map (·.2)).map some := by rw [List.map_map]; rfl
    rw [this, e]
    rfl
  · refine g _ _ (by omega) fun hf => h _ ?_
    have S3 := sep_plus C.nd hf S2
    exact S3.sel (As := [pt f (FnO f (NFr cl c')), cells cs, tbP Pt posR qR (some c'), lsP K a (dq (qs ++ [(s, n)])), lsP K t ((ns ++ [looks G ws]).map dLk), pt l (.lst (wrefs ws)), ars c_Array as G, wis c_Window rv ws]) (Rs := R) (by walk_at "sel")
end

end Pf

set_option Elab.async false
set_option linter.all false
set_option maxRecDepth 100000
set_option maxHeartbeats 4000000
namespace Pf
open PySem L2 Kt NdefX
set_option hygiene false
local macro_rules | `(tactic| walk_at "mem") => `(tactic| (with_reducible (repeat (first | exact Pick.hd | apply Pick.tl)); done))
local macro_rules | `(tactic| walk_at "rep") => `(tactic| (with_reducible (repeat (first | exact Repl.hd | apply Repl.tl)); done))
local macro_rules | `(tactic| walk_at "sel") => `(tactic| ((repeat (with_reducible apply Sel.cons; (focus walk_at "mem"))); (with_reducible apply Sel.nil); (with_reducible (repeat (first | exact Dr.all | apply Dr.skip)); done)))
local macro_rules | `(tactic| walk_at "at") => `(tactic| (refine' Sep.at_ (by assumption) ?kkpk; (case kkpk => walk_at "mem")))
local macro_rules | `(tactic| walk_at "sq") => `(tactic| first | assumption | (refine' Sep.sq (by assumption) ?kkpk; (case kkpk => walk_at "mem")))
local macro_rules | `(tactic| walk_at "st") => `(tactic| first | assumption | (refine' Sep.st (by assumption) ?kkpk; (case kkpk => walk_at "mem")))
local macro_rules | `(tactic| walk_at "lk") => `(tactic| (repeat (first | (with_reducible exact lk_eq) | exact rfl | refine (lk_ne (by decide +kernel)).trans ?_)))
local macro_rules | `(tactic| walk_at "pf") => `(tactic| (repeat (first | (with_reducible exact pf_nil) | (with_reducible exact pf_eq) | (apply pf_ne; (focus decide +kernel)))))
local macro_rules | `(tactic| walk_at "ty") => `(tactic| first | exact ty_int | (refine' ty_lst ?kkh; (case kkh => walk_at "at")))
local macro_rules | `(tactic| walk_at "k1") => `(tactic| with_reducible first
  | refine q_seq ?_ | refine q_set ?_ | refine q_asg ?_ | refine q_ret ?_ | refine q_drop ?_ | refine q_next ?_ | refine q_c ?_ | refine q_op ?_ | refine q_un ?_ | refine q_nil ?_ | refine q_cons ?_ | refine q_cb ?_
  | refine q_call ?_ | refine q_ifs ?_ | refine q_if ?_ | refine q_test ?_ | refine q_tb ?_ | refine q_bl ?_ | refine q_notT ?_ | refine q_andT ?_ | refine q_orT ?_ | refine q_andV ?_ | refine q_orV ?_ | refine q_notV ?_
  | refine q_addA ?_ | refine q_subI ?_ | refine q_ltI ?_ | refine q_leI ?_ | refine q_gtI ?_ | refine q_geI ?_ | refine q_eqI ?_ | refine q_neI ?_ | refine q_abs ?_ | refine q_int ?_ | refine q_intB ?_ | refine q_max ?_ | refine q_min ?_
  | refine q_ipAdd ?_ | refine q_ipSub ?_ | refine q_gsub ?_ | refine q_augs ?_ | refine q_lst ?_ | refine q_tup ?_ | refine q_blI ?_ | refine iteT ?_ | refine iteF ?_ | refine iteNT ?_ | refine iteNF ?_
  | refine r_prop ?_ | refine r_fld ?_ | refine r_sfld ?_ | refine r_meth ?_ | refine r_make ?_ | refine r_sl ?_ | refine r_nopart ?_ | refine r_part ?_ | refine r_parti ?_ | refine r_gsl ?_ | refine r_bm ?_ | refine r_bm0 ?_ | refine r_for ?_ | refine r_ilist ?_ | refine r_irng ?_
  | refine r_gname ?_ | refine r_gcons ?_ | refine r_gnil ?_ | refine r_par ?_ | refine r_parA ?_ | refine r_chain ?_ | refine r_isN ?_ | refine r_tlc ?_ | refine r_yes ?_ | refine r_makek ?_ | refine r_neg ?_)
local macro_rules | `(tactic| walk_at "k2") => `(tactic| first
  | ((with_reducible refine' q_var ?kke ?_); (case kke => rfl))
  | ((with_reducible refine' q_aug ?kke ?_); (case kke => rfl))
  | ((with_reducible refine' q_ixL ?kks ?kke ?_); (case kks => walk_at "sq"); (case kke => first | rfl | assumption))
  | ((with_reducible refine' q_ixT ?kks ?kke ?_); (case kks => walk_at "st"); (case kke => first | rfl | assumption))
  | ((with_reducible refine' q_ixLL ?kks ?kke ?_); (case kks => walk_at "sq"); (case kke => first | rfl | assumption))
  | ((with_reducible refine' q_lenL ?kks ?_); (case kks => walk_at "sq"))
  | ((with_reducible refine' q_mulI ?kkc ?_); (case kkc => first | exact .inl (by omega) | exact .inr (by omega)))
  | ((with_reducible refine' q_modI ?kkc ?_); (case kkc => omega))
  | ((with_reducible refine' q_divI ?kkc ?_); (case kkc => exact ⟨by omega, by omega⟩))
  | ((with_reducible refine' q_powI ?kkc ?_); (case kkc => exact ⟨by decide, by decide, by decide⟩))
  | ((with_reducible refine' r_kfld ?kkS ?kkp ?kkc ?kkn ?kkl ?_); (case kkS => assumption); (case kkp => walk_at "mem"); (case kkc => walk_at "cls"); (case kkn => walk_at "na"); (case kkl => walk_at "lk"))
  | ((with_reducible refine' r_kprop ?kkS ?kkp ?_); (case kkS => assumption); (case kkp => walk_at "mem"))
  | ((with_reducible refine' r_kmeth ?kkS ?kkp ?kkl ?_); (case kkS => assumption); (case kkp => walk_at "mem"); (case kkl => walk_at "lk"))
  | ((with_reducible refine' r_calll ?kks ?_); (case kks => rfl))
  | ((with_reducible refine' r_tyl ?kks ?_); (case kks => walk_at "sq"))
  | ((with_reducible refine' r_isi (k := true) ?kkt ?kke ?_); (case kkt => walk_at "ty"); (case kke => decide +kernel))
  | ((with_reducible refine' r_isi (k := false) ?kkt ?kke ?_); (case kkt => walk_at "ty"); (case kke => decide +kernel)))
local macro_rules | `(tactic| walk_at "k3") => `(tactic| first
  | ((with_reducible refine' q_setS ?kkS ?kkr ?kke ?_); (case kkS => assumption); (case kkr => walk_at "rep"); (case kke => rfl); intro H S)
  | ((with_reducible refine' r_kset ?kkS ?kkr ?kkc ?kkn ?kkl ?kke ?_); (case kkS => assumption); (case kkr => walk_at "rep"); (case kkc => walk_at "cls"); (case kkn => walk_at "na"); (case kkl => first | exact Nat.le_of_ble_eq_true rfl | assumption | omega | (simp; done) | (simp; omega)); (case kke => walk_at "pf"); intro H S)
  | ((with_reducible refine' q_new ?kkS ?kkl ?_); (case kkS => assumption); (case kkl => first | exact Nat.le_of_ble_eq_true rfl | assumption | omega | (simp; done) | (simp; omega)); intro p H S)
  | ((with_reducible refine' q_newT ?kkS ?kkl ?_); (case kkS => assumption); (case kkl => first | exact Nat.le_of_ble_eq_true rfl | assumption | omega | (simp; done) | (simp; omega)); intro p H S)
  | ((with_reducible refine' r_knew ?kkS ?_); (case kkS => assumption); intro x dx H S)
  | ((with_reducible refine' r_knewk ?kkS ?kkl1 ?kkl2 ?_); (case kkS => assumption); (case kkl1 => rfl); (case kkl2 => rfl); intro x dx H S)
  | ((with_reducible refine' r_ksl ?kkS ?kks ?_); (case kkS => assumption); (case kks => walk_at "sq"); intro p H S)
  | ((with_reducible refine' r_list ?kkS ?kks ?_); (case kkS => assumption); (case kks => walk_at "sq"); intro p H S)
  | ((with_reducible refine' r_cat ?kkS ?kks1 ?kks2 ?kkz ?_); (case kkS => assumption); (case kks1 => walk_at "at"); (case kks2 => walk_at "at"); (case kkz => first | omega | (simp; omega)); intro p H S)
  | ((with_reducible refine' r_append ?kkS ?kkr ?kkz ?_); (case kkS => assumption); (case kkr => walk_at "rep"); (case kkz => first | omega | (simp; omega)); intro H S)
  | ((with_reducible refine' r_reverse ?kkS ?kkr ?_); (case kkS => assumption); (case kkr => walk_at "rep"); intro H S)
  | ((with_reducible refine' r_clear ?kkS ?kkr ?_); (case kkS => assumption); (case kkr => walk_at "rep"); intro H S))
local macro_rules | `(tactic| walk_at "gn") => `(tactic| repeat (first | walk_at "k1" | walk_at "k2"))
local macro_rules | `(tactic| walk_at "go") => `(tactic| repeat (first | walk_at "k1" | walk_at "k2" | walk_at "k3"))

local macro_rules | `(tactic| walk_at "cls") => `(tactic| with_reducible first | assumption | exact Txt.cl_Array (by assumption) | exact Txt.cl_Window (by assumption))
local macro_rules | `(tactic| walk_at "na") => `(tactic| with_reducible first | assumption | exact Txt.na_Array_cells (by assumption) | exact Txt.na_Array_size (by assumption) | exact Txt.na_Window__array (by assumption) | exact Txt.na_Window__length (by assumption) | exact Txt.na_Window__rule (by assumption))
section
variable {P : Program} {w : World} {K : PySem.W.Frag} {mg : Str → Option Value} {base : Heap} {c_Array c_Window : Addr}
theorem ls_last {a : Addr} {ds : List PyData} {d : PyData} {R : List SP} {H : Hp} (S : Sep (lsP K a (ds ++ [d]) :: R) H) : ∃ vs v, SqL K H a vs ∧ atI vs (-1) = some v ∧ Dp K H v d := by
  obtain ⟨vs, _, S⟩ := ls_open S
  have hs : SqL K H a vs := Sep.sq S .hd
  obtain ⟨G, l, h, _⟩ := S.tl
  have h : DpAll K H vs (ds ++ [d]) := DpAll.le l _ _ h
  have last : ∀ (ds : List PyData) (vs : List V), DpAll K H vs (ds ++ [d]) → ∃ us v, vs = us ++ [v] ∧ Dp K H v d := by
    intro ds
    induction ds with
    | nil =>
      intro vs h
      cases h with
      | cons h t =>
        cases t
        exact ⟨[], _, rfl, h⟩
    | cons e ds ih =>
      intro vs h
      cases h with
      | cons h t =>
        obtain ⟨us, v, rfl, hv⟩ := ih _ t
        exact ⟨_ :: us, v, rfl, hv⟩
  obtain ⟨us, v, rfl, hv⟩ := last ds vs h
  refine ⟨_, v, hs, ?_, hv⟩
  unfold atI ixN
  rw [if_neg (by decide), if_pos (by simp; omega)]
  have e : (-1 + ((us ++ [v]).length : Int)).toNat = us.length := by simp; omega
  rw [e]
  simp
theorem okd_looks (n : List (List Int)) : Okd 2 (dLk n) := okd_list fun d m => by
  obtain ⟨ms, _, rfl⟩ := List.mem_map.mp m
  exact okd_ints 0 ms
def spGrown (K : PySem.W.Frag) (c_Array c_Window Pt : Addr) : Sp := fun vs H Q _ => ∃ (b c' : Addr) (d : SD) (i : Nat) (R : List SP), vs = [.ref b, .ref d.l, .ref d.rm, .ref d.C, .ref d.t] ∧ i < 50 ∧ Sep (bag b :: tbP Pt posR qR (some c') :: sideP K c_Array c_Window c' d i :: R) H ∧
  ∀ H', Sep (bag b :: tbP Pt posR qR (some c') :: sideP K c_Array c_Window c' d (i + 1) :: R) H' → Q (.bl true) H'
theorem sc_l_grown : FnScope N_l_grown ["_law_bag_here", "_law_windows", "_law_spots", "_law_calls", "_law_notes"] (defScope s_l_grown) := ⟨rfl, rfl, rfl, by decide +kernel, rfl, by decide +kernel, by decide +kernel⟩
theorem ok_l_grown {f f1 Pt : Addr} (F : Dt K mg "_law_grown" s_l_grown ["_law_bag_here", "_law_windows", "_law_spots", "_law_calls", "_law_notes"] f) (T : Tx K mg c_Array c_Window) (D_l_take : Df P w K mg base 1 "_law_take" f1 ["_law_bag_here", "_law_many"] spTake) (M_marks : Mf P w K mg base 2 c_Window "marks" ["self"] (spSeen c_Array c_Window))
    (M_len : Mf P w K mg base 1 c_Window "__len__" ["self"] (spLen c_Window)) (M_room : Pf P w K mg base 1 c_Window "room" (spRoom c_Array c_Window)) (M_put : Mf P w K mg base 6 c_Window "put" ["self", "marks"] (spPut P w K mg base c_Array c_Window)) (M_iadd : Mf P w K mg base 7 c_Window "__iadd__" ["self", "other"] (spPut P w K mg base c_Array c_Window))
    (sfW : PySem.W.selfFirst K c_Window = true) : Df P w K mg base 8 "_law_grown" f ["_law_bag_here", "_law_windows", "_law_spots", "_law_calls", "_law_notes"] (spGrown K c_Array c_Window Pt) := by
  refine F.ok sc_l_grown (fun vs H Q E h => ?_) (fun cdv A outer s H vs Q E hr h => ?_)
  · obtain ⟨b, c', d, i, R, rfl, _⟩ := h
    rfl
  obtain ⟨b, c', d, i, R, rfl, hi, S, q⟩ := h
  refine ⟨_, (pss_cons (ps_set (i := 5) sc_l_grown.nd rfl (by first | exact Or.inl rfl | exact Or.inr rfl) (pe_df D_l_take (hr.mono (by decide)) (pa_cons (pv 0) (pa_cons (pe_callB (r := cOr (cLenQ K) cLenS) call_lenA (by rfl) T.z_len (by decide +kernel) (pa_cons (pv 1) pa_nil)) pa_nil))))
      (pss_cons (ps_par3 (i := 6) (j := 7) (l := 8) rfl sc_l_grown.nd rfl rfl rfl (by decide) (by decide) (by decide) rfl rfl rfl (pa_cons (pe_ix (r := rIx K) ix_seq (pv 1) (pv 5) (fun _ _ => rfl)) (pa_cons (pe_op (r := rMulA) op_mulA (pe_lst (pa_cons pe_int pa_nil)) (pe_op (r := rAddA) op_addA pe_int (pe_df D_l_take (hr.mono (by decide)) (pa_cons (pv 0) (pa_cons pe_int pa_nil))))) (pa_cons (pe_lc (own := [("_law_one", 11)]) rfl sc_l_grown.nd (pi_listK K (pv 1)) (blkOk_by (own := [("_law_one", 11)]) (N := N_l_grown) (sc := defScope s_l_grown) (by decide +kernel)) (fun _ _ _ _ _ => (pg_name (i := 11) sc_l_grown.nd rfl (by first | exact Or.inl rfl | exact Or.inr rfl))) (fun _ _ _ _ _ => pts_nil) (fun _ _ _ _ _ => (pe_mf0 M_marks (hr.mono (by decide)) (pv 11)))) pa_nil))) rfl)
      (pss_cons (ps_set (i := 9) sc_l_grown.nd rfl (by first | exact Or.inl rfl | exact Or.inr rfl) (pe_op (r := rAddA) op_addA (pe_callB (r := cLenOwn c_Window (spLen c_Window)) (call_lenOwn M_len (hr.mono (by decide))) (by rfl) T.z_len (by decide +kernel) (pa_cons (pv 6) pa_nil)) (pe_callB (r := cOr (cLenQ K) cLenS) call_lenA (by rfl) T.z_len (by decide +kernel) (pa_cons (pv 7) pa_nil))))
      (pss_cons (ps_set (i := 10) sc_l_grown.nd rfl (by first | exact Or.inl rfl | exact Or.inr rfl) (pe_cmpR (r := rGtI) op_gt (pv 9) (pe_pr M_room (hr.mono (by decide)) (pv 6)) (nomark _)))
      (C8.pss_cut (ps_if (pt_val (pv 10)) (pss_cons (ps_expr (pe_bmK K PySem.F.plainAttrs_list PySem.F.slot_list_append PySem.F.type_list_append mt_append (pv 3) (pa_cons (pe_tup (pa_cons (pe_pr M_room (hr.mono (by decide)) (pv 6)) (pa_cons (pv 9) pa_nil))) pa_nil)))
      (pss_one (ps_expr (pe_bmK K PySem.F.plainAttrs_list PySem.F.slot_list_append PySem.F.type_list_append mt_append (pv 2) (pa_cons (pe_op (r := rAddA) op_addA (pv 9) (pe_op (r := rModI) op_mod (pe_callTy (r := cInt) call_int1 (by rfl) T.z_int (by decide +kernel) (pa_cons (pe_callB (r := cOr (cLenQ K) cLenS) call_lenA (by rfl) T.z_len (by decide +kernel) (pa_cons (pv 3) pa_nil)) pa_nil)) pe_int)) pa_nil))))) (pss_one (ps_expr (pe_bmK K PySem.F.plainAttrs_list PySem.F.slot_list_append PySem.F.type_list_append mt_append (pv 2) (pa_cons (pe_pr M_room (hr.mono (by decide)) (pv 6)) pa_nil)))))
      (C8.pss_cut (ps_if (pt_cmpR (r := rEqA K) (op_eqA hr.units) (pe_df D_l_take (hr.mono (by decide)) (pa_cons (pv 0) (pa_cons pe_int pa_nil))) pe_int (nomark _)) (pss_cons (ps_aug (i := 6) sc_l_grown.nd rfl (by first | exact Or.inl rfl | exact Or.inr rfl) (pv 7) (ip_own M_iadd (hr.mono (by decide)) sfW))
      (pss_one (ps_expr (pe_bmK K PySem.F.plainAttrs_list PySem.F.slot_list_append PySem.F.type_list_append mt_append (pv 1) (pa_cons (pv 6) pa_nil))))) (pss_one (ps_expr (pe_bmK K PySem.F.plainAttrs_list PySem.F.slot_list_append PySem.F.type_list_append mt_append (pv 1) (pa_cons (pe_mf M_put (hr.mono (by decide)) (pv 6) (pa_cons (pv 7) pa_nil)) pa_nil)))))
      (pss_one (ps_ret (pe_or (pe_not (pv 10)) (pe_one (pe_cmpR (r := rEqA K) (op_eqA hr.units) (pe_ix (r := rIx K) ix_seq (pv 4) (pe_un un_neg pe_int) (fun _ _ => rfl)) (pv 8) (nomark _)))))))))))), ?_⟩
  obtain ⟨cl, cs, as, G, ws, qs, ns, ok, S⟩ := sd_open (S.s3 (A := sideP K c_Array c_Window c' d i) (B := bag b) (C := tbP Pt posR qR (some c')) (by walk_at "sel"))
  have wf := ok.k.wf
  have w1 := ok.k.mx.1
  have w2 := ok.k.mx.2
  have hq := ok.hq
  have hn := ok.hn
  have lenW : (wrefs ws).length = ws.length := List.length_map ..
  walk_at "go"
  refine ⟨b, _, _, rfl, by rw [lenW]; omega, by rw [lenW]; omega, S.s1 (A := bag b) (by walk_at "sel"), fun v H hv0 hv1 S => ?_⟩
  rw [lenW] at hv1
  obtain ⟨k, rfl⟩ := Int.eq_ofNat_of_zero_le hv0
  obtain ⟨x, hx⟩ : ∃ x, ws[k]? = some x := ⟨ws[k]'(by omega), List.getElem?_eq_getElem (by omega)⟩
  have hm : x ∈ ws := List.mem_of_getElem? hx
  walk_at "go"
  refine r_par3 ?_
  walk_at "go"
  refine q_ixL (K := K) (by walk_at "sq") (atI_nat (v := V.ref x.W) (by rw [List.getElem?_map, hx]; rfl)) ?_
  walk_at "go"
  refine ⟨b, _, _, rfl, by decide, by decide, S.s1 (A := bag b) (by walk_at "sel"), fun v H hv0 hv1 S => ?_⟩
  obtain ⟨j, rfl⟩ := Int.eq_ofNat_of_zero_le hv0
  walk_at "go"
  refine r_rep S (by walk_at "at") (by omega) (by omega) (by decide) fun M H S => ?_
  have er : (List.replicate ((1 : Int) + (j : Int)).toNat [V.int 5]).flatten = (List.replicate (1 + j) (5 : Int)).map V.int := by
    rw [show ((1 : Int) + (j : Int)).toNat = 1 + j by omega]
    generalize 1 + j = m
    induction m with
    | zero => rfl
    | succ m ih => rw [List.replicate_succ, List.flatten_cons, ih]; rfl
  rw [er] at S
  generalize hxs : List.replicate (1 + j) (5 : Int) = xs at S
  have lx : xs.length = 1 + j := by rw [← hxs, List.length_replicate]
  walk_at "go"
  refine r_look wf (S.s3 (A := pt d.l (.lst (wrefs ws))) (by walk_at "sel")) (by omega) (fun x => rfl) (fun x => rfl) fun D H S => ?_
  refine q_nil (r_parA3 ?_)
  walk_at "go"
  refine wl_len wf hm S (by walk_at "sel") ?_
  walk_at "go"
  have en : (x.n : Int) + ((xs.map V.int).length : Int) = ((x.n + xs.length : Nat) : Int) := by simp
  rw [en]
  walk_at "go"
  refine wl_prop wf hm S (by walk_at "sel") (wl_room wf hm S (by walk_at "sel") ?_)
  walk_at "go"
  have x1 := (wf.ok x hm).2.1
  have x2 := (wf.ok x hm).2.2
  have x3 := ok.k.n3 x.A (wf.ok x hm).1
  have x4 := wf.rm x.A (wf.ok x hm).1
  generalize hN : x.n + xs.length = N
  refine q_cut (Mid := fun σ H => ∃ (mv : Bool) (qs' : List (Int × Int)) (ns' : List (List (List Int))) (rs' : List Int), ((mv = true ∧ (G x.A).s < (N : Int) ∧ qs' = qs ++ [((G x.A).s, (N : Int))] ∧ ns' = ns ++ [looks G ws] ∧ rs' = rooms G ws ++ [(N : Int) + ((qs.length + 1 : Nat) : Int) % 3]) ∨ (mv = false ∧ (N : Int) ≤ (G x.A).s ∧ qs' = qs ∧ ns' = ns ∧ rs' = rooms G ws ++ [(G x.A).s])) ∧
    σ = [some (.ref b), some (.ref d.l), some (.ref d.rm), some (.ref d.C), some (.ref d.t), some (.int k), some (.ref x.W), some (.ref M), some (.ref D), some (.int (N : Int)), some (.bl mv), none] ∧
    Sep (bag b :: dat K D (dLk (looks G ws)) :: pt M (.lst (xs.map V.int)) :: tbP Pt posR qR (some c') :: pt d.f (FnO d.f (NFr cl c')) :: cells cs :: lsP K d.a (dq qs) :: lsP K d.t (ns.map dLk) :: pt d.l (.lst (wrefs ws)) :: ars c_Array as G :: wis c_Window (.ref d.f) ws :: lsP K d.C (dq qs') :: pt d.rm (.lst (rs'.map V.int)) :: R) H) ?_ ?_
  · walk_at "go"
    refine q_ite (fun hx => ?_) (fun hx => ?_)
    · obtain ⟨vq, lq, S⟩ := ls_open (S.s1 (A := lsP K d.C (dq qs)) (by walk_at "sel"))
      have lq : vq.length = qs.length := by rw [lq, List.length_map]
      walk_at "go"
      refine wl_prop wf hm S (by walk_at "sel") (wl_room wf hm S (by walk_at "sel") ?_)
      walk_at "go"
      have e1 : ((vq ++ [V.ref p]).length : Int) = ((qs.length + 1 : Nat) : Int) := by rw [List.length_append, lq]; rfl
      have S := dat_pair (K := K) (S.s1 (A := pt p (.tup [.int (G x.A).s, .int (N : Int)])) (by walk_at "sel"))
      have S := ls_add (S.s3 (A := pt d.C (.lst (vq ++ [.ref p]))) (B := dat K p (.tuple [.int (G x.A).s, .int (N : Int)])) (C := dall K vq (dq qs)) (by walk_at "sel"))
      have e2 : dq qs ++ [.tuple [.int (G x.A).s, .int (N : Int)]] = dq (qs ++ [((G x.A).s, (N : Int))]) := by simp [dq]
      have e3 : (rooms G ws).map V.int ++ [.int ((N : Int) + ((qs.length + 1 : Nat) : Int) % 3)] = (rooms G ws ++ [(N : Int) + ((qs.length + 1 : Nat) : Int) % 3]).map V.int := by rw [List.map_append]; rfl
      rw [e1, e2, e3] at S
      refine ⟨true, _, _, _, .inl ⟨rfl, hx, rfl, rfl, rfl⟩, by rw [decide_eq_true hx]; rfl, S.sel (As := [bag b, dat K D (dLk (looks G ws)), pt M (.lst (xs.map V.int)), tbP Pt posR qR (some c'), pt d.f (FnO d.f (NFr cl c')), cells cs, lsP K d.a (dq qs), lsP K d.t (ns.map dLk), pt d.l (.lst (wrefs ws)), ars c_Array as G, wis c_Window (.ref d.f) ws, lsP K d.C (dq (qs ++ [((G x.A).s, (N : Int))])), pt d.rm (.lst ((rooms G ws ++ [(N : Int) + ((qs.length + 1 : Nat) : Int) % 3]).map V.int))]) (Rs := R) (by walk_at "sel")⟩
    · walk_at "go"
      refine wl_prop wf hm S (by walk_at "sel") (wl_room wf hm S (by walk_at "sel") ?_)
      walk_at "go"
      have e3 : (rooms G ws).map V.int ++ [.int (G x.A).s] = (rooms G ws ++ [(G x.A).s]).map V.int := by rw [List.map_append]; rfl
      rw [e3] at S
      refine ⟨false, _, _, _, .inr ⟨rfl, by omega, rfl, rfl, rfl⟩, by rw [decide_eq_false hx]; rfl, S.sel (As := [bag b, dat K D (dLk (looks G ws)), pt M (.lst (xs.map V.int)), tbP Pt posR qR (some c'), pt d.f (FnO d.f (NFr cl c')), cells cs, lsP K d.a (dq qs), lsP K d.t (ns.map dLk), pt d.l (.lst (wrefs ws)), ars c_Array as G, wis c_Window (.ref d.f) ws, lsP K d.C (dq qs), pt d.rm (.lst ((rooms G ws ++ [(G x.A).s]).map V.int))]) (Rs := R) (by walk_at "sel")⟩
  rintro σ H ⟨mv, qs', ns', rs', hc, rfl, S⟩
  have hput : ∀ (H : Hp) (Q : VK), Sep (bag b :: dat K D (dLk (looks G ws)) :: pt M (.lst (xs.map V.int)) :: tbP Pt posR qR (some c') :: pt d.f (FnO d.f (NFr cl c')) :: cells cs :: lsP K d.a (dq qs) :: lsP K d.t (ns.map dLk) :: pt d.l (.lst (wrefs ws)) :: ars c_Array as G :: wis c_Window (.ref d.f) ws :: lsP K d.C (dq qs') :: pt d.rm (.lst (rs'.map V.int)) :: R) H →
      (∀ W' A' as' G' H', KB as' G' (ws ++ [(⟨W', A', N⟩ : Wi)]) (i + 1) → rooms G' (ws ++ [(⟨W', A', N⟩ : Wi)]) = rs' → Sep (bag b :: dat K D (dLk (looks G ws)) :: tbP Pt posR qR (some c') :: pt d.f (FnO d.f (NFr cl c')) :: cells cs :: lsP K d.a (dq qs') :: lsP K d.t (ns'.map dLk) :: pt d.l (.lst (wrefs ws)) :: ars c_Array as' G' :: wis c_Window (.ref d.f) (ws ++ [(⟨W', A', N⟩ : Wi)]) :: lsP K d.C (dq qs') :: pt d.rm (.lst (rs'.map V.int)) :: R) H' → Q (.ref W') H') → spPut P w K mg base c_Array c_Window [.ref x.W, .ref M] H Q E0 := by
    intro H Q S h
    subst hN
    have hxs0 : xs ≠ [] := fun e => by
      rw [e, List.length_nil] at lx
      omega
    have lt : ((G x.A).cs.take x.n).length = x.n := by rw [List.length_take]; omega
    refine wl_put wf hm hxs0 (by omega) S (by walk_at "sel") (fun hs W' H' S => ?_) (fun hs => ?_)
    · rcases hc with ⟨_, h2, _⟩ | ⟨_, h2, h3, h4, h5⟩
      · omega
      · have h3 := h3.symm
        have h4 := h4.symm
        subst h3
        subst h4
        subst h5
        have lc : ((G x.A).cs.take x.n ++ xs ++ (G x.A).cs.drop (x.n + xs.length)).length = x.n + xs.length + ((G x.A).cs.length - (x.n + xs.length)) := by rw [List.length_append, List.length_append, lt, List.length_drop]
        refine h W' x.A as _ H' (kb_put ok.k (by omega) hm W' (by omega) (by rw [lc]; omega) (by rw [lc]; omega) (by rw [lc]; omega) (by rw [lc]; omega)) ?_ (S.sel (As := [bag b, dat K D (dLk (looks G ws)), tbP Pt posR qR (some c'), pt d.f (FnO d.f (NFr cl c')), cells cs, lsP K d.a (dq qs), lsP K d.t (ns.map dLk), pt d.l (.lst (wrefs ws)), ars c_Array as (up G x.A ⟨(G x.A).L, (G x.A).cs.take x.n ++ xs ++ (G x.A).cs.drop (x.n + xs.length), (G x.A).s⟩), wis c_Window (.ref d.f) (ws ++ [(⟨W', x.A, x.n + xs.length⟩ : Wi)]), lsP K d.C (dq qs), pt d.rm (.lst ((rooms G ws ++ [(G x.A).s]).map V.int))]) (Rs := R) (by walk_at "sel"))
        rw [rooms, List.map_append, ← rooms, rooms_same]
        simp [up_same]
    · rcases hc with ⟨_, h2, rfl, rfl, rfl⟩ | ⟨_, h2, _⟩
      · refine wr_rule (c' := c') (qs := qs) (ns := ns) T M_marks ok.C ok.e wf (by omega) (by omega) (by omega) (S.sel (As := [pt d.f (FnO d.f (NFr cl c')), cells cs, tbP Pt posR qR (some c'), lsP K d.a (dq qs), lsP K d.t (ns.map dLk), pt d.l (.lst (wrefs ws)), ars c_Array as G, wis c_Window (.ref d.f) ws]) (by walk_at "sel")) fun H' S => ?_
        have S : Sep (pt d.f (FnO d.f (NFr cl c')) :: cells cs :: tbP Pt posR qR (some c') :: lsP K d.a (dq (qs ++ [((G x.A).s, ((x.n + xs.length : Nat) : Int))])) :: lsP K d.t ((ns ++ [looks G ws]).map dLk) :: pt d.l (.lst (wrefs ws)) :: ars c_Array as G :: wis c_Window (.ref d.f) ws :: bag b :: dat K D (dLk (looks G ws)) :: pt M (.lst (xs.map V.int)) :: lsP K d.C (dq (qs ++ [((G x.A).s, ((x.n + xs.length : Nat) : Int))])) :: pt d.rm (.lst ((rooms G ws ++ [((x.n + xs.length : Nat) : Int) + ((qs.length + 1 : Nat) : Int) % 3]).map V.int)) :: R) H' := S
        refine ⟨_, S.sel (As := [ars c_Array as G, wis c_Window (.ref d.f) ws, pt M (.lst (xs.map V.int))]) (by walk_at "sel"), fun W' A' Lx H' nA S => ?_⟩
        have S : Sep (ars c_Array (as ++ [A']) (up G A' ⟨Lx, sees G x ++ xs, ((x.n + xs.length : Nat) : Int) + ((qs.length + 1 : Nat) : Int) % 3⟩) :: wis c_Window (.ref d.f) (ws ++ [(⟨W', A', x.n + xs.length⟩ : Wi)]) :: pt M (.lst (xs.map V.int)) :: pt d.f (FnO d.f (NFr cl c')) :: cells cs :: tbP Pt posR qR (some c') :: lsP K d.a (dq (qs ++ [((G x.A).s, ((x.n + xs.length : Nat) : Int))])) :: lsP K d.t ((ns ++ [looks G ws]).map dLk) :: pt d.l (.lst (wrefs ws)) :: bag b :: dat K D (dLk (looks G ws)) :: lsP K d.C (dq (qs ++ [((G x.A).s, ((x.n + xs.length : Nat) : Int))])) :: pt d.rm (.lst ((rooms G ws ++ [((x.n + xs.length : Nat) : Int) + ((qs.length + 1 : Nat) : Int) % 3]).map V.int)) :: R) H' := S
        have el : (sees G x ++ xs).length = x.n + xs.length := by rw [List.length_append, sees, lt]
        have kk := kb_new (Lx := Lx) (W' := W') (s := ((x.n + xs.length : Nat) : Int) + ((qs.length + 1 : Nat) : Int) % 3) ok.k nA (ms := sees G x ++ xs) (by omega) (by omega) (by omega) (by omega)
        rw [el] at kk
        refine h W' A' _ _ H' kk ?_ (S.sel (As := [bag b, dat K D (dLk (looks G ws)), tbP Pt posR qR (some c'), pt d.f (FnO d.f (NFr cl c')), cells cs, lsP K d.a (dq (qs ++ [((G x.A).s, ((x.n + xs.length : Nat) : Int))])), lsP K d.t ((ns ++ [looks G ws]).map dLk), pt d.l (.lst (wrefs ws)), ars c_Array (as ++ [A']) (up G A' ⟨Lx, sees G x ++ xs, ((x.n + xs.length : Nat) : Int) + ((qs.length + 1 : Nat) : Int) % 3⟩), wis c_Window (.ref d.f) (ws ++ [(⟨W', A', x.n + xs.length⟩ : Wi)]), lsP K d.C (dq (qs ++ [((G x.A).s, ((x.n + xs.length : Nat) : Int))])), pt d.rm (.lst ((rooms G ws ++ [((x.n + xs.length : Nat) : Int) + ((qs.length + 1 : Nat) : Int) % 3]).map V.int))]) (Rs := R) (by walk_at "sel"))
        rw [rooms, List.map_append, ← rooms, rooms_new wf nA]
        simp [up_same]
      · omega
  refine q_cut (Mid := fun σ H => ∃ W' A' as' G' u6, σ = [some (.ref b), some (.ref d.l), some (.ref d.rm), some (.ref d.C), some (.ref d.t), some (.int k), u6, some (.ref M), some (.ref D), some (.int (N : Int)), some (.bl mv), none] ∧ KB as' G' (ws ++ [(⟨W', A', N⟩ : Wi)]) (i + 1) ∧ rooms G' (ws ++ [(⟨W', A', N⟩ : Wi)]) = rs' ∧ Sep (bag b :: dat K D (dLk (looks G ws)) :: tbP Pt posR qR (some c') :: pt d.f (FnO d.f (NFr cl c')) :: cells cs :: lsP K d.a (dq qs') :: lsP K d.t (ns'.map dLk) :: pt d.l (.lst (wrefs (ws ++ [(⟨W', A', N⟩ : Wi)]))) :: ars c_Array as' G' :: wis c_Window (.ref d.f) (ws ++ [(⟨W', A', N⟩ : Wi)]) :: lsP K d.C (dq qs') :: pt d.rm (.lst (rs'.map V.int)) :: R) H) ?_ ?_
  · walk_at "go"
    refine ⟨b, _, _, rfl, by decide, by decide, S.s1 (A := bag b) (by walk_at "sel"), fun v H hv0 hv1 S => ?_⟩
    walk_at "go"
    have S : Sep (bag b :: dat K D (dLk (looks G ws)) :: pt M (.lst (xs.map V.int)) :: tbP Pt posR qR (some c') :: pt d.f (FnO d.f (NFr cl c')) :: cells cs :: lsP K d.a (dq qs) :: lsP K d.t (ns.map dLk) :: pt d.l (.lst (wrefs ws)) :: ars c_Array as G :: wis c_Window (.ref d.f) ws :: lsP K d.C (dq qs') :: pt d.rm (.lst (rs'.map V.int)) :: R) H := S.sel (As := [bag b, dat K D (dLk (looks G ws)), pt M (.lst (xs.map V.int)), tbP Pt posR qR (some c'), pt d.f (FnO d.f (NFr cl c')), cells cs, lsP K d.a (dq qs), lsP K d.t (ns.map dLk), pt d.l (.lst (wrefs ws)), ars c_Array as G, wis c_Window (.ref d.f) ws, lsP K d.C (dq qs'), pt d.rm (.lst (rs'.map V.int))]) (Rs := R) (by walk_at "sel")
    refine q_ite (fun hx => ?_) (fun hx => ?_)
    · walk_at "go"
      obtain ⟨dw, hw⟩ := wl_at wf hm S (by walk_at "sel")
      refine ⟨x.W, dw, _, rfl, hw, hput _ _ S fun W' A' as' G' H k1 k2 S => ?_⟩
      clear hw
      walk_at "go"
      have ew : wrefs ws ++ [V.ref W'] = wrefs (ws ++ [(⟨W', A', N⟩ : Wi)]) := by simp [wrefs]
      rw [ew] at S
      exact ⟨W', A', as', G', _, rfl, k1, k2, S⟩
    · walk_at "go"
      refine wl_meth wf hm S (by walk_at "sel") (fun _ _ _ => rfl) ?_
      walk_at "go"
      refine hput _ _ S fun W' A' as' G' H k1 k2 S => ?_
      walk_at "go"
      have ew : wrefs ws ++ [V.ref W'] = wrefs (ws ++ [(⟨W', A', N⟩ : Wi)]) := by simp [wrefs]
      rw [ew] at S
      exact ⟨W', A', as', G', _, rfl, k1, k2, S⟩
  rintro σ H ⟨W', A', as', G', u6, rfl, k1, k2, S⟩
  have h2 : qs'.length ≤ i + 1 ∧ ns'.length ≤ i + 1 := by
    rcases hc with ⟨_, _, rfl, rfl, _⟩ | ⟨_, _, h3, h4, _⟩
    · simp only [List.length_append, List.length_cons, List.length_nil]
      omega
    · rw [h3, h4]; omega
  have fin : Q (.bl true) H := by
    rw [← k2] at S
    have S : Sep (pt d.f (FnO d.f (NFr cl c')) :: cells cs :: lsP K d.a (dq qs') :: lsP K d.t (ns'.map dLk) :: pt d.l (.lst (wrefs (ws ++ [(⟨W', A', N⟩ : Wi)]))) :: ars c_Array as' G' :: wis c_Window (.ref d.f) (ws ++ [(⟨W', A', N⟩ : Wi)]) :: lsP K d.C (dq qs') :: pt d.rm (.lst ((rooms G' (ws ++ [(⟨W', A', N⟩ : Wi)])).map V.int)) :: bag b :: tbP Pt posR qR (some c') :: R) H := S.sel (As := [pt d.f (FnO d.f (NFr cl c')), cells cs, lsP K d.a (dq qs'), lsP K d.t (ns'.map dLk), pt d.l (.lst (wrefs (ws ++ [(⟨W', A', N⟩ : Wi)]))), ars c_Array as' G', wis c_Window (.ref d.f) (ws ++ [(⟨W', A', N⟩ : Wi)]), lsP K d.C (dq qs'), pt d.rm (.lst ((rooms G' (ws ++ [(⟨W', A', N⟩ : Wi)])).map V.int)), bag b, tbP Pt posR qR (some c')]) (Rs := R) (by walk_at "sel")
    have S := sd_shut (i := i + 1) ⟨ok.C, ok.e, k1, h2.1, h2.2⟩ S
    exact q _ (S.s3 (A := bag b) (B := tbP Pt posR qR (some c')) (by walk_at "sel"))
  cases mv with
  | false =>
    walk_at "go"
    exact fin
  | true =>
    walk_at "go"
    rcases hc with ⟨_, _, _, h4, _⟩ | ⟨h, _⟩
    · have S4 := S.s1 (A := lsP K d.t (ns'.map dLk)) (by walk_at "sel")
      rw [h4, List.map_append, List.map_cons, List.map_nil] at S4
      obtain ⟨vs, v, hs, ha, hv⟩ := ls_last S4
      have hD := dat_dp (S.s1 (A := dat K D (dLk (looks G ws))) (by walk_at "sel"))
      refine q_ixL (K := K) hs ha ?_
      walk_at "go"
      exact r_eq_same hv hD (okd_looks _) (by decide) fin
    · cases h
end

end Pf

set_option Elab.async false
set_option linter.all false
set_option maxRecDepth 100000
set_option maxHeartbeats 4000000
namespace Pf
open PySem L2 Kt NdefX
set_option hygiene false
local macro_rules | `(tactic| walk_at "mem") => `(tactic| (with_reducible (repeat (first | exact Pick.hd | apply Pick.tl)); done))
local macro_rules | `(tactic| walk_at "rep") => `(tactic| (with_reducible (repeat (first | exact Repl.hd | apply Repl.tl)); done))
local macro_rules | `(tactic| walk_at "sel") => `(tactic| ((repeat (with_reducible apply Sel.cons; (focus walk_at "mem"))); (with_reducible apply Sel.nil); (with_reducible (repeat (first | exact Dr.all | apply Dr.skip)); done)))
local macro_rules | `(tactic| walk_at "at") => `(tactic| (refine' Sep.at_ (by assumption) ?kkpk; (case kkpk => walk_at "mem")))
local macro_rules | `(tactic| walk_at "sq") => `(tactic| first | assumption | (refine' Sep.sq (by assumption) ?kkpk; (case kkpk => walk_at "mem")))
local macro_rules | `(tactic| walk_at "st") => `(tactic| first | assumption | (refine' Sep.st (by assumption) ?kkpk; (case kkpk => walk_at "mem")))
local macro_rules | `(tactic| walk_at "lk") => `(tactic| (repeat (first | (with_reducible exact lk_eq) | exact rfl | refine (lk_ne (by decide +kernel)).trans ?_)))
local macro_rules | `(tactic| walk_at "pf") => `(tactic| (repeat (first | (with_reducible exact pf_nil) | (with_reducible exact pf_eq) | (apply pf_ne; (focus decide +kernel)))))
local macro_rules | `(tactic| walk_at "ty") => `(tactic| first | exact ty_int | (refine' ty_lst ?kkh; (case kkh => walk_at "at")))
local macro_rules | `(tactic| walk_at "k1") => `(tactic| with_reducible first
  | refine q_seq ?_ | refine q_set ?_ | refine q_asg ?_ | refine q_ret ?_ | refine q_drop ?_ | refine q_next ?_ | refine q_c ?_ | refine q_op ?_ | refine q_un ?_ | refine q_nil ?_ | refine q_cons ?_ | refine q_cb ?_
  | refine q_call ?_ | refine q_ifs ?_ | refine q_if ?_ | refine q_test ?_ | refine q_tb ?_ | refine q_bl ?_ | refine q_notT ?_ | refine q_andT ?_ | refine q_orT ?_ | refine q_andV ?_ | refine q_orV ?_ | refine q_notV ?_
  | refine q_addA ?_ | refine q_subI ?_ | refine q_ltI ?_ | refine q_leI ?_ | refine q_gtI ?_ | refine q_geI ?_ | refine q_eqI ?_ | refine q_neI ?_ | refine q_abs ?_ | refine q_int ?_ | refine q_intB ?_ | refine q_max ?_ | refine q_min ?_
  | refine q_ipAdd ?_ | refine q_ipSub ?_ | refine q_gsub ?_ | refine q_augs ?_ | refine q_lst ?_ | refine q_tup ?_ | refine q_blI ?_ | refine iteT ?_ | refine iteF ?_ | refine iteNT ?_ | refine iteNF ?_
  | refine r_prop ?_ | refine r_fld ?_ | refine r_sfld ?_ | refine r_meth ?_ | refine r_make ?_ | refine r_sl ?_ | refine r_nopart ?_ | refine r_part ?_ | refine r_parti ?_ | refine r_gsl ?_ | refine r_bm ?_ | refine r_bm0 ?_ | refine r_for ?_ | refine r_ilist ?_ | refine r_irng ?_
  | refine r_gname ?_ | refine r_gcons ?_ | refine r_gnil ?_ | refine r_par ?_ | refine r_parA ?_ | refine r_chain ?_ | refine r_isN ?_ | refine r_tlc ?_ | refine r_yes ?_ | refine r_makek ?_ | refine r_neg ?_)
local macro_rules | `(tactic| walk_at "k2") => `(tactic| first
  | ((with_reducible refine' q_var ?kke ?_); (case kke => rfl))
  | ((with_reducible refine' q_aug ?kke ?_); (case kke => rfl))
  | ((with_reducible refine' q_ixL ?kks ?kke ?_); (case kks => walk_at "sq"); (case kke => first | rfl | assumption))
  | ((with_reducible refine' q_ixT ?kks ?kke ?_); (case kks => walk_at "st"); (case kke => first | rfl | assumption))
  | ((with_reducible refine' q_ixLL ?kks ?kke ?_); (case kks => walk_at "sq"); (case kke => first | rfl | assumption))
  | ((with_reducible refine' q_lenL ?kks ?_); (case kks => walk_at "sq"))
  | ((with_reducible refine' q_mulI ?kkc ?_); (case kkc => first | exact .inl (by omega) | exact .inr (by omega)))
  | ((with_reducible refine' q_modI ?kkc ?_); (case kkc => omega))
  | ((with_reducible refine' q_divI ?kkc ?_); (case kkc => exact ⟨by omega, by omega⟩))
  | ((with_reducible refine' q_powI ?kkc ?_); (case kkc => exact ⟨by decide, by decide, by decide⟩))
  | ((with_reducible refine' r_kfld ?kkS ?kkp ?kkc ?kkn ?kkl ?_); (case kkS => assumption); (case kkp => walk_at "mem"); (case kkc => walk_at "cls"); (case kkn => walk_at "na"); (case kkl => walk_at "lk"))
  | ((with_reducible refine' r_kprop ?kkS ?kkp ?_); (case kkS => assumption); (case kkp => walk_at "mem"))
  | ((with_reducible refine' r_kmeth ?kkS ?kkp ?kkl ?_); (case kkS => assumption); (case kkp => walk_at "mem"); (case kkl => walk_at "lk"))
  | ((with_reducible refine' r_calll ?kks ?_); (case kks => rfl))
  | ((with_reducible refine' r_tyl ?kks ?_); (case kks => walk_at "sq"))
  | ((with_reducible refine' r_isi (k := true) ?kkt ?kke ?_); (case kkt => walk_at "ty"); (case kke => decide +kernel))
  | ((with_reducible refine' r_isi (k := false) ?kkt ?kke ?_); (case kkt => walk_at "ty"); (case kke => decide +kernel)))
local macro_rules | `(tactic| walk_at "k3") => `(tactic| first
  | ((with_reducible refine' q_setS ?kkS ?kkr ?kke ?_); (case kkS => assumption); (case kkr => walk_at "rep"); (case kke => rfl); intro H S)
  | ((with_reducible refine' r_kset ?kkS ?kkr ?kkc ?kkn ?kkl ?kke ?_); (case kkS => assumption); (case kkr => walk_at "rep"); (case kkc => walk_at "cls"); (case kkn => walk_at "na"); (case kkl => first | exact Nat.le_of_ble_eq_true rfl | assumption | omega | (simp; done) | (simp; omega)); (case kke => walk_at "pf"); intro H S)
  | ((with_reducible refine' q_new ?kkS ?kkl ?_); (case kkS => assumption); (case kkl => first | exact Nat.le_of_ble_eq_true rfl | assumption | omega | (simp; done) | (simp; omega)); intro p H S)
  | ((with_reducible refine' q_newT ?kkS ?kkl ?_); (case kkS => assumption); (case kkl => first | exact Nat.le_of_ble_eq_true rfl | assumption | omega | (simp; done) | (simp; omega)); intro p H S)
  | ((with_reducible refine' r_knew ?kkS ?_); (case kkS => assumption); intro x dx H S)
  | ((with_reducible refine' r_knewk ?kkS ?kkl1 ?kkl2 ?_); (case kkS => assumption); (case kkl1 => rfl); (case kkl2 => rfl); intro x dx H S)
  | ((with_reducible refine' r_ksl ?kkS ?kks ?_); (case kkS => assumption); (case kks => walk_at "sq"); intro p H S)
  | ((with_reducible refine' r_list ?kkS ?kks ?_); (case kkS => assumption); (case kks => walk_at "sq"); intro p H S)
  | ((with_reducible refine' r_cat ?kkS ?kks1 ?kks2 ?kkz ?_); (case kkS => assumption); (case kks1 => walk_at "at"); (case kks2 => walk_at "at"); (case kkz => first | omega | (simp; omega)); intro p H S)
  | ((with_reducible refine' r_append ?kkS ?kkr ?kkz ?_); (case kkS => assumption); (case kkr => walk_at "rep"); (case kkz => first | omega | (simp; omega)); intro H S)
  | ((with_reducible refine' r_reverse ?kkS ?kkr ?_); (case kkS => assumption); (case kkr => walk_at "rep"); intro H S)
  | ((with_reducible refine' r_clear ?kkS ?kkr ?_); (case kkS => assumption); (case kkr => walk_at "rep"); intro H S))
local macro_rules | `(tactic| walk_at "gn") => `(tactic| repeat (first | walk_at "k1" | walk_at "k2"))
local macro_rules | `(tactic| walk_at "go") => `(tactic| repeat (first | walk_at "k1" | walk_at "k2" | walk_at "k3"))

local macro_rules | `(tactic| walk_at "cls") => `(tactic| with_reducible first | assumption | exact Txt.cl_Array (by assumption) | exact Txt.cl_Window (by assumption))
local macro_rules | `(tactic| walk_at "na") => `(tactic| with_reducible first | assumption | exact Txt.na_Array_cells (by assumption) | exact Txt.na_Array_size (by assumption) | exact Txt.na_Window__array (by assumption) | exact Txt.na_Window__length (by assumption) | exact Txt.na_Window__rule (by assumption))
section
variable {P : Program} {w : World} {K : PySem.W.Frag} {mg : Str → Option Value} {base : Heap} {c_Array c_Window : Addr}
def spOther (K : PySem.W.Frag) (c_Array c_Window : Addr) : Sp := fun vs H Q _ => ∃ (b c' : Addr) (d : SD) (i : Nat) (R : List SP), vs = [.ref b, .ref d.l, .ref d.rm] ∧ i < 50 ∧ Sep (bag b :: sideP K c_Array c_Window c' d i :: R) H ∧
  ∀ H', Sep (bag b :: sideP K c_Array c_Window c' d (i + 1) :: R) H' → Q .non H'
theorem sc_l_other : FnScope N_l_other ["_law_bag_here", "_law_windows", "_law_spots"] (defScope s_l_other) := ⟨rfl, rfl, rfl, by decide +kernel, rfl, by decide +kernel, by decide +kernel⟩
theorem ok_l_other {f f1 : Addr} (F : Dt K mg "_law_other" s_l_other ["_law_bag_here", "_law_windows", "_law_spots"] f) (T : Tx K mg c_Array c_Window) (D_l_take : Df P w K mg base 1 "_law_take" f1 ["_law_bag_here", "_law_many"] spTake)
    (M_len : Mf P w K mg base 1 c_Window "__len__" ["self"] (spLen c_Window)) (M_room : Pf P w K mg base 1 c_Window "room" (spRoom c_Array c_Window)) (M_cut : Mf P w K mg base 6 c_Window "cut" ["self", "many"] (spCut c_Array c_Window)) (M_copied : Mf P w K mg base 6 c_Window "copied" ["self"] (spCopied c_Array c_Window))
    (M_setitem : Mf P w K mg base 3 c_Window "__setitem__" ["self", "at", "worth"] (spSetW c_Array c_Window)) (nqW : PySem.W.noSeq K c_Window = true) : Df P w K mg base 8 "_law_other" f ["_law_bag_here", "_law_windows", "_law_spots"] (spOther K c_Array c_Window) := by
  refine F.ok sc_l_other (fun vs H Q E h => ?_) (fun cdv A outer s H vs Q E hr h => ?_)
  · obtain ⟨b, c', d, i, R, rfl, _⟩ := h
    rfl
  obtain ⟨b, c', d, i, R, rfl, hi, S, q⟩ := h
  refine ⟨_, (pss_cons (ps_par (i := 3) (j := 4) rfl sc_l_other.nd rfl rfl (by decide) rfl rfl (pa_cons (pe_df D_l_take (hr.mono (by decide)) (pa_cons (pv 0) (pa_cons (pe_callB (r := cOr (cLenQ K) cLenS) call_lenA (by rfl) T.z_len (by decide +kernel) (pa_cons (pv 1) pa_nil)) pa_nil))) (pa_cons (pe_df D_l_take (hr.mono (by decide)) (pa_cons (pv 0) (pa_cons pe_int pa_nil))) pa_nil)) rfl)
      (pss_cons (ps_set (i := 5) sc_l_other.nd rfl (by first | exact Or.inl rfl | exact Or.inr rfl) (pe_ix (r := rIx K) ix_seq (pv 1) (pv 3) (fun _ _ => rfl)))
      (pss_one (ps_if (pt_cmpR (r := rEqA K) (op_eqA hr.units) (pv 4) pe_int (nomark _)) (pss_cons (ps_expr (pe_bmK K PySem.F.plainAttrs_list PySem.F.slot_list_append PySem.F.type_list_append mt_append (pv 1) (pa_cons (pe_mf M_cut (hr.mono (by decide)) (pv 5) (pa_cons (pe_op (r := rAddA) op_addA pe_int (pe_df D_l_take (hr.mono (by decide)) (pa_cons (pv 0) (pa_cons (pe_callB (r := cLenOwn c_Window (spLen c_Window)) (call_lenOwn M_len (hr.mono (by decide))) (by rfl) T.z_len (by decide +kernel) (pa_cons (pv 5) pa_nil)) pa_nil)))) pa_nil)) pa_nil)))
      (pss_one (ps_expr (pe_bmK K PySem.F.plainAttrs_list PySem.F.slot_list_append PySem.F.type_list_append mt_append (pv 2) (pa_cons (pe_pr M_room (hr.mono (by decide)) (pv 5)) pa_nil))))) (pss_one (ps_if (pt_cmpR (r := rEqA K) (op_eqA hr.units) (pv 4) pe_int (nomark _)) (pss_cons (ps_expr (pe_bmK K PySem.F.plainAttrs_list PySem.F.slot_list_append PySem.F.type_list_append mt_append (pv 1) (pa_cons (pe_mf0 M_copied (hr.mono (by decide)) (pv 5)) pa_nil)))
      (pss_one (ps_expr (pe_bmK K PySem.F.plainAttrs_list PySem.F.slot_list_append PySem.F.type_list_append mt_append (pv 2) (pa_cons (pe_callB (r := cLenOwn c_Window (spLen c_Window)) (call_lenOwn M_len (hr.mono (by decide))) (by rfl) T.z_len (by decide +kernel) (pa_cons (pv 5) pa_nil)) pa_nil))))) (pss_one (ps_asg pe_int (pg_sub (pv 5) (pe_df D_l_take (hr.mono (by decide)) (pa_cons (pv 0) (pa_cons (pe_callB (r := cLenOwn c_Window (spLen c_Window)) (call_lenOwn M_len (hr.mono (by decide))) (by rfl) T.z_len (by decide +kernel) (pa_cons (pv 5) pa_nil)) pa_nil))) (set_own M_setitem (hr.mono (by decide)) nqW)))))))))), ?_⟩
  obtain ⟨cl, cs, as, G, ws, qs, ns, ok, S⟩ := sd_open (S.s2 (A := sideP K c_Array c_Window c' d i) (B := bag b) (by walk_at "sel"))
  have wf := ok.k.wf
  have w1 := ok.k.mx.1
  have w2 := ok.k.mx.2
  have hq := ok.hq
  have hn := ok.hn
  have fin : ∀ (as' : List Addr) (G' : GS) (ws' : List Wi) (H' : Hp), KB as' G' ws' (i + 1) → Sep (bag b :: pt d.f (FnO d.f (NFr cl c')) :: cells cs :: lsP K d.a (dq qs) :: lsP K d.t (ns.map dLk) :: pt d.l (.lst (wrefs ws')) :: ars c_Array as' G' :: wis c_Window (.ref d.f) ws' :: lsP K d.C (dq qs) :: pt d.rm (.lst ((rooms G' ws').map V.int)) :: R) H' → Q .non H' := fun as' G' ws' H' k1 S => by
    have S : Sep (pt d.f (FnO d.f (NFr cl c')) :: cells cs :: lsP K d.a (dq qs) :: lsP K d.t (ns.map dLk) :: pt d.l (.lst (wrefs ws')) :: ars c_Array as' G' :: wis c_Window (.ref d.f) ws' :: lsP K d.C (dq qs) :: pt d.rm (.lst ((rooms G' ws').map V.int)) :: bag b :: R) H' := S.sel (As := [pt d.f (FnO d.f (NFr cl c')), cells cs, lsP K d.a (dq qs), lsP K d.t (ns.map dLk), pt d.l (.lst (wrefs ws')), ars c_Array as' G', wis c_Window (.ref d.f) ws', lsP K d.C (dq qs), pt d.rm (.lst ((rooms G' ws').map V.int)), bag b]) (Rs := R) (by walk_at "sel")
    have S := sd_shut (i := i + 1) ⟨ok.C, ok.e, k1, by omega, by omega⟩ S
    exact q _ S.swap
  have lenW : (wrefs ws).length = ws.length := List.length_map ..
  walk_at "go"
  refine ⟨b, _, _, rfl, by rw [lenW]; omega, by rw [lenW]; omega, S.s1 (A := bag b) (by walk_at "sel"), fun v H hv0 hv1 S => ?_⟩
  rw [lenW] at hv1
  obtain ⟨k, rfl⟩ := Int.eq_ofNat_of_zero_le hv0
  obtain ⟨x, hx⟩ : ∃ x, ws[k]? = some x := ⟨ws[k]'(by omega), List.getElem?_eq_getElem (by omega)⟩
  have hm : x ∈ ws := List.mem_of_getElem? hx
  walk_at "go"
  refine ⟨b, _, _, rfl, by decide, by decide, S.s1 (A := bag b) (by walk_at "sel"), fun v H hv2 hv3 S => ?_⟩
  walk_at "go"
  refine q_ixL (K := K) (by walk_at "sq") (atI_nat (v := V.ref x.W) (by rw [List.getElem?_map, hx]; rfl)) ?_
  walk_at "go"
  have x1 := (wf.ok x hm).2.1
  have x2 := (wf.ok x hm).2.2
  have x3 := ok.k.n3 x.A (wf.ok x hm).1
  have x4 := wf.rm x.A (wf.ok x hm).1
  refine q_ite (fun h0 => ?_) (fun h0 => ?_)
  · walk_at "go"
    refine wl_meth wf hm S (by walk_at "sel") (fun _ _ _ => rfl) ?_
    walk_at "go"
    refine wl_len wf hm S (by walk_at "sel") ?_
    walk_at "go"
    refine ⟨b, _, _, rfl, by omega, by omega, S.s1 (A := bag b) (by walk_at "sel"), fun z H hz0 hz1 S => ?_⟩
    obtain ⟨m, rfl⟩ := Int.eq_ofNat_of_zero_le hz0
    walk_at "go"
    have e1 : (1 : Int) + (m : Int) = ((1 + m : Nat) : Int) := by omega
    rw [e1]
    refine wl_cut (m := 1 + m) wf hm (by omega) (by omega) S (by walk_at "sel") fun W' H S => ?_
    have kk := kb_add ok.k hm (m := 1 + m) (by omega) (by omega) W'
    have hm' : x ∈ (ws ++ [(⟨W', x.A, 1 + m⟩ : Wi)]) := List.mem_append_left _ hm
    have S : Sep (ars c_Array as G :: wis c_Window (.ref d.f) (ws ++ [(⟨W', x.A, 1 + m⟩ : Wi)]) :: _) H := S
    walk_at "go"
    refine wl_prop kk.wf hm' S (by walk_at "sel") (wl_room kk.wf hm' S (by walk_at "sel") ?_)
    walk_at "go"
    have ew : wrefs ws ++ [V.ref W'] = wrefs (ws ++ [(⟨W', x.A, 1 + m⟩ : Wi)]) := by simp [wrefs]
    have er : (rooms G ws).map V.int ++ [.int (G x.A).s] = (rooms G (ws ++ [(⟨W', x.A, 1 + m⟩ : Wi)])).map V.int := by simp [rooms]
    rw [ew, er] at S
    exact fin _ _ _ _ kk (S.sel (As := [bag b, pt d.f (FnO d.f (NFr cl c')), cells cs, lsP K d.a (dq qs), lsP K d.t (ns.map dLk), pt d.l (.lst (wrefs (ws ++ [(⟨W', x.A, 1 + m⟩ : Wi)]))), ars c_Array as G, wis c_Window (.ref d.f) (ws ++ [(⟨W', x.A, 1 + m⟩ : Wi)]), lsP K d.C (dq qs), pt d.rm (.lst ((rooms G (ws ++ [(⟨W', x.A, 1 + m⟩ : Wi)])).map V.int))]) (Rs := R) (by walk_at "sel"))
  · walk_at "go"
    refine q_ite (fun h1 => ?_) (fun h1 => ?_)
    · walk_at "go"
      refine wl_meth wf hm S (by walk_at "sel") (fun _ _ _ => rfl) ?_
      walk_at "go"
      refine wl_copied wf hm S (by walk_at "sel") fun W' A' Lx H nA S => ?_
      have el : (sees G x).length = x.n := by rw [sees, List.length_take]; omega
      have kk := kb_new (Lx := Lx) (W' := W') (s := (x.n : Int)) ok.k nA (ms := sees G x) (by omega) (by omega) (by omega) (by omega)
      rw [el] at kk
      have hm' : x ∈ (ws ++ [(⟨W', A', x.n⟩ : Wi)]) := List.mem_append_left _ hm
      have S : Sep (ars c_Array (as ++ [A']) (up G A' ⟨Lx, sees G x, (x.n : Int)⟩) :: wis c_Window (.ref d.f) (ws ++ [(⟨W', A', x.n⟩ : Wi)]) :: _) H := S
      walk_at "go"
      refine wl_len kk.wf hm' S (by walk_at "sel") ?_
      walk_at "go"
      have ew : wrefs ws ++ [V.ref W'] = wrefs (ws ++ [(⟨W', A', x.n⟩ : Wi)]) := by simp [wrefs]
      have er : (rooms G ws).map V.int ++ [.int x.n] = (rooms (up G A' ⟨Lx, sees G x, (x.n : Int)⟩) (ws ++ [(⟨W', A', x.n⟩ : Wi)])).map V.int := by
        have e0 : rooms (up G A' ⟨Lx, sees G x, (x.n : Int)⟩) (ws ++ [(⟨W', A', x.n⟩ : Wi)]) = rooms (up G A' ⟨Lx, sees G x, (x.n : Int)⟩) ws ++ [(x.n : Int)] := by simp [rooms, up_same]
        rw [e0, rooms_new wf nA, List.map_append]
        rfl
      rw [ew, er] at S
      exact fin _ _ _ _ kk (S.sel (As := [bag b, pt d.f (FnO d.f (NFr cl c')), cells cs, lsP K d.a (dq qs), lsP K d.t (ns.map dLk), pt d.l (.lst (wrefs (ws ++ [(⟨W', A', x.n⟩ : Wi)]))), ars c_Array (as ++ [A']) (up G A' ⟨Lx, sees G x, (x.n : Int)⟩), wis c_Window (.ref d.f) (ws ++ [(⟨W', A', x.n⟩ : Wi)]), lsP K d.C (dq qs), pt d.rm (.lst ((rooms (up G A' ⟨Lx, sees G x, (x.n : Int)⟩) (ws ++ [(⟨W', A', x.n⟩ : Wi)])).map V.int))]) (Rs := R) (by walk_at "sel"))
    · walk_at "go"
      refine wl_len wf hm S (by walk_at "sel") ?_
      walk_at "go"
      refine ⟨b, _, _, rfl, by omega, by omega, S.s1 (A := bag b) (by walk_at "sel"), fun z H hz0 hz1 S => ?_⟩
      obtain ⟨m, rfl⟩ := Int.eq_ofNat_of_zero_le hz0
      walk_at "go"
      have kk := kb_upd ok.k (by omega) hm (cs' := (G x.A).cs.set m 3) (by rw [List.length_set]; omega) (by rw [List.length_set]; omega) (by rw [List.length_set]; omega)
      refine wl_setown wf hm (k := m) (by omega) S (by walk_at "sel") fun H S => ?_
      have S : Sep (ars c_Array as (up G x.A ⟨(G x.A).L, (G x.A).cs.set m 3, (G x.A).s⟩) :: wis c_Window (.ref d.f) ws :: _) H := S
      have er : rooms G ws = rooms (up G x.A ⟨(G x.A).L, (G x.A).cs.set m 3, (G x.A).s⟩) ws := rooms_same.symm
      rw [er] at S
      exact fin _ _ _ _ kk (S.sel (As := [bag b, pt d.f (FnO d.f (NFr cl c')), cells cs, lsP K d.a (dq qs), lsP K d.t (ns.map dLk), pt d.l (.lst (wrefs ws)), ars c_Array as (up G x.A ⟨(G x.A).L, (G x.A).cs.set m 3, (G x.A).s⟩), wis c_Window (.ref d.f) ws, lsP K d.C (dq qs), pt d.rm (.lst ((rooms (up G x.A ⟨(G x.A).L, (G x.A).cs.set m 3, (G x.A).s⟩) ws).map V.int))]) (Rs := R) (by walk_at "sel"))
end

end Pf

set_option Elab.async false
set_option linter.all false
set_option maxRecDepth 100000
set_option maxHeartbeats 4000000
namespace Pf
open PySem L2 Kt NdefX
set_option hygiene false
local macro_rules | `(tactic| walk_at "mem") => `(tactic| (with_reducible (repeat (first | exact Pick.hd | apply Pick.tl)); done))
local macro_rules | `(tactic| walk_at "rep") => `(tactic| (with_reducible (repeat (first | exact Repl.hd | apply Repl.tl)); done))
local macro_rules | `(tactic| walk_at "sel") => `(tactic| ((repeat (with_reducible apply Sel.cons; (focus walk_at "mem"))); (with_reducible apply Sel.nil); (with_reducible (repeat (first | exact Dr.all | apply Dr.skip)); done)))
local macro_rules | `(tactic| walk_at "at") => `(tactic| (refine' Sep.at_ (by assumption) ?kkpk; (case kkpk => walk_at "mem")))
local macro_rules | `(tactic| walk_at "sq") => `(tactic| first | assumption | (refine' Sep.sq (by assumption) ?kkpk; (case kkpk => walk_at "mem")))
local macro_rules | `(tactic| walk_at "st") => `(tactic| first | assumption | (refine' Sep.st (by assumption) ?kkpk; (case kkpk => walk_at "mem")))
local macro_rules | `(tactic| walk_at "lk") => `(tactic| (repeat (first | (with_reducible exact lk_eq) | exact rfl | refine (lk_ne (by decide +kernel)).trans ?_)))
local macro_rules | `(tactic| walk_at "pf") => `(tactic| (repeat (first | (with_reducible exact pf_nil) | (with_reducible exact pf_eq) | (apply pf_ne; (focus decide +kernel)))))
local macro_rules | `(tactic| walk_at "ty") => `(tactic| first | exact ty_int | (refine' ty_lst ?kkh; (case kkh => walk_at "at")))
local macro_rules | `(tactic| walk_at "k1") => `(tactic| with_reducible first
  | refine q_seq ?_ | refine q_set ?_ | refine q_asg ?_ | refine q_ret ?_ | refine q_drop ?_ | refine q_next ?_ | refine q_c ?_ | refine q_op ?_ | refine q_un ?_ | refine q_nil ?_ | refine q_cons ?_ | refine q_cb ?_
  | refine q_call ?_ | refine q_ifs ?_ | refine q_if ?_ | refine q_test ?_ | refine q_tb ?_ | refine q_bl ?_ | refine q_notT ?_ | refine q_andT ?_ | refine q_orT ?_ | refine q_andV ?_ | refine q_orV ?_ | refine q_notV ?_
  | refine q_addA ?_ | refine q_subI ?_ | refine q_ltI ?_ | refine q_leI ?_ | refine q_gtI ?_ | refine q_geI ?_ | refine q_eqI ?_ | refine q_neI ?_ | refine q_abs ?_ | refine q_int ?_ | refine q_intB ?_ | refine q_max ?_ | refine q_min ?_
  | refine q_ipAdd ?_ | refine q_ipSub ?_ | refine q_gsub ?_ | refine q_augs ?_ | refine q_lst ?_ | refine q_tup ?_ | refine q_blI ?_ | refine iteT ?_ | refine iteF ?_ | refine iteNT ?_ | refine iteNF ?_
  | refine r_prop ?_ | refine r_fld ?_ | refine r_sfld ?_ | refine r_meth ?_ | refine r_make ?_ | refine r_sl ?_ | refine r_nopart ?_ | refine r_part ?_ | refine r_parti ?_ | refine r_gsl ?_ | refine r_bm ?_ | refine r_bm0 ?_ | refine r_for ?_ | refine r_ilist ?_ | refine r_irng ?_
  | refine r_gname ?_ | refine r_gcons ?_ | refine r_gnil ?_ | refine r_par ?_ | refine r_parA ?_ | refine r_chain ?_ | refine r_isN ?_ | refine r_tlc ?_ | refine r_yes ?_ | refine r_makek ?_ | refine r_neg ?_)
local macro_rules | `(tactic| walk_at "k2") => `(tactic| first
  | ((with_reducible refine' q_var ?kke ?_); (case kke => rfl))
  | ((with_reducible refine' q_aug ?kke ?_); (case kke => rfl))
  | ((with_reducible refine' q_ixL ?kks ?kke ?_); (case kks => walk_at "sq"); (case kke => first | rfl | assumption))
  | ((with_reducible refine' q_ixT ?kks ?kke ?_); (case kks => walk_at "st"); (case kke => first | rfl | assumption))
  | ((with_reducible refine' q_ixLL ?kks ?kke ?_); (case kks => walk_at "sq"); (case kke => first | rfl | assumption))
  | ((with_reducible refine' q_lenL ?kks ?_); (case kks => walk_at "sq"))
  | ((with_reducible refine' q_mulI ?kkc ?_); (case kkc => first | exact .inl (by omega) | exact .inr (by omega)))
  | ((with_reducible refine' q_modI ?kkc ?_); (case kkc => omega))
  | ((with_reducible refine' q_divI ?kkc ?_); (case kkc => exact ⟨by omega, by omega⟩))
  | ((with_reducible refine' q_powI ?kkc ?_); (case kkc => exact ⟨by decide, by decide, by decide⟩))
  | ((with_reducible refine' r_kfld ?kkS ?kkp ?kkc ?kkn ?kkl ?_); (case kkS => assumption); (case kkp => walk_at "mem"); (case kkc => walk_at "cls"); (case kkn => walk_at "na"); (case kkl => walk_at "lk"))
  | ((with_reducible refine' r_kprop ?kkS ?kkp ?_); (case kkS => assumption); (case kkp => walk_at "mem"))
  | ((with_reducible refine' r_kmeth ?kkS ?kkp ?kkl ?_); (case kkS => assumption); (case kkp => walk_at "mem"); (case kkl => walk_at "lk"))
  | ((with_reducible refine' r_calll ?kks ?_); (case kks => rfl))
  | ((with_reducible refine' r_tyl ?kks ?_); (case kks => walk_at "sq"))
  | ((with_reducible refine' r_isi (k := true) ?kkt ?kke ?_); (case kkt => walk_at "ty"); (case kke => decide +kernel))
  | ((with_reducible refine' r_isi (k := false) ?kkt ?kke ?_); (case kkt => walk_at "ty"); (case kke => decide +kernel)))
local macro_rules | `(tactic| walk_at "k3") => `(tactic| first
  | ((with_reducible refine' q_setS ?kkS ?kkr ?kke ?_); (case kkS => assumption); (case kkr => walk_at "rep"); (case kke => rfl); intro H S)
  | ((with_reducible refine' r_kset ?kkS ?kkr ?kkc ?kkn ?kkl ?kke ?_); (case kkS => assumption); (case kkr => walk_at "rep"); (case kkc => walk_at "cls"); (case kkn => walk_at "na"); (case kkl => first | exact Nat.le_of_ble_eq_true rfl | assumption | omega | (simp; done) | (simp; omega)); (case kke => walk_at "pf"); intro H S)
  | ((with_reducible refine' q_new ?kkS ?kkl ?_); (case kkS => assumption); (case kkl => first | exact Nat.le_of_ble_eq_true rfl | assumption | omega | (simp; done) | (simp; omega)); intro p H S)
  | ((with_reducible refine' q_newT ?kkS ?kkl ?_); (case kkS => assumption); (case kkl => first | exact Nat.le_of_ble_eq_true rfl | assumption | omega | (simp; done) | (simp; omega)); intro p H S)
  | ((with_reducible refine' r_knew ?kkS ?_); (case kkS => assumption); intro x dx H S)
  | ((with_reducible refine' r_knewk ?kkS ?kkl1 ?kkl2 ?_); (case kkS => assumption); (case kkl1 => rfl); (case kkl2 => rfl); intro x dx H S)
  | ((with_reducible refine' r_ksl ?kkS ?kks ?_); (case kkS => assumption); (case kks => walk_at "sq"); intro p H S)
  | ((with_reducible refine' r_list ?kkS ?kks ?_); (case kkS => assumption); (case kks => walk_at "sq"); intro p H S)
  | ((with_reducible refine' r_cat ?kkS ?kks1 ?kks2 ?kkz ?_); (case kkS => assumption); (case kks1 => walk_at "at"); (case kks2 => walk_at "at"); (case kkz => first | omega | (simp; omega)); intro p H S)
  | ((with_reducible refine' r_append ?kkS ?kkr ?kkz ?_); (case kkS => assumption); (case kkr => walk_at "rep"); (case kkz => first | omega | (simp; omega)); intro H S)
  | ((with_reducible refine' r_reverse ?kkS ?kkr ?_); (case kkS => assumption); (case kkr => walk_at "rep"); intro H S)
  | ((with_reducible refine' r_clear ?kkS ?kkr ?_); (case kkS => assumption); (case kkr => walk_at "rep"); intro H S))
local macro_rules | `(tactic| walk_at "gn") => `(tactic| repeat (first | walk_at "k1" | walk_at "k2"))
local macro_rules | `(tactic| walk_at "go") => `(tactic| repeat (first | walk_at "k1" | walk_at "k2" | walk_at "k3"))

local macro_rules | `(tactic| walk_at "cls") => `(tactic| with_reducible first | assumption | exact Txt.cl_Array (by assumption) | exact Txt.cl_Window (by assumption))
local macro_rules | `(tactic| walk_at "na") => `(tactic| with_reducible first | assumption | exact Txt.na_Array_cells (by assumption) | exact Txt.na_Array_size (by assumption) | exact Txt.na_Window__array (by assumption) | exact Txt.na_Window__length (by assumption) | exact Txt.na_Window__rule (by assumption))
section
variable {P : Program} {w : World} {K : PySem.W.Frag} {mg : Str → Option Value} {base : Heap} {c_Array c_Window : Addr}
/-- the rooms of all windows of a side, as a new list -/
theorem r_rooms {σ : L2.St} {H : Hp} {Q : VK} {l : Addr} {as : List Addr} {G : GS} {rv : V} {ws : List Wi} {Rest : List SP} {i : Nat} {vs : List Nat} (wf : WF as G ws) (S : Sep (pt l (.lst (wrefs ws)) :: ars c_Array as G :: wis c_Window rv ws :: Rest) H) (hL : ws.length ≤ 100) (hv : ∀ x : Option V, ((wipe σ vs).set i x)[i]? = some x) (hw : ∀ x : Option V, wipe ((wipe σ vs).set i x) vs = wipe σ vs)
    (q : ∀ D H', Sep (pt D (.lst ((rooms G ws).map V.int)) :: pt l (.lst (wrefs ws)) :: ars c_Array as G :: wis c_Window rv ws :: Rest) H' → Q (.ref D) H') :
    ∃ a', V.ref l = .ref a' ∧ (∃ xs, SqL K H a' xs) ∧ LcW (Itl K a') (gName i) tYes (tProp c_Window (spRoom c_Array c_Window) [] E0 (tVar i)) vs Q σ H := by
  refine r_lc_list (xs := wrefs ws) (fun n acc Ps => acc = (rooms G (ws.take n)).map V.int ∧ Ps = pt l (.lst (wrefs ws)) :: ars c_Array as G :: wis c_Window rv ws :: Rest) S ⟨rfl, rfl⟩ ?_ (by walk_at "sq") ?_ ?_
  · rintro D n acc Ps H hn ⟨rfl, rfl⟩ S
    walk_at "sq"
  · rintro D n x acc Ps H hx ⟨rfl, rfl⟩ S
    obtain ⟨y, hy, rfl⟩ : ∃ e, ws[n]? = some e ∧ V.ref e.W = x := by
      rw [List.getElem?_map] at hx
      cases e : ws[n]? with
      | none => rw [e] at hx; cases hx
      | some z => rw [e] at hx; exact ⟨z, rfl, Option.some.inj hx⟩
    have hm := List.mem_of_getElem? hy
    have hlt : n < ws.length := (List.getElem?_eq_some_iff.mp hy).1
    refine r_gname ⟨hw _, r_yes ?_⟩
    rw [if_pos rfl]
    refine r_prop (q_var (hv _) ?_)
    refine wl_prop wf hm S (by walk_at "sel") (wl_room wf hm S (by walk_at "sel") ?_)
    refine cn_in S (by rw [List.length_map, List.length_map, List.length_take]; omega) ⟨?_, rfl⟩
    rw [List.take_add_one, hy]
    simp [rooms]
  · rintro D acc Ps H ⟨rfl, rfl⟩ S
    rw [List.length_map, List.take_of_length_le (Nat.le_refl _)] at S
    exact q D H S
theorem okd_dq (qs : List (Int × Int)) : Okd 2 (.list (dq qs)) := okd_list fun d m => by
  obtain ⟨q, _, rfl⟩ := List.mem_map.mp m
  refine okd_tuple fun d m => ?_
  simp only [List.mem_cons, List.not_mem_nil, or_false] at m
  rcases m with rfl | rfl <;> exact ⟨rfl, Nat.zero_le _⟩
theorem kb_one {A Lx W : Addr} {ms : List Int} (h1 : 1 ≤ ms.length) (h3 : ms.length ≤ 3) : KB [A] (fun _ => ⟨Lx, ms, (ms.length : Int)⟩) [⟨W, A, ms.length⟩] 0 := by
  refine ⟨⟨by simp, fun y hy => ?_, fun B hB => Int.le_refl _, fun B hB => ?_⟩, fun B hB => ?_, by simp⟩
  · rw [List.mem_singleton.mp hy]
    exact ⟨List.mem_cons_self, h1, Nat.le_refl _⟩
  · show ms.length ≤ 5000; omega
  · show ms.length ≤ _; omega
theorem wis_one {W A : Addr} {n : Nat} {rv : V} {R : List SP} {H : Hp} (S : Sep (wnP c_Window W A n rv :: R) H) : Sep (wis c_Window rv [⟨W, A, n⟩] :: R) H := Sep.unflat (As := [wnP c_Window W A n rv]) S
theorem ars_one {A : Addr} {z : AS} {R : List SP} {H : Hp} (S : Sep (arP c_Array A z.L z.cs z.s :: R) H) : Sep (ars c_Array [A] (fun _ => z) :: R) H := Sep.unflat (As := [arP c_Array A z.L z.cs z.s]) S
/-- a side, as it begins -/
theorem sd_first {d : SD} {c' A Lx W : Addr} {cl : List (Str × Addr)} {cs : List (Addr × V)} {ms : List Int} {R : List SP} {H : Hp} (h1 : 1 ≤ ms.length) (h3 : ms.length ≤ 3) (C : CloF (NFr cl c') frR cs) (e : cs.map (·.2) = [.ref d.a, .ref d.l, .ref d.t])
    (S : Sep (pt d.f (FnO d.f (NFr cl c')) :: cells cs :: pt d.a (.lst []) :: pt d.t (.lst []) :: pt d.l (.lst [.ref W]) :: arP c_Array A Lx ms (ms.length : Int) :: wnP c_Window W A ms.length (.ref d.f) :: pt d.C (.lst []) :: pt d.rm (.lst [.int (ms.length : Int)]) :: R) H) : Sep (sideP K c_Array c_Window c' d 0 :: R) H := by
  have S := ls_nil (K := K) (S.s1 (A := pt d.a (.lst [])) (by walk_at "sel"))
  have S := ls_nil (K := K) (S.s1 (A := pt d.t (.lst [])) (by walk_at "sel"))
  have S := ls_nil (K := K) (S.s1 (A := pt d.C (.lst [])) (by walk_at "sel"))
  have S := wis_one (S.s1 (A := wnP c_Window W A ms.length (.ref d.f)) (by walk_at "sel"))
  have S := ars_one (z := ⟨Lx, ms, (ms.length : Int)⟩) (S.s1 (A := arP c_Array A Lx ms (ms.length : Int)) (by walk_at "sel"))
  exact sd_shut (cl := cl) (cs := cs) (as := [A]) (G := fun _ => ⟨Lx, ms, (ms.length : Int)⟩) (ws := [⟨W, A, ms.length⟩]) (qs := []) (ns := []) ⟨C, e, kb_one h1 h3, Nat.le_refl _, Nat.le_refl _⟩ (S.sel (As := [pt d.f (FnO d.f (NFr cl c')), cells cs, lsP K d.a [], lsP K d.t [], pt d.l (.lst [.ref W]), ars c_Array [A] (fun _ => ⟨Lx, ms, (ms.length : Int)⟩), wis c_Window (.ref d.f) [⟨W, A, ms.length⟩], lsP K d.C [], pt d.rm (.lst [.int (ms.length : Int)])]) (Rs := R) (by walk_at "sel"))
def spLaw (K : PySem.W.Frag) (Pt P2 : Addr) : Sp := fun vs H Q _ => ∃ (a : Addr) (ns : List Int), vs = [.ref a] ∧ SqL K H a (ns.map V.int) ∧ ns.length ≤ 63 ∧ Sep [tbP Pt posR qR none, tbP P2 posF qF none] H ∧ ∀ H', Q (.bl true) H'
theorem sc_law : FnScope N_law ["_law_script"] (defScope s_law) := ⟨rfl, rfl, rfl, by decide +kernel, rfl, by decide +kernel, by decide +kernel⟩
theorem ok_law {f f1 f2 f3 f4 f5 f6 Pt P2 : Addr} {fd : FuncData} (F : Fun K "law" "law" s_law f fd) (T : Tx K mg c_Array c_Window) (D_l_bag : Df P w K mg base 1 "_law_bag" f2 ["_law_script"] (spBag K)) (D_l_take : Df P w K mg base 1 "_law_take" f1 ["_law_bag_here", "_law_many"] spTake)
    (D_l_side : Df P w K mg base 1 "_law_side" f3 ["_law_side_here", "_law_windows", "_law_notes"] (spSide Pt)) (D_l_grown : Df P w K mg base 8 "_law_grown" f4 ["_law_bag_here", "_law_windows", "_law_spots", "_law_calls", "_law_notes"] (spGrown K c_Array c_Window Pt)) (D_l_other : Df P w K mg base 8 "_law_other" f5 ["_law_bag_here", "_law_windows", "_law_spots"] (spOther K c_Array c_Window))
    (D_l_far_right : Df P w K mg base 8 "_law_far_right" f6 [] (spFar P2)) (M_Window : CfW P w K mg base 3 c_Window (spNewW c_Array c_Window)) (M_Window0 : CfW0 P w K mg base 3 c_Window (spNewW c_Array c_Window)) (M_len : Mf P w K mg base 1 c_Window "__len__" ["self"] (spLen c_Window)) (M_room : Pf P w K mg base 1 c_Window "room" (spRoom c_Array c_Window))
    (M_put : Mf P w K mg base 6 c_Window "put" ["self", "marks"] (spPut P w K mg base c_Array c_Window)) (M_cut : Mf P w K mg base 6 c_Window "cut" ["self", "many"] (spCut c_Array c_Window)) (M_copied : Mf P w K mg base 6 c_Window "copied" ["self"] (spCopied c_Array c_Window)) :
    FnOk P w K mg base CX0 9 f fd ["_law_script"] (spLaw K Pt P2) := by
  refine F.ok sc_law (fun vs H Q E h => ?_) (fun cdv A outer s H vs Q E hr h => ?_)
  · obtain ⟨a, ns, rfl, _⟩ := h
    rfl
  obtain ⟨a, ns, rfl, hq, hl, S, q⟩ := h
  refine ⟨_, (pss_cons (ps_set (i := 1) sc_law.nd rfl (by first | exact Or.inl rfl | exact Or.inr rfl) (pe_df D_l_bag (hr.mono (by decide)) (pa_cons (pv 0) pa_nil)))
      (pss_cons (ps_for PassesOwn.never rfl (pi_range1 rfl T.z_range (pa_cons pe_int pa_nil)) (pg_name (i := 2) sc_law.nd rfl (by first | exact Or.inl rfl | exact Or.inr rfl)) (pss_cons (ps_asg (pe_tup (pa_cons (pe_lst (pa_cons (pe_lst pa_nil) (pa_cons (pe_lst pa_nil) pa_nil))) (pa_cons (pe_lst (pa_cons (pe_lst pa_nil) (pa_cons (pe_lst pa_nil) pa_nil))) (pa_cons (pe_lst (pa_cons (pe_lst pa_nil) (pa_cons (pe_lst pa_nil) pa_nil))) (pa_cons (pe_lst (pa_cons (pe_lst pa_nil) (pa_cons (pe_lst pa_nil) pa_nil))) (pa_cons (pe_lst pa_nil) pa_nil)))))) (pg_tupK K rfl (pgs_cons (pg_name (i := 3) sc_law.nd rfl (by first | exact Or.inl rfl | exact Or.inr rfl)) (pgs_cons (pg_name (i := 4) sc_law.nd rfl (by first | exact Or.inl rfl | exact Or.inr rfl)) (pgs_cons (pg_name (i := 5) sc_law.nd rfl (by first | exact Or.inl rfl | exact Or.inr rfl)) (pgs_cons (pg_name (i := 6) sc_law.nd rfl (by first | exact Or.inl rfl | exact Or.inr rfl)) (pgs_cons (pg_name (i := 7) sc_law.nd rfl (by first | exact Or.inl rfl | exact Or.inr rfl)) pgs_nil)))))))
      (pss_cons (ps_for PassesOwn.never rfl (pi_range1 rfl T.z_range (pa_cons pe_int pa_nil)) (pg_name (i := 8) sc_law.nd rfl (by first | exact Or.inl rfl | exact Or.inr rfl)) (pss_cons (ps_set (i := 9) sc_law.nd rfl (by first | exact Or.inl rfl | exact Or.inr rfl) (pe_df D_l_side (hr.mono (by decide)) (pa_cons (pe_ix (r := rIx K) ix_seq (pv 3) (pv 8) (fun _ _ => rfl)) (pa_cons (pe_ix (r := rIx K) ix_seq (pv 6) (pv 8) (fun _ _ => rfl)) (pa_cons (pe_ix (r := rIx K) ix_seq (pv 5) (pv 8) (fun _ _ => rfl)) pa_nil)))))
      (pss_cons (ps_expr (pe_bmK K PySem.F.plainAttrs_list PySem.F.slot_list_append PySem.F.type_list_append mt_append (pe_ix (r := rIx K) ix_seq (pv 6) (pv 8) (fun _ _ => rfl)) (pa_cons (pe_cfk M_Window (hr.mono (by decide)) (pa_cons (pe_op (r := rMulA) op_mulA (pe_lst (pa_cons pe_int pa_nil)) (pe_op (r := rAddA) op_addA pe_int (pe_df D_l_take (hr.mono (by decide)) (pa_cons (pv 1) (pa_cons pe_int pa_nil))))) pa_nil) (pk_cons (pv 9) pk_nil)) pa_nil)))
      (pss_one (ps_expr (pe_bmK K PySem.F.plainAttrs_list PySem.F.slot_list_append PySem.F.type_list_append mt_append (pv 7) (pa_cons (pe_lst (pa_cons (pe_callB (r := cLenOwn c_Window (spLen c_Window)) (call_lenOwn M_len (hr.mono (by decide))) (by rfl) T.z_len (by decide +kernel) (pa_cons (pe_ix (r := rIx K) ix_seq (pe_ix (r := rIx K) ix_seq (pv 6) (pv 8) (fun _ _ => rfl)) pe_int (fun _ _ => rfl)) pa_nil)) pa_nil)) pa_nil)))))))
      (pss_cons (ps_for PassesOwn.never rfl (pi_range1 rfl T.z_range (pa_cons pe_int pa_nil)) (pg_name (i := 10) sc_law.nd rfl (by first | exact Or.inl rfl | exact Or.inr rfl)) (pss_cons (ps_set (i := 8) sc_law.nd rfl (by first | exact Or.inl rfl | exact Or.inr rfl) (pe_df D_l_take (hr.mono (by decide)) (pa_cons (pv 1) (pa_cons pe_int pa_nil))))
      (C8.pss_cut (ps_if (pt_cmpR (r := rEqA K) (op_eqA hr.units) (pe_df D_l_take (hr.mono (by decide)) (pa_cons (pv 1) (pa_cons pe_int pa_nil))) pe_int (nomark _)) (pss_one (ps_if (pt_not (pt_val (pe_df D_l_grown (hr.mono (by decide)) (pa_cons (pv 1) (pa_cons (pe_ix (r := rIx K) ix_seq (pv 6) (pv 8) (fun _ _ => rfl)) (pa_cons (pe_ix (r := rIx K) ix_seq (pv 7) (pv 8) (fun _ _ => rfl)) (pa_cons (pe_ix (r := rIx K) ix_seq (pv 4) (pv 8) (fun _ _ => rfl)) (pa_cons (pe_ix (r := rIx K) ix_seq (pv 5) (pv 8) (fun _ _ => rfl)) pa_nil)))))))) (pss_one (ps_ret pe_bl)) pss_nil)) (pss_one (ps_expr (pe_df D_l_other (hr.mono (by decide)) (pa_cons (pv 1) (pa_cons (pe_ix (r := rIx K) ix_seq (pv 6) (pv 8) (fun _ _ => rfl)) (pa_cons (pe_ix (r := rIx K) ix_seq (pv 7) (pv 8) (fun _ _ => rfl)) pa_nil)))))))
      (pss_one (ps_if (PW.pt (pw_or (pt_cmpR (r := rNeA K) (op_neA hr.units) (pv 3) (pv 4) (nomark _)) (pw_or1 (pt_cmpR (r := rNeA K) (op_neA hr.units) (pe_lc (own := [("_law_side_here", 12)]) rfl sc_law.nd (pi_listK K (pv 6)) (blkOk_by (own := [("_law_side_here", 12)]) (N := N_law) (sc := defScope s_law) (by decide +kernel)) (fun _ _ _ _ _ => (pg_name (i := 12) sc_law.nd rfl (by first | exact Or.inl rfl | exact Or.inr rfl))) (fun _ _ _ _ _ => pts_nil) (fun _ _ _ _ _ => (pe_lc (own := [("_law_one", 13)]) rfl sc_law.nd (pi_listK K (pv 12)) (by show BlkOk N_law { kind := ScopeKind.function, names := [(Str.ofString ".0", NameKind.local), (Str.ofString "_law_side_here", NameKind.local)], isGenerator := false, isCoroutine := false } _ [("_law_one", 13)]; exact blkOk_by (by decide +kernel)) (fun _ _ _ _ _ => (pg_name (i := 13) sc_law.nd rfl (by first | exact Or.inl rfl | exact Or.inr rfl))) (fun _ _ _ _ _ => pts_nil) (fun _ _ _ _ _ => (pe_pr M_room (hr.mono (by decide)) (pv 13)))))) (pv 7) (nomark _))))) (pss_one (ps_ret pe_bl)) pss_nil)))))
      (pss_cons (ps_set (i := 11) sc_law.nd rfl (by first | exact Or.inl rfl | exact Or.inr rfl) (pe_cfk M_Window0 (hr.mono (by decide)) (pa_cons (pe_lst (pa_cons pe_int (pa_cons pe_int pa_nil))) pa_nil) pk_nil))
      (pss_one (ps_if (pt_cmpR (r := rNeA K) (op_neA hr.units) (pe_lst (pa_cons (pe_pr M_room (hr.mono (by decide)) (pe_mf M_put (hr.mono (by decide)) (pv 11) (pa_cons (pe_lst (pa_cons pe_int pa_nil)) pa_nil))) (pa_cons (pe_pr M_room (hr.mono (by decide)) (pe_mf M_put (hr.mono (by decide)) (pe_mf M_cut (hr.mono (by decide)) (pv 11) (pa_cons pe_int pa_nil)) (pa_cons (pe_lst (pa_cons pe_int pa_nil)) pa_nil))) (pa_cons (pe_pr M_room (hr.mono (by decide)) (pe_mf M_put (hr.mono (by decide)) (pe_mf0 M_copied (hr.mono (by decide)) (pv 11)) (pa_cons (pe_lst (pa_cons pe_int (pa_cons pe_int pa_nil))) pa_nil))) pa_nil)))) (pe_lst (pa_cons pe_int (pa_cons pe_int (pa_cons pe_int pa_nil)))) (nomark _)) (pss_one (ps_ret pe_bl)) pss_nil)))))))
      (pss_one (ps_ret (pe_df0 D_l_far_right (hr.mono (by decide))))))), ?_⟩
  walk_at "go"
  refine ⟨a, ns, _, rfl, hq, hl, S, fun b H S => ?_⟩
  walk_at "go"
  refine r_for_rng (fun i σ Ps => ∃ u2 u3 u4 u5 u6 u7 u8 u9 u10 u11 u12 u13 o R, σ = [some (.ref a), some (.ref b), u2, u3, u4, u5, u6, u7, u8, u9, u10, u11, u12, u13] ∧ Ps = bag b :: tbP Pt posR qR o :: tbP P2 posF qF none :: R) S (by decide) (by decide) ⟨_, _, _, _, _, _, _, _, _, _, _, _,  none, [], rfl, rfl⟩ ?_ ?_
  · rintro i σ Ps H hi ⟨u2, u3, u4, u5, u6, u7, u8, u9, u10, u11, u12, u13,  o, R, rfl, rfl⟩ S
    walk_at "go"
    rename_i a0 _ _ a1 _ _ AA _ _ C0 _ _ C1 _ _ CC _ _ t0 _ _ t1 _ _ TT _ _ l0 _ _ l1 _ _ WW _ _ RR _ _
    refine r_gtup (xs := [.ref AA, .ref CC, .ref TT, .ref WW, .ref RR]) (by walk_at "st") rfl ?_
    walk_at "go"
    have S : Sep (pt AA (.lst [.ref a0, .ref a1]) :: pt CC (.lst [.ref C0, .ref C1]) :: pt TT (.lst [.ref t0, .ref t1]) :: pt WW (.lst [.ref l0, .ref l1]) :: pt RR (.lst []) :: bag b :: tbP Pt posR qR o :: tbP P2 posF qF none :: pt a0 (.lst []) :: pt C0 (.lst []) :: pt t0 (.lst []) :: pt l0 (.lst []) :: pt a1 (.lst []) :: pt C1 (.lst []) :: pt t1 (.lst []) :: pt l1 (.lst []) ::  R) H := S.sel (As := [pt AA (.lst [.ref a0, .ref a1]), pt CC (.lst [.ref C0, .ref C1]), pt TT (.lst [.ref t0, .ref t1]), pt WW (.lst [.ref l0, .ref l1]), pt RR (.lst []), bag b, tbP Pt posR qR o, tbP P2 posF qF none, pt a0 (.lst []), pt C0 (.lst []), pt t0 (.lst []), pt l0 (.lst []), pt a1 (.lst []), pt C1 (.lst []), pt t1 (.lst []), pt l1 (.lst [])]) (Rs := R) (by walk_at "sel")
    refine r_for_rng (fun n σ Ps => ∃ u8 u9, σ = [some (.ref a), some (.ref b), some (.int i), some (.ref AA), some (.ref CC), some (.ref TT), some (.ref WW), some (.ref RR), u8, u9, u10, u11, u12, u13] ∧ ((n = 0 ∧ Ps = pt AA (.lst [.ref a0, .ref a1]) :: pt CC (.lst [.ref C0, .ref C1]) :: pt TT (.lst [.ref t0, .ref t1]) :: pt WW (.lst [.ref l0, .ref l1]) :: pt RR (.lst []) :: bag b :: tbP Pt posR qR o :: tbP P2 posF qF none :: pt a0 (.lst []) :: pt C0 (.lst []) :: pt t0 (.lst []) :: pt l0 (.lst []) :: pt a1 (.lst []) :: pt C1 (.lst []) :: pt t1 (.lst []) :: pt l1 (.lst []) ::  R) ∨ (n = 1 ∧ ∃ f0 m0 c0, Ps = pt AA (.lst [.ref a0, .ref a1]) :: pt CC (.lst [.ref C0, .ref C1]) :: pt TT (.lst [.ref t0, .ref t1]) :: pt WW (.lst [.ref l0, .ref l1]) :: pt RR (.lst [.ref m0]) :: bag b :: tbP Pt posR qR (some c0) :: tbP P2 posF qF none :: sideP K c_Array c_Window c0 (⟨f0, a0, l0, t0, C0, m0⟩ : SD) 0 :: pt a1 (.lst []) :: pt C1 (.lst []) :: pt t1 (.lst []) :: pt l1 (.lst []) ::  R) ∨ (n = 2 ∧ ∃ f0 m0 f1 m1 c0, Ps = pt AA (.lst [.ref a0, .ref a1]) :: pt CC (.lst [.ref C0, .ref C1]) :: pt TT (.lst [.ref t0, .ref t1]) :: pt WW (.lst [.ref l0, .ref l1]) :: pt RR (.lst [.ref m0, .ref m1]) :: bag b :: tbP Pt posR qR (some c0) :: tbP P2 posF qF none :: sideP K c_Array c_Window c0 (⟨f0, a0, l0, t0, C0, m0⟩ : SD) 0 :: sideP K c_Array c_Window c0 (⟨f1, a1, l1, t1, C1, m1⟩ : SD) 0 ::  R))) S (by decide) (by decide) ⟨_, _, rfl, .inl ⟨rfl, rfl⟩⟩ ?_ ?_
    · rintro n σ Ps H hn ⟨u8, u9, rfl, hc⟩ S
      rcases hc with ⟨rfl, rfl⟩ | ⟨rfl, f0, m0, c0, rfl⟩ | ⟨rfl, _⟩
      · walk_at "go"
        refine ⟨a0, l0, t0, o, _, rfl, S.s1 (A := tbP Pt posR qR o) (by walk_at "sel"), fun f0 cl c' cs H ho C e S => ?_⟩
        walk_at "go"
        refine ⟨b, _, _, rfl, by decide, by decide, S.s1 (A := bag b) (by walk_at "sel"), fun v H hv0 hv1 S => ?_⟩
        obtain ⟨j, rfl⟩ := Int.eq_ofNat_of_zero_le hv0
        walk_at "go"
        refine r_rep S (by walk_at "at") (by omega) (by omega) (by decide) fun M H S => ?_
        have er : (List.replicate ((1 : Int) + (j : Int)).toNat [V.int 1]).flatten = (List.replicate (1 + j) (1 : Int)).map V.int := by
          rw [show ((1 : Int) + (j : Int)).toNat = 1 + j by omega]
          generalize 1 + j = m
          induction m with
          | zero => rfl
          | succ m ih => rw [List.replicate_succ, List.flatten_cons, ih]; rfl
        rw [er] at S
        generalize hxs : List.replicate (1 + j) (1 : Int) = xs at S
        have lx : xs.length = 1 + j := by rw [← hxs, List.length_replicate]
        walk_at "go"
        refine ⟨x, dx, M, .ref f0, xs, _, rfl, by (intro e0; rw [e0, List.length_nil] at lx; omega), by omega, S.s2 (A := pt x (.ins c_Window dx [])) (B := pt M (.lst (xs.map V.int))) (by walk_at "sel"), fun A1 Lx H S => ⟨rfl, ?_⟩⟩
        obtain ⟨Wk, hq1⟩ : ∃ q, q = x := ⟨x, rfl⟩
        subst hq1
        walk_at "go"
        refine r_append S (by walk_at "rep") (by decide) fun H S => ?_
        rw [List.nil_append] at S
        walk_at "go"
        obtain ⟨dw, S1⟩ := wn_open (S.s1 (A := wnP c_Window Wk A1 xs.length (.ref f0)) (by walk_at "sel"))
        have hW := S1.hd_at
        clear S1
        refine ⟨Wk, _, _, rfl, hW, Wk, A1, xs.length, .ref f0, _, rfl, by omega, S.s1 (A := wnP c_Window Wk A1 xs.length (.ref f0)) (by walk_at "sel"), xs.length, rfl, by omega, ?_⟩
        clear hW
        walk_at "go"
        have S := sd_first (K := K) (d := ⟨f0, a0, l0, t0, C0, p⟩) (by omega) (by omega) C e (S.sel (As := [pt f0 (FnO f0 (NFr cl c')), cells cs, pt a0 (.lst []), pt t0 (.lst []), pt l0 (.lst [.ref Wk]), arP c_Array A1 Lx xs (xs.length : Int), wnP c_Window Wk A1 xs.length (.ref f0), pt C0 (.lst []), pt p (.lst [.int (xs.length : Int)])]) (by walk_at "sel"))
        dsimp only [List.append] at S
        refine r_append S (by walk_at "rep") (by decide) fun H S => ?_
        rw [List.nil_append] at S
        exact ⟨_, ⟨_, _, rfl, .inr (.inl ⟨rfl, f0, p, c', rfl⟩)⟩, S.sel (As := [pt AA (.lst [.ref a0, .ref a1]), pt CC (.lst [.ref C0, .ref C1]), pt TT (.lst [.ref t0, .ref t1]), pt WW (.lst [.ref l0, .ref l1]), pt RR (.lst [.ref p]), bag b, tbP Pt posR qR (some c'), tbP P2 posF qF none, sideP K c_Array c_Window c' (⟨f0, a0, l0, t0, C0, p⟩ : SD) 0, pt a1 (.lst []), pt C1 (.lst []), pt t1 (.lst []), pt l1 (.lst [])]) (Rs := R) (by walk_at "sel")⟩
      · walk_at "go"
        refine ⟨a1, l1, t1, (some c0), _, rfl, S.s1 (A := tbP Pt posR qR (some c0)) (by walk_at "sel"), fun f1 cl c' cs H ho C e S => ?_⟩
        have hc0 : c' = c0 := by
          rcases ho with h | h
          · cases h
          · exact (Option.some.inj h).symm
        subst hc0
        walk_at "go"
        refine ⟨b, _, _, rfl, by decide, by decide, S.s1 (A := bag b) (by walk_at "sel"), fun v H hv0 hv1 S => ?_⟩
        obtain ⟨j, rfl⟩ := Int.eq_ofNat_of_zero_le hv0
        walk_at "go"
        refine r_rep S (by walk_at "at") (by omega) (by omega) (by decide) fun M H S => ?_
        have er : (List.replicate ((1 : Int) + (j : Int)).toNat [V.int 1]).flatten = (List.replicate (1 + j) (1 : Int)).map V.int := by
          rw [show ((1 : Int) + (j : Int)).toNat = 1 + j by omega]
          generalize 1 + j = m
          induction m with
          | zero => rfl
          | succ m ih => rw [List.replicate_succ, List.flatten_cons, ih]; rfl
        rw [er] at S
        generalize hxs : List.replicate (1 + j) (1 : Int) = xs at S
        have lx : xs.length = 1 + j := by rw [← hxs, List.length_replicate]
        walk_at "go"
        refine ⟨x, dx, M, .ref f1, xs, _, rfl, by (intro e0; rw [e0, List.length_nil] at lx; omega), by omega, S.s2 (A := pt x (.ins c_Window dx [])) (B := pt M (.lst (xs.map V.int))) (by walk_at "sel"), fun A1 Lx H S => ⟨rfl, ?_⟩⟩
        obtain ⟨Wk, hq1⟩ : ∃ q, q = x := ⟨x, rfl⟩
        subst hq1
        walk_at "go"
        refine r_append S (by walk_at "rep") (by decide) fun H S => ?_
        rw [List.nil_append] at S
        walk_at "go"
        obtain ⟨dw, S1⟩ := wn_open (S.s1 (A := wnP c_Window Wk A1 xs.length (.ref f1)) (by walk_at "sel"))
        have hW := S1.hd_at
        clear S1
        refine ⟨Wk, _, _, rfl, hW, Wk, A1, xs.length, .ref f1, _, rfl, by omega, S.s1 (A := wnP c_Window Wk A1 xs.length (.ref f1)) (by walk_at "sel"), xs.length, rfl, by omega, ?_⟩
        clear hW
        walk_at "go"
        have S := sd_first (K := K) (d := ⟨f1, a1, l1, t1, C1, p⟩) (by omega) (by omega) C e (S.sel (As := [pt f1 (FnO f1 (NFr cl c')), cells cs, pt a1 (.lst []), pt t1 (.lst []), pt l1 (.lst [.ref Wk]), arP c_Array A1 Lx xs (xs.length : Int), wnP c_Window Wk A1 xs.length (.ref f1), pt C1 (.lst []), pt p (.lst [.int (xs.length : Int)])]) (by walk_at "sel"))
        dsimp only [List.append] at S
        refine r_append S (by walk_at "rep") (by simp) fun H S => ?_
        rw [show ([V.ref m0] ++ [V.ref p] : List V) = [.ref m0, .ref p] from rfl] at S
        exact ⟨_, ⟨_, _, rfl, .inr (.inr ⟨rfl, f0, m0, f1, p, c', rfl⟩)⟩, S.sel (As := [pt AA (.lst [.ref a0, .ref a1]), pt CC (.lst [.ref C0, .ref C1]), pt TT (.lst [.ref t0, .ref t1]), pt WW (.lst [.ref l0, .ref l1]), pt RR (.lst [.ref m0, .ref p]), bag b, tbP Pt posR qR (some c'), tbP P2 posF qF none, sideP K c_Array c_Window c' (⟨f0, a0, l0, t0, C0, m0⟩ : SD) 0, sideP K c_Array c_Window c' (⟨f1, a1, l1, t1, C1, p⟩ : SD) 0]) (Rs := R) (by walk_at "sel")⟩
      · omega
    · rintro σ Ps H ⟨u8, u9, rfl, hc⟩ S
      rcases hc with ⟨h, _⟩ | ⟨h, _⟩ | ⟨_, f0, m0, f1, m1, c0, rfl⟩
      · omega
      · omega
      walk_at "go"
      refine r_for_rng (fun n σ Ps => ∃ v8 v10 v12 v13 i0 i1, σ = [some (.ref a), some (.ref b), some (.int i), some (.ref AA), some (.ref CC), some (.ref TT), some (.ref WW), some (.ref RR), v8, u9, v10, u11, v12, v13] ∧ i0 ≤ n ∧ i1 ≤ n ∧ Ps = pt AA (.lst [.ref a0, .ref a1]) :: pt CC (.lst [.ref C0, .ref C1]) :: pt TT (.lst [.ref t0, .ref t1]) :: pt WW (.lst [.ref l0, .ref l1]) :: pt RR (.lst [.ref m0, .ref m1]) :: bag b :: tbP Pt posR qR (some c0) :: tbP P2 posF qF none :: sideP K c_Array c_Window c0 (⟨f0, a0, l0, t0, C0, m0⟩ : SD) i0 :: sideP K c_Array c_Window c0 (⟨f1, a1, l1, t1, C1, m1⟩ : SD) i1 :: R) S (by decide) (by decide) ⟨u8, u10, u12, u13, 0, 0, rfl, Nat.le_refl _, Nat.le_refl _, rfl⟩ ?_ ?_
      · rintro n σ Ps H hn ⟨v8, v10, v12, v13, i0, i1, rfl, h0, h1, rfl⟩ S
        walk_at "go"
        refine ⟨b, _, _, rfl, by decide, by decide, S.s1 (A := bag b) (by walk_at "sel"), fun z H hz0 hz1 S => ?_⟩
        walk_at "go"
        refine q_cut (Mid := fun σ H => ∃ v8 i0 i1, σ = [some (.ref a), some (.ref b), some (.int i), some (.ref AA), some (.ref CC), some (.ref TT), some (.ref WW), some (.ref RR), v8, u9, some (.int (n : Int)), u11, v12, v13] ∧ i0 ≤ n + 1 ∧ i1 ≤ n + 1 ∧ Sep (pt AA (.lst [.ref a0, .ref a1]) :: pt CC (.lst [.ref C0, .ref C1]) :: pt TT (.lst [.ref t0, .ref t1]) :: pt WW (.lst [.ref l0, .ref l1]) :: pt RR (.lst [.ref m0, .ref m1]) :: bag b :: tbP Pt posR qR (some c0) :: tbP P2 posF qF none :: sideP K c_Array c_Window c0 (⟨f0, a0, l0, t0, C0, m0⟩ : SD) i0 :: sideP K c_Array c_Window c0 (⟨f1, a1, l1, t1, C1, m1⟩ : SD) i1 :: R) H) ?_ ?_
        · walk_at "go"
          refine ⟨b, _, _, rfl, by decide, by decide, S.s1 (A := bag b) (by walk_at "sel"), fun y H hy0 hy1 S => ?_⟩
          walk_at "go"
          have hz : z = 0 ∨ z = 1 := by omega
          rcases hz with rfl | rfl
          · refine q_ite (fun hx => ?_) (fun hx => ?_)
            · walk_at "go"
              refine ⟨b, c0, (⟨f0, a0, l0, t0, C0, m0⟩ : SD), i0, _, rfl, by omega, S.s3 (A := bag b) (B := tbP Pt posR qR (some c0)) (C := sideP K c_Array c_Window c0 (⟨f0, a0, l0, t0, C0, m0⟩ : SD) i0) (by walk_at "sel"), fun H S => ?_⟩
              walk_at "go"
              exact ⟨_, i0 + 1, i1, rfl, by omega, by omega, S.sel (As := [pt AA (.lst [.ref a0, .ref a1]), pt CC (.lst [.ref C0, .ref C1]), pt TT (.lst [.ref t0, .ref t1]), pt WW (.lst [.ref l0, .ref l1]), pt RR (.lst [.ref m0, .ref m1]), bag b, tbP Pt posR qR (some c0), tbP P2 posF qF none, sideP K c_Array c_Window c0 (⟨f0, a0, l0, t0, C0, m0⟩ : SD) (i0 + 1), sideP K c_Array c_Window c0 (⟨f1, a1, l1, t1, C1, m1⟩ : SD) i1]) (Rs := R) (by walk_at "sel")⟩
            · walk_at "go"
              refine ⟨b, c0, (⟨f0, a0, l0, t0, C0, m0⟩ : SD), i0, _, rfl, by omega, S.s2 (A := bag b) (B := sideP K c_Array c_Window c0 (⟨f0, a0, l0, t0, C0, m0⟩ : SD) i0) (by walk_at "sel"), fun H S => ?_⟩
              exact ⟨_, i0 + 1, i1, rfl, by omega, by omega, S.sel (As := [pt AA (.lst [.ref a0, .ref a1]), pt CC (.lst [.ref C0, .ref C1]), pt TT (.lst [.ref t0, .ref t1]), pt WW (.lst [.ref l0, .ref l1]), pt RR (.lst [.ref m0, .ref m1]), bag b, tbP Pt posR qR (some c0), tbP P2 posF qF none, sideP K c_Array c_Window c0 (⟨f0, a0, l0, t0, C0, m0⟩ : SD) (i0 + 1), sideP K c_Array c_Window c0 (⟨f1, a1, l1, t1, C1, m1⟩ : SD) i1]) (Rs := R) (by walk_at "sel")⟩
          · refine q_ite (fun hx => ?_) (fun hx => ?_)
            · walk_at "go"
              refine ⟨b, c0, (⟨f1, a1, l1, t1, C1, m1⟩ : SD), i1, _, rfl, by omega, S.s3 (A := bag b) (B := tbP Pt posR qR (some c0)) (C := sideP K c_Array c_Window c0 (⟨f1, a1, l1, t1, C1, m1⟩ : SD) i1) (by walk_at "sel"), fun H S => ?_⟩
              walk_at "go"
              exact ⟨_, i0, i1 + 1, rfl, by omega, by omega, S.sel (As := [pt AA (.lst [.ref a0, .ref a1]), pt CC (.lst [.ref C0, .ref C1]), pt TT (.lst [.ref t0, .ref t1]), pt WW (.lst [.ref l0, .ref l1]), pt RR (.lst [.ref m0, .ref m1]), bag b, tbP Pt posR qR (some c0), tbP P2 posF qF none, sideP K c_Array c_Window c0 (⟨f0, a0, l0, t0, C0, m0⟩ : SD) i0, sideP K c_Array c_Window c0 (⟨f1, a1, l1, t1, C1, m1⟩ : SD) (i1 + 1)]) (Rs := R) (by walk_at "sel")⟩
            · walk_at "go"
              refine ⟨b, c0, (⟨f1, a1, l1, t1, C1, m1⟩ : SD), i1, _, rfl, by omega, S.s2 (A := bag b) (B := sideP K c_Array c_Window c0 (⟨f1, a1, l1, t1, C1, m1⟩ : SD) i1) (by walk_at "sel"), fun H S => ?_⟩
              exact ⟨_, i0, i1 + 1, rfl, by omega, by omega, S.sel (As := [pt AA (.lst [.ref a0, .ref a1]), pt CC (.lst [.ref C0, .ref C1]), pt TT (.lst [.ref t0, .ref t1]), pt WW (.lst [.ref l0, .ref l1]), pt RR (.lst [.ref m0, .ref m1]), bag b, tbP Pt posR qR (some c0), tbP P2 posF qF none, sideP K c_Array c_Window c0 (⟨f0, a0, l0, t0, C0, m0⟩ : SD) i0, sideP K c_Array c_Window c0 (⟨f1, a1, l1, t1, C1, m1⟩ : SD) (i1 + 1)]) (Rs := R) (by walk_at "sel")⟩
        rintro σ H ⟨v8, i0, i1, rfl, h0, h1, S⟩
        walk_at "go"
        obtain ⟨cl0, cs0, as0, G0, ws0, qs0, ns0, ok0, S⟩ := sd_open (S.s1 (A := sideP K c_Array c_Window c0 (⟨f0, a0, l0, t0, C0, m0⟩ : SD) i0) (by walk_at "sel"))
        obtain ⟨cl1, cs1, as1, G1, ws1, qs1, ns1, ok1, S⟩ := sd_open (S.s1 (A := sideP K c_Array c_Window c0 (⟨f1, a1, l1, t1, C1, m1⟩ : SD) i1) (by walk_at "sel"))
        dsimp only at S
        have S : Sep (pt AA (.lst [.ref a0, .ref a1]) :: pt CC (.lst [.ref C0, .ref C1]) :: pt TT (.lst [.ref t0, .ref t1]) :: pt WW (.lst [.ref l0, .ref l1]) :: pt RR (.lst [.ref m0, .ref m1]) :: bag b :: tbP Pt posR qR (some c0) :: tbP P2 posF qF none :: pt f0 (FnO f0 (NFr cl0 c0)) :: cells cs0 :: lsP K a0 (dq qs0) :: lsP K t0 (ns0.map dLk) :: pt l0 (.lst (wrefs ws0)) :: ars c_Array as0 G0 :: wis c_Window (.ref f0) ws0 :: lsP K C0 (dq qs0) :: pt m0 (.lst ((rooms G0 ws0).map V.int)) :: pt f1 (FnO f1 (NFr cl1 c0)) :: cells cs1 :: lsP K a1 (dq qs1) :: lsP K t1 (ns1.map dLk) :: pt l1 (.lst (wrefs ws1)) :: ars c_Array as1 G1 :: wis c_Window (.ref f1) ws1 :: lsP K C1 (dq qs1) :: pt m1 (.lst ((rooms G1 ws1).map V.int)) :: R) H := S.sel (As := [pt AA (.lst [.ref a0, .ref a1]), pt CC (.lst [.ref C0, .ref C1]), pt TT (.lst [.ref t0, .ref t1]), pt WW (.lst [.ref l0, .ref l1]), pt RR (.lst [.ref m0, .ref m1]), bag b, tbP Pt posR qR (some c0), tbP P2 posF qF none, pt f0 (FnO f0 (NFr cl0 c0)), cells cs0, lsP K a0 (dq qs0), lsP K t0 (ns0.map dLk), pt l0 (.lst (wrefs ws0)), ars c_Array as0 G0, wis c_Window (.ref f0) ws0, lsP K C0 (dq qs0), pt m0 (.lst ((rooms G0 ws0).map V.int)), pt f1 (FnO f1 (NFr cl1 c0)), cells cs1, lsP K a1 (dq qs1), lsP K t1 (ns1.map dLk), pt l1 (.lst (wrefs ws1)), ars c_Array as1 G1, wis c_Window (.ref f1) ws1, lsP K C1 (dq qs1), pt m1 (.lst ((rooms G1 ws1).map V.int))]) (Rs := R) (by walk_at "sel")
        have E0 := dat_dp (ls_dat (S.s1 (A := lsP K a0 (dq qs0)) (by walk_at "sel")))
        have E1 := dat_dp (ls_dat (S.s1 (A := lsP K a1 (dq qs1)) (by walk_at "sel")))
        have E2 := dat_dp (ls_dat (S.s1 (A := lsP K C0 (dq qs0)) (by walk_at "sel")))
        have E3 := dat_dp (ls_dat (S.s1 (A := lsP K C1 (dq qs1)) (by walk_at "sel")))
        have E4 : SqL K H AA [.ref a0, .ref a1] := by walk_at "sq"
        have E5 : SqL K H CC [.ref C0, .ref C1] := by walk_at "sq"
        refine r_ne_same (k := 3) (d := .list [.list (dq qs0), .list (dq qs1)]) (.lst E4 (.cons E0 (.cons E1 .nil))) (.lst E5 (.cons E2 (.cons E3 .nil))) (okd_list fun d m => ?_) (by decide) ?_
        · simp only [List.mem_cons, List.not_mem_nil, or_false] at m
          rcases m with rfl | rfl <;> exact okd_dq _
        clear E0 E1 E2 E3 E4 E5
        walk_at "go"
        have b0 := ok0.k.mx.2
        have b1 := ok1.k.mx.2
        refine r_lc_list (xs := [.ref l0, .ref l1]) (fun n acc Ps => (n = 0 ∧ acc = [] ∧ Ps = pt AA (.lst [.ref a0, .ref a1]) :: pt CC (.lst [.ref C0, .ref C1]) :: pt TT (.lst [.ref t0, .ref t1]) :: pt WW (.lst [.ref l0, .ref l1]) :: pt RR (.lst [.ref m0, .ref m1]) :: bag b :: tbP Pt posR qR (some c0) :: tbP P2 posF qF none :: pt f0 (FnO f0 (NFr cl0 c0)) :: cells cs0 :: lsP K a0 (dq qs0) :: lsP K t0 (ns0.map dLk) :: pt l0 (.lst (wrefs ws0)) :: ars c_Array as0 G0 :: wis c_Window (.ref f0) ws0 :: lsP K C0 (dq qs0) :: pt m0 (.lst ((rooms G0 ws0).map V.int)) :: pt f1 (FnO f1 (NFr cl1 c0)) :: cells cs1 :: lsP K a1 (dq qs1) :: lsP K t1 (ns1.map dLk) :: pt l1 (.lst (wrefs ws1)) :: ars c_Array as1 G1 :: wis c_Window (.ref f1) ws1 :: lsP K C1 (dq qs1) :: pt m1 (.lst ((rooms G1 ws1).map V.int)) :: R) ∨ (n = 1 ∧ ∃ D0, acc = [.ref D0] ∧ Ps = pt D0 (.lst ((rooms G0 ws0).map V.int)) :: pt AA (.lst [.ref a0, .ref a1]) :: pt CC (.lst [.ref C0, .ref C1]) :: pt TT (.lst [.ref t0, .ref t1]) :: pt WW (.lst [.ref l0, .ref l1]) :: pt RR (.lst [.ref m0, .ref m1]) :: bag b :: tbP Pt posR qR (some c0) :: tbP P2 posF qF none :: pt f0 (FnO f0 (NFr cl0 c0)) :: cells cs0 :: lsP K a0 (dq qs0) :: lsP K t0 (ns0.map dLk) :: pt l0 (.lst (wrefs ws0)) :: ars c_Array as0 G0 :: wis c_Window (.ref f0) ws0 :: lsP K C0 (dq qs0) :: pt m0 (.lst ((rooms G0 ws0).map V.int)) :: pt f1 (FnO f1 (NFr cl1 c0)) :: cells cs1 :: lsP K a1 (dq qs1) :: lsP K t1 (ns1.map dLk) :: pt l1 (.lst (wrefs ws1)) :: ars c_Array as1 G1 :: wis c_Window (.ref f1) ws1 :: lsP K C1 (dq qs1) :: pt m1 (.lst ((rooms G1 ws1).map V.int)) :: R) ∨ (n = 2 ∧ ∃ D0 D1, acc = [.ref D0, .ref D1] ∧ Ps = pt D0 (.lst ((rooms G0 ws0).map V.int)) :: pt D1 (.lst ((rooms G1 ws1).map V.int)) :: pt AA (.lst [.ref a0, .ref a1]) :: pt CC (.lst [.ref C0, .ref C1]) :: pt TT (.lst [.ref t0, .ref t1]) :: pt WW (.lst [.ref l0, .ref l1]) :: pt RR (.lst [.ref m0, .ref m1]) :: bag b :: tbP Pt posR qR (some c0) :: tbP P2 posF qF none :: pt f0 (FnO f0 (NFr cl0 c0)) :: cells cs0 :: lsP K a0 (dq qs0) :: lsP K t0 (ns0.map dLk) :: pt l0 (.lst (wrefs ws0)) :: ars c_Array as0 G0 :: wis c_Window (.ref f0) ws0 :: lsP K C0 (dq qs0) :: pt m0 (.lst ((rooms G0 ws0).map V.int)) :: pt f1 (FnO f1 (NFr cl1 c0)) :: cells cs1 :: lsP K a1 (dq qs1) :: lsP K t1 (ns1.map dLk) :: pt l1 (.lst (wrefs ws1)) :: ars c_Array as1 G1 :: wis c_Window (.ref f1) ws1 :: lsP K C1 (dq qs1) :: pt m1 (.lst ((rooms G1 ws1).map V.int)) :: R)) S (.inl ⟨rfl, rfl, rfl⟩) ?_ (by walk_at "sq") ?_ ?_
        · rintro D n acc Ps H hn hc S
          rcases hc with ⟨rfl, rfl, rfl⟩ | ⟨rfl, D0, rfl, rfl⟩ | ⟨rfl, D0, D1, rfl, rfl⟩ <;> walk_at "sq"
        · rintro D n y acc Ps H hy hc S
          rcases hc with ⟨rfl, rfl, rfl⟩ | ⟨rfl, D0, rfl, rfl⟩ | ⟨rfl, D0, D1, rfl, rfl⟩
          · have hy : V.ref l0 = y := Option.some.inj hy
            subst hy
            walk_at "go"
            refine ⟨rfl, ?_⟩
            walk_at "go"
            refine r_rooms ok0.k.wf (S.s3 (A := pt l0 (.lst (wrefs ws0))) (B := ars c_Array as0 G0) (C := wis c_Window (.ref f0) ws0) (by walk_at "sel")) (by omega) (fun x => rfl) (fun x => rfl) fun D0 H S => ?_
            exact cn_in (S.sel (As := [pt D (.lst []), pt D0 (.lst ((rooms G0 ws0).map V.int)), pt AA (.lst [.ref a0, .ref a1]), pt CC (.lst [.ref C0, .ref C1]), pt TT (.lst [.ref t0, .ref t1]), pt WW (.lst [.ref l0, .ref l1]), pt RR (.lst [.ref m0, .ref m1]), bag b, tbP Pt posR qR (some c0), tbP P2 posF qF none, pt f0 (FnO f0 (NFr cl0 c0)), cells cs0, lsP K a0 (dq qs0), lsP K t0 (ns0.map dLk), pt l0 (.lst (wrefs ws0)), ars c_Array as0 G0, wis c_Window (.ref f0) ws0, lsP K C0 (dq qs0), pt m0 (.lst ((rooms G0 ws0).map V.int)), pt f1 (FnO f1 (NFr cl1 c0)), cells cs1, lsP K a1 (dq qs1), lsP K t1 (ns1.map dLk), pt l1 (.lst (wrefs ws1)), ars c_Array as1 G1, wis c_Window (.ref f1) ws1, lsP K C1 (dq qs1), pt m1 (.lst ((rooms G1 ws1).map V.int))]) (Rs := R) (by walk_at "sel")) (by simp) (.inr (.inl ⟨rfl, D0, rfl, rfl⟩))
          · have hy : V.ref l1 = y := Option.some.inj hy
            subst hy
            walk_at "go"
            refine ⟨rfl, ?_⟩
            walk_at "go"
            refine r_rooms ok1.k.wf (S.s3 (A := pt l1 (.lst (wrefs ws1))) (B := ars c_Array as1 G1) (C := wis c_Window (.ref f1) ws1) (by walk_at "sel")) (by omega) (fun x => rfl) (fun x => rfl) fun D1 H S => ?_
            exact cn_in (S.sel (As := [pt D (.lst [.ref D0]), pt D0 (.lst ((rooms G0 ws0).map V.int)), pt D1 (.lst ((rooms G1 ws1).map V.int)), pt AA (.lst [.ref a0, .ref a1]), pt CC (.lst [.ref C0, .ref C1]), pt TT (.lst [.ref t0, .ref t1]), pt WW (.lst [.ref l0, .ref l1]), pt RR (.lst [.ref m0, .ref m1]), bag b, tbP Pt posR qR (some c0), tbP P2 posF qF none, pt f0 (FnO f0 (NFr cl0 c0)), cells cs0, lsP K a0 (dq qs0), lsP K t0 (ns0.map dLk), pt l0 (.lst (wrefs ws0)), ars c_Array as0 G0, wis c_Window (.ref f0) ws0, lsP K C0 (dq qs0), pt m0 (.lst ((rooms G0 ws0).map V.int)), pt f1 (FnO f1 (NFr cl1 c0)), cells cs1, lsP K a1 (dq qs1), lsP K t1 (ns1.map dLk), pt l1 (.lst (wrefs ws1)), ars c_Array as1 G1, wis c_Window (.ref f1) ws1, lsP K C1 (dq qs1), pt m1 (.lst ((rooms G1 ws1).map V.int))]) (Rs := R) (by walk_at "sel")) (by simp) (.inr (.inr ⟨rfl, D0, D1, rfl, rfl⟩))
          · cases hy
        · rintro D acc Ps H hc S
          rcases hc with ⟨h, _⟩ | ⟨h, _⟩ | ⟨_, D0, D1, rfl, rfl⟩
          · cases h
          · cases h
          walk_at "go"
          have E0 : SqL K H D [.ref D0, .ref D1] := by walk_at "sq"
          have E1 : SqL K H RR [.ref m0, .ref m1] := by walk_at "sq"
          have E2 := dp_ints (ns := rooms G0 ws0) (S.sq (K := K) (a := D0) (by walk_at "mem"))
          have E3 := dp_ints (ns := rooms G1 ws1) (S.sq (K := K) (a := D1) (by walk_at "mem"))
          have E4 := dp_ints (ns := rooms G0 ws0) (S.sq (K := K) (a := m0) (by walk_at "mem"))
          have E5 := dp_ints (ns := rooms G1 ws1) (S.sq (K := K) (a := m1) (by walk_at "mem"))
          refine r_ne_same (k := 2) (d := .list [dInts (rooms G0 ws0), dInts (rooms G1 ws1)]) (.lst E0 (.cons E2 (.cons E3 .nil))) (.lst E1 (.cons E4 (.cons E5 .nil))) (okd_list fun d m => ?_) (by decide) ?_
          · simp only [List.mem_cons, List.not_mem_nil, or_false] at m
            rcases m with rfl | rfl <;> exact okd_ints 0 _
          clear E0 E1 E2 E3 E4 E5
          walk_at "go"
          have S := S.tl.tl.tl
          have S := sd_shut (d := (⟨f0, a0, l0, t0, C0, m0⟩ : SD)) ok0 (S.sel (As := [pt f0 (FnO f0 (NFr cl0 c0)), cells cs0, lsP K a0 (dq qs0), lsP K t0 (ns0.map dLk), pt l0 (.lst (wrefs ws0)), ars c_Array as0 G0, wis c_Window (.ref f0) ws0, lsP K C0 (dq qs0), pt m0 (.lst ((rooms G0 ws0).map V.int))]) (by walk_at "sel"))
          dsimp only [List.append] at S
          have S := sd_shut (d := (⟨f1, a1, l1, t1, C1, m1⟩ : SD)) ok1 (S.sel (As := [pt f1 (FnO f1 (NFr cl1 c0)), cells cs1, lsP K a1 (dq qs1), lsP K t1 (ns1.map dLk), pt l1 (.lst (wrefs ws1)), ars c_Array as1 G1, wis c_Window (.ref f1) ws1, lsP K C1 (dq qs1), pt m1 (.lst ((rooms G1 ws1).map V.int))]) (by walk_at "sel"))
          dsimp only [List.append] at S
          exact ⟨_, ⟨_, _, _, _, i0, i1, rfl, h0, h1, rfl⟩, S.sel (As := [pt AA (.lst [.ref a0, .ref a1]), pt CC (.lst [.ref C0, .ref C1]), pt TT (.lst [.ref t0, .ref t1]), pt WW (.lst [.ref l0, .ref l1]), pt RR (.lst [.ref m0, .ref m1]), bag b, tbP Pt posR qR (some c0), tbP P2 posF qF none, sideP K c_Array c_Window c0 (⟨f0, a0, l0, t0, C0, m0⟩ : SD) i0, sideP K c_Array c_Window c0 (⟨f1, a1, l1, t1, C1, m1⟩ : SD) i1]) (Rs := R) (by walk_at "sel")⟩
      · rintro σ Ps H ⟨v8, v10, v12, v13, i0, i1, rfl, h0, h1, rfl⟩ S
        walk_at "go"
        refine ⟨x, dx, p, .non, [1, 2], _, rfl, by simp, by simp, S.s2 (A := pt x (.ins c_Window dx [])) (B := pt p (.lst [.int 1, .int 2])) (by walk_at "sel"), fun A1 L1 H S => ⟨rfl, ?_⟩⟩
        obtain ⟨W1, hq1⟩ : ∃ q, q = x := ⟨x, rfl⟩
        subst hq1
        have S : Sep (wnP c_Window W1 A1 2 .non :: arP c_Array A1 L1 [1, 2] 2 :: _) H := S
        walk_at "go"
        refine wn_meth (W := W1) S (by walk_at "mem") (fun _ _ _ => rfl) ?_
        walk_at "go"
        refine ⟨W1, A1, L1, p, 2, .non, [1, 2], [3], 2, _, rfl, by decide, by decide, by simp, by decide, by decide, S.s3 (A := wnP c_Window W1 A1 2 .non) (B := arP c_Array A1 L1 [1, 2] 2) (C := pt p (.lst [.int 3])) (by walk_at "sel"), fun h => absurd h (by decide), fun _ => .inl ⟨rfl, _, S.s3 (A := wnP c_Window W1 A1 2 .non) (B := arP c_Array A1 L1 [1, 2] 2) (C := pt p (.lst [.int 3])) (by walk_at "sel"), fun W2 A2 Lx H S => ?_⟩⟩
        have S : Sep (wnP c_Window W2 A2 3 .non :: arP c_Array A2 Lx [1, 2, 3] 3 :: wnP c_Window W1 A1 2 .non :: arP c_Array A1 L1 [1, 2] 2 :: _) H := S
        walk_at "go"
        refine wn_prop (W := W2) S (by walk_at "mem") ?_
        refine ⟨W2, A2, Lx, 3, .non, [1, 2, 3], 3, _, rfl, S.s2 (by walk_at "sel"), ?_⟩
        walk_at "go"
        refine wn_meth (W := W1) S (by walk_at "mem") (fun _ _ _ => rfl) ?_
        walk_at "go"
        refine ⟨W1, A1, 2, 1, .non, _, rfl, by decide, by decide, S.s1 (A := wnP c_Window W1 A1 2 .non) (by walk_at "sel"), fun W3 H S => ?_⟩
        walk_at "go"
        refine wn_meth (W := W3) (n := 1) S (by walk_at "mem") (fun _ _ _ => rfl) ?_
        walk_at "go"
        refine ⟨W3, A1, L1, p, 1, .non, [1, 2], [3], 2, _, rfl, by decide, by decide, by simp, by decide, by decide, S.s3 (A := wnP c_Window W3 A1 1 .non) (B := arP c_Array A1 L1 [1, 2] 2) (C := pt p (.lst [.int 3])) (by walk_at "sel"), fun _ W4 H S => ?_, fun h => absurd h (by decide)⟩
        have S : Sep (wnP c_Window W4 A1 2 .non :: wnP c_Window W3 A1 1 .non :: arP c_Array A1 L1 [1, 3] 2 :: _) H := S
        walk_at "go"
        refine wn_prop (W := W4) S (by walk_at "mem") ?_
        refine ⟨W4, A1, L1, 2, .non, [1, 3], 2, _, rfl, S.s2 (by walk_at "sel"), ?_⟩
        walk_at "go"
        refine wn_meth (W := W1) S (by walk_at "mem") (fun _ _ _ => rfl) ?_
        walk_at "go"
        refine ⟨W1, A1, L1, 2, .non, [1, 3], 2, _, rfl, S.s2 (by walk_at "sel"), fun W5 A5 L5 H S => ?_⟩
        have S : Sep (wnP c_Window W5 A5 2 .non :: arP c_Array A5 L5 [1, 3] 2 :: _) H := S
        walk_at "go"
        refine wn_meth (W := W5) S (by walk_at "mem") (fun _ _ _ => rfl) ?_
        walk_at "go"
        refine ⟨W5, A5, L5, p, 2, .non, [1, 3], [3, 4], 2, _, rfl, by decide, by decide, by simp, by decide, by decide, S.s3 (A := wnP c_Window W5 A5 2 .non) (B := arP c_Array A5 L5 [1, 3] 2) (C := pt p (.lst [.int 3, .int 4])) (by walk_at "sel"), fun h => absurd h (by decide), fun _ => .inl ⟨rfl, _, S.s3 (A := wnP c_Window W5 A5 2 .non) (B := arP c_Array A5 L5 [1, 3] 2) (C := pt p (.lst [.int 3, .int 4])) (by walk_at "sel"), fun W6 A6 L6 H S => ?_⟩⟩
        have S : Sep (wnP c_Window W6 A6 4 .non :: arP c_Array A6 L6 [1, 3, 3, 4] 4 :: _) H := S
        walk_at "go"
        refine wn_prop (W := W6) S (by walk_at "mem") ?_
        refine ⟨W6, A6, L6, 4, .non, [1, 3, 3, 4], 4, _, rfl, S.s2 (by walk_at "sel"), ?_⟩
        walk_at "go"
        rename_i pl _ _
        have E0 := S.sq (K := K) (a := pl) (by walk_at "mem")
        have E1 := S.sq (K := K) (a := p) (by walk_at "mem")
        refine r_ne_same (k := 1) (d := .list [.int 3, .int 2, .int 4]) (.lst E0 (.cons (.int _) (.cons (.int _) (.cons (.int _) .nil)))) (.lst E1 (.cons (.int _) (.cons (.int _) (.cons (.int _) .nil)))) ⟨rfl, by decide⟩ (by decide) ?_
        walk_at "go"
        exact ⟨_, ⟨_, _, _, _, _, _, _, _, _, _, _, _, some c0, _, rfl, rfl⟩, S.sel (As := [bag b, tbP Pt posR qR (some c0), tbP P2 posF qF none]) (Rs := R) (by walk_at "sel")⟩
  · rintro σ Ps H ⟨u2, u3, u4, u5, u6, u7, u8, u9, u10, u11, u12, u13,  o, R, rfl, rfl⟩ S
    walk_at "go"
    refine ⟨_, rfl, S.s1 (A := tbP P2 posF qF none) (by walk_at "sel"), q⟩
end

end Pf

set_option Elab.async false
set_option linter.all false
set_option maxRecDepth 100000
set_option maxHeartbeats 16000000
namespace Pf
open PySem L2 Kt NdefX
theorem vals_app {vs ws : List V} {us zs : List Value} (r1 : Vals vs us) (r2 : Vals ws zs) : Vals (vs ++ ws) (us ++ zs) := by
  induction r1 with
  | nil => exact r2
  | cons h _ ih => exact .cons h ih
theorem all_mk {l : PySem.W.OpenLaw} {w : World} {K : PySem.W.Frag} {h : Heap} {mg : Str → Option Value} {fa : Addr} (X : K.In h) (G : h.Ns mainGlobals mg) (hfa : mg "law" = some (.ref fa)) {q : Program} (TB : TabsOf q K h)
    {c_Array f_Array_init c_Window f_Window_init dk2 f_Window_seen f_Window_marks f_Window_put f_Window_on f_Window_size_for f_Window_shares f_Window_cut f_Window_copied f_Window_len f_Window_setitem f_Window_iadd f_Window_spare q_Window_spare f_Window_room q_Window_room f_is_integer f_is_number f_are_marks f_l_bag f_l_take f_l_grown f_l_other f_l_side k_l_side P_l_side f_l_far_right k_l_far_right P_l_far_right f_law : Addr} {od1 an1 od2 an2 od3 an3 od4 an4 od5 an5 od6 an6 od7 an7 od8 an8 od9 an9 od10 an10 od11 an11 od12 an12 od13 an13 od14 an14 od15 an15 od16 an16 od17 an17 od18 an18 od19 an19 od20 an20 od21 an21 od22 an22 od23 an23 odk_l_side od24 an24 odk_l_far_right od25 an25 : Option Addr} {sl1 sl2 sl3 sl4 sl5 sl6 sl7 sl8 sl9 sl10 sl11 sl12 sl13 sl14 sl15 sl16 sl17 sl18 sl19 sl20 sl21 sl22 sl23 slk_l_side sl24 slk_l_far_right sl25 : Array (Option Value)} {oc1 kV1 dc1 pm1 cd1 ct1 oc2 dc2 pm2 cd2 ct2 oc3 kV3 dc3 pm3 cd3 ct3 oc4 kV4 dc4 pm4 cd4 ct4 oc5 kV5 dc5 pm5 cd5 ct5 oc6 kV6 dc6 pm6 cd6 ct6 oc7 kV7 dc7 pm7 cd7 ct7 oc8 kV8 dc8 pm8 cd8 ct8 oc9 kV9 dc9 pm9 cd9 ct9 oc10 kV10 dc10 pm10 cd10 ct10 oc11 kV11 dc11 pm11 cd11 ct11 oc12 kV12 dc12 pm12 cd12 ct12 oc13 kV13 dc13 pm13 cd13 ct13 oc14 kV14 dc14 pm14 cd14 ct14 oc15 kV15 dc15 pm15 cd15 ct15 oc16 kV16 dc16 pm16 cd16 ct16 oc17 kV17 dc17 pm17 cd17 ct17 oc18 kV18 dc18 pm18 cd18 ct18 oc19 kV19 dc19 pm19 cd19 ct19 oc20 kV20 dc20 pm20 cd20 ct20 oc21 kV21 dc21 pm21 cd21 ct21 oc22 kV22 dc22 pm22 cd22 ct22 oc23 kV23 dc23 pm23 ct23 oj_l_side oc24 kV24 dc24 pm24 ct24 oj_l_far_right oc25 kV25 dc25 pm25 cd25 ct25 : Value}
    {r_Window_spare r_Window_room : List Value}
    {vs_l_far_right : Array Value} {dr_l_far_right : DefRec}
    {vs_l_side : Array Value} {dr_l_side : DefRec}
    (aC_Array : PySem.W.nsIn K mainGlobals "Array" = some (some (.ref c_Array)))
    (pg_Array : PySem.W.plainGet K c_Array Str.empty = true)
    (hd_Array : PySem.W.hasDictIn K c_Array = true)
    (po_Array : PySem.W.plainOver K c_Array = true)
    (mk_Array : PySem.W.makesIn K c_Array = true)
    (kc_Array : PySem.W.keepIn K (.ref c_Array) = true)
    (sa_Array : PySem.W.findIn K (.ref c_Array) "__setattr__" = some (some (.builtin "object.__setattr__")))
    (na_Array_cells : PySem.W.findIn K (.ref c_Array) "cells" = some none)
    (na_Array_size : PySem.W.findIn K (.ref c_Array) "size" = some none)
    (a_Array_init : PySem.W.findIn K (.ref c_Array) "__init__" = some (some (.ref f_Array_init)))
    (i_Array_init : PySem.W.isFn K (.ref f_Array_init) = true)
    (l1 : K.lookup f_Array_init = some ⟨oc1, od1, .func (PySem.W.fnOf "__init__" "Array.__init__" (defArgs s_Array_init) (defBody s_Array_init) (defScope s_Array_init) .none kV1 dc1 pm1 an1 cd1 ct1), sl1⟩)
    (c1 : PySem.W.codeIn K cd1 "Array.__init__" = true)
    (k1 : PySem.W.keepIn K (.ref f_Array_init) = true)
    (aC_Window : PySem.W.nsIn K mainGlobals "Window" = some (some (.ref c_Window)))
    (pg_Window : PySem.W.plainGet K c_Window Str.empty = true)
    (hd_Window : PySem.W.hasDictIn K c_Window = true)
    (po_Window : PySem.W.plainOver K c_Window = true)
    (mk_Window : PySem.W.makesIn K c_Window = true)
    (kc_Window : PySem.W.keepIn K (.ref c_Window) = true)
    (noSeq_Window : PySem.W.noSeq K c_Window = true)
    (selfFirst_Window : PySem.W.selfFirst K c_Window = true)
    (sa_Window : PySem.W.findIn K (.ref c_Window) "__setattr__" = some (some (.builtin "object.__setattr__")))
    (na_Window__array : PySem.W.findIn K (.ref c_Window) "_array" = some none)
    (na_Window__length : PySem.W.findIn K (.ref c_Window) "_length" = some none)
    (na_Window__rule : PySem.W.findIn K (.ref c_Window) "_rule" = some none)
    (a_Window_init : PySem.W.findIn K (.ref c_Window) "__init__" = some (some (.ref f_Window_init)))
    (i_Window_init : PySem.W.isFn K (.ref f_Window_init) = true)
    (l2 : K.lookup f_Window_init = some ⟨oc2, od2, .func (PySem.W.fnOf "__init__" "Window.__init__" (defArgs s_Window_init) (defBody s_Window_init) (defScope s_Window_init) .none (.ref dk2) dc2 pm2 an2 cd2 ct2), sl2⟩)
    (c2 : PySem.W.codeIn K cd2 "Window.__init__" = true)
    (k2 : PySem.W.keepIn K (.ref f_Window_init) = true)
    (w2_0 : PySem.W.nsIn K dk2 "rule" = some (some .none))
    (a_Window_seen : PySem.W.findIn K (.ref c_Window) "_seen" = some (some (.ref f_Window_seen)))
    (i_Window_seen : PySem.W.isFn K (.ref f_Window_seen) = true)
    (l3 : K.lookup f_Window_seen = some ⟨oc3, od3, .func (PySem.W.fnOf "_seen" "Window._seen" (defArgs s_Window_seen) (defBody s_Window_seen) (defScope s_Window_seen) .none kV3 dc3 pm3 an3 cd3 ct3), sl3⟩)
    (c3 : PySem.W.codeIn K cd3 "Window._seen" = true)
    (k3 : PySem.W.keepIn K (.ref f_Window_seen) = true)
    (a_Window_marks : PySem.W.findIn K (.ref c_Window) "marks" = some (some (.ref f_Window_marks)))
    (i_Window_marks : PySem.W.isFn K (.ref f_Window_marks) = true)
    (l4 : K.lookup f_Window_marks = some ⟨oc4, od4, .func (PySem.W.fnOf "marks" "Window.marks" (defArgs s_Window_marks) (defBody s_Window_marks) (defScope s_Window_marks) .none kV4 dc4 pm4 an4 cd4 ct4), sl4⟩)
    (c4 : PySem.W.codeIn K cd4 "Window.marks" = true)
    (k4 : PySem.W.keepIn K (.ref f_Window_marks) = true)
    (a_Window_put : PySem.W.findIn K (.ref c_Window) "put" = some (some (.ref f_Window_put)))
    (i_Window_put : PySem.W.isFn K (.ref f_Window_put) = true)
    (l5 : K.lookup f_Window_put = some ⟨oc5, od5, .func (PySem.W.fnOf "put" "Window.put" (defArgs s_Window_put) (defBody s_Window_put) (defScope s_Window_put) .none kV5 dc5 pm5 an5 cd5 ct5), sl5⟩)
    (c5 : PySem.W.codeIn K cd5 "Window.put" = true)
    (k5 : PySem.W.keepIn K (.ref f_Window_put) = true)
    (a_Window_on : PySem.W.findIn K (.ref c_Window) "_on" = some (some (.ref f_Window_on)))
    (i_Window_on : PySem.W.isFn K (.ref f_Window_on) = true)
    (l6 : K.lookup f_Window_on = some ⟨oc6, od6, .func (PySem.W.fnOf "_on" "Window._on" (defArgs s_Window_on) (defBody s_Window_on) (defScope s_Window_on) .none kV6 dc6 pm6 an6 cd6 ct6), sl6⟩)
    (c6 : PySem.W.codeIn K cd6 "Window._on" = true)
    (k6 : PySem.W.keepIn K (.ref f_Window_on) = true)
    (a_Window_size_for : PySem.W.findIn K (.ref c_Window) "_size_for" = some (some (.ref f_Window_size_for)))
    (i_Window_size_for : PySem.W.isFn K (.ref f_Window_size_for) = true)
    (l7 : K.lookup f_Window_size_for = some ⟨oc7, od7, .func (PySem.W.fnOf "_size_for" "Window._size_for" (defArgs s_Window_size_for) (defBody s_Window_size_for) (defScope s_Window_size_for) .none kV7 dc7 pm7 an7 cd7 ct7), sl7⟩)
    (c7 : PySem.W.codeIn K cd7 "Window._size_for" = true)
    (k7 : PySem.W.keepIn K (.ref f_Window_size_for) = true)
    (a_Window_shares : PySem.W.findIn K (.ref c_Window) "shares" = some (some (.ref f_Window_shares)))
    (i_Window_shares : PySem.W.isFn K (.ref f_Window_shares) = true)
    (l8 : K.lookup f_Window_shares = some ⟨oc8, od8, .func (PySem.W.fnOf "shares" "Window.shares" (defArgs s_Window_shares) (defBody s_Window_shares) (defScope s_Window_shares) .none kV8 dc8 pm8 an8 cd8 ct8), sl8⟩)
    (c8 : PySem.W.codeIn K cd8 "Window.shares" = true)
    (k8 : PySem.W.keepIn K (.ref f_Window_shares) = true)
    (a_Window_cut : PySem.W.findIn K (.ref c_Window) "cut" = some (some (.ref f_Window_cut)))
    (i_Window_cut : PySem.W.isFn K (.ref f_Window_cut) = true)
    (l9 : K.lookup f_Window_cut = some ⟨oc9, od9, .func (PySem.W.fnOf "cut" "Window.cut" (defArgs s_Window_cut) (defBody s_Window_cut) (defScope s_Window_cut) .none kV9 dc9 pm9 an9 cd9 ct9), sl9⟩)
    (c9 : PySem.W.codeIn K cd9 "Window.cut" = true)
    (k9 : PySem.W.keepIn K (.ref f_Window_cut) = true)
    (a_Window_copied : PySem.W.findIn K (.ref c_Window) "copied" = some (some (.ref f_Window_copied)))
    (i_Window_copied : PySem.W.isFn K (.ref f_Window_copied) = true)
    (l10 : K.lookup f_Window_copied = some ⟨oc10, od10, .func (PySem.W.fnOf "copied" "Window.copied" (defArgs s_Window_copied) (defBody s_Window_copied) (defScope s_Window_copied) .none kV10 dc10 pm10 an10 cd10 ct10), sl10⟩)
    (c10 : PySem.W.codeIn K cd10 "Window.copied" = true)
    (k10 : PySem.W.keepIn K (.ref f_Window_copied) = true)
    (a_Window_len : PySem.W.findIn K (.ref c_Window) "__len__" = some (some (.ref f_Window_len)))
    (i_Window_len : PySem.W.isFn K (.ref f_Window_len) = true)
    (l11 : K.lookup f_Window_len = some ⟨oc11, od11, .func (PySem.W.fnOf "__len__" "Window.__len__" (defArgs s_Window_len) (defBody s_Window_len) (defScope s_Window_len) .none kV11 dc11 pm11 an11 cd11 ct11), sl11⟩)
    (c11 : PySem.W.codeIn K cd11 "Window.__len__" = true)
    (k11 : PySem.W.keepIn K (.ref f_Window_len) = true)
    (a_Window_setitem : PySem.W.findIn K (.ref c_Window) "__setitem__" = some (some (.ref f_Window_setitem)))
    (i_Window_setitem : PySem.W.isFn K (.ref f_Window_setitem) = true)
    (l12 : K.lookup f_Window_setitem = some ⟨oc12, od12, .func (PySem.W.fnOf "__setitem__" "Window.__setitem__" (defArgs s_Window_setitem) (defBody s_Window_setitem) (defScope s_Window_setitem) .none kV12 dc12 pm12 an12 cd12 ct12), sl12⟩)
    (c12 : PySem.W.codeIn K cd12 "Window.__setitem__" = true)
    (k12 : PySem.W.keepIn K (.ref f_Window_setitem) = true)
    (a_Window_iadd : PySem.W.findIn K (.ref c_Window) "__iadd__" = some (some (.ref f_Window_iadd)))
    (i_Window_iadd : PySem.W.isFn K (.ref f_Window_iadd) = true)
    (l13 : K.lookup f_Window_iadd = some ⟨oc13, od13, .func (PySem.W.fnOf "__iadd__" "Window.__iadd__" (defArgs s_Window_iadd) (defBody s_Window_iadd) (defScope s_Window_iadd) .none kV13 dc13 pm13 an13 cd13 ct13), sl13⟩)
    (c13 : PySem.W.codeIn K cd13 "Window.__iadd__" = true)
    (k13 : PySem.W.keepIn K (.ref f_Window_iadd) = true)
    (pa_Window_spare : PySem.W.findIn K (.ref c_Window) "spare" = some (some (.ref q_Window_spare)))
    (pg_Window_spare : PySem.W.specialIn K (.ref q_Window_spare) "__get__" = some (some (.builtin "property.__get__")))
    (pt_Window_spare : PySem.W.takesIn K (.ref q_Window_spare) = some true)
    (pr_Window_spare : PySem.W.recIn K q_Window_spare "property" = some (.ref f_Window_spare :: r_Window_spare))
    (l14 : K.lookup f_Window_spare = some ⟨oc14, od14, .func (PySem.W.fnOf "spare" "Window.spare" (defArgs s_Window_spare) (defBody s_Window_spare) (defScope s_Window_spare) .none kV14 dc14 pm14 an14 cd14 ct14), sl14⟩)
    (c14 : PySem.W.codeIn K cd14 "Window.spare" = true)
    (k14 : PySem.W.keepIn K (.ref f_Window_spare) = true)
    (pa_Window_room : PySem.W.findIn K (.ref c_Window) "room" = some (some (.ref q_Window_room)))
    (pg_Window_room : PySem.W.specialIn K (.ref q_Window_room) "__get__" = some (some (.builtin "property.__get__")))
    (pt_Window_room : PySem.W.takesIn K (.ref q_Window_room) = some true)
    (pr_Window_room : PySem.W.recIn K q_Window_room "property" = some (.ref f_Window_room :: r_Window_room))
    (l15 : K.lookup f_Window_room = some ⟨oc15, od15, .func (PySem.W.fnOf "room" "Window.room" (defArgs s_Window_room) (defBody s_Window_room) (defScope s_Window_room) .none kV15 dc15 pm15 an15 cd15 ct15), sl15⟩)
    (c15 : PySem.W.codeIn K cd15 "Window.room" = true)
    (k15 : PySem.W.keepIn K (.ref f_Window_room) = true)
    (a_is_integer : PySem.W.nsIn K mainGlobals "is_integer" = some (some (.ref f_is_integer)))
    (l16 : K.lookup f_is_integer = some ⟨oc16, od16, .func (PySem.W.fnOf "is_integer" "is_integer" (defArgs s_is_integer) (defBody s_is_integer) (defScope s_is_integer) .none kV16 dc16 pm16 an16 cd16 ct16), sl16⟩)
    (c16 : PySem.W.codeIn K cd16 "is_integer" = true)
    (k16 : PySem.W.keepIn K (.ref f_is_integer) = true)
    (a_is_number : PySem.W.nsIn K mainGlobals "is_number" = some (some (.ref f_is_number)))
    (l17 : K.lookup f_is_number = some ⟨oc17, od17, .func (PySem.W.fnOf "is_number" "is_number" (defArgs s_is_number) (defBody s_is_number) (defScope s_is_number) .none kV17 dc17 pm17 an17 cd17 ct17), sl17⟩)
    (c17 : PySem.W.codeIn K cd17 "is_number" = true)
    (k17 : PySem.W.keepIn K (.ref f_is_number) = true)
    (a_are_marks : PySem.W.nsIn K mainGlobals "_are_marks" = some (some (.ref f_are_marks)))
    (l18 : K.lookup f_are_marks = some ⟨oc18, od18, .func (PySem.W.fnOf "_are_marks" "_are_marks" (defArgs s_are_marks) (defBody s_are_marks) (defScope s_are_marks) .none kV18 dc18 pm18 an18 cd18 ct18), sl18⟩)
    (c18 : PySem.W.codeIn K cd18 "_are_marks" = true)
    (k18 : PySem.W.keepIn K (.ref f_are_marks) = true)
    (a_l_bag : PySem.W.nsIn K mainGlobals "_law_bag" = some (some (.ref f_l_bag)))
    (l19 : K.lookup f_l_bag = some ⟨oc19, od19, .func (PySem.W.fnOf "_law_bag" "_law_bag" (defArgs s_l_bag) (defBody s_l_bag) (defScope s_l_bag) .none kV19 dc19 pm19 an19 cd19 ct19), sl19⟩)
    (c19 : PySem.W.codeIn K cd19 "_law_bag" = true)
    (k19 : PySem.W.keepIn K (.ref f_l_bag) = true)
    (a_l_take : PySem.W.nsIn K mainGlobals "_law_take" = some (some (.ref f_l_take)))
    (l20 : K.lookup f_l_take = some ⟨oc20, od20, .func (PySem.W.fnOf "_law_take" "_law_take" (defArgs s_l_take) (defBody s_l_take) (defScope s_l_take) .none kV20 dc20 pm20 an20 cd20 ct20), sl20⟩)
    (c20 : PySem.W.codeIn K cd20 "_law_take" = true)
    (k20 : PySem.W.keepIn K (.ref f_l_take) = true)
    (a_l_grown : PySem.W.nsIn K mainGlobals "_law_grown" = some (some (.ref f_l_grown)))
    (l21 : K.lookup f_l_grown = some ⟨oc21, od21, .func (PySem.W.fnOf "_law_grown" "_law_grown" (defArgs s_l_grown) (defBody s_l_grown) (defScope s_l_grown) .none kV21 dc21 pm21 an21 cd21 ct21), sl21⟩)
    (c21 : PySem.W.codeIn K cd21 "_law_grown" = true)
    (k21 : PySem.W.keepIn K (.ref f_l_grown) = true)
    (a_l_other : PySem.W.nsIn K mainGlobals "_law_other" = some (some (.ref f_l_other)))
    (l22 : K.lookup f_l_other = some ⟨oc22, od22, .func (PySem.W.fnOf "_law_other" "_law_other" (defArgs s_l_other) (defBody s_l_other) (defScope s_l_other) .none kV22 dc22 pm22 an22 cd22 ct22), sl22⟩)
    (c22 : PySem.W.codeIn K cd22 "_law_other" = true)
    (k22 : PySem.W.keepIn K (.ref f_l_other) = true)
    (a_l_side : PySem.W.nsIn K mainGlobals "_law_side" = some (some (.ref f_l_side)))
    (l23 : K.lookup f_l_side = some ⟨oc23, od23, .func (PySem.W.fnOf "_law_side" "_law_side" (defArgs s_l_side) (defBody s_l_side) (defScope s_l_side) .none kV23 dc23 pm23 an23 (.ref k_l_side) ct23), sl23⟩)
    (c23 : PySem.W.codeIn K (.ref k_l_side) "_law_side" = true)
    (k23 : PySem.W.keepIn K (.ref f_l_side) = true)
    (lk_l_side : K.lookup k_l_side = some ⟨oj_l_side, odk_l_side, .fields vs_l_side, slk_l_side⟩)
    (a_l_far_right : PySem.W.nsIn K mainGlobals "_law_far_right" = some (some (.ref f_l_far_right)))
    (l24 : K.lookup f_l_far_right = some ⟨oc24, od24, .func (PySem.W.fnOf "_law_far_right" "_law_far_right" (defArgs s_l_far_right) (defBody s_l_far_right) (defScope s_l_far_right) .none kV24 dc24 pm24 an24 (.ref k_l_far_right) ct24), sl24⟩)
    (c24 : PySem.W.codeIn K (.ref k_l_far_right) "_law_far_right" = true)
    (k24 : PySem.W.keepIn K (.ref f_l_far_right) = true)
    (lk_l_far_right : K.lookup k_l_far_right = some ⟨oj_l_far_right, odk_l_far_right, .fields vs_l_far_right, slk_l_far_right⟩)
    (a_law : PySem.W.nsIn K mainGlobals "law" = some (some (.ref f_law)))
    (l25 : K.lookup f_law = some ⟨oc25, od25, .func (PySem.W.fnOf "law" "law" (defArgs s_law) (defBody s_law) (defScope s_law) .none kV25 dc25 pm25 an25 cd25 ct25), sl25⟩)
    (c25 : PySem.W.codeIn K cd25 "law" = true)
    (k25 : PySem.W.keepIn K (.ref f_law) = true)
    (me_Array : PySem.W.mroIn K c_Array (.type "object") = some true)
    (ee_Array : PySem.W.findIn K (.ref c_Array) "__eq__" = some (some (.builtin "object.__eq__")))
    (z_len : PySem.W.nsIn K mainGlobals "len" = some none)
    (z_int : PySem.W.nsIn K mainGlobals "int" = some none)
    (z_abs : PySem.W.nsIn K mainGlobals "abs" = some none)
    (z_list : PySem.W.nsIn K mainGlobals "list" = some none)
    (z_max : PySem.W.nsIn K mainGlobals "max" = some none)
    (z_isinstance : PySem.W.nsIn K mainGlobals "isinstance" = some none)
    (z_all : PySem.W.nsIn K mainGlobals "all" = some none)
    (z_bool : PySem.W.nsIn K mainGlobals "bool" = some none)
    (z_range : PySem.W.nsIn K mainGlobals "range" = some none)
    (hv_l_side : vs_l_side[11]? = some (.ref P_l_side)) (dr_l_side_ : (PyProof.Rows.recsOf q).find? (fun e => e.name == ("_law_side" : Str)) = some dr_l_side) (tn_l_side : K.lookup P_l_side = none)
    (hv_l_far_right : vs_l_far_right[11]? = some (.ref P_l_far_right)) (dr_l_far_right_ : (PyProof.Rows.recsOf q).find? (fun e => e.name == ("_law_far_right" : Str)) = some dr_l_far_right) (tn_l_far_right : K.lookup P_l_far_right = none)
    (ne_P : P_l_side ≠ P_l_far_right) :
    LamX.LawAtS l w K CX0 9 63 "_law_script" mg fa h := by
    have e := hfa.symm.trans (PySem.W.mg_of X G a_law)
    cases e
    have T : Txt K mg c_Array c_Window := ⟨PySem.W.mg_none_of X G z_len, PySem.W.mg_none_of X G z_int, PySem.W.mg_none_of X G z_abs, PySem.W.mg_none_of X G z_list, PySem.W.mg_none_of X G z_max, PySem.W.mg_none_of X G z_isinstance, PySem.W.mg_none_of X G z_all, PySem.W.mg_none_of X G z_bool, PySem.W.mg_none_of X G z_range, ⟨pg_Array, hd_Array, po_Array, sa_Array⟩, na_Array_cells, na_Array_size, ⟨pg_Window, hd_Window, po_Window, sa_Window⟩, na_Window__array, na_Window__length, na_Window__rule⟩
    have gC_Array : mg "Array" = some (.ref c_Array) := PySem.W.mg_of X G aC_Array
    have gC_Window : mg "Window" = some (.ref c_Window) := PySem.W.mg_of X G aC_Window
    have F1 := fun_mk (st := s_Array_init) l1 c1 k1
    have b1 := F1.binds (ps := ["self", "cells", "size"]) fun _ _ _ _ _ _ us hl => match us, hl with | [_, _, _], _ => rfl
    have Y_Array_init : Mt K c_Array "__init__" "Array.__init__" s_Array_init ["self", "cells", "size"] f_Array_init := ⟨⟨_, F1, b1⟩, ⟨a_Array_init, i_Array_init, k1⟩⟩
    have Z_Array : Ct K mg "Array" c_Array f_Array_init := ⟨PySem.W.mg_of X G aC_Array, ⟨mk_Array, a_Array_init, i_Array_init, kc_Array⟩⟩
    have F2 : FunD K "__init__" "Window.__init__" (defArgs s_Window_init) (defBody s_Window_init) (defScope s_Window_init) [] [("rule", V.non)] f_Window_init (PySem.W.fnOf "__init__" "Window.__init__" (defArgs s_Window_init) (defBody s_Window_init) (defScope s_Window_init) .none (.ref dk2) dc2 pm2 an2 cd2 ct2) := by
      refine ⟨⟨oc2, od2, .none, .ref dk2, dc2, pm2, an2, cd2, ct2, sl2, rfl, l2, c2, .inl ⟨rfl, rfl⟩, .inr ⟨dk2, rfl, fun q hq => ?_⟩⟩, k2⟩
      simp only [List.mem_cons, List.not_mem_nil, or_false] at hq
      subst hq
      exact ⟨_, w2_0, rfl⟩
    obtain ⟨mv, b2⟩ := F2.kbinds0 (ps := ["self", "marks", "rule"]) 2 ["rule"] [] (fun vs _ zs => vs ++ zs) (List.cons_ne_nil _ _) (fun q h => by cases h) (fun r1 _ r3 => vals_app r1 r3) fun D doc pm an cdv ct us mv ws h1 h2 h3 => match us, mv, ws, h1, h2, h3 with | [_, _], [], [_], _, _, _ => rfl
    obtain ⟨mv0, b02⟩ := F2.kbinds0 (ps := ["self", "marks", "rule"]) 2 [] [("rule", V.non)] (fun vs mz _ => vs ++ mz) (List.cons_ne_nil _ _) (fun q h => h) (fun r1 r2 _ => vals_app r1 r2) fun D doc pm an cdv ct us mv ws h1 h2 h3 => match us, mv, ws, h1, h2, h3 with | [_, _], [_], [], _, _, _ => ⟨_, _, _, _, _, _, rfl, rfl, rfl⟩
    have Y0_Window_init : Mtk K c_Window "Window.__init__" s_Window_init ["self", "marks", "rule"] 1 [] gRule0 f_Window_init := ⟨⟨_, _, _, F2, b02⟩, ⟨mk_Window, a_Window_init, i_Window_init, kc_Window⟩⟩
    have Y_Window_init : Mtk K c_Window "Window.__init__" s_Window_init ["self", "marks", "rule"] 1 ["rule"] gRule f_Window_init := ⟨⟨_, _, _, F2, b2⟩, ⟨mk_Window, a_Window_init, i_Window_init, kc_Window⟩⟩
    have F3 := fun_mk (st := s_Window_seen) l3 c3 k3
    have b3 := F3.binds (ps := ["self"]) fun _ _ _ _ _ _ us hl => match us, hl with | [_], _ => rfl
    have Y_Window_seen : Mt K c_Window "_seen" "Window._seen" s_Window_seen ["self"] f_Window_seen := ⟨⟨_, F3, b3⟩, ⟨a_Window_seen, i_Window_seen, k3⟩⟩
    have F4 := fun_mk (st := s_Window_marks) l4 c4 k4
    have b4 := F4.binds (ps := ["self"]) fun _ _ _ _ _ _ us hl => match us, hl with | [_], _ => rfl
    have Y_Window_marks : Mt K c_Window "marks" "Window.marks" s_Window_marks ["self"] f_Window_marks := ⟨⟨_, F4, b4⟩, ⟨a_Window_marks, i_Window_marks, k4⟩⟩
    have F5 := fun_mk (st := s_Window_put) l5 c5 k5
    have b5 := F5.binds (ps := ["self", "marks"]) fun _ _ _ _ _ _ us hl => match us, hl with | [_, _], _ => rfl
    have Y_Window_put : Mt K c_Window "put" "Window.put" s_Window_put ["self", "marks"] f_Window_put := ⟨⟨_, F5, b5⟩, ⟨a_Window_put, i_Window_put, k5⟩⟩
    have F6 := fun_mk (st := s_Window_on) l6 c6 k6
    have b6 := F6.binds (ps := ["self", "array", "length"]) fun _ _ _ _ _ _ us hl => match us, hl with | [_, _, _], _ => rfl
    have Y_Window_on : Mt K c_Window "_on" "Window._on" s_Window_on ["self", "array", "length"] f_Window_on := ⟨⟨_, F6, b6⟩, ⟨a_Window_on, i_Window_on, k6⟩⟩
    have F7 := fun_mk (st := s_Window_size_for) l7 c7 k7
    have b7 := F7.binds (ps := ["self", "needed"]) fun _ _ _ _ _ _ us hl => match us, hl with | [_, _], _ => rfl
    have Y_Window_size_for : Mt K c_Window "_size_for" "Window._size_for" s_Window_size_for ["self", "needed"] f_Window_size_for := ⟨⟨_, F7, b7⟩, ⟨a_Window_size_for, i_Window_size_for, k7⟩⟩
    have F8 := fun_mk (st := s_Window_shares) l8 c8 k8
    have b8 := F8.binds (ps := ["self", "other"]) fun _ _ _ _ _ _ us hl => match us, hl with | [_, _], _ => rfl
    have Y_Window_shares : Mt K c_Window "shares" "Window.shares" s_Window_shares ["self", "other"] f_Window_shares := ⟨⟨_, F8, b8⟩, ⟨a_Window_shares, i_Window_shares, k8⟩⟩
    have F9 := fun_mk (st := s_Window_cut) l9 c9 k9
    have b9 := F9.binds (ps := ["self", "many"]) fun _ _ _ _ _ _ us hl => match us, hl with | [_, _], _ => rfl
    have Y_Window_cut : Mt K c_Window "cut" "Window.cut" s_Window_cut ["self", "many"] f_Window_cut := ⟨⟨_, F9, b9⟩, ⟨a_Window_cut, i_Window_cut, k9⟩⟩
    have F10 := fun_mk (st := s_Window_copied) l10 c10 k10
    have b10 := F10.binds (ps := ["self"]) fun _ _ _ _ _ _ us hl => match us, hl with | [_], _ => rfl
    have Y_Window_copied : Mt K c_Window "copied" "Window.copied" s_Window_copied ["self"] f_Window_copied := ⟨⟨_, F10, b10⟩, ⟨a_Window_copied, i_Window_copied, k10⟩⟩
    have F11 := fun_mk (st := s_Window_len) l11 c11 k11
    have b11 := F11.binds (ps := ["self"]) fun _ _ _ _ _ _ us hl => match us, hl with | [_], _ => rfl
    have Y_Window_len : Mt K c_Window "__len__" "Window.__len__" s_Window_len ["self"] f_Window_len := ⟨⟨_, F11, b11⟩, ⟨a_Window_len, i_Window_len, k11⟩⟩
    have F12 := fun_mk (st := s_Window_setitem) l12 c12 k12
    have b12 := F12.binds (ps := ["self", "at", "worth"]) fun _ _ _ _ _ _ us hl => match us, hl with | [_, _, _], _ => rfl
    have Y_Window_setitem : Mt K c_Window "__setitem__" "Window.__setitem__" s_Window_setitem ["self", "at", "worth"] f_Window_setitem := ⟨⟨_, F12, b12⟩, ⟨a_Window_setitem, i_Window_setitem, k12⟩⟩
    have F13 := fun_mk (st := s_Window_iadd) l13 c13 k13
    have b13 := F13.binds (ps := ["self", "other"]) fun _ _ _ _ _ _ us hl => match us, hl with | [_, _], _ => rfl
    have Y_Window_iadd : Mt K c_Window "__iadd__" "Window.__iadd__" s_Window_iadd ["self", "other"] f_Window_iadd := ⟨⟨_, F13, b13⟩, ⟨a_Window_iadd, i_Window_iadd, k13⟩⟩
    have F14 := fun_mk (st := s_Window_spare) l14 c14 k14
    have b14 := F14.binds (ps := ["self"]) fun _ _ _ _ _ _ us hl => match us, hl with | [_], _ => rfl
    have Y_Window_spare : Pt K c_Window "spare" "Window.spare" s_Window_spare f_Window_spare := ⟨⟨_, F14, b14⟩, ⟨_, ⟨pa_Window_spare, pg_Window_spare, pt_Window_spare, ⟨_, pr_Window_spare⟩⟩⟩⟩
    have F15 := fun_mk (st := s_Window_room) l15 c15 k15
    have b15 := F15.binds (ps := ["self"]) fun _ _ _ _ _ _ us hl => match us, hl with | [_], _ => rfl
    have Y_Window_room : Pt K c_Window "room" "Window.room" s_Window_room f_Window_room := ⟨⟨_, F15, b15⟩, ⟨_, ⟨pa_Window_room, pg_Window_room, pt_Window_room, ⟨_, pr_Window_room⟩⟩⟩⟩
    have F16 := fun_mk (st := s_is_integer) l16 c16 k16
    have b16 := F16.binds (ps := ["thing"]) fun _ _ _ _ _ _ us hl => match us, hl with | [_], _ => rfl
    have Y_is_integer : Dt K mg "is_integer" s_is_integer ["thing"] f_is_integer := ⟨⟨_, F16, b16⟩, PySem.W.mg_of X G a_is_integer⟩
    have F17 := fun_mk (st := s_is_number) l17 c17 k17
    have b17 := F17.binds (ps := ["many", "thing"]) fun _ _ _ _ _ _ us hl => match us, hl with | [_, _], _ => rfl
    have Y_is_number : Dt K mg "is_number" s_is_number ["many", "thing"] f_is_number := ⟨⟨_, F17, b17⟩, PySem.W.mg_of X G a_is_number⟩
    have F18 := fun_mk (st := s_are_marks) l18 c18 k18
    have b18 := F18.binds (ps := ["thing"]) fun _ _ _ _ _ _ us hl => match us, hl with | [_], _ => rfl
    have Y_are_marks : Dt K mg "_are_marks" s_are_marks ["thing"] f_are_marks := ⟨⟨_, F18, b18⟩, PySem.W.mg_of X G a_are_marks⟩
    have F19 := fun_mk (st := s_l_bag) l19 c19 k19
    have b19 := F19.binds (ps := ["_law_script"]) fun _ _ _ _ _ _ us hl => match us, hl with | [_], _ => rfl
    have Y_l_bag : Dt K mg "_law_bag" s_l_bag ["_law_script"] f_l_bag := ⟨⟨_, F19, b19⟩, PySem.W.mg_of X G a_l_bag⟩
    have F20 := fun_mk (st := s_l_take) l20 c20 k20
    have b20 := F20.binds (ps := ["_law_bag_here", "_law_many"]) fun _ _ _ _ _ _ us hl => match us, hl with | [_, _], _ => rfl
    have Y_l_take : Dt K mg "_law_take" s_l_take ["_law_bag_here", "_law_many"] f_l_take := ⟨⟨_, F20, b20⟩, PySem.W.mg_of X G a_l_take⟩
    have F21 := fun_mk (st := s_l_grown) l21 c21 k21
    have b21 := F21.binds (ps := ["_law_bag_here", "_law_windows", "_law_spots", "_law_calls", "_law_notes"]) fun _ _ _ _ _ _ us hl => match us, hl with | [_, _, _, _, _], _ => rfl
    have Y_l_grown : Dt K mg "_law_grown" s_l_grown ["_law_bag_here", "_law_windows", "_law_spots", "_law_calls", "_law_notes"] f_l_grown := ⟨⟨_, F21, b21⟩, PySem.W.mg_of X G a_l_grown⟩
    have F22 := fun_mk (st := s_l_other) l22 c22 k22
    have b22 := F22.binds (ps := ["_law_bag_here", "_law_windows", "_law_spots"]) fun _ _ _ _ _ _ us hl => match us, hl with | [_, _, _], _ => rfl
    have Y_l_other : Dt K mg "_law_other" s_l_other ["_law_bag_here", "_law_windows", "_law_spots"] f_l_other := ⟨⟨_, F22, b22⟩, PySem.W.mg_of X G a_l_other⟩
    have F23 := fun_mk (st := s_l_side) l23 c23 k23
    have b23 := F23.binds (ps := ["_law_side_here", "_law_windows", "_law_notes"]) fun _ _ _ _ _ _ us hl => match us, hl with | [_, _, _], _ => rfl
    have Y_l_side : DtC K mg "_law_side" s_l_side ["_law_side_here", "_law_windows", "_law_notes"] f_l_side k_l_side := ⟨⟨_, ⟨_, _, _, _, _, _, _, _, rfl, l23, c23⟩, b23⟩, PySem.W.mg_of X G a_l_side, k23⟩
    have ht_l_side : PySem.W.CodeHd h k_l_side P_l_side ∧ h.get? P_l_side = some (PySem.W.tabObj #[]) := TB _ "_law_side" _ _ dr_l_side_ (tabIn_of a_l_side l23 rfl lk_l_side hv_l_side)
    have F24 := fun_mk (st := s_l_far_right) l24 c24 k24
    have b24 := F24.binds (ps := []) fun _ _ _ _ _ _ us hl => match us, hl with | [], _ => rfl
    have Y_l_far_right : DtC K mg "_law_far_right" s_l_far_right [] f_l_far_right k_l_far_right := ⟨⟨_, ⟨_, _, _, _, _, _, _, _, rfl, l24, c24⟩, b24⟩, PySem.W.mg_of X G a_l_far_right, k24⟩
    have ht_l_far_right : PySem.W.CodeHd h k_l_far_right P_l_far_right ∧ h.get? P_l_far_right = some (PySem.W.tabObj #[]) := TB _ "_law_far_right" _ _ dr_l_far_right_ (tabIn_of a_l_far_right l24 rfl lk_l_far_right hv_l_far_right)
    have F25 := fun_mk (st := s_law) l25 c25 k25
    have b25 := F25.binds (ps := ["_law_script"]) fun _ _ _ _ _ _ us hl => match us, hl with | [_], _ => rfl
    refine ⟨PySem.W.fnOf "law" "law" (defArgs s_law) (defBody s_law) (defScope s_law) .none kV25 dc25 pm25 an25 cd25 ct25, [(k_l_side, P_l_side), (k_l_far_right, P_l_far_right)], spLaw K P_l_side P_l_far_right, (List.forall_mem_cons.mpr ⟨ht_l_side.2, (List.forall_mem_cons.mpr ⟨ht_l_far_right.2, fun _ h => nomatch h⟩)⟩), (List.forall_mem_cons.mpr ⟨tn_l_side, (List.forall_mem_cons.mpr ⟨tn_l_far_right, fun _ h => nomatch h⟩)⟩), (List.forall_mem_cons.mpr ⟨ht_l_side.1, (List.forall_mem_cons.mpr ⟨ht_l_far_right.1, fun _ h => nomatch h⟩)⟩), fun s v => .of_eq rfl, fun H a ns hl _ hH hS => ⟨a, ns, rfl, hS, hl, sep_two (hH _ List.mem_cons_self) (hH _ (List.mem_cons_of_mem _ List.mem_cons_self)) ne_P, fun _ => rfl⟩, fun base _ _ hTB => ?_⟩
    have TB_l_side : LamX.TabB base mg k_l_side P_l_side := hTB (k_l_side, P_l_side) (by simp)
    have TB_l_far_right : LamX.TabB base mg k_l_far_right P_l_far_right := hTB (k_l_far_right, P_l_far_right) (by simp)
    have D_is_integer := ok_is_integer (P := l.prog) (w := w) (base := base) Y_is_integer T
    have D_is_number := ok_is_number Y_is_number T D_is_integer
    have D_are_marks := ok_are_marks Y_are_marks T D_is_integer
    have M_Array := (ok_Array_init (P := l.prog) (w := w) (base := base) Y_Array_init T).cf Z_Array
    have M_seen := ok_Window_seen (P := l.prog) (w := w) (base := base) Y_Window_seen T
    have M_marks := ok_Window_marks Y_Window_marks T M_seen
    have M_spare := ok_Window_spare (P := l.prog) (w := w) (base := base) Y_Window_spare T
    have M_room := ok_Window_room (P := l.prog) (w := w) (base := base) Y_Window_room T
    have M_shares := ok_Window_shares (P := l.prog) (w := w) (base := base) Y_Window_shares T me_Array ee_Array
    have M_Window := ok_Window_init Y_Window_init T gC_Window D_are_marks M_Array
    have M_Window0 := ok_Window_init Y0_Window_init T gC_Window D_are_marks M_Array
    have M_on := ok_Window_on Y_Window_on T M_Window
    have M_size_for := ok_Window_size_for Y_Window_size_for T D_is_integer
    have M_put := ok_Window_put Y_Window_put T M_seen M_on M_size_for M_Array
    have M_iadd := ok_Window_iadd Y_Window_iadd T M_put
    have M_copied := ok_Window_copied Y_Window_copied T M_seen M_on M_Array
    have M_cut := ok_Window_cut Y_Window_cut T D_is_integer M_on
    have M_len := ok_Window_len (P := l.prog) (w := w) (base := base) Y_Window_len T
    have M_setitem := ok_Window_setitem Y_Window_setitem T D_is_number
    have D_l_take : Df l.prog w K mg base 1 "_law_take" f_l_take ["_law_bag_here", "_law_many"] spTake := ok_l_take (f_doubled := f_l_take) Y_l_take T
    have D_l_bag : Df l.prog w K mg base 1 "_law_bag" f_l_bag ["_law_script"] (spBag K) := ok_l_bag (f_doubled := f_l_take) Y_l_bag T
    have D_l_side : Df l.prog w K mg base 1 "_law_side" f_l_side ["_law_side_here", "_law_windows", "_law_notes"] (spSide P_l_side) := ok_l_side Y_l_side TB_l_side T
    have D_l_grown := ok_l_grown (Pt := P_l_side) Y_l_grown T D_l_take M_marks M_len M_room M_put M_iadd selfFirst_Window
    have D_l_other := ok_l_other Y_l_other T D_l_take M_len M_room M_cut M_copied M_setitem noSeq_Window
    have D_l_far_right := ok_l_far_right Y_l_far_right TB_l_far_right T M_Window M_put M_cut M_room M_spare M_marks M_shares M_copied
    exact ok_law F25 T D_l_bag D_l_take D_l_side D_l_grown D_l_other D_l_far_right M_Window M_Window0 M_len M_room M_put M_cut M_copied
end Pf

open PySem PySem.W PyProof.Rows in
set_option maxRecDepth 100000 in
set_option maxHeartbeats 0 in
theorem PySem.Challenge.cw_sparetails_k28_rules_called_holds : PySem.Challenge.rw_sparetails_k28_rules_called.Holds := by
  w_on; o_law; k_head; (case hw => w_witness2)
  k_fill
  refine Kt.walk_N (l := PySem.Challenge.rw_sparetails_k28_rules_called) (n := 63) (k := 9) (x := "_law_script") rfl (by decide) rfl ⟨rfl, by decide, by decide⟩ (fun w h Y => PySem.W.km_in_of Y) ?F
  case F =>
    intro w mg fa h KX G hmg TB
    refine' Pf.all_mk KX G hmg TB ?aC_Array ?pg_Array ?hd_Array ?po_Array ?mk_Array ?kc_Array ?sa_Array ?na_Array_cells ?na_Array_size ?a_Array_init ?i_Array_init ?l1 ?c1 ?k1 ?aC_Window ?pg_Window ?hd_Window ?po_Window ?mk_Window ?kc_Window ?noSeq_Window ?selfFirst_Window ?sa_Window ?na_Window__array ?na_Window__length ?na_Window__rule ?a_Window_init ?i_Window_init ?l2 ?c2 ?k2 ?w2_0 ?a_Window_seen ?i_Window_seen ?l3 ?c3 ?k3 ?a_Window_marks ?i_Window_marks ?l4 ?c4 ?k4 ?a_Window_put ?i_Window_put ?l5 ?c5 ?k5 ?a_Window_on ?i_Window_on ?l6 ?c6 ?k6 ?a_Window_size_for ?i_Window_size_for ?l7 ?c7 ?k7 ?a_Window_shares ?i_Window_shares ?l8 ?c8 ?k8 ?a_Window_cut ?i_Window_cut ?l9 ?c9 ?k9 ?a_Window_copied ?i_Window_copied ?l10 ?c10 ?k10 ?a_Window_len ?i_Window_len ?l11 ?c11 ?k11 ?a_Window_setitem ?i_Window_setitem ?l12 ?c12 ?k12 ?a_Window_iadd ?i_Window_iadd ?l13 ?c13 ?k13 ?pa_Window_spare ?pg_Window_spare ?pt_Window_spare ?pr_Window_spare ?l14 ?c14 ?k14 ?pa_Window_room ?pg_Window_room ?pt_Window_room ?pr_Window_room ?l15 ?c15 ?k15 ?a_is_integer ?l16 ?c16 ?k16 ?a_is_number ?l17 ?c17 ?k17 ?a_are_marks ?l18 ?c18 ?k18 ?a_l_bag ?l19 ?c19 ?k19 ?a_l_take ?l20 ?c20 ?k20 ?a_l_grown ?l21 ?c21 ?k21 ?a_l_other ?l22 ?c22 ?k22 ?a_l_side ?l23 ?c23 ?k23 ?lk_l_side ?a_l_far_right ?l24 ?c24 ?k24 ?lk_l_far_right ?a_law ?l25 ?c25 ?k25 ?me_Array ?ee_Array ?z_len ?z_int ?z_abs ?z_list ?z_max ?z_isinstance ?z_all ?z_bool ?z_range ?hv_l_side ?dr_l_side_ ?tn_l_side ?hv_l_far_right ?dr_l_far_right_ ?tn_l_far_right ?ne_P
    (case aC_Array => k_is)
    (case pg_Array => k_is)
    (case hd_Array => k_is)
    (case po_Array => k_is)
    (case mk_Array => k_is)
    (case kc_Array => k_is)
    (case sa_Array => k_is)
    (case na_Array_cells => k_is)
    (case na_Array_size => k_is)
    (case a_Array_init => k_is)
    (case i_Array_init => k_is)
    (case l1 => k_is)
    (case c1 => k_is)
    (case k1 => k_is)
    (case aC_Window => k_is)
    (case pg_Window => k_is)
    (case hd_Window => k_is)
    (case po_Window => k_is)
    (case mk_Window => k_is)
    (case kc_Window => k_is)
    (case noSeq_Window => k_is)
    (case selfFirst_Window => k_is)
    (case sa_Window => k_is)
    (case na_Window__array => k_is)
    (case na_Window__length => k_is)
    (case na_Window__rule => k_is)
    (case a_Window_init => k_is)
    (case i_Window_init => k_is)
    (case l2 => k_is)
    (case c2 => k_is)
    (case k2 => k_is)
    (case w2_0 => k_is)
    (case a_Window_seen => k_is)
    (case i_Window_seen => k_is)
    (case l3 => k_is)
    (case c3 => k_is)
    (case k3 => k_is)
    (case a_Window_marks => k_is)
    (case i_Window_marks => k_is)
    (case l4 => k_is)
    (case c4 => k_is)
    (case k4 => k_is)
    (case a_Window_put => k_is)
    (case i_Window_put => k_is)
    (case l5 => k_is)
    (case c5 => k_is)
    (case k5 => k_is)
    (case a_Window_on => k_is)
    (case i_Window_on => k_is)
    (case l6 => k_is)
    (case c6 => k_is)
    (case k6 => k_is)
    (case a_Window_size_for => k_is)
    (case i_Window_size_for => k_is)
    (case l7 => k_is)
    (case c7 => k_is)
    (case k7 => k_is)
    (case a_Window_shares => k_is)
    (case i_Window_shares => k_is)
    (case l8 => k_is)
    (case c8 => k_is)
    (case k8 => k_is)
    (case a_Window_cut => k_is)
    (case i_Window_cut => k_is)
    (case l9 => k_is)
    (case c9 => k_is)
    (case k9 => k_is)
    (case a_Window_copied => k_is)
    (case i_Window_copied => k_is)
    (case l10 => k_is)
    (case c10 => k_is)
    (case k10 => k_is)
    (case a_Window_len => k_is)
    (case i_Window_len => k_is)
    (case l11 => k_is)
    (case c11 => k_is)
    (case k11 => k_is)
    (case a_Window_setitem => k_is)
    (case i_Window_setitem => k_is)
    (case l12 => k_is)
    (case c12 => k_is)
    (case k12 => k_is)
    (case a_Window_iadd => k_is)
    (case i_Window_iadd => k_is)
    (case l13 => k_is)
    (case c13 => k_is)
    (case k13 => k_is)
    (case pa_Window_spare => k_is)
    (case pg_Window_spare => k_is)
    (case pt_Window_spare => k_is)
    (case pr_Window_spare => k_is)
    (case l14 => k_is)
    (case c14 => k_is)
    (case k14 => k_is)
    (case pa_Window_room => k_is)
    (case pg_Window_room => k_is)
    (case pt_Window_room => k_is)
    (case pr_Window_room => k_is)
    (case l15 => k_is)
    (case c15 => k_is)
    (case k15 => k_is)
    (case a_is_integer => k_is)
    (case l16 => k_is)
    (case c16 => k_is)
    (case k16 => k_is)
    (case a_is_number => k_is)
    (case l17 => k_is)
    (case c17 => k_is)
    (case k17 => k_is)
    (case a_are_marks => k_is)
    (case l18 => k_is)
    (case c18 => k_is)
    (case k18 => k_is)
    (case a_l_bag => k_is)
    (case l19 => k_is)
    (case c19 => k_is)
    (case k19 => k_is)
    (case a_l_take => k_is)
    (case l20 => k_is)
    (case c20 => k_is)
    (case k20 => k_is)
    (case a_l_grown => k_is)
    (case l21 => k_is)
    (case c21 => k_is)
    (case k21 => k_is)
    (case a_l_other => k_is)
    (case l22 => k_is)
    (case c22 => k_is)
    (case k22 => k_is)
    (case a_l_side => k_is)
    (case l23 => k_is)
    (case c23 => k_is)
    (case k23 => k_is)
    (case lk_l_side => k_is)
    (case a_l_far_right => k_is)
    (case l24 => k_is)
    (case c24 => k_is)
    (case k24 => k_is)
    (case lk_l_far_right => k_is)
    (case a_law => k_is)
    (case l25 => k_is)
    (case c25 => k_is)
    (case k25 => k_is)
    (case me_Array => k_is)
    (case ee_Array => k_is)
    (case z_len => k_is)
    (case z_int => k_is)
    (case z_abs => k_is)
    (case z_list => k_is)
    (case z_max => k_is)
    (case z_isinstance => k_is)
    (case z_all => k_is)
    (case z_bool => k_is)
    (case z_range => k_is)
    (case hv_l_side => exact rfl)
    (case dr_l_side_ => exact rfl)
    (case tn_l_side => kernel_rfl)
    (case hv_l_far_right => exact rfl)
    (case dr_l_far_right_ => exact rfl)
    (case tn_l_far_right => kernel_rfl)
    (case ne_P => decide)

