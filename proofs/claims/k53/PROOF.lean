import PyProof.Rows.All
import Wide.All
import OpenK.AllK
import Wide.FinOn
import HandS.Base
import HandS.Call
import HandS.List
import HandS.Comp
import HandS.Ends
import HandS.Words
import HandS.ForMost
import HandS.Style
import HandS.NoneIn
import HandS.IsInst
import HandS.Wide
import HandS.More
import HandS.Codes
import HandS.SlotsOwn
import HandS.Property
import HandS.MakeKwOnly
import HandS.CallLocal
import HandS.EndBits
import PyProof.ReprLen
import HandS.OwnEq
import HandS.Zip
import KE.KIsAll
import KE.KExcIs
import HandS.Exc
import HandS.ExcOwn
import HandS.TryOnly
import HandS.WordsExc
import PyProof.Draws
import PyProof.WalksMore
import KE.SortData
import HandS.Star
import HandS.SetFor
import HandS.Strs
import HandS.Deep
import HandS.Iter
import HandS.Walk
import PySem.Challenge.RW_sparetails_k53_shapes_told
set_option Elab.async false
set_option linter.all false
set_option maxRecDepth 100000
namespace Kt
open PySem L2
/-! ### what is known of the heap, part by part -/
abbrev SP := Hp → Prop
def Le (G H : Hp) : Prop := ∀ a o, G a = some o → H a = some o
def sub (H G : Hp) : Hp := fun a => if (G a).isSome = true then none else H a
def Sep : List SP → Hp → Prop
  | [], _ => True
  | P :: Ps, H => ∃ G, Le G H ∧ P G ∧ Sep Ps (sub H G)
def pt (a : Addr) (o : HO) : SP := fun G => G a = some o
theorem sub_of {H G : Hp} {a : Addr} (h : G a = none) : sub H G a = H a := by
  unfold sub; rw [h]; rfl
theorem sub_in {H G : Hp} {a : Addr} {o : HO} (h : G a = some o) : sub H G a = none := by
  unfold sub; rw [h]; rfl
theorem sub_some {H G : Hp} {a : Addr} {o : HO} (h : sub H G a = some o) : G a = none ∧ H a = some o := by
  cases e : G a with
  | none => rw [sub_of e] at h; exact ⟨rfl, h⟩
  | some u => rw [sub_in e] at h; cases h
theorem Sep.mono : ∀ {Ps : List SP} {H H' : Hp}, Le H H' → Sep Ps H → Sep Ps H'
  | [], _, _, _, _ => trivial
  | P :: Ps, H, H', l, ⟨G, h1, h2, h3⟩ => ⟨G, fun a o e => l a o (h1 a o e), h2, Sep.mono (fun a o e => by
      obtain ⟨e1, e2⟩ := sub_some e
      rw [sub_of e1]; exact l a o e2) h3⟩
theorem Sep.tl {P : SP} {Ps : List SP} {H : Hp} : Sep (P :: Ps) H → Sep Ps H := fun ⟨G, _, _, h⟩ => h.mono fun a o e => (sub_some e).2
theorem Sep.swap {P Q : SP} {Ps : List SP} {H : Hp} : Sep (P :: Q :: Ps) H → Sep (Q :: P :: Ps) H := fun ⟨G1, l1, p1, G2, l2, p2, h⟩ => by
  have d : ∀ a o, G1 a = some o → G2 a = none := fun a o e => by
    cases e2 : G2 a with
    | none => rfl
    | some u => have := l2 a u e2; rw [sub_in e] at this; cases this
  refine ⟨G2, fun a o e => (sub_some (l2 a o e)).2, p2, G1, fun a o e => ?_, p1, h.mono fun a o e => ?_⟩
  · rw [sub_of (d a o e)]; exact l1 a o e
  · obtain ⟨e1, e2⟩ := sub_some e
    obtain ⟨e3, e4⟩ := sub_some e2
    rw [sub_of e3, sub_of e1]; exact e4
theorem Sep.cons_mono {P : SP} {Ps Qs : List SP} {H : Hp} (f : ∀ H', Sep Ps H' → Sep Qs H') : Sep (P :: Ps) H → Sep (P :: Qs) H := fun ⟨G, h1, h2, h3⟩ => ⟨G, h1, h2, f _ h3⟩
theorem Sep.hd_mono {P Q : SP} {Ps : List SP} {H : Hp} (f : ∀ G, P G → Q G) : Sep (P :: Ps) H → Sep (Q :: Ps) H := fun ⟨G, h1, h2, h3⟩ => ⟨G, h1, f _ h2, h3⟩
/-- one part to the front -/
inductive Pick (A : SP) : List SP → List SP → Prop where
  | hd {Ps : List SP} : Pick A (A :: Ps) Ps
  | tl {P : SP} {Ps Qs : List SP} : Pick A Ps Qs → Pick A (P :: Ps) (P :: Qs)
theorem Pick.go {A : SP} {Ps Qs : List SP} (p : Pick A Ps Qs) : ∀ {H : Hp}, Sep Ps H → Sep (A :: Qs) H := by
  induction p with
  | hd => exact fun h => h
  | tl _ ih => exact fun h => (h.cons_mono fun _ => ih).swap
theorem Pick.back {A : SP} {Ps Qs : List SP} (p : Pick A Ps Qs) : ∀ {H : Hp}, Sep (A :: Qs) H → Sep Ps H := by
  induction p with
  | hd => exact fun h => h
  | tl _ ih => exact fun h => h.swap.cons_mono fun _ => ih
inductive Dr : List SP → List SP → Prop where
  | all {Ps : List SP} : Dr Ps Ps
  | skip {P : SP} {Ps Qs : List SP} : Dr Ps Qs → Dr (P :: Ps) Qs
theorem Dr.go {Ps Qs : List SP} (p : Dr Ps Qs) : ∀ {H : Hp}, Sep Ps H → Sep Qs H := by
  induction p with
  | all => exact fun h => h
  | skip _ ih => exact fun h => ih h.tl
inductive Sel : List SP → List SP → List SP → Prop where
  | nil {Ps Qs : List SP} : Dr Ps Qs → Sel [] Ps Qs
  | cons {A : SP} {As Ps Qs Rs : List SP} : Pick A Ps Qs → Sel As Qs Rs → Sel (A :: As) Ps Rs
theorem Sel.go {As Ps Rs : List SP} (p : Sel As Ps Rs) : ∀ {H : Hp}, Sep Ps H → Sep (As ++ Rs) H := by
  induction p with
  | nil d => exact fun h => d.go h
  | cons p _ ih => exact fun h => (p.go h).cons_mono fun _ => ih
theorem Sep.sel {As Ps Rs : List SP} {H : Hp} (h : Sep Ps H) (p : Sel As Ps Rs) : Sep (As ++ Rs) H := p.go h
theorem Sep.s1 {A : SP} {Ps Rs : List SP} {H : Hp} (h : Sep Ps H) (p : Sel [A] Ps Rs) : Sep (A :: Rs) H := h.sel p
theorem Sep.s2 {A B : SP} {Ps Rs : List SP} {H : Hp} (h : Sep Ps H) (p : Sel [A, B] Ps Rs) : Sep (A :: B :: Rs) H := h.sel p
theorem Sep.s3 {A B C : SP} {Ps Rs : List SP} {H : Hp} (h : Sep Ps H) (p : Sel [A, B, C] Ps Rs) : Sep (A :: B :: C :: Rs) H := h.sel p
theorem Sep.s4 {A B C D : SP} {Ps Rs : List SP} {H : Hp} (h : Sep Ps H) (p : Sel [A, B, C, D] Ps Rs) : Sep (A :: B :: C :: D :: Rs) H := h.sel p
theorem Sep.s5 {A B C D E : SP} {Ps Rs : List SP} {H : Hp} (h : Sep Ps H) (p : Sel [A, B, C, D, E] Ps Rs) : Sep (A :: B :: C :: D :: E :: Rs) H := h.sel p
theorem Sep.s6 {A B C D E F : SP} {Ps Rs : List SP} {H : Hp} (h : Sep Ps H) (p : Sel [A, B, C, D, E, F] Ps Rs) : Sep (A :: B :: C :: D :: E :: F :: Rs) H := h.sel p
theorem Sep.s7 {A B C D E F G : SP} {Ps Rs : List SP} {H : Hp} (h : Sep Ps H) (p : Sel [A, B, C, D, E, F, G] Ps Rs) : Sep (A :: B :: C :: D :: E :: F :: G :: Rs) H := h.sel p
theorem Sep.s8 {A B C D E F G I : SP} {Ps Rs : List SP} {H : Hp} (h : Sep Ps H) (p : Sel [A, B, C, D, E, F, G, I] Ps Rs) : Sep (A :: B :: C :: D :: E :: F :: G :: I :: Rs) H := h.sel p
theorem Sep.pk {A : SP} {Ps Qs : List SP} {H : Hp} (h : Sep Ps H) (p : Pick A Ps Qs) : Sep (A :: Qs) H := p.go h
/-- one part looked up, put otherwise -/
inductive Repl (a : Addr) (o o' : HO) : List SP → List SP → Prop where
  | hd {Ps : List SP} : Repl a o o' (pt a o :: Ps) (pt a o' :: Ps)
  | tl {P : SP} {Ps Qs : List SP} : Repl a o o' Ps Qs → Repl a o o' (P :: Ps) (P :: Qs)
theorem Repl.pick {a : Addr} {o o' : HO} {Ps Qs : List SP} (r : Repl a o o' Ps Qs) : ∃ Rs, Pick (pt a o) Ps Rs ∧ Pick (pt a o') Qs Rs := by
  induction r with
  | hd => exact ⟨_, .hd, .hd⟩
  | tl _ ih => obtain ⟨Rs, h1, h2⟩ := ih; exact ⟨_, .tl h1, .tl h2⟩
theorem Sep.hd_at {a : Addr} {o : HO} {Ps : List SP} {H : Hp} : Sep (pt a o :: Ps) H → H a = some o := fun ⟨_, l, h, _⟩ => l a o h
theorem Sep.at_ {a : Addr} {o : HO} {Ps Qs : List SP} {H : Hp} (h : Sep Ps H) (p : Pick (pt a o) Ps Qs) : H a = some o := (p.go h).hd_at
theorem Sep.hd_set {a : Addr} {o : HO} {Ps : List SP} {H : Hp} (o' : HO) : Sep (pt a o :: Ps) H → Sep (pt a o' :: Ps) (upd H a o') := fun ⟨G, l, h, s⟩ => by
  have h' : G a = some o := h
  refine ⟨upd G a o', fun b u e => ?_, upd_same, s.mono fun b u e => ?_⟩
  · by_cases hb : b = a
    · subst hb; rw [upd_same] at e ⊢; exact e
    · rw [upd_ne hb] at e ⊢; exact l b u e
  · obtain ⟨e1, e2⟩ := sub_some e
    have hb : b ≠ a := fun q => by rw [q, h'] at e1; cases e1
    rw [sub_of (by rw [upd_ne hb]; exact e1), upd_ne hb]; exact e2
theorem Sep.set {a : Addr} {o o' : HO} {Ps Qs : List SP} {H : Hp} (h : Sep Ps H) (r : Repl a o o' Ps Qs) : Sep Qs (upd H a o') := by
  obtain ⟨Rs, h1, h2⟩ := r.pick
  exact h2.back ((h1.go h).hd_set o')
theorem Sep.new {p : Addr} {Ps : List SP} {H : Hp} (o : HO) (h : Sep Ps H) (n : H p = none) : Sep (pt p o :: Ps) (upd H p o) := by
  refine ⟨fun b => if b = p then some o else none, fun b u e => ?_, if_pos rfl, h.mono fun b u e => ?_⟩
  · by_cases hb : b = p
    · subst hb; rw [upd_same]; simpa using e
    · simp [hb] at e
  · have hb : b ≠ p := fun q => by rw [q, n] at e; cases e
    rw [sub_of (by simp [hb]), upd_ne hb]; exact e
/-- several parts as one -/
theorem Sep.flat : ∀ {As Rs : List SP} {H : Hp}, Sep (Sep As :: Rs) H → Sep (As ++ Rs) H
  | [], Rs, H, h => h.tl
  | A :: As, Rs, H, ⟨G, l, ⟨G1, l1, a, t⟩, r⟩ => by
    refine ⟨G1, fun b o e => l b o (l1 b o e), a, Sep.flat ⟨sub G G1, fun b o e => ?_, t, r.mono fun b o e => ?_⟩⟩
    · obtain ⟨e1, e2⟩ := sub_some e
      rw [sub_of e1]; exact l b o e2
    · obtain ⟨e1, e2⟩ := sub_some e
      have g1 : G1 b = none := by
        cases q : G1 b with
        | none => rfl
        | some u => have := l1 b u q; rw [e1] at this; cases this
      have g2 : sub G G1 b = none := by rw [sub_of g1]; exact e1
      rw [sub_of g2, sub_of g1]; exact e2
theorem Sep.unflat : ∀ {As Rs : List SP} {H : Hp}, Sep (As ++ Rs) H → Sep (Sep As :: Rs) H
  | [], Rs, H, h => ⟨fun _ => none, fun _ _ (e : (none : Option HO) = some _) => (Option.noConfusion rfl (heq_of_eq e)), trivial, Sep.mono (H := H) (fun a o e => by rw [sub_of rfl]; exact e) h⟩
  | A :: As, Rs, H, ⟨G1, l1, a, t⟩ => by
    obtain ⟨G2, l2, b, r⟩ := Sep.unflat (As := As) (Rs := Rs) t
    have d : ∀ x o, G2 x = some o → G1 x = none := fun x o e => (sub_some (l2 x o e)).1
    refine ⟨fun x => if (G1 x).isSome = true then G1 x else G2 x, fun x o e => ?_, ⟨G1, fun x o e => ?_, a, b.mono fun x o e => ?_⟩, r.mono fun x o e => ?_⟩
    · cases q : G1 x with
      | none => simp only [q] at e; exact (sub_some (l2 x o (by simpa using e))).2
      | some u => simp only [q] at e; rw [← e]; exact l1 x u q
    · simp [e]
    · have g := d x o e
      rw [sub_of g]; simp [g, e]
    · obtain ⟨e1, e2⟩ := sub_some e
      obtain ⟨e3, e4⟩ := sub_some e2
      rw [sub_of (by simp [e3, e1])]; exact e4
theorem Sep.ex {α : Type} {P : α → SP} {Ps : List SP} {H : Hp} : Sep ((fun G => ∃ x, P x G) :: Ps) H → ∃ x, Sep (P x :: Ps) H := fun ⟨G, l, ⟨x, h⟩, t⟩ => ⟨x, G, l, h, t⟩
theorem Sep.ex_in {α : Type} {P : α → SP} {Ps : List SP} {H : Hp} (x : α) : Sep (P x :: Ps) H → Sep ((fun G => ∃ x, P x G) :: Ps) H := fun ⟨G, l, h, t⟩ => ⟨G, l, ⟨x, h⟩, t⟩
theorem Sep.pure {p : Prop} {P : SP} {Ps : List SP} {H : Hp} : Sep ((fun G => p ∧ P G) :: Ps) H → p ∧ Sep (P :: Ps) H := fun ⟨G, l, ⟨x, h⟩, t⟩ => ⟨x, G, l, h, t⟩
theorem Sep.pure_in {p : Prop} {P : SP} {Ps : List SP} {H : Hp} (x : p) : Sep (P :: Ps) H → Sep ((fun G => p ∧ P G) :: Ps) H := fun ⟨G, l, h, t⟩ => ⟨G, l, ⟨x, h⟩, t⟩
/-- two known objects stand apart -/
theorem Sep.ne {a b : Addr} {o u : HO} {Ps : List SP} {H : Hp} : Sep (pt a o :: pt b u :: Ps) H → a ≠ b := fun ⟨G, l, h, G2, l2, h2, _⟩ e => by
  subst e
  have q := l2 a u h2
  rw [sub_in (show G a = some o from h)] at q
  cases q
/-- what is kept beside -/
theorem Sep.le_nil {H : Hp} : Sep [] H := trivial
end Kt

set_option Elab.async false
set_option linter.all false
set_option maxRecDepth 100000
namespace Kt
open PySem L2 PyProof.Rows
/-! ### defs of the text by name -/
/-- the def x of the top stands at f -/
structure Dt (K : PySem.W.Frag) (mg : Str → Option Value) (x : Str) (st : Stmt) (ps : List Str) (f : Addr) : Prop where
  fn : ∃ fd, Fun K x x st f fd ∧ Binds K fd ps []
  at_ : mg x = some (.ref f)
structure Df (P : Program) (w : World) (K : PySem.W.Frag) (mg : Str → Option Value) (base : Heap) (k : Nat) (x : Str) (f : Addr) (ps : List Str) (sp : Sp) : Prop where
  fn : ∃ fd, FnOk P w K mg base CX0 k f fd ps sp ∧ Binds K fd ps []
  at_ : mg x = some (.ref f)
  kp : PySem.W.keepIn K (.ref f) = true
section
variable {P : Program} {w : World} {K : PySem.W.Frag} {mg : Str → Option Value} {base : Heap}
theorem Dt.ok {x : Str} {st : Stmt} {f : Addr} {N ps : List Str} {k : Nat} {sp : Sp} (T : Dt K mg x st ps f) (S : FnScope N ps (defScope st)) (len : ∀ vs H Q E, sp vs H Q E → vs.length = ps.length)
    (hbody : ∀ (cdv : Value) (A : Around) (outer : List Env) (s : Shared) (H : Hp) (vs : List V) (Q : VK) (E : XK), Room k (A.deeper (envOfC x (defScope st) s.heap.objs.size f cdv)) → sp vs H Q E →
      ∃ t, PSs (cxOf CX0 P w K mg base N x (defScope st) f cdv A outer s H E).nox (defBody st) t ∧ t { nx := fun _ H' => Q .non H', rt := Q } (start N vs) H) : Df P w K mg base (k + 1) x f ps sp := by
  obtain ⟨fd, F, b⟩ := T.fn
  exact ⟨⟨fd, F.ok S len hbody, b⟩, T.at_, F.kp⟩
end
section
variable {X : Cx} {k : Nat} {x : Str} {f : Addr} {ps : List Str} {sp : Sp} {e : Expr} {es : List Expr} {t : TA} {p pos : Pos}
theorem pe_df (D : Df X.prog X.w X.K X.mg X.base k x f ps sp) (hr : Room k X.A) (ha : PA X (e :: es) t) (hg : Gl X x := by rfl) (hd : (x == ("__debug__" : Str)) = false := by decide)
    (he : starEach (e :: es) X.env = (false, eval e X.env) :: starEach es X.env := by rfl) (hpl : (backTo pos (starEach es X.env)).any (·.1) = false := by rfl) : PE X (.Call (.Name x p) (e :: es) [] pos) (tCall sp [] E0 t) := by
  obtain ⟨fd, F, b⟩ := D.fn
  exact pe_call F hr hg D.at_ D.kp b .nil pass0 ha hd he hpl
theorem pe_df0 (D : Df X.prog X.w X.K X.mg X.base k x f [] sp) (hr : Room k X.A) (hg : Gl X x := by rfl) (hd : (x == ("__debug__" : Str)) = false := by decide) : PE X (.Call (.Name x p) [] [] pos) (tCall sp [] E0 tNil) := by
  obtain ⟨fd, F, b⟩ := D.fn
  exact pe_call0 F hr hg D.at_ D.kp b .nil pass0 hd
end
/-! ### xs[i] as it is read ahead of xs[i] op= .. -/
section
variable {X : Cx}
theorem get_list : PGet X (rIxL X.K) := by
  intro pins s σ H x y v u Q I rx ry h
  obtain ⟨p, xs, i, z, rfl, rfl, hq, he, q⟩ := h
  cases rx
  obtain ⟨t, rfl⟩ := ry
  obtain ⟨its, r, pl, hz⟩ := I.list hq
  obtain ⟨j, h1, h2, h3, h4, h5⟩ := atI_get he
  obtain ⟨w, ew, rw'⟩ := r.get h2
  have hl := r.length
  have hn := line63
  have fin : EP X pins σ Q w s := ⟨z, H, I, rw', q⟩
  by_cases h0 : 0 ≤ i
  · have hj : i.toNat = j := by
      rw [seqIndex_of h0 h5] at h1
      exact Option.some.inj h1
    exact wpAny_getItem_list pl.isList h0 (by omega) (by rw [hj]; simpa using ew) fin
  · have hj : (i + (its.toArray.size : Int)).toNat = j := by
      rw [seqIndex_neg (by omega) h4] at h1
      rw [List.size_toArray, ← hl]
      exact Option.some.inj h1
    exact wpAny_getItem_list_neg pl.isList (by omega) (by rw [List.size_toArray] <;> omega) (by omega) (by rw [hj]; simpa using ew) fin
/-! ### operators that serve several kinds -/
def rOr (r r' : R2) : R2 := fun x y H Q => r x y H Q ∨ r' x y H Q
theorem op_or {f : Value → Value → Sem Value} {r r' : R2} (h : OpR X f r) (h' : OpR X f r') : OpR X f (rOr r r') := OpR.or h h'
def rAddI : R2 := rI0 fun i j => .int (i + j)
def rSubI : R2 := rI0 fun i j => .int (i - j)
def rStrA : R2 := fun x y H Q => ∃ i j, x = .str i ∧ y = .str j ∧ i.length + j.length ≤ sizeLine ∧ Q (.str (i ++ j)) H
def rAddA : R2 := rOr rAddI (rOr rCat rStrA)
theorem op_addA : OpR X (binaryOp .Add) rAddA := op_or op_add (op_or op_cat op_add_str)
def rMulI : R2 := rI CMul fun i j => .int (i * j)
def rMulA : R2 := rOr rMulI rRep
theorem op_mulA : OpR X (binaryOp .Mult) rMulA := op_or op_mul op_rep
def rModI : R2 := rI (fun _ j => 0 < j) fun i j => .int (i % j)
def rDivI : R2 := rI CDiv fun i j => .int (i / j)
def rPowI : R2 := rI CPow fun i j => .int (i ^ j.toNat)
def rEqA (K : PySem.W.Frag) : R2 := rOr rEq (rEqD K)
def rNeA (K : PySem.W.Frag) : R2 := rOr rNe (rNeD K)
theorem op_eqA (hu : X.A.units + 64 < cLine) : OpR X (compareOp .Eq) (rEqA X.K) := op_or op_eq (op_eqD hu)
theorem op_neA (hu : X.A.units + 64 < cLine) : OpR X (compareOp .NotEq) (rNeA X.K) := op_or op_ne (op_neD hu)
def rLtI : R2 := rI0 fun i j => .bl (decide (i < j))
def rLeI : R2 := rI0 fun i j => .bl (decide (i ≤ j))
def rGtI : R2 := rI0 fun i j => .bl (decide (j < i))
def rGeI : R2 := rI0 fun i j => .bl (decide (j ≤ i))
def rIsN : R2 := fun x y H Q => y = .non ∧ Q (.bl (decide (x = .non))) H
def rNotN : R2 := fun x y H Q => y = .non ∧ Q (.bl (!decide (x = .non))) H
def cAbs : List V → Hp → VK → Prop := fun xs H Q => ∃ i, xs = [.int i] ∧ Q (.int (if i < 0 then -i else i)) H
def cInt : List V → Hp → VK → Prop := fun xs H Q => (∃ i, xs = [.int i] ∧ Q (.int i) H) ∨ ∃ k, xs = [.bl k] ∧ Q (.int (if k then 1 else 0)) H
def cMax2 : List V → Hp → VK → Prop := fun xs H Q => ∃ i j, xs = [.int i, .int j] ∧ Q (.int (if j > i then j else i)) H
def cMin2 : List V → Hp → VK → Prop := fun xs H Q => ∃ i j, xs = [.int i, .int j] ∧ Q (.int (if j < i then j else i)) H
def cLenQ (K : PySem.W.Frag) : List V → Hp → VK → Prop := fun xs H Q => ∃ p ys, xs = [.ref p] ∧ (SqL K H p ys ∨ SqT K H p ys) ∧ Q (.int ys.length) H
def cLenS : List V → Hp → VK → Prop := fun xs H Q => ∃ z, xs = [.str z] ∧ z.length ≤ sizeLine ∧ Q (.int z.length) H
def cOr (r r' : List V → Hp → VK → Prop) : List V → Hp → VK → Prop := fun xs H Q => r xs H Q ∨ r' xs H Q
def cList (K : PySem.W.Frag) : List V → Hp → VK → Prop := fun xs H Q => ∃ p ys, xs = [.ref p] ∧ (SqL K H p ys ∨ SqT K H p ys) ∧ ∀ l, H l = none → Q (.ref l) (upd H l (.lst ys))
theorem call_lenA : CallR X (.builtin "len") (cOr (cLenQ X.K) cLenS) := CallR.or call_len_seq call_len_str
theorem call_absA : CallR X (.builtin "abs") cAbs := call_abs
theorem call_intA : CallR X (.type "int") cInt := call_int1
theorem call_listA : CallR X (.type "list") (cList X.K) := call_list_of
end
/-! ### readings, step by step -/
section
variable {K : PySem.W.Frag} {σ : L2.St} {H : Hp} {D : Ends} {Q : VK} {QA : List V → Hp → Prop} {QT : Bool → Hp → Prop} {i : Nat} {v x y : V} {ta tb te : TE} {t u : TS} {tt tu : TT} {tr : TA} {r r' : R2} {g : TG} {n m : Int} {b c : Bool} {Ps Qs : List SP} {a : Addr} {o : HO} {xs ys : List V}
theorem q_seq (h : t { D with nx := u D } σ H) : tSeq t u D σ H := h
theorem q_set (h : te σ H fun x H1 => D.nx (σ.set i (some x)) H1) : tAsg te (gName i) D σ H := h
theorem q_asg (h : te σ H fun x H1 => g x σ H1 D.nx) : tAsg te g D σ H := h
theorem q_ret (h : te σ H D.rt) : tRet te D σ H := h
theorem q_drop (h : te σ H fun _ H1 => D.nx σ H1) : tDrop te D σ H := h
theorem q_next (h : D.nx σ H) : tNext D σ H := h
theorem q_var (e : σ[i]? = some (some v)) (h : Q v H) : tVar i σ H Q := ⟨v, e, h⟩
theorem q_c (h : Q v H) : tC v σ H Q := h
theorem q_op (h : ta σ H fun x H1 => tb σ H1 fun y H2 => r x y H2 Q) : tOp r ta tb σ H Q := h
theorem q_un {f : V → Hp → VK → Prop} (h : ta σ H fun x H1 => f x H1 Q) : tUn f ta σ H Q := h
theorem q_nil (h : QA [] H) : tNil σ H QA := h
theorem q_cons (h : te σ H fun x H1 => tr σ H1 fun xs H2 => QA (x :: xs) H2) : tCons te tr σ H QA := h
theorem q_cb {f : List V → Hp → VK → Prop} (h : tr σ H fun vs H1 => f vs H1 Q) : tCB f tr σ H Q := h
theorem q_call {sp : Sp} {E : XK} (h : tr σ H fun vs H1 => sp vs H1 Q E) : tCall sp [] E tr σ H Q := by
  have e : ∀ vs : List V, vs ++ [] = vs := List.append_nil
  unfold tCall
  simp only [e]
  exact h
theorem q_ifs (h : tt σ H fun b H1 => if b = true then t D σ H1 else u D σ H1) : tIfS tt t u D σ H := h
theorem q_if (h : tt σ H fun c H1 => if c = true then ta σ H1 Q else tb σ H1 Q) : tIf tt ta tb σ H Q := h
theorem q_test (h : te σ H fun x H' => ∃ k, x = .bl k ∧ QT k H') : tTest te σ H QT := h
theorem q_tb (h : te σ H fun x H' => ∃ k, x = .bl k ∧ QT k H') : tB te σ H QT := h
theorem q_bl (h : QT b H) : ∃ k, V.bl b = .bl k ∧ QT k H := ⟨b, rfl, h⟩
theorem q_notT (h : tt σ H fun c H1 => QT (!c) H1) : tNot tt σ H QT := h
theorem q_andT (h : tt σ H fun c H1 => if c = true then tu σ H1 QT else QT false H1) : tAnd tt tu σ H QT := h
theorem q_orT (h : tt σ H fun c H1 => if c = true then QT true H1 else tu σ H1 QT) : tOr tt tu σ H QT := h
theorem q_andV (h : ta σ H fun x H1 => ∃ c, x = .bl c ∧ if c = true then tb σ H1 Q else Q (.bl false) H1) : tAndV ta tb σ H Q := h
theorem q_orV (h : ta σ H fun x H1 => ∃ c, x = .bl c ∧ if c = true then Q (.bl true) H1 else tb σ H1 Q) : tOrV ta tb σ H Q := h
theorem q_notV (h : ta σ H fun x H1 => ∃ c, x = .bl c ∧ Q (.bl (!c)) H1) : tNotV ta σ H Q := h
theorem q_blI {p : Bool → Prop} (h : p b) : ∃ c, V.bl b = .bl c ∧ p c := ⟨b, rfl, h⟩
theorem q_orL (h : r x y H Q) : rOr r r' x y H Q := .inl h
theorem q_orR (h : r' x y H Q) : rOr r r' x y H Q := .inr h
theorem q_rI0 {f : Int → Int → V} (h : Q (f n m) H) : rI0 f (.int n) (.int m) H Q := ⟨n, m, rfl, rfl, h⟩
theorem q_addI (h : Q (.int (n + m)) H) : rAddI (.int n) (.int m) H Q := ⟨n, m, rfl, rfl, h⟩
theorem q_addA (h : Q (.int (n + m)) H) : rAddA (.int n) (.int m) H Q := .inl ⟨n, m, rfl, rfl, h⟩
theorem q_subI (h : Q (.int (n - m)) H) : rSubI (.int n) (.int m) H Q := ⟨n, m, rfl, rfl, h⟩
theorem q_ltI (h : Q (.bl (decide (n < m))) H) : rLtI (.int n) (.int m) H Q := ⟨n, m, rfl, rfl, h⟩
theorem q_leI (h : Q (.bl (decide (n ≤ m))) H) : rLeI (.int n) (.int m) H Q := ⟨n, m, rfl, rfl, h⟩
theorem q_gtI (h : Q (.bl (decide (m < n))) H) : rGtI (.int n) (.int m) H Q := ⟨n, m, rfl, rfl, h⟩
theorem q_geI (h : Q (.bl (decide (m ≤ n))) H) : rGeI (.int n) (.int m) H Q := ⟨n, m, rfl, rfl, h⟩
theorem q_eqI (h : Q (.bl (decide (n = m))) H) : rEqA K (.int n) (.int m) H Q := .inl ⟨rfl, by have e : decide (V.int n = V.int m) = decide (n = m) := decide_eq_decide.mpr ⟨V.int.inj, congrArg _⟩; rw [e]; exact h⟩
theorem q_neI (h : Q (.bl (!decide (n = m))) H) : rNeA K (.int n) (.int m) H Q := .inl ⟨rfl, by have e : decide (V.int n = V.int m) = decide (n = m) := decide_eq_decide.mpr ⟨V.int.inj, congrArg _⟩; rw [e]; exact h⟩
theorem q_mulI (hc : CMul n m) (h : Q (.int (n * m)) H) : rMulA (.int n) (.int m) H Q := .inl ⟨n, m, rfl, rfl, hc, h⟩
theorem q_modI (hc : 0 < m) (h : Q (.int (n % m)) H) : rModI (.int n) (.int m) H Q := ⟨n, m, rfl, rfl, hc, h⟩
theorem q_divI (hc : CDiv n m) (h : Q (.int (n / m)) H) : rDivI (.int n) (.int m) H Q := ⟨n, m, rfl, rfl, hc, h⟩
theorem q_powI (hc : CPow n m) (h : Q (.int (n ^ m.toNat)) H) : rPowI (.int n) (.int m) H Q := ⟨n, m, rfl, rfl, hc, h⟩
theorem q_abs (h : Q (.int (if n < 0 then -n else n)) H) : cAbs [.int n] H Q := ⟨n, rfl, h⟩
theorem q_int (h : Q (.int n) H) : cInt [.int n] H Q := .inl ⟨n, rfl, h⟩
theorem q_intB (h : Q (.int (if b then 1 else 0)) H) : cInt [.bl b] H Q := .inr ⟨b, rfl, h⟩
theorem q_max (h : Q (.int (if m > n then m else n)) H) : cMax2 [.int n, .int m] H Q := ⟨n, m, rfl, h⟩
theorem q_min (h : Q (.int (if m < n then m else n)) H) : cMin2 [.int n, .int m] H Q := ⟨n, m, rfl, h⟩
theorem q_lenL (s : SqL K H a xs) (h : Q (.int (xs.length : Int)) H) : cOr (cLenQ K) cLenS [.ref a] H Q := .inl ⟨a, xs, rfl, .inl s, h⟩
theorem q_lenT (s : SqT K H a xs) (h : Q (.int (xs.length : Int)) H) : cOr (cLenQ K) cLenS [.ref a] H Q := .inl ⟨a, xs, rfl, .inr s, h⟩
theorem q_lenS {z : Str} (s : z.length ≤ sizeLine) (h : Q (.int (z.length : Int)) H) : cOr (cLenQ K) cLenS [.str z] H Q := .inr ⟨z, rfl, s, h⟩
theorem q_ixL (s : SqL K H a xs) (e : atI xs n = some v) (h : Q v H) : rIx K (.ref a) (.int n) H Q := .inl ⟨a, xs, n, v, rfl, rfl, s, e, h⟩
theorem q_ixT (s : SqT K H a xs) (e : atI xs n = some v) (h : Q v H) : rIx K (.ref a) (.int n) H Q := .inr (.inl ⟨a, xs, n, v, rfl, rfl, s, e, h⟩)
theorem q_ixLL (s : SqL K H a xs) (e : atI xs n = some v) (h : Q v H) : rIxL K (.ref a) (.int n) H Q := ⟨a, xs, n, v, rfl, rfl, s, e, h⟩
theorem q_setL {QH : Hp → Prop} {k : Nat} (s : H a = some (.lst xs)) (e : ixN xs.length n = some k) (h : QH (upd H a (.lst (xs.set k v)))) : rSetL (.ref a) (.int n) v H QH := ⟨a, xs, n, k, rfl, rfl, s, e, h⟩
theorem q_ipAdd (h : Q (.int (n + m)) H) : ipI (fun i j => i + j) (.int n) (.int m) H Q := ⟨n, m, rfl, rfl, h⟩
theorem q_ipSub (h : Q (.int (n - m)) H) : ipI (fun i j => i - j) (.int n) (.int m) H Q := ⟨n, m, rfl, rfl, h⟩
theorem q_gsub {to ti : TE} {ts : TSet} {QG : L2.St → Hp → Prop} (h : to σ H fun o H1 => ti σ H1 fun i H2 => ts o i v H2 fun H3 => QG σ H3) : gSub to ti ts v σ H QG := h
theorem q_augs {to ti : TE} {tget : V → V → Hp → VK → Prop} {tip : TIp} {tset : TSet} (h : to σ H fun o H1 => ti σ H1 fun i H2 => tget o i H2 fun x H3 => te σ H3 fun y H4 => tip x y H4 fun z H5 => tset o i z H5 fun H6 => D.nx σ H6) :
    tAugS to ti te tget tip tset D σ H := h
theorem q_aug {ti : TIp} (e : σ[i]? = some (some x)) (h : te σ H fun y H1 => ti x y H1 fun z H2 => D.nx (σ.set i (some z)) H2) : tAug i te ti D σ H := ⟨x, e, h⟩
def kLst (Q : VK) : List V → Hp → Prop := fun xs H1 => xs.length ≤ sizeLine ∧ ∀ p, H1 p = none → Q (.ref p) (upd H1 p (.lst xs))
def kTup (Q : VK) : List V → Hp → Prop := fun xs H1 => xs.length ≤ sizeLine ∧ ∀ p, H1 p = none → Q (.ref p) (upd H1 p (.tup xs))
theorem q_lst (h : tr σ H (kLst Q)) : tLst tr σ H Q := h
theorem q_tup (h : tr σ H (kTup Q)) : tTup tr σ H Q := h
/-- a new object, known from then on -/
theorem q_new (S : Sep Ps H) (hl : xs.length ≤ 1000) (h : ∀ p H', Sep (pt p (.lst xs) :: Ps) H' → Q (.ref p) H') : kLst Q xs H := ⟨Nat.le_trans hl (by decide), fun p np => h p _ (S.new _ np)⟩
theorem q_newT (S : Sep Ps H) (hl : xs.length ≤ 1000) (h : ∀ p H', Sep (pt p (.tup xs) :: Ps) H' → Q (.ref p) H') : kTup Q xs H := ⟨Nat.le_trans hl (by decide), fun p np => h p _ (S.new _ np)⟩
theorem Sep.sq (S : Sep Ps H) (p : Pick (pt a (.lst xs)) Ps Qs) : SqL K H a xs := SqL.of (S.at_ p)
theorem Sep.st (S : Sep Ps H) (p : Pick (pt a (.tup xs)) Ps Qs) : SqT K H a xs := SqT.of (S.at_ p)
theorem q_fld {C dx : Addr} {fs : List (Str × V)} {f : Str} (h : ta σ H fun x H1 => ∃ a C dx fs v, x = .ref a ∧ H1 a = some (.ins C dx fs) ∧ Cls K C ∧ NoAttr K C f ∧ fs.lookup f = some v ∧ Q v H1) : tFld K ta f σ H Q := h
theorem q_fldA {C dx : Addr} {fs : List (Str × V)} {f : Str} (s : H a = some (.ins C dx fs)) (c : Cls K C) (na : NoAttr K C f) (l : fs.lookup f = some v) (h : Q v H) :
    ∃ a' C dx fs v, V.ref a = .ref a' ∧ H a' = some (.ins C dx fs) ∧ Cls K C ∧ NoAttr K C f ∧ fs.lookup f = some v ∧ Q v H := ⟨a, C, dx, fs, v, rfl, s, c, na, l, h⟩
theorem q_ite {p A B : Prop} [Decidable p] (h1 : p → A) (h2 : ¬ p → B) : if decide p = true then A else B := by
  by_cases h : p
  · rw [decide_eq_true h]; exact iteT (h1 h)
  · rw [decide_eq_false h]; exact iteF (h2 h)
theorem q_iteN {p A B : Prop} [Decidable p] (h1 : ¬ p → A) (h2 : p → B) : if (!decide p) = true then A else B := by
  by_cases h : p
  · rw [decide_eq_true h]; exact iteF (h2 h)
  · rw [decide_eq_false h]; exact iteT (h1 h)
theorem q_iteB {b : Bool} {A B : Prop} (h1 : b = true → A) (h2 : b = false → B) : if b = true then A else B := by
  cases b
  · exact iteF (h2 rfl)
  · exact iteT (h1 rfl)
theorem iteNT {A B : Prop} (h : B) : if (!true) = true then A else B := iteF h
theorem iteNF {A B : Prop} (h : A) : if (!false) = true then A else B := iteT h
theorem q_cut {Mid : L2.St → Hp → Prop} (h : t { D with nx := Mid } σ H) (k : ∀ σ' H', Mid σ' H' → u D σ' H') : C8.tCut t u D σ H := ⟨Mid, h, k⟩
theorem q_setS {QH : Hp → Prop} {k : Nat} (S : Sep Ps H) (r : Repl a (.lst xs) (.lst (xs.set k v)) Ps Qs) (e : ixN xs.length n = some k) (h : ∀ H', Sep Qs H' → QH H') : rSetL (.ref a) (.int n) v H QH :=
  ⟨a, xs, n, k, rfl, rfl, by obtain ⟨Rs, p, _⟩ := r.pick; exact S.at_ p, e, h _ (S.set r)⟩
theorem at_i {α : Type} {xs : List α} (h0 : 0 ≤ n) (h1 : n < xs.length) : ∃ w, atI xs n = some w ∧ w ∈ xs := by
  obtain ⟨j, rfl⟩ := Int.eq_ofNat_of_zero_le h0
  have hj : j < xs.length := by omega
  exact ⟨xs[j], atI_nat (List.getElem?_eq_getElem hj), List.getElem_mem hj⟩
end
end Kt

set_option Elab.async false
set_option linter.all false
set_option maxRecDepth 100000
namespace Kt
open PySem L2 PyProof.Rows
/-! ### classes and their methods by name -/
structure Mt (K : PySem.W.Frag) (C : Addr) (m qual : Str) (st : Stmt) (ps : List Str) (f : Addr) : Prop where
  fn : ∃ fd, Fun K m qual st f fd ∧ Binds K fd ps []
  at_ : Meth K C m f
structure Mf (P : Program) (w : World) (K : PySem.W.Frag) (mg : Str → Option Value) (base : Heap) (k : Nat) (C : Addr) (m : Str) (ps : List Str) (sp : Sp) : Prop where
  fn : ∃ f fd, FnOk P w K mg base CX0 k f fd ps sp ∧ Binds K fd ps [] ∧ Meth K C m f
  cls : Cls K C
structure Ct (K : PySem.W.Frag) (mg : Str → Option Value) (x : Str) (C f : Addr) : Prop where
  at_ : mg x = some (.ref C)
  mkr : Mk K C f
/-- a class that may be called: its __init__'s promise -/
structure Cf (P : Program) (w : World) (K : PySem.W.Frag) (mg : Str → Option Value) (base : Heap) (k : Nat) (x : Str) (C : Addr) (ps : List Str) (sp : Sp) : Prop where
  fn : ∃ f fd, FnOk P w K mg base CX0 k f fd ps sp ∧ Binds K fd ps [] ∧ Mk K C f
  at_ : mg x = some (.ref C)
section
variable {P : Program} {w : World} {K : PySem.W.Frag} {mg : Str → Option Value} {base : Heap}
theorem Mt.ok {C : Addr} {x qual : Str} {st : Stmt} {f : Addr} {N ps : List Str} {k : Nat} {sp : Sp} (T : Mt K C x qual st ps f) (c : Cls K C) (S : FnScope N ps (defScope st)) (len : ∀ vs H Q E, sp vs H Q E → vs.length = ps.length)
    (hbody : ∀ (cdv : Value) (A : Around) (outer : List Env) (s : Shared) (H : Hp) (vs : List V) (Q : VK) (E : XK), Room k (A.deeper (envOfC qual (defScope st) s.heap.objs.size f cdv)) → sp vs H Q E →
      ∃ t, PSs (cxOf CX0 P w K mg base N qual (defScope st) f cdv A outer s H E).nox (defBody st) t ∧ t { nx := fun _ H' => Q .non H', rt := Q } (start N vs) H) : Mf P w K mg base (k + 1) C x ps sp := by
  obtain ⟨fd, F, b⟩ := T.fn
  exact ⟨⟨f, fd, F.ok S len hbody, b, T.at_⟩, c⟩
theorem Mf.cf {C f : Addr} {x : Str} {ps : List Str} {k : Nat} {sp : Sp} (M : Mf P w K mg base k C "__init__" ps sp) (T : Ct K mg x C f) : Cf P w K mg base k x C ps sp := by
  obtain ⟨g, fd, F, b, m⟩ := M.fn
  have e : g = f := by
    have h1 := m.at_
    rw [T.mkr.init] at h1
    cases h1
    rfl
  subst e
  exact ⟨⟨g, fd, F, b, T.mkr⟩, T.at_⟩
end
section
variable {X : Cx} {k : Nat} {x m : Str} {C : Addr} {ps : List Str} {sp : Sp} {o e : Expr} {es : List Expr} {to : TE} {t : TA} {p pos apos : Pos}
theorem pe_mf {pl : Sem Bool} (M : Mf X.prog X.w X.K X.mg X.base k C m ps sp) (hr : Room k X.A) (ho : PE X o to) (ha : PA X (e :: es) t)
    (hst : starEach (e :: es) X.env = (false, eval e X.env) :: starEach es X.env := by rfl) (hpl : (backTo pos (starEach es X.env)).any (·.1) = false := by rfl)
    (ht : eval (.Call (.Attribute o m apos) (e :: es) [] pos) X.env = (do
      let ov ← eval o X.env
      standAt apos.atName
      let (f, first) ← holding [ov] (getMethod ov m pl)
      callWith pos f first (backTo pos (starEach (e :: es) X.env)) (backToKw pos (keywordEach [] X.env))) := by rfl) : PE X (.Call (.Attribute o m apos) (e :: es) [] pos) (tMeth C m sp [] E0 to t) := by
  obtain ⟨f, fd, F, b, hm⟩ := M.fn
  exact pe_meth ho M.cls hm F hr b .nil pass0 ha hst hpl ht
theorem pe_mf0 {pl : Sem Bool} (M : Mf X.prog X.w X.K X.mg X.base k C m ps sp) (hr : Room k X.A) (ho : PE X o to)
    (ht : eval (.Call (.Attribute o m apos) [] [] pos) X.env = (do
      let ov ← eval o X.env
      standAt apos.atName
      let (f, first) ← holding [ov] (getMethod ov m pl)
      callWith pos f first [] []) := by rfl) : PE X (.Call (.Attribute o m apos) [] [] pos) (tMeth C m sp [] E0 to tNil) := by
  obtain ⟨f, fd, F, b, hm⟩ := M.fn
  exact pe_meth0 ho M.cls hm F hr b .nil pass0 ht
theorem pe_cf (M : Cf X.prog X.w X.K X.mg X.base k x C ps sp) (hr : Room (k + 1) X.A) (ha : PA X (e :: es) t) (hg : Gl X x := by rfl) (hd : (x == ("__debug__" : Str)) = false := by decide)
    (he : starEach (e :: es) X.env = (false, eval e X.env) :: starEach es X.env := by rfl) (hpl : (backTo pos (starEach es X.env)).any (·.1) = false := by rfl) : PE X (.Call (.Name x p) (e :: es) [] pos) (tMake C sp [] E0 t) := by
  obtain ⟨f, fd, F, b, M'⟩ := M.fn
  exact pe_make M' F hr hg M.at_ b .nil pass0 ha hd he hpl
end
/-! ### own operators of instances -/
section
variable {X : Cx} {k : Nat} {C : Addr} {ps : List Str} {sp : Sp}
theorem ins_at {pins : List (Addr × Obj)} {σ : L2.St} {H : Hp} {s : Shared} {a dx : Addr} {fs : List (Str × V)} (I : Inv X pins σ H s) (h : H a = some (.ins C dx fs)) : ∃ ox od, PySem.W.InstAt s.heap a ox C od := by
  obtain ⟨mA, O, _⟩ := ins_get I.hok h
  obtain ⟨od, J, _⟩ := O.look
  exact ⟨_, _, J⟩
/-- o[i] = v by an own __setitem__ -/
def rSetOwn (C : Addr) (sp : Sp) : TSet := fun o i v H Q => ∃ a dx fs, o = .ref a ∧ H a = some (.ins C dx fs) ∧ sp [.ref a, i, v] H (fun _ H' => Q H') E0
theorem set_own (M : Mf X.prog X.w X.K X.mg X.base k C "__setitem__" ps sp) (hr : Room k X.A) (hq : PySem.W.noSeq X.K C = true) : PSet X (rSetOwn C sp) := by
  intro pins s σ H o i v ov iv u Q I ro ri rv h
  obtain ⟨a, dx, fs, rfl, ha, q⟩ := h
  cases (show ov = Value.ref a from ro)
  obtain ⟨f, fd, F, b, hm⟩ := M.fn
  obtain ⟨ox, od, J⟩ := ins_at I ha
  obtain ⟨m, hF⟩ := I.fr
  refine PySem.W.ksp_setItem hF I.ok.mod.kin J hq hm.at_ hm.fn ?_
  exact wpAny_mono (run_fn (us := [.ref a, iv, u]) (vs := [.ref a, i, v]) F hr b .nil pass0 I (.cons rfl (.cons ri (.cons rv .nil))) (by rw [List.append_nil]; exact q)) (fun z s' ⟨y, H', I', r', q'⟩ => ⟨H', I', q'⟩) fun _ _ z => z
/-- x += y by an own __iadd__ -/
def rInpOwn (C : Addr) (sp : Sp) : TIp := fun x y H Q => ∃ a dx fs, x = .ref a ∧ H a = some (.ins C dx fs) ∧ sp [.ref a, y] H Q E0
theorem ip_own (M : Mf X.prog X.w X.K X.mg X.base k C "__iadd__" ps sp) (hr : Room k X.A) (hc : PySem.W.selfFirst X.K C = true) : PIp X .Add (rInpOwn C sp) := by
  intro pins s σ H x y v u Q I rx ry h
  obtain ⟨a, dx, fs, rfl, ha, q⟩ := h
  cases (show v = Value.ref a from rx)
  obtain ⟨f, fd, F, b, hm⟩ := M.fn
  obtain ⟨ox, od, J⟩ := ins_at I ha
  obtain ⟨m, hF⟩ := I.fr
  refine PySem.W.ksp_inplace (op := .Add) hF I.ok.mod.kin J hc hm.at_ hm.fn ?_
  exact wpAny_mono (run_fn (us := [.ref a, u]) (vs := [.ref a, y]) F hr b .nil pass0 I (.cons rfl (.cons ry .nil)) (by rw [List.append_nil]; exact q)) (fun z s' ⟨y', H', I', r', q'⟩ => SlX.cmpback r' ⟨y', H', I', r', q'⟩) fun _ _ z => z
end
/-! ### xs[a:c] = ys -/
section
variable {X : Cx} {o e : Expr} {lo hi : Option Expr} {to te : TE} {tl th : TO} {p2 pos tpos : Pos}
/-- the bounds of a slice that may reach beyond the end -/
theorem bounds_clip (a c n : Nat) (h : a ≤ n) : sliceBounds (some (a : Int)) (some (c : Int)) none n = ((a : Int), ((min c n : Nat) : Int), 1) := by
  have p1 : ¬ ((a : Int) < 0) := by omega
  have p2 : ¬ ((c : Int) < 0) := by omega
  simp only [sliceBounds, Option.getD_none, p1, p2, if_false, show (1 : Int) > 0 from by decide, if_true]
  refine Prod.ext ?_ (Prod.ext ?_ rfl)
  · show max 0 (min (a : Int) (n : Int)) = a; omega
  · show max 0 (min (c : Int) (n : Int)) = ((min c n : Nat) : Int); omega
theorem setItem_clip {prog : Program} {w : World} {A : Around} {E : Value → Shared → Prop} {s : Shared} {l b sl : Addr} {u v : List Value} {n n2 : Nat} {vl vu : Value} {a c : Nat} {Q : Unit → Shared → Prop}
    (e : s.heap.get? l = some { cls := .type "list", data := .seq u.toArray n }) (e2 : s.heap.get? b = some { cls := .type "list", data := .seq v.toArray n2 }) (hne : l ≠ b) (hs : s.heap.IsSliceOf sl vl vu .none)
    (pl : IsPart vl (some (a : Int))) (pu : IsPart vu (some (c : Int))) (ha : a ≤ u.length) (hac : a ≤ c) (hz : u.length + v.length ≤ sizeLine)
    (h : Q () { s with heap := s.heap.update l (Obj.mapSeq fun xs => xs.extract 0 a ++ v.toArray ++ xs.extract (min c u.length) xs.size) }) : wpAny (model prog w) A (setItem (.ref l) (.ref sl) (.ref b)) Q E s := by
  have lst : s.heap.IsList l u.toArray ∧ s.heap.IsList b v.toArray := ⟨PySem.IsL.isList e, PySem.IsL.isList e2⟩
  obtain ⟨os, g1, g2, g3⟩ := hs
  have ty : s.TypeIs (.ref sl) "slice" := ⟨os, g1, g2⟩
  have apart : Builtin.List.listSameRef (.ref l) (.ref b) = false := beq_eq_false_iff_ne.mpr hne
  have top : (max (a : Int) ((min c u.length : Nat) : Int)).toNat = min c u.length := by omega
  have fit : u.toArray.size + v.toArray.size ≤ sizeLine := by simpa using hz
  have out : ((fun xs : Array Value => xs.extract 0 a ++ v.toArray ++ xs.extract (min c u.length) xs.size) u.toArray).size ≤ sizeLine + 1 := by simp; omega
  have bd : sliceBounds (some (a : Int)) (some (c : Int)) none u.toArray.size = ((a : Int), ((min c u.length : Nat) : Int), 1) := by simpa using bounds_clip a c u.length ha
  unfold setItem
  refine wpAny_holding (wpAny_bind (wpAny_sequenceKey lst.1.typeIs (by decide) (wpAny_bind ?_)))
  refine wpAny_callSpecial?_slot (name := Str.ofString "__setitem__") lst.1.typeIs slot_list_setitem (wpAny_call_entry slot_list_setitem lst.1.typeIs entry_list_setitem ?_ (args_list_setitem _ _ _))
  show wpAny _ _ (Builtin.List.listSubscript? (Value.ref sl) >>= _) _ _ _
  unfold Builtin.List.listSubscript?
  refine wpAny_bind (wpAny_bind (wpAny_specialOf ty slice_no_index ?_))
  rw [if_pos (by rfl)]
  refine wpAny_pure (wpAny_bind (wpAny_typeOf ty ?_))
  rw [if_neg (by decide), listSliceParts_eq]
  refine wpAny_bind (wpAny_bind (wpAny_field g1 g3 (x := .none) rfl (wpAny_bind (wpAny_listPart IsPart.none ?_))))
  rw [if_neg (show ¬ ((rawPart none == rawInt 0) = true) from Bool.false_ne_true)]
  refine wpAny_bind (wpAny_field g1 g3 (x := vl) rfl (wpAny_bind (wpAny_listPart pl (wpAny_bind (wpAny_field g1 g3 (x := vu) rfl (wpAny_bind (wpAny_listPart pu (wpAny_pure ?_))))))))
  dsimp only
  rw [if_neg (by rw [apart]; exact Bool.false_ne_true)]
  refine wpAny_bind (m := Builtin.List.listAllItems (Value.ref b) _) ?_
  unfold Builtin.List.listAllItems
  refine wpAny_bind (wpAny_typeOf lst.2.typeIs (PySem.W.KFB.if_so (by decide) ?_))
  unfold Builtin.List.listItems
  refine wpAny_bind (wpAny_seqItems e2 rfl (wpAny_pure (wpAny_bind (wpAny_bind (wpAny_seqItems e rfl (wpAny_pure ?_))))))
  have si := sliceIndices_raw (some (a : Int)) (some (c : Int)) none u.toArray.size (by simp)
  rw [bd] at si
  refine wpAny_bind (wpAny_of_eq si ?_)
  dsimp only
  rw [if_pos (by decide)]
  refine wpAny_bind (wpAny_rule (PySem.W.KFB.if_not (notLongL fit) ?_))
  have key : wpAny (model prog w) A.in1 (updateSeq l fun xs => xs.extract 0 (a : Int).toNat ++ v.toArray ++ xs.extract (max (a : Int) ((min c u.length : Nat) : Int)).toNat xs.size) (fun _ s' => s' = { s with heap := s.heap.update l (Obj.mapSeq fun xs => xs.extract 0 a ++ v.toArray ++ xs.extract (min c u.length) xs.size) }) (fun _ _ => False) s := by
    rw [top, Int.toNat_natCast]
    exact wpAny_updateSeq (hz := Nat.le_trans (Nat.le_add_right _ _) fit) (_hz' := out) e rfl rfl
  refine wpAny_bind (wpAny_mono key (fun _ s' es => ?_) fun _ _ z => z.elim)
  subst es
  exact wpAny_bind (wpAny_letGo (wpAny_pure ⟨.none, rfl, wpAny_pure h⟩))
/-- o[lo:hi] = v: the list that is written, and another one -/
def gSl (to : TE) (tl th : TO) : TG := fun v σ H Q => to σ H fun x H1 => tl σ H1 fun lo H2 => th σ H2 fun hi H3 => ∃ (l b : Addr) (xs ys : List V) (a c : Nat), x = .ref l ∧ v = .ref b ∧ lo = some (a : Int) ∧ hi = some (c : Int) ∧
  H3 l = some (.lst xs) ∧ H3 b = some (.lst ys) ∧ l ≠ b ∧ a ≤ xs.length ∧ a ≤ c ∧ xs.length + ys.length ≤ sizeLine ∧ Q σ (upd H3 l (.lst (xs.take a ++ ys ++ xs.drop c)))
theorem pg_slice (ho : PE X o to) (hl : PO X lo tl) (hu : PO X hi th)
    (ha : ∀ v, assign (.Subscript o (.Slice lo hi none p2) tpos) X.env v = (do
      let ov ← holding [v] (eval o X.env)
      let iv ← holding [v, ov] (eval (.Slice lo hi none p2) X.env)
      standAt tpos
      holding [v, ov, iv] (setItem ov iv v)
      release [iv, v, ov] []) := by intro _; rfl) : PG X (.Subscript o (.Slice lo hi none p2) tpos) (gSl to tl th) := by
  refine ⟨fun pins s σ H v u Q I r h => ?_⟩
  rw [ha]
  refine wpAny_bind (wpAny_holding (thn (ho.run pins s σ H _ I h) fun ov s1 ⟨x, H1, I1, r1, q1⟩ => ?_))
  refine wpAny_bind (wpAny_holding (wpAny_Slice (thn (hl.run pins s1 σ H1 _ I1 q1) fun vl s2 ⟨z1, H2, I2, pl, q2⟩ => thn (hu.run pins s2 σ H2 _ I2 q2) fun vu s3 ⟨z2, H3, I3, pu, q3⟩ => ?_)))
  obtain ⟨l, b, xs, ys, a, c, rfl, rfl, rfl, rfl, hL, hB, hne, h1, h2, hz, q⟩ := q3
  cases (show ov = Value.ref l from r1)
  cases (show u = Value.ref b from r)
  rw [evalPart_none]
  have I4 : Inv X pins σ H3 { s3 with heap := s3.heap.push { cls := .type "slice", data := .fields #[vl, vu, .none] } } := I3.kept (t' := s3.toks) fun _ _ z => Heap.get?_push_of_some _ z
  refine wpAny_pure ?_
  obtain ⟨z, u1, n1, r1', hl1, e1⟩ := I4.lstM hL
  obtain ⟨z2, u2, n2, r2', hl2, e2⟩ := I4.lstM hB
  refine wpAny_bind (wpAny_standAt (wpAny_bind (wpAny_holding (setItem_clip e1 e2 hne (Heap.IsSliceOf.new ..) pl pu (by omega) h2 (by omega) (wpAny_release ⟨σ, _, ?_, q⟩)))))
  refine I4.lset (its' := u1.take a ++ u2 ++ u1.drop (min c u1.length)) (t' := s3.toks) hL e1 (splice_eq u1 u2 a _) ?_ ?_
  · have e3 : xs.drop c = xs.drop (min c u1.length) := by
      by_cases hc : c ≤ u1.length
      · rw [Nat.min_eq_left hc]
      · rw [Nat.min_eq_right (by omega), List.drop_eq_nil_of_le (by omega), List.drop_eq_nil_of_le (by omega)]
    rw [e3]
    exact Vals.append (Vals.append (r1'.take _) r2') (r1'.drop _)
  · rw [List.length_append, List.length_append, List.length_take, List.length_drop]
    omega
end
end Kt

set_option Elab.async false
set_option linter.all false
set_option maxRecDepth 100000
namespace Kt
open PySem L2 PyProof.Rows
/-! ### fields as written lists -/
theorem lk_eq {f : Str} {v : V} {r : List (Str × V)} : List.lookup f ((f, v) :: r) = some v := by simp
theorem lk_ne {f g : Str} {v : V} {r : List (Str × V)} (h : f ≠ g) : List.lookup f ((g, v) :: r) = List.lookup f r := by
  have e : (f == g) = false := beq_eq_false_iff_ne.mpr h
  simp [List.lookup_cons, e]
theorem pf_nil {f : Str} {v : V} : putF f v [] = [(f, v)] := rfl
theorem pf_eq {f : Str} {v x : V} {r : List (Str × V)} : putF f v ((f, x) :: r) = (f, v) :: r := if_pos rfl
theorem pf_ne {f g : Str} {v x : V} {r r' : List (Str × V)} (h : g ≠ f) (e : putF f v r = r') : putF f v ((g, x) :: r) = (g, x) :: r' := by
  rw [← e]
  exact if_neg h
section
variable {X : Cx} {e o value : Expr} {ta tv : TE} {f : Str} {pos pos' : Pos}
theorem pe_fldK (K : PySem.W.Frag) (he : PE X e ta) (hK : X.K = K := by rfl) (hb : attributeBase e f X.env (eval e X.env) = eval e X.env := by rfl) : PE X (.Attribute e f pos) (tFld K ta f) := hK ▸ pe_fld he hb
theorem ps_fldK (K : PySem.W.Frag) (ha : PE X o ta) (hv : PE X value tv) (hK : X.K = K := by rfl) (hs : swapsWith value (some (.Attribute o f pos')) pos.line X.env = pure false := by rfl) : PS X (.Assign [.Attribute o f pos'] value pos) (sFld K ta tv f) := hK ▸ ps_fld ha hv hs
theorem pi_listK (K : PySem.W.Frag) {tg l : Expr} {tl : TE} (hl : PE X l tl) (hK : X.K = K := by rfl) : PI X tg l (iList K tl) := hK ▸ pi_list hl
theorem pi_tupK (K : PySem.W.Frag) {tg l : Expr} {tl : TE} (hl : PE X l tl) (hK : X.K = K := by rfl) : PI X tg l (iTup K tl) := hK ▸ pi_tup hl
theorem pg_tupK (K : PySem.W.Frag) {es : List Expr} {k n : Nat} {t : TGs} (hc : X.calm = true) (h : PGs X es t) (hK : X.K = K := by rfl) (hn : (assignEach es X.env).length = n := by rfl) (hst : (assignEach es X.env).findIdx? (·.1) = none := by rfl) : PG X (.Tuple es k pos) (gTup K n t) := hK ▸ pg_tup hc h hn hst
theorem pg_unlK (K : PySem.W.Frag) {es : List Expr} {k n : Nat} {t : TGs} (hc : X.calm = true) (h : PGs X es t) (hK : X.K = K := by rfl) (hn : (assignEach es X.env).length = n := by rfl) (hst : (assignEach es X.env).findIdx? (·.1) = none := by rfl) : PG X (.Tuple es k pos) (gUnl K n t) := hK ▸ pg_unl hc h hn hst
theorem pe_bmK (K : PySem.W.Frag) {es : List Expr} {to : TE} {t : TA} {name : Str} {apos cpos : Pos} {T id : String} {r : V → List V → Hp → VK → Prop} (pa : PlainAttrs T) (slot : Slot T name id) (hty : typeOf (.builtin id) = pure (.type "method_descriptor")) (hm : MtR X id r) (ho : PE X o to) (ha : PA X (e :: es) t) (hK : X.K = K := by rfl)
    (hbase : attributeBase o name X.env (eval o X.env) = eval o X.env := by rfl)
    (hfew : ((backTo cpos (starEach (e :: es) X.env)).all (fun x => !x.1) && (backToKw cpos (keywordEach [] X.env)).all (fun x => x.1.isSome)
      && decide ((e :: es).length + ([] : List Keyword).length + (if ([] : List Keyword).isEmpty then 0 else 1) < 30)) = true := by rfl)
    (hline : (apos.endLine == cpos.line) = true := by rfl) (hs : starEach (e :: es) X.env = (false, eval e X.env) :: starEach es X.env := by rfl) (hplain : (backTo cpos (starEach es X.env)).any (·.1) = false := by rfl) :
    PE X (.Call (.Attribute o name apos) (e :: es) [] cpos) (tBM K T r to t) := hK ▸ pe_bm pa slot hty hm ho ha hbase hfew hline hs hplain
theorem pe_bm0K (K : PySem.W.Frag) {to : TE} {name : Str} {apos cpos : Pos} {T id : String} {r : V → List V → Hp → VK → Prop} (pa : PlainAttrs T) (slot : Slot T name id) (hty : typeOf (.builtin id) = pure (.type "method_descriptor")) (hm : MtR X id r) (ho : PE X o to) (hK : X.K = K := by rfl)
    (hbase : attributeBase o name X.env (eval o X.env) = eval o X.env := by rfl) (hline : (apos.endLine == cpos.line) = true := by rfl) : PE X (.Call (.Attribute o name apos) [] [] cpos) (tBM0 K T r to) := hK ▸ pe_bm0 pa slot hty hm ho hbase hline
end
section
variable {K : PySem.W.Frag} {σ : L2.St} {H : Hp} {D : Ends} {Q : VK} {QA : List V → Hp → Prop} {QT : Bool → Hp → Prop} {QG : L2.St → Hp → Prop} {i : Nat} {v x y : V} {ta tb te : TE} {t u : TS} {tr : TA} {g : TG} {n m : Int} {b c : Bool} {Ps Qs : List SP} {a : Addr} {o : HO} {xs ys : List V} {C dx : Addr} {fs fs' : List (Str × V)} {f : Str} {sp : Sp}
def kFld (K : PySem.W.Frag) (f : Str) (Q : VK) : V → Hp → Prop := fun x H1 => ∃ a C dx fs v, x = .ref a ∧ H1 a = some (.ins C dx fs) ∧ Cls K C ∧ NoAttr K C f ∧ fs.lookup f = some v ∧ Q v H1
theorem r_fld (h : ta σ H (kFld K f Q)) : tFld K ta f σ H Q := h
theorem r_kfld (S : Sep Ps H) (p : Pick (pt a (.ins C dx fs)) Ps Qs) (c : Cls K C) (na : NoAttr K C f) (l : fs.lookup f = some v) (h : Q v H) : kFld K f Q (.ref a) H := ⟨a, C, dx, fs, v, rfl, S.at_ p, c, na, l, h⟩
def kSet (K : PySem.W.Frag) (f : Str) (y : V) (Q : Hp → Prop) : V → Hp → Prop := fun x H2 => ∃ a C dx fs, x = .ref a ∧ H2 a = some (.ins C dx fs) ∧ Cls K C ∧ NoAttr K C f ∧ fs.length < 1000 ∧ Q (upd H2 a (.ins C dx (putF f y fs)))
theorem r_sfld (h : tb σ H fun y H1 => ta σ H1 (kSet K f y (D.nx σ))) : sFld K ta tb f D σ H := h
theorem r_kset {QH : Hp → Prop} (S : Sep Ps H) (r : Repl a (.ins C dx fs) (.ins C dx fs') Ps Qs) (c : Cls K C) (na : NoAttr K C f) (hl : fs.length < 1000) (e : putF f y fs = fs') (h : ∀ H', Sep Qs H' → QH H') : kSet K f y QH (.ref a) H :=
  ⟨a, C, dx, fs, rfl, by obtain ⟨Rs, p, _⟩ := r.pick; exact S.at_ p, c, na, hl, by rw [e]; exact h _ (S.set r)⟩
def kMeth (C : Addr) (m : Str) (sp : Sp) (t : TA) (σ : L2.St) (Q : VK) : V → Hp → Prop := fun x H1 => ∃ a dx fs, x = .ref a ∧ H1 a = some (.ins C dx fs) ∧ fs.lookup m = none ∧ t σ H1 fun vs H2 => sp (x :: vs) H2 Q E0
theorem r_meth {m : Str} (h : ta σ H (kMeth C m sp tr σ Q)) : tMeth C m sp [] E0 ta tr σ H Q := by
  unfold tMeth
  simp only [List.append_nil]
  exact h
theorem r_kmeth {m : Str} (S : Sep Ps H) (p : Pick (pt a (.ins C dx fs)) Ps Qs) (l : fs.lookup m = none) (h : tr σ H fun vs H2 => sp (.ref a :: vs) H2 Q E0) : kMeth C m sp tr σ Q (.ref a) H := ⟨a, dx, fs, rfl, S.at_ p, l, h⟩
def kNew (C : Addr) (sp : Sp) (Q : VK) : List V → Hp → Prop := fun vs H1 => ∀ x dx, H1 x = none → H1 dx = none → dx ≠ x → sp (.ref x :: vs) (upd (upd H1 dx (.own x)) x (.ins C dx [])) (fun v H2 => v = .non ∧ Q (.ref x) H2) E0
theorem r_make (h : tr σ H (kNew C sp Q)) : tMake C sp [] E0 tr σ H Q := by
  unfold tMake
  simp only [List.append_nil]
  exact h
theorem Sep.made {Ps : List SP} {H : Hp} {x dx C : Addr} (S : Sep Ps H) (h1 : H x = none) (h2 : H dx = none) (ne : dx ≠ x) : Sep (pt x (.ins C dx []) :: Ps) (upd (upd H dx (.own x)) x (.ins C dx [])) :=
  Sep.new _ ((S.new _ h2).tl) (by rw [upd_ne (Ne.symm ne)]; exact h1)
theorem r_knew {vs : List V} (S : Sep Ps H) (h : ∀ x dx H', Sep (pt x (.ins C dx []) :: Ps) H' → sp (.ref x :: vs) H' (fun v H2 => v = .non ∧ Q (.ref x) H2) E0) : kNew C sp Q vs H := fun x dx h1 h2 ne => h x dx _ (S.made h1 h2 ne)
/-- slices of lists -/
def kSl (K : PySem.W.Frag) (Q : VK) : V → Option Int → Option Int → Hp → Prop := fun x lo hi H => rSlL K x lo hi H Q
theorem r_sl {tl th : TO} (h : te σ H fun x H1 => tl σ H1 fun l H2 => th σ H2 fun u H3 => kSl K Q x l u H3) : tSl (rSlL K) te tl th σ H Q := h
theorem r_nopart {QO : Option Int → Hp → Prop} (h : QO none H) : tNoPart σ H QO := h
def kPart (QO : Option Int → Hp → Prop) : V → Hp → Prop := fun x H1 => ∃ i, x = .int i ∧ QO (some i) H1
theorem r_part {QO : Option Int → Hp → Prop} (h : te σ H (kPart QO)) : tPart te σ H QO := h
theorem r_parti {QO : Option Int → Hp → Prop} (h : QO (some n) H) : kPart QO (.int n) H := ⟨n, rfl, h⟩
theorem r_ksl {lo hi : Option Int} (S : Sep Ps H) (s : SqL K H a xs) (h : ∀ p H', Sep (pt p (.lst (cutV xs lo hi)) :: Ps) H' → Q (.ref p) H') : kSl K Q (.ref a) lo hi H := ⟨a, xs, rfl, s, fun p np => h p _ (S.new _ np)⟩
theorem r_gsl {to : TE} {tl th : TO} (h : to σ H fun x H1 => tl σ H1 fun lo H2 => th σ H2 fun hi H3 => ∃ (l b : Addr) (xs ys : List V) (a c : Nat), x = .ref l ∧ v = .ref b ∧ lo = some (a : Int) ∧ hi = some (c : Int) ∧
  H3 l = some (.lst xs) ∧ H3 b = some (.lst ys) ∧ l ≠ b ∧ a ≤ xs.length ∧ a ≤ c ∧ xs.length + ys.length ≤ sizeLine ∧ QG σ (upd H3 l (.lst (xs.take a ++ ys ++ xs.drop c)))) : gSl to tl th v σ H QG := h
/-- list(xs) -/
theorem r_list (S : Sep Ps H) (s : SqL K H a xs) (h : ∀ p H', Sep (pt p (.lst xs) :: Ps) H' → Q (.ref p) H') : cList K [.ref a] H Q := ⟨a, xs, rfl, .inl s, fun p np => h p _ (S.new _ np)⟩
/-- xs + ys -/
theorem r_cat {q : Addr} (S : Sep Ps H) (s1 : H a = some (.lst xs)) (s2 : H q = some (.lst ys)) (hz : xs.length + ys.length ≤ 100000) (h : ∀ p H', Sep (pt p (.lst (xs ++ ys)) :: Ps) H' → Q (.ref p) H') : rAddA (.ref a) (.ref q) H Q :=
  .inr (.inl ⟨a, q, xs, ys, rfl, rfl, s1, s2, Nat.le_trans hz (by decide), fun p np => h p _ (S.new _ np)⟩)
/-- methods of lists -/
theorem r_bm {T : String} {r : V → List V → Hp → VK → Prop} {to : TE} (h : to σ H fun x H1 => tyV K T x H1 ∧ tr σ H1 fun xs H2 => r x xs H2 Q) : tBM K T r to tr σ H Q := h
theorem r_bm0 {T : String} {r : V → List V → Hp → VK → Prop} {to : TE} (h : to σ H fun x H1 => tyV K T x H1 ∧ r x [] H1 Q) : tBM0 K T r to σ H Q := h
theorem r_tyl {p : Prop} (s : SqL K H a xs) (h : p) : tyV K "list" (.ref a) H ∧ p := ⟨.inl ⟨rfl, xs, s⟩, h⟩
theorem r_append (S : Sep Ps H) (r : Repl a (.lst xs) (.lst (xs ++ [y])) Ps Qs) (hz : xs.length < 100000) (h : ∀ H', Sep Qs H' → Q .non H') : rAppend (.ref a) [y] H Q :=
  ⟨a, xs, y, rfl, rfl, by obtain ⟨Rs, p, _⟩ := r.pick; exact S.at_ p, Nat.lt_of_lt_of_le hz (by decide), h _ (S.set r)⟩
theorem r_reverse (S : Sep Ps H) (r : Repl a (.lst xs) (.lst xs.reverse) Ps Qs) (h : ∀ H', Sep Qs H' → Q .non H') : rReverse (.ref a) [] H Q :=
  ⟨a, xs, rfl, rfl, by obtain ⟨Rs, p, _⟩ := r.pick; exact S.at_ p, h _ (S.set r)⟩
theorem r_clear (S : Sep Ps H) (r : Repl a (.lst xs) (.lst []) Ps Qs) (h : ∀ H', Sep Qs H' → Q .non H') : rClear (.ref a) [] H Q :=
  ⟨a, xs, rfl, rfl, by obtain ⟨Rs, p, _⟩ := r.pick; exact S.at_ p, h _ (S.set r)⟩
/-- isinstance -/
theorem r_isi {T B : String} {k : Bool} (ty : TyX K H x (.type T)) (e : kitB T B = some k) (h : Q (.bl k) H) : rIsi K [x, .ty B] H Q := ⟨x, .ty B, _, _, k, rfl, .ty B, ty, kit_ty e, h⟩
theorem ty_int : TyX K H (.int n) (.type "int") := .base (.int n)
theorem ty_lst (h : H a = some (.lst xs)) : TyX K H (.ref a) (.type "list") := .base (.lst h)
theorem r_all {bs : List Bool} (s : SqL K H a (bs.map V.bl)) (h : Q (.bl (bs.all id)) H) : rAll K [.ref a] H Q := ⟨a, bs, rfl, s, h⟩
/-- loops -/
theorem r_for {wi : TI} (h : wi σ H fun J H1 => ∃ W : Nat → Nat → L2.St → Hp → Prop, (∃ m, W 0 m σ H1) ∧ ∀ i m σ H, W i m σ H →
  (J.stop i H ∧ D.nx σ H) ∨ (J.go i H ∧ ∃ N : L2.St → Hp → Prop, (∀ σ' H', N σ' H' → ∃ m', m' < m ∧ W (i + 1) m' σ' H') ∧ ∀ x H', J.yld i H x H' → g x σ H' fun σ2 H2 => t { D with nx := N, ct := N, bk := D.nx } σ2 H2)) : tFor wi g t D σ H := h
theorem r_ilist {R : It → Hp → Prop} {tl : TE} (h : tl σ H fun x H1 => ∃ a, x = .ref a ∧ (∃ xs, SqL K H1 a xs) ∧ R (Itl K a) H1) : iList K tl σ H R := h
theorem r_irng {R : It → Hp → Prop} (h : tr σ H fun vs H1 => ∃ j : Int, vs = [.int j] ∧ -(2 ^ 62) ≤ j ∧ j < 2 ^ 62 ∧ R (Itr 0 j.toNat) H1) : iRng1 tr σ H R := h
theorem r_irngA {R : It → Hp → Prop} (h1 : -(2 ^ 62) ≤ n) (h2 : n < 2 ^ 62) (h : R (Itr 0 n.toNat) H) : ∃ j : Int, [V.int n] = [.int j] ∧ -(2 ^ 62) ≤ j ∧ j < 2 ^ 62 ∧ R (Itr 0 j.toNat) H := ⟨n, rfl, h1, h2, h⟩
theorem r_gname {i : Nat} (h : QG (σ.set i (some v)) H) : gName i v σ H QG := h
/-- targets -/
theorem r_gunl {k : Nat} {tg : TGs} (s : SqL K H a xs) (l : xs.length = k) (h : tg xs σ H QG) : gUnl K k tg (.ref a) σ H QG := ⟨a, xs, rfl, s, l, h⟩
theorem r_gtup {k : Nat} {tg : TGs} (s : SqT K H a xs) (l : xs.length = k) (h : tg xs σ H QG) : gTup K k tg (.ref a) σ H QG := ⟨a, xs, rfl, s, l, h⟩
theorem r_gcons {tu : TGs} (h : g v σ H fun σ' H' => tu xs σ' H' QG) : gCons g tu (v :: xs) σ H QG := ⟨v, xs, rfl, h⟩
theorem r_gnil (h : QG σ H) : gNil [] σ H QG := ⟨rfl, h⟩
theorem r_par {i j : Nat} (h : tr σ H fun vs H1 => ∃ v w, vs = [v, w] ∧ D.nx ((σ.set i (some v)).set j (some w)) H1) : tPar i j tr D σ H := h
theorem r_parA {i j : Nat} {p : L2.St → Hp → Prop} (h : p ((σ.set i (some x)).set j (some y)) H) : ∃ v w, [x, y] = [v, w] ∧ p ((σ.set i (some v)).set j (some w)) H := ⟨x, y, rfl, h⟩
theorem r_chain {r r' : R2} {tc : TE} (h : ta σ H fun x H1 => tb σ H1 fun y H2 => r x y H2 fun z H3 => ∃ k, z = .bl k ∧ (if k = true then tc σ H3 fun w' H4 => r' y w' H4 Q else Q (.bl false) H3)) : tChain r r' ta tb tc σ H Q := h
theorem r_isN (h : Q (.bl (decide (x = .non))) H) : Kt.rIsN x .non H Q := ⟨rfl, h⟩
end
/-! ### a class whose __init__ has one keyword-only parameter -/
structure Mtk (K : PySem.W.Frag) (C : Addr) (qual : Str) (st : Stmt) (ps : List Str) (n : Nat) (ks : List Str) (gV : List V → List V → List V) (f : Addr) : Prop where
  fn : ∃ (fd : FuncData) (kws : List (Str × V)) (g : List Value → List Value → List Value), FunD K "__init__" qual (defArgs st) (defBody st) (defScope st) [] kws f fd ∧ KBn K fd ps (n + 1) ks g gV
  mkr : Mk K C f
structure Cfk (P : Program) (w : World) (K : PySem.W.Frag) (mg : Str → Option Value) (base : Heap) (k : Nat) (x : Str) (C : Addr) (ps : List Str) (n : Nat) (ks : List Str) (gV : List V → List V → List V) (sp : Sp) : Prop where
  fn : ∃ (f : Addr) (fd : FuncData) (g : List Value → List Value → List Value), FnOk P w K mg base CX0 k f fd ps sp ∧ KBn K fd ps (n + 1) ks g gV ∧ Mk K C f
  at_ : mg x = some (.ref C)
theorem Mtk.ok {P : Program} {w : World} {K : PySem.W.Frag} {mg : Str → Option Value} {base : Heap} {x : Str} {C : Addr} {qual : Str} {st : Stmt} {f : Addr} {N ps ks : List Str} {k n : Nat} {gV : List V → List V → List V} {sp : Sp} (T : Mtk K C qual st ps n ks gV f) (hx : mg x = some (.ref C)) (S : FnScope N ps (defScope st)) (len : ∀ vs H Q E, sp vs H Q E → vs.length = ps.length)
    (hbody : ∀ (cdv : Value) (A : Around) (outer : List Env) (s : Shared) (H : Hp) (vs : List V) (Q : VK) (E : XK), Room k (A.deeper (envOfC qual (defScope st) s.heap.objs.size f cdv)) → sp vs H Q E →
      ∃ t, PSs (cxOf CX0 P w K mg base N qual (defScope st) f cdv A outer s H E).nox (defBody st) t ∧ t { nx := fun _ H' => Q .non H', rt := Q } (start N vs) H) : Cfk P w K mg base (k + 1) x C ps n ks gV sp := by
  obtain ⟨fd, kws, g, F, b⟩ := T.fn
  refine ⟨⟨f, fd, g, F.ok S len fun cdv A outer s H vs Q E hr h => ?_, b, T.mkr⟩, hx⟩
  obtain ⟨t, ht, q⟩ := hbody cdv A outer s H vs Q E hr h
  exact ⟨t, ht.nox, q⟩
section
variable {X : Cx} {k n : Nat} {x : Str} {C : Addr} {ps ks : List Str} {gV : List V → List V → List V} {sp : Sp} {e : Expr} {es : List Expr} {kws : List Keyword} {t tk : TA} {p pos : Pos}
theorem pe_cfk (M : Cfk X.prog X.w X.K X.mg X.base k x C ps n ks gV sp) (hr : Room (k + 1) X.A) (ha : PA X (e :: es) t) (hkw : PK X kws tk) (hg : Gl X x := by rfl)
    (hall : (backToKw pos (keywordEach kws X.env)).all (·.1.isSome) = true := by rfl) (hks : (backToKw pos (keywordEach kws X.env)).filterMap (·.1) = ks := by rfl) (hd : (x == ("__debug__" : Str)) = false := by decide)
    (he : starEach (e :: es) X.env = (false, eval e X.env) :: starEach es X.env := by rfl) (hpl : ((backTo pos (starEach (e :: es) X.env)).any (·.1) || (backToKw pos (keywordEach kws X.env)).any (·.1.isNone)) = false := by rfl) :
    PE X (.Call (.Name x p) (e :: es) kws pos) (tMakeK C n ks.length sp gV E0 t tk) := by
  obtain ⟨f, fd, g, F, b, M'⟩ := M.fn
  exact pe_makeK M' F hr hg M.at_ b pass0 ha hkw hall hks hd he hpl
end
section
variable {K : PySem.W.Frag} {σ : L2.St} {H : Hp} {Q : VK} {t tk : TA} {C : Addr} {sp : Sp} {gV : List V → List V → List V} {n m : Nat} {Ps : List SP} {vs zs : List V}
def kNewK (C : Addr) (n m : Nat) (sp : Sp) (gV : List V → List V → List V) (Q : VK) (vs zs : List V) : Hp → Prop := fun H2 => vs.length = n ∧ zs.length = m ∧ ∀ x dx, H2 x = none → H2 dx = none → dx ≠ x → sp (gV (.ref x :: vs) zs) (upd (upd H2 dx (.own x)) x (.ins C dx [])) (fun v H3 => v = .non ∧ Q (.ref x) H3) E0
theorem r_makek (h : t σ H fun vs H1 => tk σ H1 fun zs H2 => kNewK C n m sp gV Q vs zs H2) : tMakeK C n m sp gV E0 t tk σ H Q := h
theorem r_knewk (S : Sep Ps H) (l1 : vs.length = n) (l2 : zs.length = m) (h : ∀ x dx H', Sep (pt x (.ins C dx []) :: Ps) H' → sp (gV (.ref x :: vs) zs) H' (fun v H2 => v = .non ∧ Q (.ref x) H2) E0) : kNewK C n m sp gV Q vs zs H := ⟨l1, l2, fun x dx h1 h2 ne => h x dx _ (S.made h1 h2 ne)⟩
end
/-! ### a local name that holds a def -/
section
variable {X : Cx} {k i : Nat} {x y : Str} {f : Addr} {ps : List Str} {sp : Sp} {e : Expr} {es : List Expr} {t : TA} {p pos : Pos}
theorem pe_dfL (D : Df X.prog X.w X.K X.mg X.base k y f ps sp) (hr : Room k X.A) (ha : PA X (e :: es) t) (hN : X.N[i]? = some x := by rfl) (hv : Vis X.env.scope x := by first | exact Or.inl rfl | exact Or.inr (Or.inl rfl) | exact Or.inr (Or.inr rfl))
    (hdb : (x == ("__debug__" : Str)) = false := by decide) (hcd : (x == ("__classdict__" : Str)) = false := by decide)
    (he : starEach (e :: es) X.env = (false, eval e X.env) :: starEach es X.env := by rfl) (hpl : (backTo pos (starEach es X.env)).any (·.1) = false := by rfl) : PE X (.Call (.Name x p) (e :: es) [] pos) (tCallL i f sp [] E0 t) := by
  obtain ⟨fd, F, b⟩ := D.fn
  exact pe_callL F hr hN hv D.kp b .nil pass0 ha hdb hcd he hpl
theorem r_calll {σ : L2.St} {H : Hp} {Q : VK} (hs : σ[i]? = some (some (.ref f))) (h : t σ H fun vs H1 => sp vs H1 Q E0) : tCallL i f sp [] E0 t σ H Q := by
  unfold tCallL
  simp only [List.append_nil]
  exact ⟨hs, h⟩
end
end Kt

set_option Elab.async false
set_option linter.all false
set_option maxRecDepth 100000
namespace Kt
open PySem L2 PyProof.Rows
section
variable {K : PySem.W.Frag} {σ : L2.St} {H : Hp} {D : Ends} {Q : VK} {a : Addr} {xs : List V} {Ps : List SP} {g : TG} {tb : TS} {tt : TT} {te : TE} {vs : List Nat} {n : Int}
/-- the turns of a loop, by a word over the slots and the known parts -/
abbrev LW := Nat → L2.St → List SP → Prop
def Nx (J : LW) (i : Nat) : L2.St → Hp → Prop := fun σ H => ∃ Ps, J i σ Ps ∧ Sep Ps H
theorem nx_in {J : LW} {i : Nat} (S : Sep Ps H) (j : J i σ Ps) : Nx J i σ H := ⟨Ps, j, S⟩
abbrev ForW (J : It) (g : TG) (tb : TS) (D : Ends) (σ : L2.St) (H1 : Hp) : Prop := ∃ W : Nat → Nat → L2.St → Hp → Prop, (∃ m, W 0 m σ H1) ∧ ∀ i m σ H, W i m σ H →
  (J.stop i H ∧ D.nx σ H) ∨ (J.go i H ∧ ∃ N : L2.St → Hp → Prop, (∀ σ' H', N σ' H' → ∃ m', m' < m ∧ W (i + 1) m' σ' H') ∧ ∀ x H', J.yld i H x H' → g x σ H' fun σ2 H2 => tb { D with nx := N, ct := N, bk := D.nx } σ2 H2)
theorem r_for_list (J : LW) (S : Sep Ps H) (h0 : J 0 σ Ps) (hl : ∀ i σ Ps H, i ≤ xs.length → J i σ Ps → Sep Ps H → SqL K H a xs)
    (hs : ∀ i x σ Ps H, xs[i]? = some x → J i σ Ps → Sep Ps H → g x σ H fun σ2 H2 => tb { D with nx := Nx J (i + 1), ct := Nx J (i + 1), bk := D.nx } σ2 H2) (hd : ∀ σ Ps H, J xs.length σ Ps → Sep Ps H → D.nx σ H) :
    ∃ a', V.ref a = .ref a' ∧ (∃ xs, SqL K H a' xs) ∧ ForW (Itl K a') g tb D σ H :=
  ⟨a, rfl, ⟨xs, hl 0 σ Ps H (Nat.zero_le _) h0 S⟩, for_list (K := K) (a := a) (xs := xs) (Nx J) ⟨Ps, h0, S⟩ (fun i σ H hi ⟨Ps, j, S⟩ => hl i σ Ps H hi j S) (fun i x σ H hi ⟨Ps, j, S⟩ => hs i x σ Ps H hi j S) fun σ H ⟨Ps, j, S⟩ => hd σ Ps H j S⟩
theorem r_for_tup (J : LW) (S : Sep Ps H) (h0 : J 0 σ Ps) (hl : ∀ i σ Ps H, i ≤ xs.length → J i σ Ps → Sep Ps H → SqT K H a xs)
    (hs : ∀ i x σ Ps H, xs[i]? = some x → J i σ Ps → Sep Ps H → g x σ H fun σ2 H2 => tb { D with nx := Nx J (i + 1), ct := Nx J (i + 1), bk := D.nx } σ2 H2) (hd : ∀ σ Ps H, J xs.length σ Ps → Sep Ps H → D.nx σ H) :
    ∃ a', V.ref a = .ref a' ∧ (∃ xs, SqT K H a' xs) ∧ ForW (Itt K a') g tb D σ H :=
  ⟨a, rfl, ⟨xs, hl 0 σ Ps H (Nat.zero_le _) h0 S⟩, for_tup (K := K) (a := a) (xs := xs) (Nx J) ⟨Ps, h0, S⟩ (fun i σ H hi ⟨Ps, j, S⟩ => hl i σ Ps H hi j S) (fun i x σ H hi ⟨Ps, j, S⟩ => hs i x σ Ps H hi j S) fun σ H ⟨Ps, j, S⟩ => hd σ Ps H j S⟩
/-- over range(n) -/
theorem r_for_rng (J : LW) (S : Sep Ps H) (h1 : -(2 ^ 62) ≤ n) (h2 : n < 2 ^ 62) (h0 : J 0 σ Ps)
    (hs : ∀ (i : Nat) σ Ps H, i < n.toNat → J i σ Ps → Sep Ps H → g (.int (i : Int)) σ H fun σ2 H2 => tb { D with nx := Nx J (i + 1), ct := Nx J (i + 1), bk := D.nx } σ2 H2) (hd : ∀ σ Ps H, J n.toNat σ Ps → Sep Ps H → D.nx σ H) :
    ∃ j : Int, [V.int n] = [.int j] ∧ -(2 ^ 62) ≤ j ∧ j < 2 ^ 62 ∧ ForW (Itr 0 j.toNat) g tb D σ H :=
  ⟨n, rfl, h1, h2, for_range (Nx J) ⟨Ps, h0, S⟩ (fun i σ H hi ⟨Ps, j, S⟩ => by rw [Int.zero_add]; exact hs i σ Ps H hi j S) fun σ H ⟨Ps, j, S⟩ => hd σ Ps H j S⟩
/-! ### comprehensions: J by the turn, what is made, the known parts -/
abbrev CW := Nat → List V → List SP → Prop
abbrev LcW (Jt : It) (g : TG) (tt : TT) (te : TE) (vs : List Nat) (Q : VK) (σ : L2.St) (H1 : Hp) : Prop := ∀ D, H1 D = none → ∃ W : Nat → Nat → Hp → Prop, (∃ m, W 0 m (upd H1 D (.lst []))) ∧ ∀ i m H, W i m H →
  (Jt.stop i H ∧ Q (.ref D) H) ∨ (Jt.go i H ∧ ∃ Nx : Hp → Prop, (∀ H', Nx H' → ∃ m', m' < m ∧ W (i + 1) m' H') ∧ ∀ x H', Jt.yld i H x H' → g x (wipe σ vs) H' fun σ2 H2 => wipe σ2 vs = wipe σ vs ∧ tt σ2 H2 fun b H3 =>
    if b = true then te σ2 H3 fun y H4 => ∃ acc, H4 D = some (.lst acc) ∧ acc.length < sizeLine ∧ Nx (upd H4 D (.lst (acc ++ [y]))) else Nx H3)
def CN (J : CW) (D : Addr) (i : Nat) : Hp → Prop := fun H => ∃ acc Ps, J i acc Ps ∧ Sep (pt D (.lst acc) :: Ps) H
/-- an item is made: the new list holds one more -/
theorem cn_in {J : CW} {D : Addr} {i : Nat} {acc : List V} {y : V} (S : Sep (pt D (.lst acc) :: Ps) H) (hl : acc.length < 100000) (j : J i (acc ++ [y]) Ps) : ∃ acc, H D = some (.lst acc) ∧ acc.length < sizeLine ∧ CN J D i (upd H D (.lst (acc ++ [y]))) :=
  ⟨acc, S.hd_at, Nat.lt_of_lt_of_le hl (by decide), acc ++ [y], Ps, j, S.hd_set _⟩
theorem cn_out {J : CW} {D : Addr} {i : Nat} {acc : List V} (S : Sep (pt D (.lst acc) :: Ps) H) (j : J i acc Ps) : CN J D i H := ⟨acc, Ps, j, S⟩
theorem r_lc (h : ∀ (wi : TI), wi = wi → True) : True := trivial
theorem r_tlc {wi : TI} (h : wi σ H fun Jt H1 => LcW Jt g tt te vs Q σ H1) : tLc wi g tt te vs σ H Q := h
theorem r_lc_list (J : CW) (S : Sep Ps H) (h0 : J 0 [] Ps) (hl : ∀ D i acc Ps H, i ≤ xs.length → J i acc Ps → Sep (pt D (.lst acc) :: Ps) H → SqL K H a xs) (hl0 : SqL K H a xs)
    (hs : ∀ D i x acc Ps H, xs[i]? = some x → J i acc Ps → Sep (pt D (.lst acc) :: Ps) H → g x (wipe σ vs) H fun σ2 H2 => wipe σ2 vs = wipe σ vs ∧ tt σ2 H2 fun b H3 =>
      if b = true then te σ2 H3 fun y H4 => ∃ acc, H4 D = some (.lst acc) ∧ acc.length < sizeLine ∧ CN J D (i + 1) (upd H4 D (.lst (acc ++ [y]))) else CN J D (i + 1) H3)
    (hd : ∀ D acc Ps H, J xs.length acc Ps → Sep (pt D (.lst acc) :: Ps) H → Q (.ref D) H) : ∃ a', V.ref a = .ref a' ∧ (∃ xs, SqL K H a' xs) ∧ LcW (Itl K a') g tt te vs Q σ H :=
  ⟨a, rfl, ⟨xs, hl0⟩, fun D nD => lc_list (K := K) (a := a) (xs := xs) (CN J D) ⟨[], Ps, h0, S.new _ nD⟩ (fun i H hi ⟨acc, Ps, j, S⟩ => hl D i acc Ps H hi j S) (fun i x H hi ⟨acc, Ps, j, S⟩ => hs D i x acc Ps H hi j S) fun H ⟨acc, Ps, j, S⟩ => hd D acc Ps H j S⟩
theorem r_lc_rng (J : CW) (S : Sep Ps H) (h1 : -(2 ^ 62) ≤ n) (h2 : n < 2 ^ 62) (h0 : J 0 [] Ps)
    (hs : ∀ D (i : Nat) acc Ps H, i < n.toNat → J i acc Ps → Sep (pt D (.lst acc) :: Ps) H → g (.int (i : Int)) (wipe σ vs) H fun σ2 H2 => wipe σ2 vs = wipe σ vs ∧ tt σ2 H2 fun b H3 =>
      if b = true then te σ2 H3 fun y H4 => ∃ acc, H4 D = some (.lst acc) ∧ acc.length < sizeLine ∧ CN J D (i + 1) (upd H4 D (.lst (acc ++ [y]))) else CN J D (i + 1) H3)
    (hd : ∀ D acc Ps H, J n.toNat acc Ps → Sep (pt D (.lst acc) :: Ps) H → Q (.ref D) H) : ∃ j : Int, [V.int n] = [.int j] ∧ -(2 ^ 62) ≤ j ∧ j < 2 ^ 62 ∧ LcW (Itr 0 j.toNat) g tt te vs Q σ H :=
  ⟨n, rfl, h1, h2, fun D nD => lc_range (CN J D) ⟨[], Ps, h0, S.new _ nD⟩ (fun i H hi ⟨acc, Ps, j, S⟩ => by rw [Int.zero_add]; exact hs D i acc Ps H hi j S) fun H ⟨acc, Ps, j, S⟩ => hd D acc Ps H j S⟩
theorem r_yes {QT : Bool → Hp → Prop} (h : QT true H) : tYes σ H QT := h
end
end Kt

set_option Elab.async false
set_option linter.all false
set_option maxRecDepth 100000
namespace Kt
open PySem L2 PyProof.Rows
/-! ### data: equal things are equal -/
def Okd (k : Nat) (d : PyData) : Prop := d.canLay0 = true ∧ d.depth ≤ k
theorem okd_int {k : Nat} (i : Int) : Okd k (.int i) := ⟨rfl, Nat.zero_le _⟩
theorem okd_bl {k : Nat} (b : Bool) : Okd k (.bool b) := ⟨rfl, Nat.zero_le _⟩
theorem okd_non {k : Nat} : Okd k .none := ⟨rfl, Nat.zero_le _⟩
theorem okd_all {k : Nat} : ∀ {ds : List PyData}, (∀ d ∈ ds, Okd k d) → PyData.canLayAll0 ds = true ∧ PyData.depthAll ds ≤ k
  | [], _ => ⟨rfl, Nat.zero_le _⟩
  | d :: ds, h => by
    obtain ⟨h1, h2⟩ := okd_all (ds := ds) fun x m => h x (List.mem_cons_of_mem _ m)
    obtain ⟨g1, g2⟩ := h d List.mem_cons_self
    refine ⟨?_, ?_⟩
    · rw [PyData.canLayAll0, g1, h1] <;> rfl
    · rw [PyData.depthAll]; exact Nat.max_le.mpr ⟨g2, h2⟩
theorem okd_list {k : Nat} {ds : List PyData} (h : ∀ d ∈ ds, Okd k d) : Okd (k + 1) (.list ds) := by
  obtain ⟨h1, h2⟩ := okd_all h
  refine ⟨?_, ?_⟩
  · rw [PyData.canLay0]; exact h1
  · rw [PyData.depth]; omega
theorem okd_tuple {k : Nat} {ds : List PyData} (h : ∀ d ∈ ds, Okd k d) : Okd (k + 1) (.tuple ds) := by
  obtain ⟨h1, h2⟩ := okd_all h
  refine ⟨?_, ?_⟩
  · rw [PyData.canLay0]; exact h1
  · rw [PyData.depth]; omega
theorem Okd.shaped {k : Nat} {d : PyData} (h : Okd k d) (hk : k ≤ 64) : SeqAt.shaped d = true := by
  unfold SeqAt.shaped
  rw [h.1, decide_eq_true (Nat.le_trans h.2 hk)]
  rfl
def dInts (ns : List Int) : PyData := .list (ns.map PyData.int)
theorem okd_ints (k : Nat) (ns : List Int) : Okd (k + 1) (dInts ns) := okd_list fun d m => by
  obtain ⟨i, _, rfl⟩ := List.mem_map.mp m
  exact okd_int i
section
variable {K : PySem.W.Frag} {H : Hp} {Q : VK} {x y : V} {a : Addr} {k : Nat} {d : PyData} {n : Int}
theorem dpall_ints : ∀ ns : List Int, DpAll K H (ns.map V.int) (ns.map PyData.int)
  | [] => .nil
  | n :: ns => .cons (.int n) (dpall_ints ns)
theorem dp_ints {ns : List Int} (s : SqL K H a (ns.map V.int)) : Dp K H (.ref a) (dInts ns) := .lst s (dpall_ints ns)
theorem r_eq_same (h1 : Dp K H x d) (h2 : Dp K H y d) (o : Okd k d) (hk : k ≤ 64) (q : Q (.bl true) H) : rEqA K x y H Q := .inr ⟨d, d, h1, h2, o.shaped hk, o.shaped hk, by rw [SeqAt.eqv_refl d o.1]; exact q⟩
theorem r_ne_same (h1 : Dp K H x d) (h2 : Dp K H y d) (o : Okd k d) (hk : k ≤ 64) (q : Q (.bl false) H) : rNeA K x y H Q := .inr ⟨d, d, h1, h2, o.shaped hk, o.shaped hk, by rw [SeqAt.eqv_refl d o.1]; exact q⟩
theorem r_neg (h : Q (.int (-n)) H) : rU (fun i => .int (-i)) (.int n) H Q := ⟨n, rfl, h⟩
end
end Kt

set_option Elab.async false
set_option linter.all false
set_option maxRecDepth 100000
namespace Kt
open PySem L2 PyProof.Rows
/-! ### many lists as one part -/
def big (l : List (Addr × List V)) : SP := Sep (l.map fun p => pt p.1 (.lst p.2))
theorem big_nil {R : List SP} {H : Hp} (S : Sep R H) : Sep (big [] :: R) H := Sep.unflat (As := []) S
theorem pick_mid {A : SP} {Qs : List SP} : ∀ Ps : List SP, Pick A (Ps ++ A :: Qs) (Ps ++ Qs)
  | [] => .hd
  | P :: Ps => .tl (pick_mid Ps)
theorem big_add {l : List (Addr × List V)} {p : Addr} {xs : List V} {R : List SP} {H : Hp} (S : Sep (pt p (.lst xs) :: big l :: R) H) : Sep (big (l ++ [(p, xs)]) :: R) H := by
  have S1 : Sep (pt p (.lst xs) :: ((l.map fun p => pt p.1 (.lst p.2)) ++ R)) H := S.cons_mono fun _ => Sep.flat
  have S2 : Sep ((l.map fun p => pt p.1 (.lst p.2)) ++ pt p (.lst xs) :: R) H := (pick_mid _).back S1
  refine Sep.unflat (As := (l ++ [(p, xs)]).map fun p => pt p.1 (.lst p.2)) ?_
  rw [List.map_append, List.append_assoc]
  exact S2
theorem sep_mem {R : List SP} {H : Hp} : ∀ {l : List (Addr × List V)} {p : Addr} {xs : List V}, Sep ((l.map fun p => pt p.1 (.lst p.2)) ++ R) H → (p, xs) ∈ l → H p = some (.lst xs)
  | [], _, _, _, h => by simp at h
  | q :: l, p, xs, S, h => by
    rcases List.mem_cons.mp h with e | h
    · subst e
      exact Sep.hd_at (Ps := (l.map fun p => pt p.1 (.lst p.2)) ++ R) S
    · exact sep_mem (Sep.tl (Ps := (l.map fun p => pt p.1 (.lst p.2)) ++ R) S) h
theorem big_get {l : List (Addr × List V)} {p : Addr} {xs : List V} {R : List SP} {H : Hp} (S : Sep (big l :: R) H) (h : (p, xs) ∈ l) : H p = some (.lst xs) := sep_mem S.flat h
theorem big_open {l : List (Addr × List V)} {R : List SP} {H : Hp} (S : Sep (big l :: R) H) : Sep ((l.map fun p => pt p.1 (.lst p.2)) ++ R) H := S.flat
section
variable {K : PySem.W.Frag} {H : Hp} {Q : VK} {x y : V} {a : Addr} {xs : List V} {Ps Qs : List SP}
theorem dpall_of {α : Type} (f : α → V) (g : α → PyData) : ∀ {l : List α}, (∀ z ∈ l, Dp K H (f z) (g z)) → DpAll K H (l.map f) (l.map g)
  | [], _ => .nil
  | z :: l, h => .cons (h z List.mem_cons_self) (dpall_of f g fun z m => h z (List.mem_cons_of_mem _ m))
theorem dpall_app : ∀ {xs ys : List V} {ds es : List PyData}, DpAll K H xs ds → DpAll K H ys es → DpAll K H (xs ++ ys) (ds ++ es)
  | _, _, _, _, .nil, h => h
  | _, _, _, _, .cons h t, h2 => .cons h (dpall_app t h2)
theorem r_insert0 (S : Sep Ps H) (r : Repl a (.lst xs) (.lst (y :: xs)) Ps Qs) (hz : xs.length < 100000) (h : ∀ H', Sep Qs H' → Q .non H') : ∃ (l : Addr) (zs : List V) (i : Int) (y' : V), V.ref a = .ref l ∧ [V.int 0, y] = [.int i, y'] ∧ H l = some (.lst zs) ∧ zs.length < sizeLine ∧ 0 ≤ i ∧ i < 2 ^ 63 ∧
    Q .non (upd H l (.lst (zs.take i.toNat ++ y' :: zs.drop i.toNat))) :=
  ⟨a, xs, 0, y, rfl, rfl, by obtain ⟨Rs, p, _⟩ := r.pick; exact S.at_ p, Nat.lt_of_lt_of_le hz (by decide), by decide, by decide, h _ (S.set r)⟩
end
end Kt

set_option Elab.async false
set_option linter.all false
set_option maxRecDepth 100000
namespace Kt
open PySem PySem.Spec PySem.W L2 PyProof.Rows
/-! ### an instance that is called: its class's own __call__ -/
theorem fn_found {K : Frag} {f : Addr} {h : Heap} (X : K.In h) (e : fnIn K f = true) : ∃ (o : Obj) (fd : FuncData), h.get? f = some o ∧ o.data = .func fd := by
  unfold fnIn at e
  split at e
  · rename_i q
    exact ⟨_, _, X _ _ q, rfl⟩
  · cases e
theorem callee_inst {prog : Program} {w : World} {A : Around} {K : Frag} {a C f : Addr} {dx : Addr} {od : Option Obj} {s : Shared} {R : Result → Shared → Prop} {rest : List Value} {kw : List (Str × Value)} {of_ : Obj} {fd : FuncData}
    (X : K.In s.heap) (J : PySem.W.InstAt s.heap a (PySem.W.instObj C dx) C od) (hs : findIn K (.ref C) "__call__" = some (some (.ref f))) (hf : isFn K (.ref f) = true) (hl : s.heap.get? f = some of_) (hd : of_.data = .func fd)
    (h : codeAny (model prog w) A (.call (.ref f) ⟨.ref a :: rest, kw⟩) R s) : codeAny (model prog w) A (.call (.ref a) ⟨rest, kw⟩) R s := by
  have sp : Looks (model prog w) s.heap (specialOf (.ref a) "__call__") (some (.ref f)) := J.type.andThen (looks_findIn X hs)
  have bd : Looks (model prog w) s.heap (bindSpecial (.ref f) (.ref a)) (.ref f, [.ref a]) := bind_fn X _ (beq_iff_eq.mp hf)
  refine codeAny_of_tree ?_
  show wpAny _ _ (callAny (.ref a) _) _ _ _
  refine nd_load J.at_ ?_
  show wpAny _ _ (callAny.viaDunder (.ref a) _) _ _ _
  unfold callAny.viaDunder
  refine wpAny_bind (sp.here ?_)
  refine wpAny_bind (bd.here ?_)
  have pc : Looks (model prog w) s.heap (callAny.plainCallee (.ref f)) true := (Looks.ld (part := none) hl).andThen (by rw [hd]; exact .now)
  refine wpAny_bind (pc.here ?_)
  exact wpAny_pure (a := Fin.again (.call (.ref f) ⟨.ref a :: rest, kw⟩)) (And.intro rfl h)
theorem keeper_inst {M : Model} {a C dx : Addr} {h : Heap} (e : h.get? a = some (PySem.W.instObj C dx)) : Looks M h (keeperOf (.ref a)) Keeper.caller := (Looks.ld (part := none) e).andThen .now
theorem callWith_inst {M : Model} {A : Around} {E : Value → Shared → Prop} {s : Shared} {pos : Pos} {f : Value} {args : List (Bool × Sem Value)} {Q : Value → Shared → Prop} {P : Heap → Prop} (hplain : (args.any (·.1) || ([] : List (Option Str × Sem Value)).any (·.1.isNone)) = false)
    (hk : ∀ h, P h → Looks M h (keeperOf f) Keeper.caller) (h : wpAny M A (evalArgs f true args []) (fun x s1 => P s1.heap ∧ wpAny M A (call f ([] ++ x.pos) x.kw) Q E s1) E s) : wpAny M A (callWith pos f [] args []) Q E s := by
  unfold callWith
  refine wpAny_bind (wpAny_holding (wpAny_mono h (fun x s1 h1 => wpAny_bind (wpAny_standAt ?_)) fun _ _ z => z))
  simp only [hplain]
  refine wpAny_bind ((hk _ h1.1).here ?_)
  dsimp only
  exact wpAny_bind (wpAny_mono (wpAny_operate' h1.2) (fun r s2 hr => wpAny_bind (wpAny_holding (wpAny_point (wpAny_pure hr)))) fun _ _ z => z)
section
variable {X : Cx} {k i : Nat} {x : Str} {C : Addr} {ps : List Str} {sp : Sp} {e : Expr} {es : List Expr} {t : TA} {p pos : Pos}
/-- x(e, ..), the local x holds an instance of C -/
def tCallI (i : Nat) (C : Addr) (sp : Sp) (t : TA) : TE := fun σ H Q => ∃ a, σ[i]? = some (some (.ref a)) ∧ t σ H fun vs H1 => ∃ dx fs, H1 a = some (.ins C dx fs) ∧ sp (.ref a :: vs) H1 Q E0
theorem pe_mfL (M : Mf X.prog X.w X.K X.mg X.base k C "__call__" ps sp) (hfn : ∀ f, findIn X.K (.ref C) "__call__" = some (some (.ref f)) → fnIn X.K f = true) (hr : Room k X.A) (ha : PA X (e :: es) t) (hN : X.N[i]? = some x := by rfl) (hv : Vis X.env.scope x := by first | exact Or.inl rfl | exact Or.inr (Or.inl rfl) | exact Or.inr (Or.inr rfl))
    (hdb : (x == ("__debug__" : Str)) = false := by decide) (hcd : (x == ("__classdict__" : Str)) = false := by decide) (he : starEach (e :: es) X.env = (false, eval e X.env) :: starEach es X.env := by rfl) (hpl : (backTo pos (starEach es X.env)).any (·.1) = false := by rfl) :
    PE X (.Call (.Name x p) (e :: es) [] pos) (tCallI i C sp t) := by
  obtain ⟨f, fd, F, b, hm⟩ := M.fn
  refine ⟨fun pins s σ H Q I h => ?_⟩
  obtain ⟨a, hs, ht⟩ := h
  refine wpAny_Call_Name_kw (thn ((pe_var (pos := p) hN hv hdb hcd).run pins s σ H (fun v H1 => v = .ref a ∧ H1 = H) I ⟨.ref a, hs, rfl, rfl⟩) fun u s1 ⟨v, H1, I1, r1, q1⟩ => ?_)
  obtain ⟨rfl, rfl⟩ := q1
  cases r1
  have h2 : wpAny (model X.prog X.w) X.A (spliced (backTo pos (starEach (e :: es) X.env))) (fun vs s2 => (∃ dx, s2.heap.get? a = some (PySem.W.instObj C dx)) ∧ wpAny (model X.prog X.w) X.A (call (.ref a) ([] ++ vs)) (EP X pins σ Q) X.xe s2) X.xe s1 :=
    thn (ha.run pos pins s1 σ _ _ I1 ht) fun us s2 ⟨vs, H2, I2, r, dx, fs, hH, q⟩ => by
      obtain ⟨mA, O, _⟩ := ins_get I2.hok hH
      refine ⟨⟨dx, O.obj⟩, ?_⟩
      obtain ⟨od, J, _⟩ := O.look
      obtain ⟨of_, fd2, hl, hd2⟩ := fn_found I2.kIn (hfn f hm.at_)
      have rr : Vals (V.ref a :: vs) (Value.ref a :: us) := .cons rfl r
      have ln : (Value.ref a :: us).length = ps.length := by rw [← rr.length]; exact F.len _ _ _ _ q
      have bd := b s2 (.ref a :: us) I2.kIn (by rw [List.append_nil]; exact ln)
      rw [List.append_nil] at bd
      refine wpAny_call (callee_inst I2.kIn J hm.at_ hm.fn hl hd2 (codeAny_mono (F.run X.A X.stack s2 H2 ⟨.ref a :: us, []⟩ (.ref a :: us) (.ref a :: vs) Q E0 hr I2.env0 bd rr q) fun r s' hq => ?_))
      cases r with
      | error z => exact pass0 pins σ H2 s2 z s' I2 hq
      | ok fl => cases fl with
        | ret u => exact I2.after hq
        | _ => exact False.elim hq
  rw [he] at h2 ⊢
  exact callWith_inst (P := fun h => ∃ dx, h.get? a = some (PySem.W.instObj C dx)) (by show ((false || (backTo pos (starEach es X.env)).any (·.1)) || false) = false; rw [hpl]; rfl) (fun h ⟨dx, q⟩ => keeper_inst q) (Calls.evalArgs_plain h2)
/-- an expression read in one of two ways -/
def tEr (t t' : TE) : TE := fun σ H Q => t σ H Q ∨ t' σ H Q
theorem pe_er {e : Expr} {t t' : TE} (h : PE X e t) (h' : PE X e t') : PE X e (tEr t t') := ⟨fun pins s σ H Q I q => q.elim (h.run pins s σ H Q I) (h'.run pins s σ H Q I)⟩
end
end Kt

set_option Elab.async false
set_option linter.all false
set_option maxRecDepth 100000
namespace Kt
open PySem L2 PyProof.Rows
/-! ### properties by name -/
structure Pt (K : PySem.W.Frag) (C : Addr) (m qual : Str) (st : Stmt) (g : Addr) : Prop where
  fn : ∃ fd, Fun K m qual st g fd ∧ Binds K fd ["self"] []
  at_ : ∃ p, PropOf K C m p g
structure Pf (P : Program) (w : World) (K : PySem.W.Frag) (mg : Str → Option Value) (base : Heap) (k : Nat) (C : Addr) (m : Str) (sp : Sp) : Prop where
  fn : ∃ p g fd, FnOk P w K mg base CX0 k g fd ["self"] sp ∧ Binds K fd ["self"] [] ∧ PropOf K C m p g
  cls : Cls K C
theorem Pt.ok {P : Program} {w : World} {K : PySem.W.Frag} {mg : Str → Option Value} {base : Heap} {C : Addr} {x qual : Str} {st : Stmt} {f : Addr} {N : List Str} {k : Nat} {sp : Sp} (T : Pt K C x qual st f) (c : Cls K C) (S : FnScope N ["self"] (defScope st)) (len : ∀ vs H Q E, sp vs H Q E → vs.length = 1)
    (hbody : ∀ (cdv : Value) (A : Around) (outer : List Env) (s : Shared) (H : Hp) (vs : List V) (Q : VK) (E : XK), Room k (A.deeper (envOfC qual (defScope st) s.heap.objs.size f cdv)) → sp vs H Q E →
      ∃ t, PSs (cxOf CX0 P w K mg base N qual (defScope st) f cdv A outer s H E).nox (defBody st) t ∧ t { nx := fun _ H' => Q .non H', rt := Q } (start N vs) H) : Pf P w K mg base (k + 1) C x sp := by
  obtain ⟨fd, F, b⟩ := T.fn
  obtain ⟨p, hp⟩ := T.at_
  exact ⟨⟨p, f, fd, F.ok S len hbody, b, hp⟩, c⟩
theorem pe_pr {X : Cx} {k : Nat} {C : Addr} {f : Str} {sp : Sp} {e : Expr} {pos : Pos} {ta : TE} (M : Pf X.prog X.w X.K X.mg X.base k C f sp) (hr : Room (k + 1) X.A) (he : PE X e ta) (hab : attributeBase e f X.env (eval e X.env) = eval e X.env := by rfl) : PE X (.Attribute e f pos) (tProp C sp [] E0 ta) := by
  obtain ⟨p, g, fd, F, b, hp⟩ := M.fn
  exact pe_prop he M.cls hp F hr b .nil pass0 hab
section
variable {σ : L2.St} {H : Hp} {Q : VK} {C a dx : Addr} {sp : Sp} {ta : TE} {fs : List (Str × V)} {Ps Qs : List SP}
def kProp (C : Addr) (sp : Sp) (Q : VK) : V → Hp → Prop := fun x H1 => ∃ a dx fs, x = .ref a ∧ H1 a = some (.ins C dx fs) ∧ sp [.ref a] H1 Q E0
theorem r_prop (h : ta σ H (kProp C sp Q)) : tProp C sp [] E0 ta σ H Q := h
theorem r_kprop (S : Sep Ps H) (p : Pick (pt a (.ins C dx fs)) Ps Qs) (h : sp [.ref a] H Q E0) : kProp C sp Q (.ref a) H := ⟨a, dx, fs, rfl, S.at_ p, h⟩
end
end Kt

set_option Elab.async false
set_option linter.all false
set_option maxRecDepth 100000
namespace Kt
open PySem PySem.Spec L2 PyProof.Rows
/-! ### promises of defs that are called where no guard stands: what repr of a list asks -/
structure FnG (P : Program) (w : World) (K : PySem.W.Frag) (mg : Str → Option Value) (base : Heap) (k : Nat) (f : Addr) (fd : FuncData) (ps : List Str) (sp : Sp) : Prop where
  len : ∀ vs H Q E, sp vs H Q E → vs.length = ps.length
  run : ∀ (A : Around) (outer : List Env) (s : Shared) (H : Hp) (args : Args) (us : List Value) (vs : List V) (Q : VK) (E : XK), A.guards = some [] → Room k A → Env0 P w K mg base A outer s H → BindsTo s fd args (ps.zip us) → Vals vs us → sp vs H Q E → codeAny (model P w) A (.call (.ref f) args) (CR CX0 outer P w H s Q E) s
section
variable {P : Program} {w : World} {K : PySem.W.Frag} {mg : Str → Option Value} {base : Heap}
theorem fnG_ok {x qual : Str} {st : Stmt} {f : Addr} {fd : FuncData} {N ps : List Str} {k : Nat} {sp : Sp} (F : Fun K x qual st f fd) (S : FnScope N ps (defScope st)) (len : ∀ vs H Q E, sp vs H Q E → vs.length = ps.length)
    (hbody : ∀ (cdv : Value) (A : Around) (outer : List Env) (s : Shared) (H : Hp) (vs : List V) (Q : VK) (E : XK), A.guards = some [] → Room k (A.deeper (envOfC qual (defScope st) s.heap.objs.size f cdv)) → sp vs H Q E →
      ∃ t, PSs (cxOf CX0 P w K mg base N qual (defScope st) f cdv A outer s H E).nox (defBody st) t ∧ t { nx := fun _ H' => Q .non H', rt := Q } (start N vs) H) : FnG P w K mg base (k + 1) f fd ps sp := by
  obtain ⟨oc, od, kV, doc, pm, an, cdv, ct, osl, rfl, lk, hcd⟩ := F.ex
  refine ⟨len, fun A outer s H args us vs Q E hg hr e0 hb r hsp => ?_⟩
  have KX : K.In s.heap := e0.mod.kin.keeps fun b o e => (e0.bs b o e).1
  have lim := e0.mod.nolimit.keeps (h' := s.heap) fun b o e => (e0.bs b o e).1
  have hl : vs.length = ps.length := len vs H Q E hsp
  have kinds : ∀ y ∈ ps.zip us, (defScope st).names.lookup y.1 = some .local ∨ ((defScope st).names.lookup y.1 = some .cell ∧ ((cellsFrom (s.heap.objs.size + 1) (defScope st).names []).lookup y.1).isSome = true) := by
    rintro ⟨n, v⟩ hy
    exact (S.par n (List.of_mem_zip hy).1).imp id fun q => ⟨q, PySem.W.cellsFrom_some _ _ _ (.inl q)⟩
  refine codeAny_call_function hr.depth (KX _ _ lk) rfl S.co S.gen rfl (PySem.W.codeRec_of KX hcd) (hb _ _ _ _ (wpAny_newFunctionEnv_cells S.kind kinds fun env he s1 x => ?_))
  cases he
  refine ⟨lim.keeps x.toInCall.keep, codeAny_func ?_⟩
  obtain ⟨t, ht, hq⟩ := hbody cdv A outer s H vs Q E hg (hr.deeper _) hsp
  refine wpAny_mono (ht.nox.run [] s1 (start N vs) H _ (inv_start S hr.hd e0 hl r x) hq) (fun fl s' hs => ?_) fun _ _ z => z
  rcases fl with u | _ | _ | _
  all_goals first
    | exact (let ⟨v, σ', H', J, rv, q⟩ := hs; ⟨v, H', J.os, J.bare, J.base, J.hok, rv, q⟩)
    | exact (let ⟨σ', H', J, q⟩ := hs; ⟨V.non, H', J.os, J.bare, J.base, J.hok, rfl, q⟩)
    | exact (let ⟨_, _, _, q⟩ := hs; q.elim)
end
/-! ### a def of the text that is called where no guard stands -/
structure Dg (P : Program) (w : World) (K : PySem.W.Frag) (mg : Str → Option Value) (base : Heap) (k : Nat) (x : Str) (f : Addr) (ps : List Str) (sp : Sp) : Prop where
  fn : ∃ fd, FnG P w K mg base k f fd ps sp ∧ Binds K fd ps []
  at_ : mg x = some (.ref f)
  kp : PySem.W.keepIn K (.ref f) = true
theorem Dt.okG {P : Program} {w : World} {K : PySem.W.Frag} {mg : Str → Option Value} {base : Heap} {x : Str} {st : Stmt} {f : Addr} {N ps : List Str} {k : Nat} {sp : Sp} (T : Dt K mg x st ps f) (S : FnScope N ps (defScope st)) (len : ∀ vs H Q E, sp vs H Q E → vs.length = ps.length)
    (hbody : ∀ (cdv : Value) (A : Around) (outer : List Env) (s : Shared) (H : Hp) (vs : List V) (Q : VK) (E : XK), A.guards = some [] → Room k (A.deeper (envOfC x (defScope st) s.heap.objs.size f cdv)) → sp vs H Q E →
      ∃ t, PSs (cxOf CX0 P w K mg base N x (defScope st) f cdv A outer s H E).nox (defBody st) t ∧ t { nx := fun _ H' => Q .non H', rt := Q } (start N vs) H) : Dg P w K mg base (k + 1) x f ps sp := by
  obtain ⟨fd, F, b⟩ := T.fn
  exact ⟨⟨fd, fnG_ok F S len hbody, b⟩, T.at_, F.kp⟩
section
variable {X : Cx} {k : Nat} {x : Str} {f : Addr} {fd : FuncData} {ps : List Str} {sp : Sp} {e : Expr} {es : List Expr} {t : TA} {p pos : Pos}
theorem run_fnG {pins : List (Addr × Obj)} {σ : L2.St} {H : Hp} {s : Shared} {Q : VK} {us : List Value} {vs : List V} (F : FnG X.prog X.w X.K X.mg X.base k f fd ps sp) (hg : X.A.guards = some []) (hr : Room k X.A) (hb : Binds X.K fd ps []) (I : Inv X pins σ H s) (r : Vals vs us) (h : sp vs H Q E0) :
    wpAny (model X.prog X.w) X.A (call (.ref f) us) (EP X pins σ Q) X.xe s := by
  have ln : us.length = ps.length := r.length.symm.trans (F.len _ _ _ _ h)
  have bd := hb s us I.kIn (by rw [List.append_nil]; exact ln)
  rw [List.append_nil] at bd
  refine wpAny_call (codeAny_mono (F.run X.A X.stack s H ⟨us, []⟩ us vs Q E0 hg hr I.env0 bd r h) fun z s' hq => ?_)
  rcases z with z | u | _ | _ | _ <;> first | exact I.after hq | exact pass0 pins σ H s z s' I hq | exact hq.elim
theorem pe_dg (D : Dg X.prog X.w X.K X.mg X.base k x f ps sp) (hg : X.A.guards = some []) (hr : Room k X.A) (ha : PA X (e :: es) t) (hgl : Gl X x := by rfl) (hd : (x == ("__debug__" : Str)) = false := by decide)
    (he : starEach (e :: es) X.env = (false, eval e X.env) :: starEach es X.env := by rfl) (hpl : (backTo pos (starEach es X.env)).any (·.1) = false := by rfl) : PE X (.Call (.Name x p) (e :: es) [] pos) (tCall sp [] E0 t) := by
  obtain ⟨fd, F, b⟩ := D.fn
  refine ⟨fun pins s σ H Q I h => wpAny_Call_Name_kw (ld_glob I hgl D.at_ ?_ hd)⟩
  refine PySem.W.callWith_K (h₀ := X.base) I.ok.mod.kin D.kp (thn (ha.run pos pins s σ H _ I h) fun us s1 ⟨vs, H1, I1, r, q⟩ => ⟨I1.kIn, run_fnG F hg hr b I1 r ?_⟩) he hpl
  have q2 : sp (vs ++ []) H1 Q E0 := q
  rw [List.append_nil] at q2
  exact q2
/-! ### repr of lists and tuples -/
def cRepr (K : PySem.W.Frag) : List V → Hp → VK → Prop := fun xs H Q => ∃ a d, xs = [.ref a] ∧ Dp K H (.ref a) d ∧ d.showable = true ∧ d.hasDict = false ∧ d.depth ≤ 60 ∧ d.shown.length ≤ sizeLine ∧ Q (.str d.shown) H
theorem call_reprA (hg : X.A.guards = some []) (hu : X.A.units + 64 < cLine) : CallR X (.builtin "repr") (cRepr X.K) := by
  intro pins s σ H xs us Q I r h
  obtain ⟨a, d, rfl, hD, hs, hn, hp, hz, q⟩ := h
  obtain ⟨u, rfl, r1⟩ := vals1 r
  cases r1
  obtain ⟨as, rd⟩ := Dp.reads I d _ _ hD rfl
  exact repr_of_reads' rd hs (fun z => by rw [hn] at z; cases z) hg (by omega) (fun _ _ e => e) (fun h' u tk hk => ⟨.str d.shown, H, I.kept hk, ⟨u, rfl⟩, q⟩) hz
end
/-! ### the law itself: it is called where no guard stands -/
section
variable {P : Program} {w : World} {K : PySem.W.Frag} {mg mb : Str → Option Value} {k : Nat} {fa a : Addr} {fd : FuncData} {x : Str} {sp : Sp} {s1 : Shared} {vs : List Value} {ns : List Int}
/-- from a heap in which the script alone may be tracked -/
theorem law_from (KX : K.In s1.heap) (hns : s1.heap.Ns mainGlobals mg) (hb : s1.heap.Ns builtinsNs mb) (hbb : ∀ x : Str, x ≠ "__name__" → mb x = bootBuiltins x) (hlim : s1.heap.NoLimit) (hg : s1.gens = #[])
    (ha : s1.heap.get? a = some { cls := .type "list", data := .seq vs.toArray }) (hr : Room k callerA) (F : ∀ base : Heap, K.In base → base.Ns mainGlobals mg → FnG P w K mg base k fa fd [x] sp) (hbind : ∀ (s : Shared) (u : Value), BindsTo s fd ⟨[u], []⟩ [(x, u)])
    (H : Hp) (hO : Only H) (hq : sp [.ref a] H (fun v _ => v = .bl true) E0) (hok : HOk P w H s1.heap) (hA : ∀ b, H b ≠ none → b = a) (hK : H a ≠ none → K.lookup a = none) :
    codeAny (model P w) callerA (.call (.ref fa) ⟨[.ref a], []⟩) (fun r s' => r = .ok (.ret (.bool true)) ∧ OldK s1.heap s'.heap ∧ s'.os = s1.os ∧ AllBare s'.gens) s1 := by
  have free : ∀ b, b ≠ a → H b = none := fun b nb => by
    cases q : H b with
    | none => rfl
    | some u => exact absurd (hA b (by rw [q]; nofun)) nb
  have dictFree : ∀ {b : Addr} {m : Str → Option Value}, s1.heap.Ns b m → (hidT s1.heap H).Ns b m := by
    rintro b m ⟨o, es, ep, e, d, r⟩
    refine ⟨o, es, ep, hidT_get e (free b ?_), d, r⟩
    rintro rfl
    rw [ha] at e
    cases e
    cases d
  have hKb : K.In (hidT s1.heap H) := fun b o e => hidT_get (KX b o e) (by
    cases q : H b with
    | none => rfl
    | some u =>
      cases hA b (by rw [q]; nofun)
      rw [hK (by rw [q]; nofun)] at e
      cases e)
  obtain ⟨mc, lim1, lim2⟩ := hlim
  have hM : Mod K mg (hidT s1.heap H) := ⟨hKb, dictFree hns, ⟨mb, dictFree hb, hbb⟩, ⟨mc, dictFree lim1, lim2⟩⟩
  have e0 : Env0 P w K mg (hidT s1.heap H) callerA [] s1 H := ⟨rfl, hM, fun b o e => of_hidT e, Nat.le_of_eq (hidT_size _ _), trivial, fun b hb => (List.not_mem_nil (show b ∈ ([] : List Addr) from hb)).elim, hok, .of_eq hg⟩
  refine codeAny_mono ((F _ hKb (dictFree hns)).run callerA [] s1 H ⟨[.ref a], []⟩ [.ref a] [.ref a] _ _ rfl hr e0 (hbind s1 (.ref a)) (.cons rfl .nil) hq) fun r s' h => ?_
  cases r with
  | error e => exact False.elim h
  | ok fl => cases fl with
    | ret u =>
      obtain ⟨v, H', os, bare, un, hok', r', q'⟩ := h
      cases (show v = .bl true from q')
      cases (show u = Value.bool true from r')
      refine ⟨rfl, OldK.of_keep fun b o e => ?_, os, bare⟩
      rcases hO b with z | ⟨ob, xs, z⟩
      · exact un.keep b o e z (fun q => (List.not_mem_nil (show b ∈ ([] : List Addr) from q)).elim) (by simp)
      · obtain ⟨e1, _⟩ := hok b _ z
        obtain ⟨e2, _⟩ := hok' b _ (un.frzs b ob _ z)
        rw [e] at e1
        cases e1
        exact e2
    | _ => exact False.elim h
theorem law_callG (KX : K.In s1.heap) (hns : s1.heap.Ns mainGlobals mg) (hb : s1.heap.Ns builtinsNs mb) (hbb : ∀ x : Str, x ≠ "__name__" → mb x = bootBuiltins x) (hlim : s1.heap.NoLimit) (hg : s1.gens = #[])
    (ha : s1.heap.get? a = some { cls := .type "list", data := .seq vs.toArray }) (hi : IntsAre vs ns) (hl : ns.length ≤ sizeLine) (hr : Room k callerA) (F : ∀ base : Heap, K.In base → base.Ns mainGlobals mg → FnG P w K mg base k fa fd [x] sp)
    (hbind : ∀ (s : Shared) (u : Value), BindsTo s fd ⟨[u], []⟩ [(x, u)]) (hsp : ∀ H : Hp, Only H → SqL K H a (ns.map V.int) → sp [.ref a] H (fun v _ => v = .bl true) E0) :
    codeAny (model P w) callerA (.call (.ref fa) ⟨[.ref a], []⟩) (fun r s' => r = .ok (.ret (.bool true)) ∧ OldK s1.heap s'.heap ∧ s'.os = s1.os ∧ AllBare s'.gens) s1 := by
  have core := law_from (P := P) (w := w) (sp := sp) KX hns hb hbb hlim hg ha hr F hbind
  have lenV := hi.length
  have rv := vals_ints hi
  cases hk : K.lookup a with
  | some o =>
    have e := ha.symm.trans (KX a o hk)
    cases e
    have hO : Only (fun _ => none) := fun _ => .inl rfl
    exact core _ hO (hsp _ hO (.inr ⟨_, vs.toArray, _, hk, rfl, rfl, rfl, by rw [List.size_toArray, lenV]; exact hl, by simpa using rv⟩)) (fun b u z => nomatch (show (none : Option HO) = some u from z)) (fun b z => absurd rfl z) (fun z => absurd rfl z)
  | none =>
    have at_ : (fun b => if b = a then some (HO.frz { cls := .type "list", data := .seq vs.toArray } (.lst (ns.map V.int))) else none : Hp) a = some (HO.frz { cls := .type "list", data := .seq vs.toArray } (.lst (ns.map V.int))) := if_pos rfl
    have off : ∀ b, b ≠ a → (fun b => if b = a then some (HO.frz { cls := .type "list", data := .seq vs.toArray } (.lst (ns.map V.int))) else none : Hp) b = none := fun b nb => if_neg nb
    generalize (fun b => if b = a then some (HO.frz { cls := .type "list", data := .seq vs.toArray } (.lst (ns.map V.int))) else none : Hp) = H at at_ off
    have hO : Only H := fun b => (Decidable.em (b = a)).elim (fun e => .inr ⟨_, _, e ▸ at_⟩) fun e => .inl (off b e)
    refine core H hO (hsp H hO (.inl (.inr ⟨_, at_⟩))) (fun b u z => ?_) (fun b z => Decidable.byContradiction fun e => z (off b e)) fun _ => hk
    obtain rfl : b = a := Decidable.byContradiction fun e => nomatch (off b e).symm.trans z
    cases at_.symm.trans z
    exact ⟨ha, by rw [List.length_map]; exact hl, vs, _, rv, ha⟩
end
theorem walk_G {l : PySem.W.OpenLaw} {n k : Nat} {q : Program} {loose : List Str} {XP : (Str → Option Value) → Heap → Prop} {YP : World → Heap → Prop} {d : DefRec} {K : Params → PySem.W.Frag} {sp : World → Sp} {x : Str} (hn : l.most = some n) (hn2 : n ≤ sizeLine) (hdf : d.params.defaults = []) (hr : Room k callerA)
    (hY : ∀ (w : World) (h : Heap), YP w h → (K w.params).In h) (F : ∀ (w : World) (mg : Str → Option Value) (fa : Addr) (h : Heap), (K w.params).In h → h.Ns mainGlobals mg → mg d.name = some (.ref fa) →
      ∃ fd : FuncData, (∀ (s : Shared) (u : Value), BindsTo s fd ⟨[u], []⟩ [(x, u)]) ∧ ∀ base : Heap, (K w.params).In base → base.Ns mainGlobals mg → FnG l.prog w (K w.params) mg base k fa fd [x] (sp w))
    (hsp : ∀ (w : World) (H : Hp) (a : Addr) (ns : List Int), ns.length ≤ n → (∀ z ∈ ns, Builtin.Int.intBits z ≤ 1048576) → Only H → SqL (K w.params) H a (ns.map V.int) → sp w [.ref a] H (fun v _ => v = .bl true) E0) : PySem.W.WalkO q loose XP YP l.row.toRowW d [] (fun f vs => PySem.call f vs) := by
  refine Att.attach_callB hn hdf fun w s0 s1 mg mb fa o pm cd doc a vs ns G Y ho hd hcd hmg hobj hints hlen hbits hg => ?_
  obtain ⟨fd, hb, hF⟩ := F w mg fa _ (hY w _ Y) G.T.g hmg
  exact law_callG (hY w _ Y) G.T.g G.T.b G.T.builtins G.T.nolimit hg hobj hints (Nat.le_trans hlen hn2) hr hF hb fun H hO hS => hsp w H a ns hlen hbits hO hS
end Kt

set_option Elab.async false
set_option linter.all false
set_option maxRecDepth 100000
namespace Kt
open PySem PySem.Spec L2 PyProof.Rows
/-! ### instances of a class without an own __eq__: == is being the same -/
section
variable {M : Model} {prog : Program} {w : World} {A : Around} {E : Value → Shared → Prop} {s : Shared} {K : PySem.W.Frag} {x y C dx dy : Addr} {od od2 : Option Obj}
theorem isSame_inst {R : Bool → Shared → Prop} (hx : s.heap.get? x = some (PySem.W.instObj C dx)) (hy : s.heap.get? y = some (PySem.W.instObj C dy)) (h : R (decide (x = y)) s) : wpAny M A (isSame (.ref x) (.ref y)) R E s := by
  unfold isSame
  by_cases e : x = y
  · subst e
    rw [decide_eq_true rfl] at h
    refine wpAny_ite_split (fun _ => wpAny_pure h) (fun q => absurd (beq_self_eq_true x) (by simpa using q))
  · rw [decide_eq_false e] at h
    refine wpAny_ite_split (fun q => absurd (beq_iff_eq.mp q) e) (fun _ => ?_)
    refine wpAny_bind (PySem.W.nd_load hx (wpAny_pure ?_))
    refine wpAny_bind (PySem.W.nd_load hy (wpAny_pure ?_))
    exact wpAny_pure h
theorem objEq_inst {Q : Fin → Shared → Prop} (hx : s.heap.get? x = some (PySem.W.instObj C dx)) (hy : s.heap.get? y = some (PySem.W.instObj C dy)) (hq : Q (.done (.ret (if x = y then .bool true else .notImplemented))) s) : wpAny M A (Builtin.«object.__eq__» ⟨[.ref x, .ref y], []⟩) Q E s := by
  unfold Builtin.«object.__eq__»
  repeat (first | with_reducible refine isSame_inst hx hy ?_ | wp_step)
  by_cases e : x = y
  · rw [if_pos e] at hq
    rw [decide_eq_true e]
    exact wpAny_pure hq
  · rw [if_neg e] at hq
    rw [decide_eq_false e]
    exact wpAny_pure hq
theorem try_inst (X : K.In s.heap) (I : PySem.W.InstAt s.heap x (PySem.W.instObj C dx) C od) (hm : PySem.W.mroIn K C (.type "object") = some true) (hs : PySem.W.findIn K (.ref C) "__eq__" = some (some (.builtin "object.__eq__"))) (hy : s.heap.get? y = some (PySem.W.instObj C dy)) :
    wpAny (model prog w) A (tryCompare (.ref x) "__eq__" (.ref y)) (fun r s' => r = (if x = y then some (Value.bool true) else none) ∧ s' = s) E s := by
  unfold tryCompare
  refine wpAny_bind (HN.ifBound_objEq X I hs (wpAny_call (codeAny_call_builtin F.cmp_object.eq.plain F.cmpEntry_eq (PySem.W.check_slot F.cmpKind_eq F.cmpSplit_eq (I.type.andThen (PySem.W.looks_mroIn X hm)) (F.cmpArgs_eq _ _) (objEq_inst I.at_ hy ?_)))))
  by_cases e : x = y
  · rw [if_pos e, if_pos e]
    exact wpAny_pure ⟨rfl, rfl⟩
  · rw [if_neg e, if_neg e]
    exact wpAny_pure ⟨rfl, rfl⟩
theorem rc_inst (hu : A.units < cLine) (X : K.In s.heap) (I : PySem.W.InstAt s.heap x (PySem.W.instObj C dx) C od) (J : PySem.W.InstAt s.heap y (PySem.W.instObj C dy) C od2) (hm : PySem.W.mroIn K C (.type "object") = some true) (hs : PySem.W.findIn K (.ref C) "__eq__" = some (some (.builtin "object.__eq__"))) {Q : Value → Shared → Prop}
    (h : Q (.bool (decide (x = y))) s) : wpAny (model prog w) A (richCompare .Eq (.ref x) (.ref y)) Q E s := by
  simp only [richCompare, cmpInfo_Eq, oneThing_ref]
  refine wpAny_holding (wpAny_bind (wpAny_cRoomFor hu ?_))
  refine wpAny_bind (I.type.here (wpAny_bind (J.type.here ?_)))
  rw [if_neg (by simp)]
  refine wpAny_bind (wpAny_pure ?_)
  simp only [Bool.false_eq_true, if_false, Bool.not_false, if_true]
  refine wpAny_bind (m := tryCompare (.ref x) _ (.ref y)) (wpAny_mono (try_inst X I hm hs J.at_) (fun r s1 z => ?_) fun _ _ e => e)
  obtain ⟨z1, z2⟩ := z
  subst z2
  by_cases e : x = y
  · rw [if_pos e] at z1
    subst z1
    rw [decide_eq_true e] at h
    exact wpAny_pure h
  · rw [if_neg e] at z1
    subst z1
    refine wpAny_bind (m := tryCompare (.ref y) _ (.ref x)) (wpAny_mono (try_inst X J hm hs I.at_) (fun r s2 z => ?_) fun _ _ e => e)
    obtain ⟨z1, z2⟩ := z
    subst z2
    rw [if_neg (fun q => e q.symm)] at z1
    subst z1
    exact wpAny_bind (wpAny_rule (wpAny_bind (isSame_inst I.at_ J.at_ (wpAny_pure h))))
end
def rEqIns (K : PySem.W.Frag) : R2 := fun x y H Q => ∃ a b C dx fs dy gs, x = .ref a ∧ y = .ref b ∧ H a = some (.ins C dx fs) ∧ H b = some (.ins C dy gs) ∧ PySem.W.mroIn K C (.type "object") = some true ∧ PySem.W.findIn K (.ref C) "__eq__" = some (some (.builtin "object.__eq__")) ∧ Q (.bl (decide (a = b))) H
theorem op_eqIns {X : Cx} (hu : X.A.units + 64 < cLine) : OpR X (compareOp .Eq) (rEqIns X.K) := by
  intro pins s σ H x y v u Q I rx ry h
  obtain ⟨a, b, C, dx, fs, dy, gs, rfl, rfl, h1, h2, hm, he, q⟩ := h
  cases (show v = Value.ref a from rx)
  cases (show u = Value.ref b from ry)
  obtain ⟨_, O1, _⟩ := ins_get I.hok h1
  obtain ⟨_, O2, _⟩ := ins_get I.hok h2
  obtain ⟨_, J1, _⟩ := O1.look
  obtain ⟨_, J2, _⟩ := O2.look
  exact rc_inst (by omega) I.kIn J1 J2 hm he ⟨.bl _, H, I, rfl, q⟩
end Kt

set_option Elab.async false
set_option linter.all false
set_option maxRecDepth 100000
namespace Kt
open PySem L2 PyProof.Rows
/-! ### data that may be shown: its texts are short -/
structure Sh (k W : Nat) (d : PyData) : Prop where
  ok : Okd k d
  sh : d.showable = true
  sm : d.leavesShort 64 = true
  wt : d.weight ≤ W
theorem Sh.nd {k W : Nat} {d : PyData} (h : Sh k W d) : d.hasDict = false := PyData.hasDict_of_canLay d h.ok.1
theorem Sh.fits {k W : Nat} {d : PyData} (h : Sh k W d) (hW : W ≤ 200000) : d.shown.length ≤ sizeLine := by
  have h1 := PyData.shown_le 64 (by decide) d h.sm
  have h2 : (64 + 2) * d.weight ≤ 66 * 200000 := Nat.mul_le_mul (by omega) (Nat.le_trans h.wt hW)
  have e : sizeLine = 16777216 := by decide
  omega
theorem Sh.up {k k' W W' : Nat} {d : PyData} (h : Sh k W d) (hk : k ≤ k') (hW : W ≤ W') : Sh k' W' d := ⟨⟨h.ok.1, Nat.le_trans h.ok.2 hk⟩, h.sh, h.sm, Nat.le_trans h.wt hW⟩
theorem sh_int {k : Nat} {i : Int} (h : i.natAbs < 10 ^ 60) : Sh k 200 (.int i) := by
  refine ⟨okd_int i, ?_, ?_, ?_⟩
  · rw [PyData.showable]
    refine decide_eq_true ?_
    have h2 : i.natAbs < 2 ^ 200 := Nat.lt_trans h (by decide)
    by_cases h0 : i.natAbs = 0
    · rw [h0]; decide
    · exact Nat.lt_trans ((Nat.log2_lt h0).mpr h2) (by decide)
  · rw [PyData.leavesShort]
    refine decide_eq_true ?_
    have e := int_text_length_le10 (k := 60) (by decide) h
    show (Str.ofString (toString i)).length ≤ 64
    rw [PySem.ofString_length]
    omega
  · rw [PyData.weight]
    have h2 : i.natAbs < 2 ^ 200 := Nat.lt_trans h (by decide)
    by_cases h0 : i.natAbs = 0
    · rw [h0]
      split
      · decide
      · decide
    · have := (Nat.log2_lt h0).mpr h2
      split
      · decide
      · omega
theorem sh_non {k : Nat} : Sh k 0 .none := ⟨okd_non, rfl, rfl, Nat.le_refl _⟩
theorem sh_bl {k : Nat} (b : Bool) : Sh k 1 (.bool b) := ⟨okd_bl b, rfl, rfl, by cases b <;> decide⟩
theorem sh_all {k W : Nat} : ∀ {ds : List PyData}, (∀ d ∈ ds, Sh k W d) → PyData.showableAll ds = true ∧ PyData.leavesShortAll 64 ds = true ∧ PyData.weightAll ds ≤ ds.length * (W + 1)
  | [], _ => ⟨rfl, rfl, Nat.zero_le _⟩
  | d :: ds, h => by
    obtain ⟨h1, h2, h3⟩ := sh_all (ds := ds) fun x m => h x (List.mem_cons_of_mem _ m)
    have g := h d List.mem_cons_self
    refine ⟨?_, ?_, ?_⟩
    · rw [PyData.showableAll, g.sh, h1]; rfl
    · rw [PyData.leavesShortAll, g.sm, h2]; rfl
    · rw [PyData.weightAll, List.length_cons, Nat.succ_mul]
      have := g.wt
      omega
theorem sh_list {k W : Nat} {ds : List PyData} (h : ∀ d ∈ ds, Sh k W d) : Sh (k + 1) (ds.length * (W + 1)) (.list ds) := by
  obtain ⟨h1, h2, h3⟩ := sh_all h
  exact ⟨okd_list fun d m => (h d m).ok, by rw [PyData.showable]; exact h1, by rw [PyData.leavesShort]; exact h2, by rw [PyData.weight]; exact h3⟩
theorem sh_tuple {k W : Nat} {ds : List PyData} (h : ∀ d ∈ ds, Sh k W d) : Sh (k + 1) (ds.length * (W + 1)) (.tuple ds) := by
  obtain ⟨h1, h2, h3⟩ := sh_all h
  exact ⟨okd_tuple fun d m => (h d m).ok, by rw [PyData.showable]; exact h1, by rw [PyData.leavesShort]; exact h2, by rw [PyData.weight]; exact h3⟩
theorem sh_ints {k : Nat} {ns : List Int} (h : ∀ n ∈ ns, n.natAbs < 10 ^ 60) : Sh (k + 1) (ns.length * 201) (dInts ns) := by
  have := sh_list (k := k) (W := 200) (ds := ns.map PyData.int) fun d m => by
    obtain ⟨i, hi, rfl⟩ := List.mem_map.mp m
    exact sh_int (h i hi)
  rw [List.length_map] at this
  exact this
end Kt

set_option Elab.async false
set_option linter.all false
set_option maxRecDepth 100000
namespace Kt
open PySem PySem.Spec L2 PyProof.Rows
section
variable {X : Cx} {C : Addr} {k : Nat} {ps : List Str} {sp : Sp}
/-! ### own __getitem__, own __len__ -/
def rIxOwn (C : Addr) (sp : Sp) : R2 := fun x y H Q => ∃ a dx fs, x = .ref a ∧ H a = some (.ins C dx fs) ∧ sp [.ref a, y] H Q E0
theorem pe_ixOwn {a b : Expr} {ta tb : TE} {pos : Pos} (M : Mf X.prog X.w X.K X.mg X.base k C "__getitem__" ps sp) (hfn : ∀ f, PySem.W.findIn X.K (.ref C) "__getitem__" = some (some (.ref f)) → PySem.W.fnIn X.K f = true) (hr : Room (k + 1) X.A) (ha : PE X a ta) (hb : PE X b tb)
    (hs : ∀ o i, subscripted b true o i = runValue (.builtin "lifetime.subscript" ⟨[o, i], []⟩) := by exact fun _ _ => rfl) : PE X (.Subscript a b pos) (tOp (rIxOwn C sp) ta tb) := by
  refine ⟨fun pins s σ H Q I h => Subscript_ (binT ha hb I h fun v u s2 x y H2 I2 rx ry q => ?_)⟩
  obtain ⟨o, dx, fs, rfl, ho, q⟩ := q
  cases (show v = Value.ref o from rx)
  obtain ⟨f, fd, F, b, hm⟩ := M.fn
  obtain ⟨ox, od, J⟩ := ins_at I2 ho
  obtain ⟨m, hF⟩ := I2.fr
  have bd := b s2 [.ref o, u] I2.kIn (by rw [List.append_nil]; exact F.len _ _ _ _ q)
  rw [List.append_nil] at bd
  refine PySem.W.sub_K hF I2.ok.mod.kin J hm.at_ (hfn f hm.at_) hm.fn (wpAny_call (codeAny_mono (F.run X.A.in1 X.stack s2 H2 ⟨[.ref o, u], []⟩ [.ref o, u] [.ref o, y] Q E0 hr.in1 I2.env0.in1 bd (.cons rfl (.cons ry .nil)) q) fun z s' hq => ?_)) (hs _ _)
  cases z with
  | error e => exact pass0 pins σ H2 s2 e s' I2 hq
  | ok fl => cases fl with
    | ret u => exact I2.after hq
    | _ => exact False.elim hq
def cLenOwn (C : Addr) (sp : Sp) : List V → Hp → VK → Prop := fun xs H Q => ∃ a dx fs, xs = [.ref a] ∧ H a = some (.ins C dx fs) ∧ sp [.ref a] H (fun v H' => ∃ n : Nat, v = .int n ∧ (n : Int) < 2 ^ 62 ∧ Q (.int n) H') E0
theorem call_lenOwn (M : Mf X.prog X.w X.K X.mg X.base k C "__len__" ps sp) (hr : Room (k + 1) X.A) : CallR X (.builtin "len") (cLenOwn C sp) := by
  intro pins s σ H xs us Q I r h
  obtain ⟨a, dx, fs, rfl, ha, q⟩ := h
  obtain ⟨u, rfl, r1⟩ := vals1 r
  cases r1
  obtain ⟨f, fd, F, b, hm⟩ := M.fn
  obtain ⟨ox, od, J⟩ := ins_at I ha
  obtain ⟨m, hF⟩ := I.fr
  have bd := b s [.ref a] I.kIn (by rw [List.append_nil]; exact F.len _ _ _ _ q)
  rw [List.append_nil] at bd
  refine PySem.W.len_K hF I.ok.mod.kin J hm.at_ hm.fn (wpAny_call (codeAny_mono (F.run X.A.in1 X.stack s H ⟨[.ref a], []⟩ [.ref a] [.ref a] _ E0 hr.in1 I.env0.in1 bd (.cons rfl .nil) q) fun z s' hq => ?_))
  cases z with
  | error e => exact pass0 pins σ H s e s' I hq
  | ok fl => cases fl with
    | ret u =>
      obtain ⟨v, H', I3, rv, n, rfl, hn, q3⟩ := I.after hq
      obtain ⟨t, rfl⟩ := rv
      exact ⟨⟨by omega, by omega⟩, ⟨.int n, H', I3.tok _, ⟨_, rfl⟩, q3⟩⟩
    | _ => exact False.elim hq
/-! ### len(range(n)) -/
def tLenRng (te : TE) : TE := fun σ H Q => te σ H fun x H1 => ∃ n : Nat, x = .int n ∧ (n : Int) < 2 ^ 62 ∧ Q (.int n) H1
theorem pe_lenRng {e : Expr} {te : TE} {p1 p2 pos pos2 : Pos} (he : PE X e te) (g1 : X.mg "len" = none) (g2 : X.mg "range" = none) (l1 : Gl X "len" := by rfl) (l2 : Gl X "range" := by rfl) (h1 : starEach [e] X.env = [(false, eval e X.env)] := by rfl)
    (h2 : starEach [.Call (.Name "range" p2) [e] [] pos2] X.env = (false, eval (.Call (.Name "range" p2) [e] [] pos2) X.env) :: starEach [] X.env := by rfl) (h3 : (backTo pos (starEach [] X.env)).any (·.1) = false := by rfl) :
    PE X (.Call (.Name "len" p1) [.Call (.Name "range" p2) [e] [] pos2] [] pos) (tLenRng te) := by
  refine ⟨fun pins s σ H Q I h => wpAny_Call_Name_kw (ld_blt I l1 g1 PySem.boot_len (callWith_builtin1 ?_ h2 h3))⟩
  rw [h2]
  refine Calls.spliced_cons ?_
  refine Call_ (ld_blt I l2 g2 boot_range (PyProof.Rows.callWith_type1 (e := e) (rest := []) ?_ h1 rfl))
  rw [h1]
  refine Calls.spliced_cons (thn (he.run pins s σ H _ I h) fun u s1 ⟨x, H1, I1, r1, n, e1, hn, q⟩ => ?_)
  subst e1
  obtain ⟨t, rfl⟩ := r1
  refine Calls.spliced_nil (call_range_1 ?_)
  refine Calls.spliced_nil (call_len_range (n := n) (Heap.get?_push_size _ rfl) ?_ (by omega) ⟨.int n, H1, I1.kept fun b o z => Heap.get?_push_of_some _ z, ⟨_, rfl⟩, q⟩)
  rw [rangeSize_one]
  split <;> omega
theorem r_lenRng {σ : L2.St} {H : Hp} {Q : VK} {te : TE} (h : te σ H fun x H1 => ∃ n : Nat, x = .int n ∧ (n : Int) < 2 ^ 62 ∧ Q (.int n) H1) : tLenRng te σ H Q := h
end
end Kt

set_option Elab.async false
set_option linter.all false
set_option maxRecDepth 100000
namespace Kt
open PySem PySem.Spec L2 PyProof.Rows
/-! ### own __eq__ by == and by != -/
section
variable {prog : Program} {w : World} {A : Around} {E : Value → Shared → Prop} {s : Shared} {K : PySem.W.Frag} {x y C f : Addr} {ox oy : Obj} {od od2 : Option Obj}
theorem ifBound_ne {M : Model} {args : List Value} {Q : Option Value → Shared → Prop} (X : K.In s.heap) (I : PySem.W.InstAt s.heap x ox C od) (hs : PySem.W.findIn K (.ref C) "__ne__" = some (some (.builtin "object.__ne__")))
    (h : wpAny M A (call (.builtin "object.__ne__") (.ref x :: args)) (fun v => Q (some v)) E s) : wpAny M A (callSpecialIfBound? (.ref x) "__ne__" args) Q E s := by
  simp only [callSpecialIfBound?, bindSpecialIfBound?]
  refine wpAny_holding (wpAny_bind (wpAny_bind (wpAny_bind (I.type.here ((PySem.W.looks_findIn X hs).here ?_)))))
  refine wpAny_bind (wpAny_askSetting (wpAny_ite ?_))
  have fin : wpAny M A (call (.builtin "object.__ne__") ([.ref x] ++ args) >>= fun v => pure (some v)) Q E s := wpAny_bind (wpAny_mono h (fun v s' h' => wpAny_pure h') fun _ _ h' => h')
  split
  · exact wpAny_bind (wpAny_of_eq (F.cmp_object.ne.bind _) (wpAny_pure (by exact fin)))
  · exact wpAny_tryCatch (wpAny_bind (wpAny_of_eq (F.cmp_object.ne.bind _) (wpAny_pure (by exact fin))))
theorem objNe_own {b : Value} {Q : Fin → Shared → Prop} (hu : A.units < cLine) (X : K.In s.heap) (I : PySem.W.InstAt s.heap x ox C od) (hs : PySem.W.findIn K (.ref C) "__eq__" = some (some (.ref f))) (hf : PySem.W.isFn K (.ref f) = true)
    (hcall : wpAny (model prog w) A (call (.ref f) [.ref x, b]) (fun v s' => ∃ k, v = .bool k ∧ Q (.done (.ret (.bool (!k)))) s') E s) : wpAny (model prog w) A (Builtin.«object.__ne__» ⟨[.ref x, b], []⟩) Q E s := by
  unfold Builtin.«object.__ne__»
  repeat (first
    | with_reducible refine wpAny_cRoomFor hu ?_
    | (refine wpAny_bind (m := callSpecialIfBound? (.ref x) (Str.ofString "__eq__") [b])
        (PySem.W.ifBound_K X I hs hf (wpAny_mono hcall (fun r s' hr => by
          obtain ⟨k, rfl, hq⟩ := hr
          repeat (first | exact hq | exact wpAny_pure hq | exact wpAny_truthy_bool hq | (refine wpAny_bind (m := truthy (.bool _)) (wpAny_truthy_bool ?_)) | wp_step)) fun _ _ e => e)))
    | wp_step)
theorem ne_own {b tb : Value} {Q : Value → Shared → Prop} (hu : A.units + 1 < cLine) (X : K.In s.heap) (I : PySem.W.InstAt s.heap x ox C od) (hb : PySem.W.Looks (model prog w) s.heap (typeOf b) tb) (hn : PySem.W.notFirst K C tb = true)
    (hm : PySem.W.mroIn K C (.type "object") = some true) (hne : PySem.W.findIn K (.ref C) "__ne__" = some (some (.builtin "object.__ne__"))) (hs : PySem.W.findIn K (.ref C) "__eq__" = some (some (.ref f))) (hf : PySem.W.isFn K (.ref f) = true)
    (h : wpAny (model prog w) A.in1 (call (.ref f) [.ref x, b]) (fun v s' => ∃ k, v = .bool k ∧ Q (.bool (!k)) s') E s) : wpAny (model prog w) A (richCompare .NotEq (.ref x) b) Q E s := by
  have one : wpAny (model prog w) A (tryCompare (.ref x) "__ne__" b) (fun r s' => ∃ k, r = some (.bool k) ∧ Q (.bool k) s') E s := by
    unfold tryCompare
    refine wpAny_bind (ifBound_ne X I hne (wpAny_call (codeAny_call_builtin F.cmp_object.ne.plain F.cmpEntry_ne (PySem.W.check_slot F.cmpKind_ne F.cmpSplit_ne (I.type.andThen (PySem.W.looks_mroIn X hm)) (F.cmpArgs_ne _ _)
      (objNe_own (A := A.in1) hu X I hs hf (wpAny_mono h (fun v s' hv => ?_) fun _ _ e => e))))))
    obtain ⟨k, rfl, hq⟩ := hv
    exact ⟨k, rfl, wpAny_pure ⟨_, rfl, hq⟩⟩
  unfold richCompare
  simp only [oneThing_ref]
  refine wpAny_holding (wpAny_bind (wpAny_cRoomFor (by omega) ?_))
  rw [cmpInfo_NotEq]
  refine wpAny_bind (I.type.here (wpAny_bind (hb.here ?_)))
  split
  · rename_i q
    have e : PySem.W.subIn K tb (.ref C) = some false := by
      rcases Bool.or_eq_true_iff.mp hn with e | e
      · rw [beq_iff_eq.mp e] at q; simp at q
      · exact beq_iff_eq.mp e
    refine wpAny_bind ((PySem.W.looks_subIn X e).here ?_)
    simp only [Bool.false_eq_true, if_false]
    refine wpAny_bind (wpAny_mono one (fun r s' z => ?_) fun _ _ e => e)
    obtain ⟨v, rfl, hq⟩ := z
    exact wpAny_pure hq
  · refine wpAny_bind (wpAny_pure ?_)
    simp only [Bool.false_eq_true, if_false]
    refine wpAny_bind (wpAny_mono one (fun r s' z => ?_) fun _ _ e => e)
    obtain ⟨v, rfl, hq⟩ := z
    exact wpAny_pure hq
end
section
variable {X : Cx} {C : Addr} {k : Nat} {ps : List Str} {sp : Sp}
def rEqOwn (C : Addr) (sp : Sp) : R2 := fun x y H Q => ∃ a b dx fs dy gs, x = .ref a ∧ y = .ref b ∧ H a = some (.ins C dx fs) ∧ H b = some (.ins C dy gs) ∧ sp [.ref a, .ref b] H (fun v H' => ∃ k, v = .bl k ∧ Q (.bl k) H') E0
def rNeOwn (C : Addr) (sp : Sp) : R2 := fun x y H Q => ∃ a b dx fs dy gs, x = .ref a ∧ y = .ref b ∧ H a = some (.ins C dx fs) ∧ H b = some (.ins C dy gs) ∧ sp [.ref a, .ref b] H (fun v H' => ∃ k, v = .bl k ∧ Q (.bl (!k)) H') E0
theorem op_eqOwn (M : Mf X.prog X.w X.K X.mg X.base k C "__eq__" ps sp) (hr : Room k X.A) : OpR X (compareOp .Eq) (rEqOwn C sp) := by
  intro pins s σ H x y v u Q I rx ry h
  obtain ⟨a, b, dx, fs, dy, gs, rfl, rfl, ha, hb', q⟩ := h
  cases (show v = Value.ref a from rx)
  cases (show u = Value.ref b from ry)
  obtain ⟨f, fd, F, bb, hm⟩ := M.fn
  obtain ⟨ox, od, J⟩ := ins_at I ha
  obtain ⟨ox', od', J'⟩ := ins_at I hb'
  obtain ⟨m, hF⟩ := I.fr
  refine PySem.W.cmp_K (op := .Eq) (tb := .ref C) hr.units0 hF I.ok.mod.kin J J'.type (by simp [PySem.W.notFirst]) hm.at_ hm.fn ?_
  refine wpAny_mono (run_fn (us := [.ref a, .ref b]) (vs := [.ref a, .ref b]) F hr bb .nil pass0 I (.cons rfl (.cons rfl .nil)) (by rw [List.append_nil]; exact q)) (fun z s' hz => ?_) fun _ _ z => z
  obtain ⟨y', H', I', r', k, rfl, q'⟩ := hz
  cases r'
  exact ⟨.bl k, H', I', rfl, q'⟩
theorem op_neOwn (M : Mf X.prog X.w X.K X.mg X.base k C "__eq__" ps sp) (hr : Room (k + 1) X.A) (hmr : PySem.W.mroIn X.K C (.type "object") = some true) (hne : PySem.W.findIn X.K (.ref C) "__ne__" = some (some (.builtin "object.__ne__"))) : OpR X (compareOp .NotEq) (rNeOwn C sp) := by
  intro pins s σ H x y v u Q I rx ry h
  obtain ⟨a, b, dx, fs, dy, gs, rfl, rfl, ha, hb', q⟩ := h
  cases (show v = Value.ref a from rx)
  cases (show u = Value.ref b from ry)
  obtain ⟨f, fd, F, bb, hm⟩ := M.fn
  obtain ⟨ox, od, J⟩ := ins_at I ha
  obtain ⟨ox', od', J'⟩ := ins_at I hb'
  obtain ⟨m, hF⟩ := I.fr
  have bd := bb s [.ref a, .ref b] I.kIn (by rw [List.append_nil]; exact F.len _ _ _ _ q)
  rw [List.append_nil] at bd
  refine ne_own (tb := .ref C) (by have := hr.units; omega) I.kIn J J'.type (by simp [PySem.W.notFirst]) hmr hne hm.at_ hm.fn ?_
  refine wpAny_call (codeAny_mono (F.run X.A.in1 X.stack s H ⟨[.ref a, .ref b], []⟩ [.ref a, .ref b] [.ref a, .ref b] _ E0 hr.in1 I.env0.in1 bd (.cons rfl (.cons rfl .nil)) q) fun z s' hq => ?_)
  cases z with
  | error e => exact pass0 pins σ H s e s' I hq
  | ok fl => cases fl with
    | ret u =>
      obtain ⟨v, H', I3, rv, k, rfl, q3⟩ := I.after hq
      cases rv
      exact ⟨k, rfl, .bl (!k), H', I3, rfl, q3⟩
    | _ => exact False.elim hq
end
end Kt

set_option Elab.async false
set_option linter.all false
set_option maxRecDepth 100000
namespace Kt
open PySem L2 PyProof.Rows
section
variable {K : PySem.W.Frag} {σ : L2.St} {H : Hp} {D : Ends} {Q : VK} {a b : Addr} {xs ys : List V} {Ps : List SP} {g : TG} {tb : TS} {tr : TA}
def kZip (K : PySem.W.Frag) (R : It → Hp → Prop) : List V → Hp → Prop := fun vs H1 => ∃ a b xs ys, vs = [.ref a, .ref b] ∧ SqL K H1 a xs ∧ SqL K H1 b ys ∧ R (Itz K a b) H1
theorem r_izip {R : It → Hp → Prop} (h : tr σ H (kZip K R)) : iZip K tr σ H R := h
theorem r_for_zip (J : LW) (hlen : xs.length = ys.length) (S : Sep Ps H) (h0 : J 0 σ Ps) (hl : ∀ i σ Ps H, J i σ Ps → Sep Ps H → SqL K H a xs ∧ SqL K H b ys)
    (hs : ∀ i x y T σ Ps H, xs[i]? = some x → ys[i]? = some y → J i σ Ps → Sep (pt T (.tup [x, y]) :: Ps) H → g (.ref T) σ H fun σ2 H2 => tb { D with nx := Nx J (i + 1), ct := Nx J (i + 1), bk := D.nx } σ2 H2) (hd : ∀ σ Ps H, J xs.length σ Ps → Sep Ps H → D.nx σ H) :
    kZip K (fun Jt H1 => ForW Jt g tb D σ H1) [.ref a, .ref b] H :=
  ⟨a, b, xs, ys, rfl, (hl 0 σ Ps H h0 S).1, (hl 0 σ Ps H h0 S).2, RZ.for_zipL (K := K) (a := a) (b := b) hlen (Nx J) ⟨Ps, h0, S⟩ (fun i σ H ⟨Ps, j, S⟩ => hl i σ Ps H j S) (fun i x y T σ H hx hy ⟨Ps, j, S⟩ hT => hs i x y T σ Ps _ hx hy j (S.new _ hT)) fun σ H ⟨Ps, j, S⟩ => hd σ Ps H j S⟩
end
theorem pi_zipK {X : Cx} (K : PySem.W.Frag) {e e2 : Expr} {ta : TA} {p pos tpos : Pos} {elts : List Expr} {kk : Nat} (hg : Gl X "zip") (hm : X.mg "zip" = none) (ha : PA X [e, e2] ta) (hK : X.K = K := by rfl)
    (hs : starEach [e, e2] X.env = (false, eval e X.env) :: starEach [e2] X.env := by rfl) (hpl : (backTo pos (starEach [e2] X.env)).any (·.1) = false := by rfl) :
    PI X (.Tuple elts kk tpos) (.Call (.Name "zip" p) [e, e2] [] pos) (iZip K ta) := hK ▸ pi_zip hg hm ha hs hpl
section
variable {K : PySem.W.Frag} {σ : L2.St} {H : Hp} {D : Ends} {Q : VK} {a b : Addr} {xs ys : List V} {Ps : List SP} {g : TG} {tb : TS} {tr : TA}
theorem eqvAll_ints : ∀ a b : List Int, PyData.eqvAll (a.map PyData.int) (b.map PyData.int) = decide (a = b)
  | [], [] => by simp [PyData.eqvAll]
  | [], y :: b => by simp [PyData.eqvAll]
  | x :: a, [] => by simp [PyData.eqvAll]
  | x :: a, y :: b => by
    simp only [List.map_cons, PyData.eqvAll, eqvAll_ints a b, PyData.eqv]
    by_cases h : x = y
    · subst h
      simp
    · simp [h]
theorem eqv_ints (a b : List Int) : PyData.eqv (dInts a) (dInts b) = decide (a = b) := by
  unfold dInts
  rw [PyData.eqv]
  exact eqvAll_ints a b
theorem r_eq_ints {p q : Addr} {m1 m2 : List Int} (s1 : SqL K H p (m1.map V.int)) (s2 : SqL K H q (m2.map V.int)) (h : Q (.bl (decide (m1 = m2))) H) : rEqA K (.ref p) (.ref q) H Q :=
  .inr ⟨_, _, dp_ints s1, dp_ints s2, (okd_ints 0 _).shaped (by decide), (okd_ints 0 _).shaped (by decide), by rw [eqv_ints]; exact h⟩
theorem r_ne_ints {p q : Addr} {m1 m2 : List Int} (s1 : SqL K H p (m1.map V.int)) (s2 : SqL K H q (m2.map V.int)) (h : Q (.bl (!decide (m1 = m2))) H) : rNeA K (.ref p) (.ref q) H Q :=
  .inr ⟨_, _, dp_ints s1, dp_ints s2, (okd_ints 0 _).shaped (by decide), (okd_ints 0 _).shaped (by decide), by rw [eqv_ints]; exact h⟩
theorem r_par3 {i j l : Nat} (h : tr σ H fun vs H1 => ∃ u v w, vs = [u, v, w] ∧ D.nx (((σ.set i (some u)).set j (some v)).set l (some w)) H1) : tPar3 i j l tr D σ H := h
theorem r_parA3 {i j l : Nat} {x y z : V} {p : L2.St → Hp → Prop} (h : p (((σ.set i (some x)).set j (some y)).set l (some z)) H) : ∃ u v w, [x, y, z] = [u, v, w] ∧ p (((σ.set i (some u)).set j (some v)).set l (some w)) H := ⟨x, y, z, rfl, h⟩
def kRng2 (R : It → Hp → Prop) : List V → Hp → Prop := fun vs H1 => ∃ i j : Int, vs = [.int i, .int j] ∧ (-(2 ^ 62) ≤ i ∧ i < 2 ^ 62 ∧ -(2 ^ 62) ≤ j ∧ j < 2 ^ 62) ∧ R (Itr i (j - i).toNat) H1
theorem r_irng2 {R : It → Hp → Prop} (h : tr σ H (kRng2 R)) : iRng2 tr σ H R := h
theorem r_rep {n : Int} (S : Sep Ps H) (s : H a = some (.lst xs)) (h1 : 0 ≤ n) (h2 : n ≤ 1000) (hz : xs.length ≤ 1000) (h : ∀ p H', Sep (pt p (.lst (List.replicate n.toNat xs).flatten) :: Ps) H' → Q (.ref p) H') : rMulA (.ref a) (.int n) H Q :=
  .inr ⟨a, n, xs, rfl, rfl, s, by omega, by omega, Nat.le_trans (Nat.mul_le_mul hz (show n.toNat ≤ 1000 by omega)) (by decide), fun p np => h p _ (S.new _ np)⟩
theorem r_lc_itr {lo : Int} {n : Nat} {tt : TT} {te : TE} {vs : List Nat} (J : CW) (S : Sep Ps H) (h0 : J 0 [] Ps)
    (hs : ∀ D (i : Nat) acc Ps H, i < n → J i acc Ps → Sep (pt D (.lst acc) :: Ps) H → g (.int (lo + (i : Int))) (wipe σ vs) H fun σ2 H2 => wipe σ2 vs = wipe σ vs ∧ tt σ2 H2 fun b H3 =>
      if b = true then te σ2 H3 fun y H4 => ∃ acc, H4 D = some (.lst acc) ∧ acc.length < sizeLine ∧ CN J D (i + 1) (upd H4 D (.lst (acc ++ [y]))) else CN J D (i + 1) H3)
    (hd : ∀ D acc Ps H, J n acc Ps → Sep (pt D (.lst acc) :: Ps) H → Q (.ref D) H) : LcW (Itr lo n) g tt te vs Q σ H :=
  fun D nD => lc_range (CN J D) ⟨[], Ps, h0, S.new _ nD⟩ (fun i H hi ⟨acc, Ps, j, S⟩ => hs D i acc Ps H hi j S) fun H ⟨acc, Ps, j, S⟩ => hd D acc Ps H j S
theorem q_neB {x y : Bool} (h : Q (.bl (x != y)) H) : rNeA K (.bl x) (.bl y) H Q := .inl ⟨rfl, by
  have e : (!decide (V.bl x = V.bl y)) = (x != y) := by cases x <;> cases y <;> rfl
  rw [e]
  exact h⟩
theorem q_eqB {x y : Bool} (h : Q (.bl (x == y)) H) : rEqA K (.bl x) (.bl y) H Q := .inl ⟨rfl, by
  have e : decide (V.bl x = V.bl y) = (x == y) := by cases x <;> cases y <;> rfl
  rw [e]
  exact h⟩
end
end Kt

set_option Elab.async false
set_option linter.all false
set_option maxRecDepth 100000
namespace Kt
open PySem L2 PyProof.Rows
/-! ### data as parts of the heap -/
section
variable {K : PySem.W.Frag}
theorem Rd.le {G H : Hp} (l : Le G H) {a : Addr} {o : HO} (h : Rd G a o) : Rd H a o := by
  rcases h with h | ⟨ob, h⟩
  · exact .inl (l _ _ h)
  · exact .inr ⟨ob, l _ _ h⟩
theorem SqL.le {G H : Hp} (l : Le G H) {a : Addr} {xs : List V} (h : SqL K G a xs) : SqL K H a xs := h.imp (Rd.le l) id
theorem SqT.le {G H : Hp} (l : Le G H) {a : Addr} {xs : List V} (h : SqT K G a xs) : SqT K H a xs := h.imp (Rd.le l) id
mutual
theorem Dp.le {G H : Hp} (l : Le G H) : ∀ (d : PyData) (v : V), Dp K G v d → Dp K H v d
  | .none, _, h => by cases h; exact .non
  | .bool b, _, h => by cases h; exact .bl b
  | .int i, _, h => by cases h; exact .int i
  | .str x, _, h => by cases h; exact .str x
  | .list ds, _, h => by
    cases h with
    | lst s t => exact .lst (SqL.le l s) (DpAll.le l ds _ t)
  | .tuple ds, _, h => by
    cases h with
    | tup s t => exact .tup (SqT.le l s) (DpAll.le l ds _ t)
  | .dict _, _, h => by cases h
theorem DpAll.le {G H : Hp} (l : Le G H) : ∀ (ds : List PyData) (vs : List V), DpAll K G vs ds → DpAll K H vs ds
  | [], _, h => by cases h; exact .nil
  | d :: ds, _, h => by
    cases h with
    | cons h t => exact .cons (Dp.le l d _ h) (DpAll.le l ds _ t)
end
def dat (K : PySem.W.Frag) (p : Addr) (d : PyData) : SP := fun G => Dp K G (.ref p) d
def dall (K : PySem.W.Frag) (vs : List V) (ds : List PyData) : SP := fun G => DpAll K G vs ds
theorem Sep.join {P Q X : SP} {R : List SP} {H : Hp} (f : ∀ G1 G2 G, Le G1 G → Le G2 G → P G1 → Q G2 → X G) (S : Sep (P :: Q :: R) H) : Sep (X :: R) H :=
  (Sep.unflat (As := [P, Q]) S).hd_mono fun G ⟨G1, l1, p, G2, l2, q, _⟩ => f G1 G2 G l1 (fun a o e => (sub_some (l2 a o e)).2) p q
theorem dat_dp {p : Addr} {d : PyData} {R : List SP} {H : Hp} : Sep (dat K p d :: R) H → Dp K H (.ref p) d := fun ⟨_, l, h, _⟩ => Dp.le l d _ h
theorem dat_list {p : Addr} {vs : List V} {ds : List PyData} {R : List SP} {H : Hp} (S : Sep (pt p (.lst vs) :: dall K vs ds :: R) H) : Sep (dat K p (.list ds) :: R) H :=
  Sep.join (fun G1 G2 G l1 l2 h1 h2 => .lst (SqL.of (l1 _ _ h1)) (DpAll.le l2 _ _ h2)) S
theorem dat_flat {p : Addr} {vs : List V} {ds : List PyData} {R : List SP} {H : Hp} (h : ∀ G, DpAll K G vs ds) (S : Sep (pt p (.lst vs) :: R) H) : Sep (dat K p (.list ds) :: R) H :=
  S.hd_mono fun G e => .lst (SqL.of e) (h G)
theorem dall_nil {R : List SP} {H : Hp} (S : Sep R H) : Sep (dall K [] [] :: R) H :=
  ⟨fun _ => none, fun _ _ (e : (none : Option HO) = some _) => (Option.noConfusion rfl (heq_of_eq e)), .nil, S.mono fun a o e => by rw [sub_of rfl]; exact e⟩
theorem dall_flat {vs : List V} {ds : List PyData} {R : List SP} {H : Hp} (h : ∀ G, DpAll K G vs ds) (S : Sep R H) : Sep (dall K vs ds :: R) H :=
  ⟨fun _ => none, fun _ _ (e : (none : Option HO) = some _) => (Option.noConfusion rfl (heq_of_eq e)), h _, S.mono fun a o e => by rw [sub_of rfl]; exact e⟩
theorem dall_add {p : Addr} {d : PyData} {vs : List V} {ds : List PyData} {R : List SP} {H : Hp} (S : Sep (dat K p d :: dall K vs ds :: R) H) : Sep (dall K (vs ++ [.ref p]) (ds ++ [d]) :: R) H :=
  Sep.join (fun G1 G2 G l1 l2 h1 h2 => dpall_app (DpAll.le l2 _ _ h2) (.cons (Dp.le l1 _ _ h1) .nil)) S
theorem dall_cons {p : Addr} {d : PyData} {vs : List V} {ds : List PyData} {R : List SP} {H : Hp} (S : Sep (dat K p d :: dall K vs ds :: R) H) : Sep (dall K (.ref p :: vs) (d :: ds) :: R) H :=
  Sep.join (fun G1 G2 G l1 l2 h1 h2 => .cons (Dp.le l1 _ _ h1) (DpAll.le l2 _ _ h2)) S
theorem dpall_bls {G : Hp} : ∀ bs : List Bool, DpAll K G (bs.map V.bl) (bs.map PyData.bool)
  | [] => .nil
  | b :: bs => .cons (.bl b) (dpall_bls bs)
end
theorem sh_cons {k W W2 : Nat} {d : PyData} {ds : List PyData} (h : Sh k W d) (t : Sh (k + 1) W2 (.list ds)) : Sh (k + 1) (W + 1 + W2) (.list (d :: ds)) := by
  refine ⟨⟨?_, ?_⟩, ?_, ?_, ?_⟩
  · have := t.ok.1
    rw [PyData.canLay0] at this ⊢
    rw [PyData.canLayAll0, h.ok.1, this]; rfl
  · have h1 := t.ok.2
    have h2 := h.ok.2
    rw [PyData.depth] at h1 ⊢
    rw [PyData.depthAll]
    omega
  · have := t.sh
    rw [PyData.showable] at this ⊢
    rw [PyData.showableAll, h.sh, this]; rfl
  · have := t.sm
    rw [PyData.leavesShort] at this ⊢
    rw [PyData.leavesShortAll, h.sm, this]; rfl
  · have h1 := t.wt
    have h2 := h.wt
    rw [PyData.weight] at h1 ⊢
    rw [PyData.weightAll]
    omega
theorem sh_nil {k : Nat} : Sh (k + 1) 0 (.list []) := ⟨⟨rfl, by show PyData.depth (.list []) ≤ _; rw [PyData.depth]; exact Nat.succ_le_succ (Nat.zero_le _)⟩, rfl, rfl, by rw [PyData.weight]; exact Nat.le_refl _⟩
end Kt

set_option Elab.async false
set_option linter.all false
set_option maxRecDepth 100000
namespace Kt
open PySem PySem.Spec L2 PyProof.Rows
/-! ### the type of a value as a part of the heap -/
section
variable {K : PySem.W.Frag} {G H : Hp} {v : V} {t : Value} {T : String} {R : List SP}
theorem ty_mono (l : Le G H) (h : TyX K G v t) : TyX K H v t := by
  cases h with
  | base b =>
    cases b with
    | non => exact .base .non
    | bl x => exact .base (.bl x)
    | int i => exact .base (.int i)
    | str x => exact .base (.str x)
    | flt x => exact .base (.flt x)
    | lst e => exact .base (.lst (l _ _ e))
    | frz e => exact .base (.frz (l _ _ e))
    | tup e => exact .base (.tup (l _ _ e))
    | dK e => exact .base (.dK (l _ _ e))
    | dT e => exact .base (.dT (l _ _ e))
    | ins e cl ha hn htk hm => exact .base (.ins (l _ _ e) cl ha hn htk hm)
  | byt b => exact .byt b
  | set e => exact .set (l _ _ e)
  | kList e c => exact .kList e c
  | kTuple e c => exact .kTuple e c
  | kDict e c => exact .kDict e c
  | fTuple e => exact .fTuple (l _ _ e)
  | fDict e => exact .fDict (l _ _ e)
def tyP (K : PySem.W.Frag) (v : V) (T : String) : SP := fun G => TyX K G v (.type T)
theorem ty_of (S : Sep (tyP K v T :: R) H) : TyX K H v (.type T) := by
  obtain ⟨G, l, h, _⟩ := S
  exact ty_mono l h
theorem ty_nil (S : Sep R H) (h : TyX K (fun _ => none) v (.type T)) : Sep (tyP K v T :: R) H :=
  ⟨fun _ => none, fun _ _ (e : (none : Option HO) = some _) => (Option.noConfusion rfl (heq_of_eq e)), h, Sep.mono (H := H) (fun a o e => by rw [sub_of rfl]; exact e) S⟩
theorem kit_own {C : Addr} (h1 : PySem.W.isClsIn K C = true) (h2 : PySem.W.typeIn K (.ref C) = some (.type "type")) (h3 : PySem.W.subIn K (.type T) (.ref C) = some false) : PySem.W.kitOne K (.type T) (.ref C) = some false := by
  have e : ((Value.type T) == (Value.ref C)) = false := by rfl
  unfold PySem.W.kitOne PySem.W.kitCls
  rw [e, if_neg Bool.false_ne_true]
  show (if _ then _ else _) = _
  rw [h2, show (PySem.W.clsIn K C).isSome = true from h1]
  simpa using h3
theorem kit_base {C : Addr} (h1 : PySem.W.kitMeta T = true) (h3 : PySem.W.mroIn K C (.type T) = some false) : PySem.W.kitOne K (.ref C) (.type T) = some false := by
  have e : ((Value.ref C) == (Value.type T)) = false := by rfl
  unfold PySem.W.kitOne PySem.W.kitCls
  rw [e, if_neg Bool.false_ne_true]
  show (if _ then _ else _) = _
  rw [if_pos h1]
  exact h3
theorem ty_isInt (h : TyX K H v (.type "int")) : ∃ i, v = .int i := by
  generalize e : Value.type "int" = t at h
  cases h with
  | base b =>
    cases b with
    | int i => exact ⟨i, rfl⟩
    | _ => first | (exact absurd e (by simp)) | (cases e)
  | _ => first | (exact absurd e (by simp)) | (cases e)
end
section
variable {X : Cx} {C : Addr} {k : Nat} {ps : List Str} {sp : Sp}
/-! ### x in o by an own __contains__ -/
def rInOwn (C : Addr) (sp : Sp) : R2 := fun x y H Q => ∃ a dx fs, y = .ref a ∧ H a = some (.ins C dx fs) ∧ sp [.ref a, x] H (fun v H' => ∃ k, v = .bl k ∧ Q (.bl k) H') E0
theorem op_inOwn (M : Mf X.prog X.w X.K X.mg X.base k C "__contains__" ps sp) (hr : Room k X.A) : OpR X (compareOp .In) (rInOwn C sp) := by
  intro pins s σ H x y v u Q I rx ry h
  obtain ⟨a, dx, fs, rfl, ha, q⟩ := h
  cases (show u = Value.ref a from ry)
  obtain ⟨f, fd, F, bb, hm⟩ := M.fn
  obtain ⟨ox, od, J⟩ := ins_at I ha
  obtain ⟨m, hF⟩ := I.fr
  refine PySem.W.in_K hF I.ok.mod.kin J hm.at_ hm.fn ?_
  refine wpAny_mono (run_fn (us := [.ref a, v]) (vs := [.ref a, x]) F hr bb .nil pass0 I (.cons rfl (.cons rx .nil)) (by rw [List.append_nil]; exact q)) (fun z s' hz => ?_) fun _ _ z => z
  obtain ⟨y', H', I', r', k, rfl, q'⟩ := hz
  cases r'
  exact wpAny_truthy_bool ⟨.bl k, H', I', rfl, q'⟩
/-! ### an own == with a value of a built-in type -/
def rEqOwnT (K : PySem.W.Frag) (C : Addr) (sp : Sp) : R2 := fun x y H Q => ∃ a dx fs t, x = .ref a ∧ H a = some (.ins C dx fs) ∧ TyX K H y t ∧ PySem.W.notFirst K C t = true ∧ sp [.ref a, y] H (fun v H' => ∃ k, v = .bl k ∧ Q (.bl k) H') E0
def rNeOwnT (K : PySem.W.Frag) (C : Addr) (sp : Sp) : R2 := fun x y H Q => ∃ a dx fs t, x = .ref a ∧ H a = some (.ins C dx fs) ∧ TyX K H y t ∧ PySem.W.notFirst K C t = true ∧ sp [.ref a, y] H (fun v H' => ∃ k, v = .bl k ∧ Q (.bl (!k)) H') E0
theorem op_eqOwnT (M : Mf X.prog X.w X.K X.mg X.base k C "__eq__" ps sp) (hr : Room k X.A) : OpR X (compareOp .Eq) (rEqOwnT X.K C sp) := by
  intro pins s σ H x y v u Q I rx ry h
  obtain ⟨a, dx, fs, t, rfl, ha, ty, hn, q⟩ := h
  cases (show v = Value.ref a from rx)
  obtain ⟨f, fd, F, bb, hm⟩ := M.fn
  obtain ⟨ox, od, J⟩ := ins_at I ha
  obtain ⟨Pz, Z, p, _⟩ := kit_of I ry ty
  obtain ⟨m, hF⟩ := I.fr
  refine PySem.W.cmp_K (op := .Eq) (tb := t) hr.units0 hF I.ok.mod.kin J (Z.ty _ _ I.kIn p) hn hm.at_ hm.fn ?_
  refine wpAny_mono (run_fn (us := [.ref a, u]) (vs := [.ref a, y]) F hr bb .nil pass0 I (.cons rfl (.cons ry .nil)) (by rw [List.append_nil]; exact q)) (fun z s' hz => ?_) fun _ _ z => z
  obtain ⟨y', H', I', r', k, rfl, q'⟩ := hz
  cases r'
  exact ⟨.bl k, H', I', rfl, q'⟩
theorem op_neOwnT (M : Mf X.prog X.w X.K X.mg X.base k C "__eq__" ps sp) (hr : Room (k + 1) X.A) (hmr : PySem.W.mroIn X.K C (.type "object") = some true) (hne : PySem.W.findIn X.K (.ref C) "__ne__" = some (some (.builtin "object.__ne__"))) : OpR X (compareOp .NotEq) (rNeOwnT X.K C sp) := by
  intro pins s σ H x y v u Q I rx ry h
  obtain ⟨a, dx, fs, t, rfl, ha, ty, hn, q⟩ := h
  cases (show v = Value.ref a from rx)
  obtain ⟨f, fd, F, bb, hm⟩ := M.fn
  obtain ⟨ox, od, J⟩ := ins_at I ha
  obtain ⟨Pz, Z, p, _⟩ := kit_of I ry ty
  obtain ⟨m, hF⟩ := I.fr
  have bd := bb s [.ref a, u] I.kIn (by rw [List.append_nil]; exact F.len _ _ _ _ q)
  rw [List.append_nil] at bd
  refine ne_own (tb := t) (by have := hr.units; omega) I.kIn J (Z.ty _ _ I.kIn p) hn hmr hne hm.at_ hm.fn ?_
  refine wpAny_call (codeAny_mono (F.run X.A.in1 X.stack s H ⟨[.ref a, u], []⟩ [.ref a, u] [.ref a, y] _ E0 hr.in1 I.env0.in1 bd (.cons rfl (.cons ry .nil)) q) fun z s' hq => ?_)
  cases z with
  | error e => exact pass0 pins σ H s e s' I hq
  | ok fl => cases fl with
    | ret u =>
      obtain ⟨v, H', I3, rv, k, rfl, q3⟩ := I.after hq
      cases rv
      exact ⟨k, rfl, .bl (!k), H', I3, rfl, q3⟩
    | _ => exact False.elim hq
end
def cTup (K : PySem.W.Frag) : List V → Hp → VK → Prop := fun xs H Q => ∃ p ys, xs = [.ref p] ∧ ((SqL K H p ys ∧ ∀ l, H l = none → Q (.ref l) (upd H l (.tup ys))) ∨ (SqT K H p ys ∧ Q (.ref p) H))
theorem call_tupA {X : Cx} : CallR X (.type "tuple") (cTup X.K) := call_tuple_of
def cStrI : List V → Hp → VK → Prop := fun xs H Q => ∃ i, xs = [.int i] ∧ i.natAbs.log2 < 1920 ∧ Q (.str (toString i)) H
theorem call_strA {X : Cx} : CallR X (.type "str") cStrI := call_str_int
/-! ### repr of a list, a tuple or a truth -/
def cReprB (K : PySem.W.Frag) : List V → Hp → VK → Prop := fun xs H Q => (∃ b : Bool, xs = [.bl b] ∧ Q (.str (if b then "True" else "False")) H) ∨ cRepr K xs H Q
theorem call_reprB {X : Cx} (hg : X.A.guards = some []) (hu : X.A.units + 64 < cLine) : CallR X (.builtin "repr") (cReprB X.K) := by
  intro pins s σ H xs us Q I r h
  rcases h with ⟨b, rfl, q⟩ | h
  · obtain ⟨u, rfl, r1⟩ := vals1 r
    cases r1
    exact PySem.P.repr_of_bool ⟨.str _, H, I.tok _, ⟨_, rfl⟩, q⟩
  · exact call_reprA hg hu pins s σ H xs us Q I r h
theorem pe_revLK {X : Cx} (K : PySem.W.Frag) {e : Expr} {te : TE} {k : Nat} {p1 p2 p3 pos : Pos} (he : PE X e te) (hK : X.K = K := by rfl) : PE X (.Subscript e (.Slice none none (some (.UnaryOp .USub (.Constant (.int 1) k p1) p2)) p3) pos) (tRevL K te) := hK ▸ pe_revL he
theorem big_pick {l : List (Addr × List V)} {p : Addr} {xs : List V} (h : (p, xs) ∈ l) : ∃ l', (∀ {R H}, Sep (big l :: R) H → Sep (pt p (.lst xs) :: big l' :: R) H) ∧ (∀ {R H}, Sep (pt p (.lst xs) :: big l' :: R) H → Sep (big l :: R) H) := by
  obtain ⟨l1, l2, rfl⟩ := List.append_of_mem h
  refine ⟨l1 ++ l2, fun {R H} S => ?_, fun {R H} S => ?_⟩
  · have S := S.flat
    rw [List.map_append, List.map_cons, List.append_assoc, List.cons_append] at S
    have S : Sep (pt p (.lst xs) :: ((l1.map fun p : Addr × List V => pt p.1 (.lst p.2)) ++ ((l2.map fun p : Addr × List V => pt p.1 (.lst p.2)) ++ R))) H := (pick_mid _).go S
    refine Sep.cons_mono (fun _ S => Sep.unflat (As := (l1 ++ l2).map fun p : Addr × List V => pt p.1 (.lst p.2)) ?_) S
    rw [List.map_append, List.append_assoc]
    exact S
  · have S1 : Sep (pt p (.lst xs) :: (((l1 ++ l2).map fun p : Addr × List V => pt p.1 (.lst p.2)) ++ R)) H := S.cons_mono fun _ => Sep.flat
    rw [List.map_append, List.append_assoc] at S1
    have S2 := (pick_mid _).back S1
    refine Sep.unflat (As := (l1 ++ (p, xs) :: l2).map fun p : Addr × List V => pt p.1 (.lst p.2)) ?_
    rw [List.map_append, List.append_assoc]
    exact S2
section
variable {K : PySem.W.Frag} {σ : L2.St} {H : Hp} {Q : VK} {te : TE} {a : Addr} {xs : List V} {Ps : List SP} {n : Int}
def kRevL (K : PySem.W.Frag) (Q : VK) : V → Hp → Prop := fun x H1 => ∃ a xs, x = .ref a ∧ SqL K H1 a xs ∧ ∀ p, H1 p = none → Q (.ref p) (upd H1 p (.lst xs.reverse))
theorem r_revL (h : te σ H (kRevL K Q)) : tRevL K te σ H Q := h
theorem r_revLk (S : Sep Ps H) (s : SqL K H a xs) (h : ∀ p H', Sep (pt p (.lst xs.reverse) :: Ps) H' → Q (.ref p) H') : kRevL K Q (.ref a) H := ⟨a, xs, rfl, s, fun p np => h p _ (S.new _ np)⟩
theorem r_tupOf (S : Sep Ps H) (s : SqL K H a xs) (h : ∀ p H', Sep (pt p (.tup xs) :: Ps) H' → Q (.ref p) H') : cTup K [V.ref a] H Q := ⟨a, xs, rfl, .inl ⟨s, fun p np => h p _ (S.new _ np)⟩⟩
theorem r_strI (hz : n.natAbs.log2 < 1920) (h : Q (.str (toString n)) H) : cStrI [V.int n] H Q := ⟨n, rfl, hz, h⟩
theorem in_ints {i : Int} : ∀ ns : List Int, inV (.int i) (ns.map V.int) = decide (i ∈ ns)
  | [] => rfl
  | n :: ns => by
    have ih := in_ints (i := i) ns
    unfold inV at ih ⊢
    rw [List.map_cons, List.any_cons, ih]
    show ((n == i) || _) = _
    by_cases e : n = i
    · subst e; simp
    · have : (n == i) = false := beq_eq_false_iff_ne.mpr e
      rw [this, Bool.false_or]
      refine decide_eq_decide.mpr ⟨List.mem_cons_of_mem _, fun m => (List.mem_cons.mp m).resolve_left fun q => e q.symm⟩
theorem flat_ints : ∀ ns : List Int, (ns.map V.int).all flatV = true
  | [] => rfl
  | n :: ns => by rw [List.map_cons, List.all_cons, flat_ints ns]; rfl
theorem r_in_ints {i : Int} {ns : List Int} (s : SqL K H a (ns.map V.int)) (h : Q (.bl (decide (i ∈ ns))) H) : rIn K false (.int i) (.ref a) H Q := ⟨a, _, rfl, .inl s, rfl, flat_ints ns, by rw [in_ints]; exact h⟩
end
end Kt

set_option Elab.async false
set_option linter.all false
set_option maxRecDepth 100000
namespace Kt
open PySem PySem.Spec L2 PyProof.Rows
/-! ### what isinstance asks of a def: its __class__ -/
theorem fk_slot : Slot "function" "__getattribute__" "object.__getattribute__" :=
  .of (n := "__getattribute__") (owner := "object") (by rw [typeLookup_type, builtinLookup_eq_fast]; kernel_rfl) (by decide +kernel) (by decide +kernel) (by decide +kernel) (by first | exact .inl (by decide +kernel) | exact .inr (by decide +kernel)) (by rw [isSubtype_type]; kernel_rfl)
theorem fk_look : typeLookup (.type "function") "__class__" = pure (some (.builtin "object.__class__")) := by rw [typeLookup_type, builtinLookup_eq_fast]; kernel_rfl
theorem fk_owner : isSubtype (.type "function") (.type (".".intercalate ("object.__class__".cutAt '.').dropLast)) = pure true := by rw [PySem.F.owner_object_class, isSubtype_type]; kernel_rfl
section
variable {P : Program} {w : World} {A : Around} {E : Value → Shared → Prop} {hp : Heap} {gs : Array GenState} {dr : Drawn} {n : Nat} {os : OsState} {f : Addr} {ob : Obj}
theorem fk_get {R : Result → Shared → Prop} (e1 : hp.get? f = some ob) (e2 : ob.cls = .type "function") (q : R (.ok (.ret (.type "function"))) ⟨hp, gs, dr, n, os⟩) : codeAny (model P w) A (.call (.builtin "getset_descriptor.__get__") ⟨[.builtin "object.__class__", .ref f, .type "function"], []⟩) R ⟨hp, gs, dr, n, os⟩ := by
  have t1 : (⟨hp, gs, dr, n, os⟩ : Shared).TypeIs (.ref f) "function" := ⟨_, e1, e2⟩
  have t2 : (⟨hp, gs, dr, n, os⟩ : Shared).TypeIs (.builtin "object.__class__") "getset_descriptor" := PySem.F.typeOf_object_class
  have t3 := fk_owner
  refine codeAny_call_builtin PySem.F.slot_gs_get.plain PySem.F.entry_gs_get (PySem.F.slot_gs_get.check _ _ _ _ _ _ _ _ t2 (PySem.F.args_gs_get _ _ _) ?_)
  repeat (any_goals (first | assumption | wp_step))
  exact ⟨Code.quiet_builtin _ (by decide +kernel), codeAny_builtin PySem.F.entry_object_class (by repeat (any_goals (first | assumption | wp_step)))⟩
theorem fk_entry {tk : Tok} {Q : Fin → Shared → Prop} (e1 : hp.get? f = some ob) (e2 : ob.cls = .type "function") (q : Q (.done (.ret (.type "function"))) ⟨hp, gs, dr, n, os⟩) : wpAny (model P w) A (Builtin.«object.__getattribute__» ⟨[.ref f, .str "__class__" tk], []⟩) Q E ⟨hp, gs, dr, n, os⟩ := by
  have t1 : (⟨hp, gs, dr, n, os⟩ : Shared).TypeIs (.ref f) "function" := ⟨_, e1, e2⟩
  have t2 : (⟨hp, gs, dr, n, os⟩ : Shared).TypeIs (.builtin "object.__class__") "getset_descriptor" := PySem.F.typeOf_object_class
  have t3 := fk_look
  have t4 := PySem.F.typeOf_object_class
  have t5 := PySem.F.slot_gs_get.lookup
  have t6 := PySem.F.slot_gs_set.lookup
  repeat (any_goals (first | assumption | wp_step))
  refine fk_get e1 e2 ?_
  repeat (any_goals (first | assumption | wp_step))
theorem fk_by {tk : Tok} {Q : Value → Shared → Prop} (e1 : hp.get? f = some ob) (e2 : ob.cls = .type "function") (q : Q (.type "function") ⟨hp, gs, dr, n, os⟩) : wpAny (model P w) A (getAttrBy (.ref f) (.str "__class__" tk) false) Q E ⟨hp, gs, dr, n, os⟩ := by
  have t1 : (⟨hp, gs, dr, n, os⟩ : Shared).TypeIs (.ref f) "function" := ⟨_, e1, e2⟩
  have t2 := fk_slot.lookup
  have t3 := fk_slot.bind (.ref f)
  repeat (any_goals (first | assumption | wp_step))
  refine codeAny_call_builtin fk_slot.plain PySem.F.entry_object_getattribute (fk_slot.check _ _ _ _ _ _ _ _ (show (⟨hp, gs, dr, n, os⟩ : Shared).TypeIs (.ref f) "function" from t1) (PySem.F.args_object_getattribute_2 _ _) (fk_entry e1 e2 ?_))
  repeat (any_goals (first | assumption | wp_step))
theorem fk_attr {Q : Option Value → Shared → Prop} (e1 : hp.get? f = some ob) (e2 : ob.cls = .type "function") (q : Q (some (.type "function")) ⟨hp, gs, dr, n + 1, os⟩) : wpAny (model P w) A (getAttr? (.ref f) "__class__") Q E ⟨hp, gs, dr, n, os⟩ := by
  unfold getAttr? getAttrBy?
  repeat (any_goals (first | assumption | with_reducible apply fk_by e1 e2 | wp_step))
end
theorem kitx_fun {K : PySem.W.Frag} {f : Addr} : PySem.W.KitX K (.ref f) (.type "function") (PySem.W.KitAt f "function") :=
  PySem.W.kitx_of PySem.W.kitAt_ty (fun {_ _ _ _ _ s} p k => by obtain ⟨hp, gs, dr, n, os⟩ := s; obtain ⟨o, e1, e2⟩ := p; exact fk_attr e1 e2 k)
/-- the type of a value, of a def of the text too -/
def TyY (K : PySem.W.Frag) (H : Hp) (x : V) (t : Value) : Prop := TyX K H x t ∨ ∃ f o, x = .ref f ∧ t = .type "function" ∧ K.lookup f = some o ∧ o.cls = .type "function"
def rIsiY (K : PySem.W.Frag) : List V → Hp → VK → Prop := fun xs H Q => ∃ (x c : V) (t u : Value) (b : Bool), xs = [x, c] ∧ ClsV c u ∧ TyY K H x t ∧ PySem.W.kitOne K t u = some b ∧ Q (.bl b) H
theorem call_isiY {X : Cx} : CallR X (.builtin "isinstance") (rIsiY X.K) := by
  intro pins s σ H xs us Q I r h
  obtain ⟨x, c, t, u, b, rfl, hc, ty, e, q⟩ := h
  rcases ty with ty | ⟨f, o, rfl, rfl, hl, ho⟩
  · exact call_isi pins s σ H _ us Q I r ⟨x, c, t, u, b, rfl, hc, ty, e, q⟩
  · cases r with
    | cons rx rr =>
      cases rr with
      | cons rt rr =>
        cases rr
        cases rx
        have ec := hc.eq rt
        subst ec
        exact PySem.W.kia_one kitx_fun I.kIn ⟨o, I.kIn f o hl, ho⟩ e (fun z => nomatch z) fun tk => ⟨.bl b, H, I.tok _, rfl, q⟩
end Kt

set_option Elab.async false
set_option linter.all false
set_option maxRecDepth 100000
namespace Kt
open PySem PySem.Spec L2 PyProof.Rows
/-! ### methods and classes that may let an error out -/
structure MfX (P : Program) (w : World) (K : PySem.W.Frag) (mg : Str → Option Value) (base : Heap) (k : Nat) (C : Addr) (m : Str) (ps : List Str) (sp : Sp) : Prop where
  fn : ∃ f fd, FnOk P w K mg base (L2.CX P w) k f fd ps sp ∧ Binds K fd ps [] ∧ Meth K C m f
  cls : Cls K C
structure DfX (P : Program) (w : World) (K : PySem.W.Frag) (mg : Str → Option Value) (base : Heap) (k : Nat) (x : Str) (f : Addr) (ps : List Str) (sp : Sp) : Prop where
  fn : ∃ fd, FnOk P w K mg base (L2.CX P w) k f fd ps sp ∧ Binds K fd ps []
  at_ : mg x = some (.ref f)
  kp : PySem.W.keepIn K (.ref f) = true
structure CfX (P : Program) (w : World) (K : PySem.W.Frag) (mg : Str → Option Value) (base : Heap) (k : Nat) (x : Str) (C : Addr) (ps : List Str) (sp : Sp) : Prop where
  fn : ∃ f fd, FnOk P w K mg base (L2.CX P w) k f fd ps sp ∧ Binds K fd ps [] ∧ Mk K C f
  at_ : mg x = some (.ref C)
section
variable {P : Program} {w : World} {K : PySem.W.Frag} {mg : Str → Option Value} {base : Heap}
theorem Mt.okX {C : Addr} {x qual : Str} {st : Stmt} {f : Addr} {N ps : List Str} {k : Nat} {sp : Sp} (T : Mt K C x qual st ps f) (c : Cls K C) (S : FnScope N ps (defScope st)) (len : ∀ vs H Q E, sp vs H Q E → vs.length = ps.length)
    (hbody : ∀ (cdv : Value) (A : Around) (outer : List Env) (s : Shared) (H : Hp) (vs : List V) (Q : VK) (E : XK), Room k (A.deeper (envOfC qual (defScope st) s.heap.objs.size f cdv)) → sp vs H Q E →
      ∃ t, PSs (cxOf (L2.CX P w) P w K mg base N qual (defScope st) f cdv A outer s H E) (defBody st) t ∧ t { nx := fun _ H' => Q .non H', rt := Q } (start N vs) H) : MfX P w K mg base (k + 1) C x ps sp := by
  obtain ⟨fd, F, b⟩ := T.fn
  exact ⟨⟨f, fd, F.okX S len hbody, b, T.at_⟩, c⟩
theorem Dt.okX {x : Str} {st : Stmt} {f : Addr} {N ps : List Str} {k : Nat} {sp : Sp} (T : Dt K mg x st ps f) (S : FnScope N ps (defScope st)) (len : ∀ vs H Q E, sp vs H Q E → vs.length = ps.length)
    (hbody : ∀ (cdv : Value) (A : Around) (outer : List Env) (s : Shared) (H : Hp) (vs : List V) (Q : VK) (E : XK), Room k (A.deeper (envOfC x (defScope st) s.heap.objs.size f cdv)) → sp vs H Q E →
      ∃ t, PSs (cxOf (L2.CX P w) P w K mg base N x (defScope st) f cdv A outer s H E) (defBody st) t ∧ t { nx := fun _ H' => Q .non H', rt := Q } (start N vs) H) : DfX P w K mg base (k + 1) x f ps sp := by
  obtain ⟨fd, F, b⟩ := T.fn
  exact ⟨⟨fd, F.okX S len hbody, b⟩, T.at_, F.kp⟩
theorem MfX.cf {C f : Addr} {x : Str} {ps : List Str} {k : Nat} {sp : Sp} (M : MfX P w K mg base k C "__init__" ps sp) (T : Ct K mg x C f) : CfX P w K mg base k x C ps sp := by
  obtain ⟨g, fd, F, b, m⟩ := M.fn
  have e : g = f := by
    have h1 := m.at_
    rw [T.mkr.init] at h1
    cases h1
    rfl
  subst e
  exact ⟨⟨g, fd, F, b, T.mkr⟩, T.at_⟩
end
section
variable {X : Cx} {k : Nat} {f C : Addr} {fd : FuncData} {ps : List Str} {sp : Sp} {E : L2.St → XK} {x m : Str} {p pos apos : Pos} {e o : Expr} {es : List Expr} {to : TE} {t : TA}
/-- C(e, ..) in a try -/
def tMakeS (C : Addr) (sp : Sp) (E : L2.St → XK) (t : TA) : TE := fun σ H Q => t σ H fun vs H1 => ∀ x dx, H1 x = none → H1 dx = none → dx ≠ x → sp (.ref x :: vs) (upd (upd H1 dx (.own x)) x (.ins C dx [])) (fun v H2 => v = .non ∧ Q (.ref x) H2) (E σ)
theorem pe_cfS (M : CfX X.prog X.w X.K X.mg X.base k x C ps sp) (hr : Room (k + 1) X.A) (hx : ∀ σ, PassesAt (L2.CX X.prog X.w) X σ (E σ)) (ha : PA X (e :: es) t) (hg : Gl X x := by rfl) (hd : (x == ("__debug__" : Str)) = false := by decide)
    (he : starEach (e :: es) X.env = (false, eval e X.env) :: starEach es X.env := by rfl) (hpl : (backTo pos (starEach es X.env)).any (·.1) = false := by rfl) : PE X (.Call (.Name x p) (e :: es) [] pos) (tMakeS C sp E t) := by
  obtain ⟨f, fd, F, b, M'⟩ := M.fn
  refine ⟨fun pins s σ H Q I h => ?_⟩
  refine wpAny_Call_Name_kw (ld_glob I hg M.at_ ?_ hd)
  refine PySem.W.callWith_K (h₀ := X.base) I.ok.mod.kin M'.kp (thn (ha.run pos pins s σ H _ I h) fun us s1 ⟨vs, H1, I1, r, q⟩ => ⟨I1.kIn, ?_⟩) he hpl
  have hq := q (s1.heap.objs.size + 1) s1.heap.objs.size (I1.hok.fresh (Nat.le_succ _)) (I1.hok.fresh (Nat.le_refl _)) (Nat.ne_of_lt (Nat.lt_succ_self _))
  have I2 := Inv.made (C := C) I1
  have r2 : Vals (V.ref (s1.heap.objs.size + 1) :: vs) (Value.ref (s1.heap.objs.size + 1) :: us) := .cons rfl r
  have hl : (Value.ref (s1.heap.objs.size + 1) :: us).length = ps.length := r2.length.symm.trans (F.len _ _ _ _ hq)
  have bd := b _ (Value.ref (s1.heap.objs.size + 1) :: us) I2.kIn (by rw [List.append_nil]; exact hl)
  rw [List.append_nil] at bd
  refine wpAny_call (make_map (f := f) I1.kIn M'.makes M'.init (beq_iff_eq.mp M'.fn) (codeAny_mono (F.run _ X.stack _ _ ⟨Value.ref (s1.heap.objs.size + 1) :: us, []⟩ (Value.ref (s1.heap.objs.size + 1) :: us) _ _ (E σ) (hr.make C us []) (I2.env0.make C us []) bd r2 hq) fun z s' hz => ?_))
  cases z with
  | error z => exact hx σ pins _ _ z s' I2 hz
  | ok fl => cases fl with
    | ret u =>
      obtain ⟨v, H', I3, rv, ev, q3⟩ := I2.after hz
      subst ev
      exact ⟨rv, ⟨V.ref (s1.heap.objs.size + 1), H', I3, rfl, q3⟩⟩
    | _ => exact False.elim hz
theorem pe_dfS (D : DfX X.prog X.w X.K X.mg X.base k x f ps sp) (hr : Room k X.A) (hx : ∀ σ, PassesAt (L2.CX X.prog X.w) X σ (E σ)) (ha : PA X (e :: es) t) (hg : Gl X x := by rfl) (hd : (x == ("__debug__" : Str)) = false := by decide)
    (he : starEach (e :: es) X.env = (false, eval e X.env) :: starEach es X.env := by rfl) (hpl : (backTo pos (starEach es X.env)).any (·.1) = false := by rfl) : PE X (.Call (.Name x p) (e :: es) [] pos) (tCallS sp E t) := by
  obtain ⟨fd, F, b⟩ := D.fn
  exact pe_callS F hr hg D.at_ D.kp b hx ha hd he hpl
/-- o.m(e, ..) in a try -/
def tMethE (C : Addr) (m : Str) (sp : Sp) (E : L2.St → XK) (to : TE) (t : TA) : TE := fun σ H Q => to σ H fun x H1 => ∃ a dx fs, x = .ref a ∧ H1 a = some (.ins C dx fs) ∧ fs.lookup m = none ∧ t σ H1 fun vs H2 => sp (x :: vs) H2 Q (E σ)
theorem r_makeS {σ : L2.St} {H : Hp} {Q : VK} (h : t σ H fun vs H1 => ∀ x dx, H1 x = none → H1 dx = none → dx ≠ x → sp (.ref x :: vs) (upd (upd H1 dx (.own x)) x (.ins C dx [])) (fun v H2 => v = .non ∧ Q (.ref x) H2) (E σ)) : tMakeS C sp E t σ H Q := h
end
/-! ### isinstance of the error that a suite holds, which has fields -/
structure ErC (K : PySem.W.Frag) (D : Addr) : Prop where
  cl : (PySem.W.clsIn K D).isSome = true
  ga : PySem.W.findIn K (.ref D) "__getattribute__" = some (some (.builtin "BaseException.__getattribute__"))
  gt : PySem.W.findIn K (.ref D) "__getattr__" = some none
  sb : PySem.W.subIn K (.ref D) (.type "BaseException") = some true
  ha : PySem.W.findIn K (.ref D) "__class__" = some (some (.builtin "object.__class__"))
  hn : PySem.W.specialIn K (.builtin "object.__class__") "__get__" = some (some (.builtin "getset_descriptor.__get__"))
  ht : PySem.W.takesIn K (.builtin "object.__class__") = some true
  hm : PySem.W.mroIn K D (.type "object") = some true
def rIsED (K : PySem.W.Frag) (D a : Addr) (cls : Value) (d : Option Addr) : List V → Hp → VK → Prop := fun xs H Q => ∃ (c : V) (cv : Value) (b : Bool) (dd : Addr) (fs : List (Str × V)), xs = [.ref a, c] ∧ ClsV c cv ∧ cls = .ref D ∧ d = some dd ∧ H dd = some (.xd fs) ∧ PySem.W.kitOne K (.ref D) cv = some b ∧ Q (.bl b) H
theorem call_isED {X : Cx} {a D : Addr} {oe : Obj} {cls : Value} {d : Option Addr} {pn : List (Addr × Obj)} (T : ErC X.K D) (hz : Zc cls d oe) (hf : ∃ vs, oe.data = .fields vs) : CallR (X.suite a ((a, oe) :: pn)) (.builtin "isinstance") (rIsED X.K D a cls d) := by
  intro pins s σ H xs us Q I r h
  obtain ⟨c, cv, b, dd, fs, rfl, hc, ec, ed, ea, e, q⟩ := h
  subst ec
  subst ed
  cases r with
  | cons rx rr =>
    cases rr with
    | cons rt rr =>
      cases rr
      cases rx
      have e2 := hc.eq rt
      subst e2
      obtain ⟨hget, _⟩ := I.pin (a, oe) (List.mem_append.mpr (.inl List.mem_cons_self))
      obtain ⟨vs, hv⟩ := hf
      have hx : ObjOk X.prog X.w H s.heap dd (.xd fs) := I.hok dd _ ea
      obtain ⟨mA, hns, hr⟩ := hx
      obtain ⟨od, ho, hl⟩ := lookIn_ns hns
      have J : PySem.W.InstAt s.heap a oe D (some od) := ⟨hget, hz.1, by unfold PySem.W.notCls; rw [hv] <;> rfl, by rw [hz.2]; exact ho⟩
      exact PySem.W.kia_one (PySem.W.kitx_exc T.cl T.ga T.gt T.sb T.ha T.hn T.ht T.hm) I.kIn J e (fun z => nomatch z) fun tk => ⟨.bl b, H, I.tok _, rfl, q⟩
end Kt

set_option Elab.async false
set_option linter.all false
set_option maxRecDepth 100000
namespace Kt
open PySem PySem.Spec PySem.W L2 PyProof.Rows
section
variable {X : Cx} {k : Nat} {C : Addr} {ps : List Str} {sp : Sp} {fe e : Expr} {es : List Expr} {tf : TE} {t : TA} {pos : Pos}
/-- f(e, ..), f any expression that gives an instance of C -/
def tCallE (C : Addr) (sp : Sp) (tf : TE) (t : TA) : TE := fun σ H Q => tf σ H fun x H0 => ∃ a, x = .ref a ∧ t σ H0 fun vs H1 => ∃ dx fs, H1 a = some (.ins C dx fs) ∧ sp (.ref a :: vs) H1 Q E0
theorem pe_mfE (M : Mf X.prog X.w X.K X.mg X.base k C "__call__" ps sp) (hfn : ∀ f, findIn X.K (.ref C) "__call__" = some (some (.ref f)) → fnIn X.K f = true) (hr : Room k X.A) (hf : PE X fe tf) (ha : PA X (e :: es) t)
    (hc : eval (.Call fe (e :: es) [] pos) X.env = (do callWith pos (← eval fe X.env) [] (backTo pos (starEach (e :: es) X.env)) (backToKw pos (keywordEach [] X.env))) := by rfl)
    (he : starEach (e :: es) X.env = (false, eval e X.env) :: starEach es X.env := by rfl) (hpl : (backTo pos (starEach es X.env)).any (·.1) = false := by rfl) : PE X (.Call fe (e :: es) [] pos) (tCallE C sp tf t) := by
  obtain ⟨f, fd, F, b, hm⟩ := M.fn
  refine ⟨fun pins s σ H Q I h => ?_⟩
  refine PyProof.Rows.Call_ (thn (hf.run pins s σ H _ I h) fun u s1 ⟨v, H1, I1, r1, a, ev, q1⟩ => ?_) hc
  subst ev
  cases r1
  have h2 : wpAny (model X.prog X.w) X.A (spliced (backTo pos (starEach (e :: es) X.env))) (fun vs s2 => (∃ dx, s2.heap.get? a = some (PySem.W.instObj C dx)) ∧ wpAny (model X.prog X.w) X.A (call (.ref a) ([] ++ vs)) (EP X pins σ Q) X.xe s2) X.xe s1 :=
    thn (ha.run pos pins s1 σ _ _ I1 q1) fun us s2 ⟨vs, H2, I2, r, dx, fs, hH, q⟩ => by
      obtain ⟨mA, O, _⟩ := ins_get I2.hok hH
      refine ⟨⟨dx, O.obj⟩, ?_⟩
      obtain ⟨od, J, _⟩ := O.look
      obtain ⟨of_, fd2, hl, hd2⟩ := fn_found I2.kIn (hfn f hm.at_)
      have rr : Vals (V.ref a :: vs) (Value.ref a :: us) := .cons rfl r
      have ln : (Value.ref a :: us).length = ps.length := by rw [← rr.length]; exact F.len _ _ _ _ q
      have bd := b s2 (.ref a :: us) I2.kIn (by rw [List.append_nil]; exact ln)
      rw [List.append_nil] at bd
      refine wpAny_call (callee_inst I2.kIn J hm.at_ hm.fn hl hd2 (codeAny_mono (F.run X.A X.stack s2 H2 ⟨.ref a :: us, []⟩ (.ref a :: us) (.ref a :: vs) Q E0 hr I2.env0 bd rr q) fun r s' hq => ?_))
      cases r with
      | error z => exact pass0 pins σ H2 s2 z s' I2 hq
      | ok fl => cases fl with
        | ret u => exact I2.after hq
        | _ => exact False.elim hq
  rw [he] at h2 ⊢
  exact callWith_inst (P := fun h => ∃ dx, h.get? a = some (PySem.W.instObj C dx)) (by show ((false || (backTo pos (starEach es X.env)).any (·.1)) || false) = false; rw [hpl]; rfl) (fun h ⟨dx, q⟩ => keeper_inst q) (Calls.evalArgs_plain h2)
end
section
variable {K : Frag} {σ : L2.St} {H : Hp} {Q : VK} {tf : TE} {t : TA} {C a dx : Addr} {sp : Sp} {fs : List (Str × V)} {xs : List V} {Ps Qs : List SP} {n : Int}
theorem r_callE (h : tf σ H fun x H0 => ∃ a, x = .ref a ∧ t σ H0 fun vs H1 => ∃ dx fs, H1 a = some (.ins C dx fs) ∧ sp (.ref a :: vs) H1 Q E0) : tCallE C sp tf t σ H Q := h
/-- repr of a whole number, a list, a tuple -/
def cReprI (K : Frag) : List V → Hp → VK → Prop := fun xs H Q => (∃ i : Int, xs = [.int i] ∧ i.natAbs.log2 < 1920 ∧ Q (.str (toString i)) H) ∨ cRepr K xs H Q
theorem call_reprI {X : Cx} (hg : X.A.guards = some []) (hu : X.A.units + 64 < cLine) : CallR X (.builtin "repr") (cReprI X.K) := by
  intro pins s σ H xs us Q I r h
  rcases h with ⟨i, rfl, hz, q⟩ | h
  · obtain ⟨u, rfl, t, rfl⟩ := vals1 r
    exact PySem.P.repr_of_int hz ⟨.str _, H, I.tok _, ⟨_, rfl⟩, q⟩
  · exact call_reprA hg hu pins s σ H xs us Q I r h
theorem r_rep2 (S : Sep Ps H) (s : H a = some (.lst xs)) (h1 : 0 ≤ n) (h2 : n ≤ 10000) (hz : xs.length ≤ 10) (h : ∀ p H', Sep (pt p (.lst (List.replicate n.toNat xs).flatten) :: Ps) H' → Q (.ref p) H') : rMulA (.ref a) (.int n) H Q :=
  .inr ⟨a, n, xs, rfl, rfl, s, by omega, by omega, Nat.le_trans (Nat.mul_le_mul hz (show n.toNat ≤ 10000 by omega)) (by decide), fun p np => h p _ (S.new _ np)⟩
theorem ty_sq (s : SqL K H a xs) : TyX K H (.ref a) (.type "list") := by
  rcases s with (h | ⟨o, h⟩) | ⟨o, its, n, h, hc, _⟩
  · exact .base (.lst h)
  · exact .base (.frz h)
  · exact .kList h hc
theorem r_isiY {x : V} {T B : String} {k : Bool} (ty : TyX K H x (.type T)) (e : kitB T B = some k) (h : Q (.bl k) H) : rIsiY K [x, .ty B] H Q := ⟨x, .ty B, _, _, k, rfl, .ty B, .inl ty, kit_ty e, h⟩
theorem r_dispP {Ps : List SP} {trs : List (TE × TE)} (S : Sep Ps H) (h : ∀ p H', Sep (pt p (.dK []) :: Ps) H' → tPairs trs σ H' fun ps H2 => H2 p = some (.dK []) ∧ ∃ kvs : List (Key × V), ps = kvs.map (fun kv => (kV kv.1, kv.2)) ∧ kvs.length ≤ 15 ∧ Q (.ref p) (upd H2 p (.dK (mergeK [] kvs)))) : tDisp trs σ H Q := fun p np => h p _ (S.new _ np)
theorem log_ok {i : Int} (h : i.natAbs < 10 ^ 60) : i.natAbs.log2 < 1920 := by
  by_cases e : i.natAbs = 0
  · rw [e]; decide
  · exact Nat.lt_trans ((Nat.log2_lt (n := i.natAbs) (k := 200) e).mpr (Nat.lt_trans h (by decide))) (by decide)
end
/-! ### facts of error classes -/
section
variable {K : Frag} {A B : Addr}
theorem er_cls {r : Option Bool} (i : isClsIn K B = true) (t : typeIn K (.ref B) = some (.type "type")) (m : mroIn K A (.ref B) = r) : kitCls K (.ref A) (.ref B) = r := by
  unfold kitCls
  show (if _ then _ else _) = _
  rw [t, show (clsIn K B).isSome = true from i]
  simpa using (show subIn K (.ref A) (.ref B) = r from m)
theorem er_exm (b : subIn K (.ref B) (.type "BaseException") = some true) (i : isClsIn K B = true) (t : typeIn K (.ref B) = some (.type "type")) (m : mroIn K A (.ref B) = some true) : exmOne K (.ref A) (.ref B) = some true := by
  unfold exmOne
  rw [b]
  exact (if_pos rfl).trans (er_cls i t m)
theorem er_self : kitOne K (.ref A) (.ref A) = some true := by
  unfold kitOne
  simp
theorem er_ne (m1 : mroIn K A (.ref A) = some true) (m2 : mroIn K A (.ref B) = some false) (i : isClsIn K B = true) (t : typeIn K (.ref B) = some (.type "type")) : kitOne K (.ref A) (.ref B) = some false := by
  have hne : A ≠ B := fun e => by
    subst e
    rw [m1] at m2
    cases m2
  have e : ((Value.ref A) == (Value.ref B)) = false := beq_eq_false_iff_ne.mpr fun q => hne (Value.ref.inj q)
  unfold kitOne
  rw [e, if_neg Bool.false_ne_true]
  exact er_cls i t m2
end
end Kt

set_option Elab.async false
set_option linter.all false
set_option maxRecDepth 100000
namespace Kt
open PySem L2 PyProof.Rows
/-! ### a part that only grows: what is known of values is told of it -/
def hp (G : Hp) : SP := fun G' => Le G G'
theorem Le.rfl {G : Hp} : Le G G := fun _ _ e => e
theorem Le.tr {A B C : Hp} (h : Le A B) (h2 : Le B C) : Le A C := fun a o e => h2 a o (h a o e)
section
variable {K : PySem.W.Frag} {G G' H : Hp} {R : List SP} {p : Addr} {o : HO} {v : V} {d : PyData} {vs : List V} {ds : List PyData}
theorem hp_le (S : Sep (hp G :: R) H) : Le G H := by
  obtain ⟨g, l, h, _⟩ := S
  exact fun a u e => l a u (h a u e)
theorem hp_nil (S : Sep R H) : Sep (hp (fun _ => none) :: R) H :=
  ⟨fun _ => none, fun _ _ (e : (none : Option HO) = some _) => (Option.noConfusion rfl (heq_of_eq e)), fun _ _ (e : (none : Option HO) = some _) => (Option.noConfusion rfl (heq_of_eq e)), S.mono fun a o e => by rw [sub_of rfl]; exact e⟩
theorem hp_add (S : Sep (pt p o :: hp G :: R) H) : ∃ G', Le G G' ∧ G' p = some o ∧ Sep (hp G' :: R) H := by
  have S0 := Sep.unflat (As := [pt p o, hp G]) S
  obtain ⟨g, l, ⟨g1, l1, h1, g2, l2, h2, _⟩, r⟩ := S0
  refine ⟨g, fun a u e => (sub_some (l2 a u (h2 a u e))).2, l1 p o h1, g, l, fun _ _ e => e, r⟩
theorem dp_lst (l : Le G G') (e : G' p = some (.lst vs)) (h : DpAll K G vs ds) : Dp K G' (.ref p) (.list ds) := .lst (SqL.of e) (DpAll.le l _ _ h)
theorem dp_tup (l : Le G G') (e : G' p = some (.tup vs)) (h : DpAll K G vs ds) : Dp K G' (.ref p) (.tuple ds) := .tup (SqT.of e) (DpAll.le l _ _ h)
/-- a new list, a new tuple join the part -/
theorem hp_lst (S : Sep (pt p (.lst vs) :: hp G :: R) H) (h : DpAll K G vs ds) : ∃ G', Le G G' ∧ Dp K G' (.ref p) (.list ds) ∧ Sep (hp G' :: R) H := by
  obtain ⟨G', l, e, S⟩ := hp_add S
  exact ⟨G', l, dp_lst l e h, S⟩
theorem hp_tup (S : Sep (pt p (.tup vs) :: hp G :: R) H) (h : DpAll K G vs ds) : ∃ G', Le G G' ∧ Dp K G' (.ref p) (.tuple ds) ∧ Sep (hp G' :: R) H := by
  obtain ⟨G', l, e, S⟩ := hp_add S
  exact ⟨G', l, dp_tup l e h, S⟩
theorem dp_tupInv (h : Dp K G v (.tuple ds)) : ∃ a xs, v = .ref a ∧ SqT K G a xs ∧ DpAll K G xs ds := by
  cases h with
  | tup s t => exact ⟨_, _, rfl, s, t⟩
theorem dp_lstInv (h : Dp K G v (.list ds)) : ∃ a xs, v = .ref a ∧ SqL K G a xs ∧ DpAll K G xs ds := by
  cases h with
  | lst s t => exact ⟨_, _, rfl, s, t⟩
theorem dp_strInv {x : Str} (h : Dp K G v (.str x)) : v = .str x := by cases h; rfl
theorem dp_intInv {i : Int} (h : Dp K G v (.int i)) : v = .int i := by cases h; rfl
theorem dpall_len : ∀ {vs : List V} {ds : List PyData}, DpAll K G vs ds → vs.length = ds.length
  | _, _, .nil => rfl
  | _, _, .cons _ t => by rw [List.length_cons, List.length_cons, dpall_len t]
theorem dpall_at : ∀ {vs : List V} {ds : List PyData}, DpAll K G vs ds → ∀ {i : Nat} {x : V}, vs[i]? = some x → ∃ d, ds[i]? = some d ∧ Dp K G x d
  | _, _, .nil, i, x, h => by simp at h
  | _, _, .cons h t, 0, x, e => by simp at e; subst e; exact ⟨_, by simp, h⟩
  | _, _, .cons h t, i + 1, x, e => by
    rw [List.getElem?_cons_succ] at e ⊢
    exact dpall_at t e
theorem dpall_atD : ∀ {vs : List V} {ds : List PyData}, DpAll K G vs ds → ∀ {i : Nat} {d : PyData}, ds[i]? = some d → ∃ x, vs[i]? = some x ∧ Dp K G x d
  | _, _, .nil, i, x, h => by simp at h
  | _, _, .cons h t, 0, x, e => by simp at e; subst e; exact ⟨_, by simp, h⟩
  | _, _, .cons h t, i + 1, x, e => by
    rw [List.getElem?_cons_succ] at e ⊢
    exact dpall_atD t e
theorem dpall_snoc (h : DpAll K G vs ds) (h2 : Dp K G v d) : DpAll K G (vs ++ [v]) (ds ++ [d]) := dpall_app h (.cons h2 .nil)
theorem dpall_take (n : Nat) : ∀ {vs : List V} {ds : List PyData}, DpAll K G vs ds → DpAll K G (vs.take n) (ds.take n) := by
  induction n with
  | zero => intro vs ds _; rw [List.take_zero, List.take_zero]; exact .nil
  | succ n ih =>
    intro vs ds h
    cases h with
    | nil => exact .nil
    | cons h t => exact .cons h (ih t)
theorem dpall_drop (n : Nat) : ∀ {vs : List V} {ds : List PyData}, DpAll K G vs ds → DpAll K G (vs.drop n) (ds.drop n) := by
  induction n with
  | zero => intro vs ds h; exact h
  | succ n ih =>
    intro vs ds h
    cases h with
    | nil => exact .nil
    | cons h t => exact ih t
theorem dpall_strs : ∀ xs : List Str, DpAll K G (xs.map V.str) (xs.map PyData.str)
  | [] => .nil
  | x :: xs => .cons (.str x) (dpall_strs xs)
theorem dpall_strsInv : ∀ {xs : List Str} {vs : List V}, DpAll K G vs (xs.map PyData.str) → vs = xs.map V.str
  | [], _, h => by cases h; rfl
  | x :: xs, _, h => by
    rw [List.map_cons] at h
    cases h with
    | cons h t => rw [dp_strInv h, dpall_strsInv t]; rfl
theorem flat_strs : ∀ xs : List Str, (xs.map V.str).all flatV = true
  | [] => rfl
  | x :: xs => by rw [List.map_cons, List.all_cons, flat_strs xs]; rfl
theorem in_strs {x : Str} : ∀ xs : List Str, inV (.str x) (xs.map V.str) = decide (x ∈ xs)
  | [] => rfl
  | y :: xs => by
    have ih := in_strs (x := x) xs
    unfold inV at ih ⊢
    rw [List.map_cons, List.any_cons, ih]
    show ((y == x) || _) = _
    by_cases e : y = x
    · subst e; simp
    · have : (y == x) = false := beq_eq_false_iff_ne.mpr e
      rw [this, Bool.false_or]
      refine decide_eq_decide.mpr ⟨List.mem_cons_of_mem _, fun m => (List.mem_cons.mp m).resolve_left fun q => e q.symm⟩
end
/-! ### comprehensions whose source and items are data -/
section
variable {K : PySem.W.Frag} {σ : L2.St} {H : Hp} {Q : VK} {a : Addr} {xs : List V} {ds : List PyData} {g : TG} {tt : TT} {te : TE} {vs : List Nat} {G : Hp} {R : List SP}
/-- one turn over the item d: what it gives, if anything -/
def LcT (K : PySem.W.Frag) (G : Hp) (R : List SP) (g : TG) (tt : TT) (te : TE) (vs : List Nat) (σ : L2.St) (d : PyData) (e : Option PyData) : Prop := ∀ D acc Gi x H (N : Hp → Prop), Le G Gi → Dp K Gi x d → acc.length < 90000 → Sep (pt D (.lst acc) :: hp Gi :: R) H →
  (∀ y z G' H4, Le Gi G' → e = some z → Dp K G' y z → Sep (pt D (.lst acc) :: hp G' :: R) H4 → ∃ acc, H4 D = some (.lst acc) ∧ acc.length < sizeLine ∧ N (upd H4 D (.lst (acc ++ [y])))) → (e = none → ∀ H3, Sep (pt D (.lst acc) :: hp Gi :: R) H3 → N H3) →
  g x (wipe σ vs) H fun σ2 H2 => wipe σ2 vs = wipe σ vs ∧ tt σ2 H2 fun b H3 => if b = true then te σ2 H3 fun y H4 => ∃ acc, H4 D = some (.lst acc) ∧ acc.length < sizeLine ∧ N (upd H4 D (.lst (acc ++ [y]))) else N H3
section
variable {α β : Type} {l : List α} {enc : α → PyData} {enc2 : β → PyData} {f : α → Option β}
theorem lcd_step {i : Nat} {x : α} (e : l[i]? = some x) : ((l.take (i + 1)).filterMap f).map enc2 = ((l.take i).filterMap f).map enc2 ++ (match f x with | some z => [enc2 z] | none => []) := by
  rw [List.take_add_one, e, List.filterMap_append, List.map_append]
  cases q : f x with
  | none => simp [q]
  | some z => simp [q]
theorem r_lcL (S : Sep (hp G :: R) H) (hx : Dp K G (.ref a) (.list (l.map enc))) (hl : l.length ≤ 80000) (f : α → Option β) (enc2 : β → PyData) (turn : ∀ x ∈ l, LcT K G R g tt te vs σ (enc x) ((f x).map enc2))
    (fin : ∀ D acc G' H', Le G G' → DpAll K G' acc ((l.filterMap f).map enc2) → Sep (pt D (.lst acc) :: hp G' :: R) H' → Q (.ref D) H') : ∃ a', V.ref a = .ref a' ∧ (∃ xs, SqL K H a' xs) ∧ LcW (Itl K a') g tt te vs Q σ H := by
  obtain ⟨a', xs, ea, hs, ha⟩ := dp_lstInv hx
  cases ea
  have hlen : xs.length = l.length := by rw [dpall_len ha, List.length_map]
  refine r_lc_list (xs := xs) (fun i acc Ps => ∃ Gi, Le G Gi ∧ Ps = hp Gi :: R ∧ DpAll K Gi acc (((l.take i).filterMap f).map enc2) ∧ acc.length ≤ i) S ⟨G, Le.rfl, rfl, .nil, Nat.zero_le _⟩ (fun D i acc Ps H hi ⟨Gi, le, e, _⟩ S => by subst e; exact SqL.le (le.tr (hp_le S.tl)) hs) (SqL.le (hp_le S) hs) ?_ ?_
  · rintro D i x acc Ps H hi ⟨Gi, le, rfl, hacc, hn⟩ S
    obtain ⟨d, hd, hxd⟩ := dpall_at ha hi
    rw [List.getElem?_map] at hd
    cases ez : l[i]? with
    | none => rw [ez] at hd; cases hd
    | some z =>
      rw [ez] at hd
      cases hd
      have hi' := (List.getElem?_eq_some_iff.mp ez).1
      have st := lcd_step (f := f) (enc2 := enc2) ez
      refine turn z (List.mem_of_getElem? ez) D acc Gi x H _ le (Dp.le le _ _ hxd) (by omega) S (fun y zz G' H4 l4 ey hy S4 => ?_) (fun en H3 S3 => ?_)
      · refine cn_in S4 (by omega) ⟨G', le.tr l4, rfl, ?_, by rw [List.length_append]; simp; omega⟩
        cases q : f z with
        | none => rw [q] at ey; cases ey
        | some w =>
          rw [q] at ey st
          cases ey
          rw [st]
          exact dpall_snoc (DpAll.le l4 _ _ hacc) hy
      · refine cn_out S3 ⟨Gi, le, rfl, ?_, by omega⟩
        cases q : f z with
        | some w => rw [q] at en; cases en
        | none =>
          rw [q] at st
          rw [st, List.append_nil]
          exact hacc
  · rintro D acc Ps H ⟨Gi, le, rfl, hacc, hn⟩ S
    rw [hlen, List.take_length] at hacc
    exact fin D acc Gi H le hacc S
theorem r_lc_tup {Ps : List SP} (J : CW) (S : Sep Ps H) (h0 : J 0 [] Ps) (hl : ∀ D i acc Ps H, i ≤ xs.length → J i acc Ps → Sep (pt D (.lst acc) :: Ps) H → SqT K H a xs) (hl0 : SqT K H a xs)
    (hs : ∀ D i x acc Ps H, xs[i]? = some x → J i acc Ps → Sep (pt D (.lst acc) :: Ps) H → g x (wipe σ vs) H fun σ2 H2 => wipe σ2 vs = wipe σ vs ∧ tt σ2 H2 fun b H3 =>
      if b = true then te σ2 H3 fun y H4 => ∃ acc, H4 D = some (.lst acc) ∧ acc.length < sizeLine ∧ CN J D (i + 1) (upd H4 D (.lst (acc ++ [y]))) else CN J D (i + 1) H3)
    (hd : ∀ D acc Ps H, J xs.length acc Ps → Sep (pt D (.lst acc) :: Ps) H → Q (.ref D) H) : ∃ a', V.ref a = .ref a' ∧ (∃ xs, SqT K H a' xs) ∧ LcW (Itt K a') g tt te vs Q σ H :=
  ⟨a, rfl, ⟨xs, hl0⟩, fun D nD => lc_tup (K := K) (a := a) (xs := xs) (CN J D) ⟨[], Ps, h0, S.new _ nD⟩ (fun i H hi ⟨acc, Ps, j, S⟩ => hl D i acc Ps H hi j S) (fun i x H hi ⟨acc, Ps, j, S⟩ => hs D i x acc Ps H hi j S) fun H ⟨acc, Ps, j, S⟩ => hd D acc Ps H j S⟩
theorem r_lcT (S : Sep (hp G :: R) H) (hx : Dp K G (.ref a) (.tuple (l.map enc))) (hl : l.length ≤ 80000) (f : α → Option β) (enc2 : β → PyData) (turn : ∀ x ∈ l, LcT K G R g tt te vs σ (enc x) ((f x).map enc2))
    (fin : ∀ D acc G' H', Le G G' → DpAll K G' acc ((l.filterMap f).map enc2) → Sep (pt D (.lst acc) :: hp G' :: R) H' → Q (.ref D) H') : ∃ a', V.ref a = .ref a' ∧ (∃ xs, SqT K H a' xs) ∧ LcW (Itt K a') g tt te vs Q σ H := by
  obtain ⟨a', xs, ea, hs, ha⟩ := dp_tupInv hx
  cases ea
  have hlen : xs.length = l.length := by rw [dpall_len ha, List.length_map]
  refine r_lc_tup (xs := xs) (fun i acc Ps => ∃ Gi, Le G Gi ∧ Ps = hp Gi :: R ∧ DpAll K Gi acc (((l.take i).filterMap f).map enc2) ∧ acc.length ≤ i) S ⟨G, Le.rfl, rfl, .nil, Nat.zero_le _⟩ (fun D i acc Ps H hi ⟨Gi, le, e, _⟩ S => by subst e; exact SqT.le (le.tr (hp_le S.tl)) hs) (SqT.le (hp_le S) hs) ?_ ?_
  · rintro D i x acc Ps H hi ⟨Gi, le, rfl, hacc, hn⟩ S
    obtain ⟨d, hd, hxd⟩ := dpall_at ha hi
    rw [List.getElem?_map] at hd
    cases ez : l[i]? with
    | none => rw [ez] at hd; cases hd
    | some z =>
      rw [ez] at hd
      cases hd
      have hi' := (List.getElem?_eq_some_iff.mp ez).1
      have st := lcd_step (f := f) (enc2 := enc2) ez
      refine turn z (List.mem_of_getElem? ez) D acc Gi x H _ le (Dp.le le _ _ hxd) (by omega) S (fun y zz G' H4 l4 ey hy S4 => ?_) (fun en H3 S3 => ?_)
      · refine cn_in S4 (by omega) ⟨G', le.tr l4, rfl, ?_, by rw [List.length_append]; simp; omega⟩
        cases q : f z with
        | none => rw [q] at ey; cases ey
        | some w =>
          rw [q] at ey st
          cases ey
          rw [st]
          exact dpall_snoc (DpAll.le l4 _ _ hacc) hy
      · refine cn_out S3 ⟨Gi, le, rfl, ?_, by omega⟩
        cases q : f z with
        | some w => rw [q] at en; cases en
        | none =>
          rw [q] at st
          rw [st, List.append_nil]
          exact hacc
  · rintro D acc Ps H ⟨Gi, le, rfl, hacc, hn⟩ S
    rw [hlen, List.take_length] at hacc
    exact fin D acc Gi H le hacc S
end
end
end Kt

set_option Elab.async false
set_option linter.all false
set_option maxRecDepth 100000
namespace Kt
open PySem L2 PyProof.Rows
/-! ### the items of a tuple, one after another, in an enumeration -/
section
variable {P : Program} {w : World} {A : Around} {E : Value → Shared → Prop} {s : Shared}
theorem nextTup {jt tu k : Nat} {vs : Array Value} {y : Value} {Z : Value → Shared → Prop} (hj : s.heap.IsTupleIter jt tu k) (hu : s.heap.IsTuple tu vs) (hy : vs[k]? = some y)
    (q : ∀ h2, h2.IsTupleIter jt tu (k + 1) → Heap.SameBut jt s.heap h2 → Z y { s with heap := h2 }) : wpAny (model P w) A (Builtin.SmallTypes.nextOf (.ref jt)) Z E s := by
  obtain ⟨oj, ej, cj, dj⟩ := id hj
  obtain ⟨ou, eu, _, nu, du⟩ := hu
  unfold Builtin.SmallTypes.nextOf
  refine wpAny_bind (wpAny_callSpecial?_slot (name := Str.ofString "__next__") hj.typeIs F.slot_tuple_iterator_next (wpAny_call_entry F.slot_tuple_iterator_next hj.typeIs F.entry_tuple_iterator_next ?_ (F.args_tuple_iterator_next_1 _)))
  show wpAny _ _ (field (.ref jt) 0 >>= _) _ _ s
  refine wpAny_bind (wpAny_field ej dj (x := .ref tu) rfl ?_)
  show wpAny _ _ (if (Value.ref tu == Value.none) = true then _ else _) _ _ s
  rw [if_neg (show ¬ ((Value.ref tu == Value.none) = true) from nofun)]
  show wpAny _ _ (field (.ref jt) 1 >>= _) _ _ s
  refine wpAny_bind (wpAny_field ej dj (x := .int k 0) rfl ?_)
  show wpAny _ _ (seqItems? (.ref tu) >>= _) _ _ s
  refine wpAny_bind (wpAny_seqItems eu du ?_)
  simp only [Int.toNat_natCast, hy]
  refine wpAny_bind (wpAny_setField ej dj (by simp) (wpAny_pure ⟨y, rfl, wpAny_pure (q _ ?_ (Heap.SameBut.update ..))⟩))
  exact ⟨_, Heap.get?_update_self _ ej (Obj.isFreed_of_fields (Obj.data_mapFields dj _)), (Obj.cls_mapFields ..).trans cj, by rw [Obj.data_mapFields dj]; simp [rawInt]⟩
theorem nextTupEnd {jt tu k : Nat} {vs : Array Value} {Z : Value → Shared → Prop} (h0 : A.handled = none) (hj : s.heap.IsTupleIter jt tu k) (hu : s.heap.IsTuple tu vs) (hy : vs[k]? = none)
    (q : ∀ h2 e, Heap.ExtBut jt s.heap h2 → (∃ o, h2.get? e = some o ∧ o.cls = .type "StopIteration") → E (.ref e) { s with heap := h2 }) : wpAny (model P w) A (Builtin.SmallTypes.nextOf (.ref jt)) Z E s := by
  obtain ⟨oj, ej, cj, dj⟩ := id hj
  obtain ⟨ou, eu, _, nu, du⟩ := hu
  unfold Builtin.SmallTypes.nextOf
  refine wpAny_bind (wpAny_callSpecial?_slot (name := Str.ofString "__next__") hj.typeIs F.slot_tuple_iterator_next (wpAny_call_entry F.slot_tuple_iterator_next hj.typeIs F.entry_tuple_iterator_next ?_ (F.args_tuple_iterator_next_1 _)))
  show wpAny _ _ (field (.ref jt) 0 >>= _) _ _ s
  refine wpAny_bind (wpAny_field ej dj (x := .ref tu) rfl ?_)
  show wpAny _ _ (if (Value.ref tu == Value.none) = true then _ else _) _ _ s
  rw [if_neg (show ¬ ((Value.ref tu == Value.none) = true) from nofun)]
  show wpAny _ _ (field (.ref jt) 1 >>= _) _ _ s
  refine wpAny_bind (wpAny_field ej dj (x := .int k 0) rfl ?_)
  show wpAny _ _ (seqItems? (.ref tu) >>= _) _ _ s
  refine wpAny_bind (wpAny_seqItems eu du ?_)
  simp only [Int.toNat_natCast, hy]
  refine wpAny_bind (wpAny_rule (wpAny_bind (wpAny_setField ej dj (by simp) ?_)))
  show wpAny _ _ (newExc (.type "StopIteration") [] >>= _) _ _ _
  refine wpAny_bind (m := newExc _ _) ?_
  simp only [newExc, newTuple]
  refine wpAny_bind (wpAny_newObj_type (by exact (wpAny_bind (m := firstArgMember _ _) (wpAny_of_eq (a := Value.none) (by first | rfl | (simp only [firstArgMember]; rfl)) (by
    refine wpAny_newObj_type (by
      simp only [raiseNew]
      refine wpAny_bind (wpAny_handled (by
        first | rw [show A.in1.handled = none from h0] | rw [h0]
        exact wpAny_bind (wpAny_pure (wpAny_throw (q _ _ (((Heap.SameBut.update ..).extBut.push _).push _) ⟨_, Heap.get?_push_size _ rfl, rfl⟩))))) ) (by size_fits))))) (by size_fits))
end

theorem drawsTup {P : Program} {w : World} {A : Around} (h0 : A.handled = none) (jt tu : Addr) (ne : tu ≠ jt) (vs : Array Value) :
    Draws P w A jt [jt, tu] vs.size (fun k y => vs[k]? = some y) (fun k h => h.IsTupleIter jt tu k ∧ h.IsTuple tu vs) where
  live := fun _ _ z => let ⟨o, ho, _⟩ := z.1; ⟨o, ho⟩
  frame := fun _ _ _ z g => ⟨z.1.at fun o e => g jt (by simp) o e, z.2.at fun o e => g tu (by simp) o e⟩
  item := fun k s Z E lt z q => by
    refine nextTup z.1 z.2 (y := vs[k]) (by simp [lt]) fun h2 hj sb => ?_
    exact q _ h2 s.toks (by simp [lt]) ⟨hj, z.2.extBut sb.extBut ne⟩ sb
  done := fun s Z E z q => nextTupEnd h0 z.1 z.2 (by simp) q
theorem meetsEnumT (tu : Addr) (vs : Array Value) (n : Nat) (dd : Option Addr) (sl : Array (Option Value)) :
    Meets (Builtin.«enumerate.__new__» ⟨[.type "enumerate", .ref tu], []⟩) (fun _ R s => s.heap.get? tu = some { cls := .type "tuple", dict := dd, data := .seq vs n, slots := sl } ∧
      R (.ok (.ret (.ref (s.heap.push { cls := .type "tuple_iterator", data := .fields #[.ref tu, .int 0 0] }).objs.size)))
        { s with heap := (s.heap.push { cls := .type "tuple_iterator", data := .fields #[.ref tu, .int 0 0] }).push { cls := .type "enumerate", data := .fields #[.none, .bool false, .ref s.heap.objs.size, rawInt 0, .none, .none] } }) :=
  .of_wp fun prog w A R s h => by
    obtain ⟨hp, g, d, tk, os⟩ := s; obtain ⟨e1, h⟩ := h
    have hsub := sub_enumerate
    have hT : Heap.IsTuple (Shared.heap ⟨hp, g, d, tk, os⟩) tu vs := ⟨_, e1, rfl, n, rfl⟩
    wp_walk
    refine wpAny_stack_any fun st => wpAny_pure ?_
    split
    · rename_i c _ _ _ _ _
      cases (c == Value.type "enumerate")
      · wp_walk using wpAny_pyIter_tuple hT
        exact ⟨_, rfl, h⟩
      · wp_walk using wpAny_pyIter_tuple hT
        exact ⟨_, rfl, h⟩
    · wp_walk using wpAny_pyIter_tuple hT
      exact ⟨_, rfl, h⟩
theorem callEnumT {P : Program} {w : World} {A : Around} {E : Value → Shared → Prop} {s : Shared} {tu : Addr} {vs : Array Value} {Z : Value → Shared → Prop} (hT : s.heap.IsTuple tu vs)
    (q : ∀ h2, IsEnum h2 (s.heap.objs.size + 1) s.heap.objs.size 0 .none → h2.IsTupleIter s.heap.objs.size tu 0 → h2.IsTuple tu vs → (∀ b o, s.heap.get? b = some o → h2.get? b = some o) → Z (.ref (s.heap.objs.size + 1)) { s with heap := h2 }) :
    wpAny (model P w) A (call (.type "enumerate") [.ref tu]) Z E s := by
  obtain ⟨⟨c, dd, dt, sl⟩, e1, hc, n, hd⟩ := id hT
  replace hc : c = .type "tuple" := hc
  replace hd : dt = .seq vs n := hd
  subst hc hd
  refine callType_new F.called_enumerate (by decide) (F.typeCall_enumerate_1 _) (F.newCall_enumerate_1 _) (fun obj => F.args_object_init_2 obj _) F.entry_enumerate_new (meetsEnumT tu vs n dd sl) ⟨e1, ?_⟩
  have z : (s.heap.push { cls := .type "tuple_iterator", data := .fields #[.ref tu, .int 0 0] }).objs.size = s.heap.objs.size + 1 := Heap.size_push ..
  show _ ∧ _
  rw [z]
  have he : IsEnum ((s.heap.push { cls := .type "tuple_iterator", data := .fields #[.ref tu, .int 0 0] }).push { cls := .type "enumerate", data := .fields #[.none, .bool false, .ref s.heap.objs.size, rawInt 0, .none, .none] }) (s.heap.objs.size + 1) s.heap.objs.size 0 .none := by
    have := Heap.get?_push_size (s.heap.push { cls := .type "tuple_iterator", data := .fields #[.ref tu, .int 0 0] }) (o := { cls := .type "enumerate", data := .fields #[.none, .bool false, .ref s.heap.objs.size, rawInt 0, .none, .none] }) rfl
    rw [z] at this; exact this
  have kk : ∀ b o, s.heap.get? b = some o → ((s.heap.push { cls := .type "tuple_iterator", data := .fields #[.ref tu, .int 0 0] }).push { cls := .type "enumerate", data := .fields #[.none, .bool false, .ref s.heap.objs.size, rawInt 0, .none, .none] }).get? b = some o := fun b o x => Heap.get?_push_of_some _ (Heap.get?_push_of_some _ x)
  exact ⟨⟨_, he, rfl⟩, q _ he ⟨_, Heap.get?_push_of_some _ (Heap.get?_push_size _ rfl), rfl, rfl⟩ (hT.at fun o e => kk tu o e) kk⟩
/-- the tuple at a, each item in a new pair -/
def IteT (K : PySem.W.Frag) (a : Addr) (xs : List V) : It :=
  ⟨fun i H => SqT K H a xs ∧ i < xs.length, fun i H v H' => ∃ T x, v = .ref T ∧ H T = none ∧ H' = upd H T (.tup [.int (i : Nat), x]) ∧ xs[i]? = some x, fun i H => SqT K H a xs ∧ xs.length ≤ i⟩
theorem turnEnumT {P : Program} {w : World} {K : PySem.W.Frag} {elts : List Expr} {kk : Nat} {tpos : Pos} (a e jt : Addr) (xs : List V) :
    Turn P w K (.Tuple elts kk tpos) (IteT K a xs) [e, jt] e (fun i h => (∃ old, IsEnum h e jt ((i : Nat) : Int) old) ∧ h.IsTupleIter jt a i ∧ e ≠ jt) where
  mem := by simp
  obj := fun i h z b hb => by
    obtain ⟨⟨old, he⟩, ⟨o, ho, hc, hd⟩, _⟩ := z
    rcases (show b = e ∨ b = jt by simpa using hb) with y | y
    · rw [y]; exact ⟨_, he, fun v q => nomatch q⟩
    · rw [y]; exact ⟨o, ho, fun v q => by rw [hd] at q; cases q⟩
  keep := fun i h h2 z g => let ⟨⟨old, he⟩, hi, ne⟩ := z; ⟨⟨old, g e (by simp) _ he⟩, hi.at fun o q => g jt (by simp) o q, ne⟩
  item := by
    intro X hP hw hK hc i pins s σ H E I hf z go
    subst hP hw hK
    obtain ⟨⟨old, he⟩, hj, ne⟩ := z
    obtain ⟨hq, hi⟩ := go
    obtain ⟨its, rv, hT, hz⟩ := I.tuple hq
    obtain ⟨x, hx⟩ : ∃ x, xs[i]? = some x := ⟨xs[i], List.getElem?_eq_getElem hi⟩
    obtain ⟨u, hu, ru⟩ := rv.get hx
    have le1 : e < s.heap.objs.size := Heap.lt_size he
    have le2 : jt < s.heap.objs.size := by obtain ⟨_, q, _⟩ := hj; exact Heap.lt_size q
    have aj : a ≠ jt := by
      obtain ⟨o1, e1, c1, _⟩ := hj
      obtain ⟨o2, e2, c2, _⟩ := id hT
      rintro rfl
      rw [e1] at e2
      cases e2
      rw [c1] at c2
      injection c2 with c2
      exact absurd c2 (by decide)
    have ae : e ∉ [jt, a] := by
      obtain ⟨o2, e2, c2, _⟩ := id hT
      simp only [List.mem_cons, List.not_mem_nil, or_false, not_or]
      refine ⟨ne, ?_⟩
      rintro rfl
      rw [he] at e2
      cases e2
      injection c2 with c2
      exact absurd c2 (by decide)
    refine wpAny_pyNext_enum_itemD (drawsTup (P := X.prog) (w := X.w) (A := X.A.in1) (by simp [I.ok.hd hc]) jt a aj its.toArray) he ⟨hj, hT⟩ (by rw [List.size_toArray, ← rv.length]; exact hi) ne ae fun y h2 tk hy ho hst hT2 hsz hk => ?_
    have ey : y = u := by
      have e3 : its[i]? = some y := by simpa using hy
      rw [hu] at e3
      exact (Option.some.inj e3).symm
    subst ey
    refine ⟨_, rfl, wpAny_letOwnedTupleGo_enum (s := { s with heap := h2, toks := tk + 1 }) ho fun h3 he3 sb => ?_⟩
    have at3 : h3.get? s.heap.objs.size = some { cls := .type "tuple", data := .seq #[.int i tk, y] } := (sb.2 _ (Nat.ne_of_gt le1)).trans hT2
    have nw : ObjOk X.prog X.w (upd H s.heap.objs.size (.tup [.int (i : Nat), x])) h3 s.heap.objs.size (.tup [.int (i : Nat), x]) := ⟨by show 2 ≤ sizeLine; decide, [.int i tk, y], .cons ⟨_, rfl⟩ (.cons ru .nil), ⟨_, at3, rfl, _, rfl⟩⟩
    have I1 : Inv X pins σ (upd H s.heap.objs.size (.tup [.int (i : Nat), x])) { s with heap := h3, toks := tk + 1 } :=
      I.turnedNew (ch := [e, jt]) (fun b ob hb q => (sb.2 b (fun z => hb (by simp [z]))).trans (hk b ob (fun z => hb (by simp [z])) (fun z => hb (by simp [z])) q)) hf (Nat.le_refl _) nw
    refine ⟨.ref s.heap.objs.size, _, I1, rfl, ⟨_, x, rfl, I.hok.fresh (Nat.le_refl _), rfl, hx⟩, ⟨⟨y, ?_⟩, hst.1.at fun o q => (sb.2 jt (Ne.symm ne)).trans q, ne⟩, fun b hb => ?_⟩
    · have e1 : ((i + 1 : Nat) : Int) = (i : Int) + 1 := by omega
      rw [e1]; exact he3
    · have lb : b < s.heap.objs.size := by
        rcases (show b = e ∨ b = jt by simpa using hb) with y | y
        · rw [y]; exact le1
        · rw [y]; exact le2
      rw [upd_ne (Nat.ne_of_lt lb)]
      exact (hf b hb).1
  done := by
    intro X hP hw hK hc i pins s σ H E I hf z sp
    subst hP hw hK
    obtain ⟨⟨old, he⟩, hj, ne⟩ := z
    obtain ⟨hq, hi⟩ := sp
    obtain ⟨its, rv, hT, hz⟩ := I.tuple hq
    obtain ⟨f0, f1, f2, f3, f4, f5⟩ := hf jt (by simp)
    have ln := rv.length
    have hTe : s.TypeIs (.ref e) "enumerate" := ⟨_, he, rfl⟩
    unfold pyNext
    refine wpAny_bind (wpAny_attempt (wpAny_callSpecial?_slot (name := Str.ofString "__next__") hTe F.slot_enumerate_next (wpAny_call_entry F.slot_enumerate_next hTe F.entry_enumerate_next ?_ (F.args_enumerate_next_1 _))))
    show wpAny _ _ (field (.ref e) 2 >>= _) _ _ _
    refine wpAny_bind (wpAny_field he rfl (x := .ref jt) rfl ?_)
    refine wpAny_bind (nextTupEnd (vs := its.toArray) (by simp [I.ok.hd hc]) hj hT (by simp; omega) fun h2 x he2 hx2 => ?_)
    obtain ⟨o, ho, hc2⟩ := hx2
    refine wpAny_bind (wpAny_isInstance (T := "StopIteration") (b := true) ⟨o, ho, hc2⟩ isSubtype_stop ?_)
    exact wpAny_pure ⟨rfl, I.turned (t' := s.toks) (fun b o hb q => he2 b o hb q) f0 f1 f3 f4 f5⟩
  self := fun A i s Q E z q => let ⟨⟨_, he⟩, _⟩ := z; wpAny_pyIter_enum he q
def iEnumT (K : PySem.W.Frag) (ta : TA) : TI := fun σ H R => ta σ H fun vs H1 => ∃ a xs, vs = [.ref a] ∧ SqT K H1 a xs ∧ R (IteT K a xs) H1
theorem pi_enumT {X : Cx} (K : PySem.W.Frag) {e : Expr} {ta : TA} {p pos tpos : Pos} {elts : List Expr} {kk : Nat} (hg : Gl X "enumerate") (hm : X.mg "enumerate" = none) (ha : PA X [e] ta) (hK : X.K = K := by rfl) (hs : starEach [e] X.env = [(false, eval e X.env)] := by rfl) :
    PI X (.Tuple elts kk tpos) (.Call (.Name "enumerate" p) [e] [] pos) (iEnumT K ta) := by
  subst hK
  refine ⟨fun pins s σ H R I h => ?_⟩
  refine Call_ (ld_blt I hg hm boot_enumerate (PyProof.Rows.callWith_type1 (thn (ha.run pos pins s σ H _ I h) fun us s1 ⟨vs, H1, I1, r1, q1⟩ => ?_) hs rfl))
  obtain ⟨a, xs, rfl, hq, q⟩ := q1
  cases r1 with
  | cons r rr =>
    cases rr
    cases r
    obtain ⟨its, rv, hT, hz⟩ := I1.tuple hq
    refine callEnumT hT fun h2 he hit _ hk => wpAny_pyIter_enum he ?_
    have I2 : Inv X pins σ H1 { s1 with heap := h2 } := I1.kept (t' := s1.toks) hk
    refine ⟨s1.heap.objs.size + 1, [s1.heap.objs.size + 1, s1.heap.objs.size], _, _, H1, rfl, I2, turnEnumT a (s1.heap.objs.size + 1) s1.heap.objs.size xs, ⟨⟨.none, he⟩, hit, Nat.succ_ne_self _⟩, fun b hb => ?_, q⟩
    have lb : s1.heap.objs.size ≤ b := by
      rcases (show b = s1.heap.objs.size + 1 ∨ b = s1.heap.objs.size by simpa using hb) with y | y
      · rw [y]; exact Nat.le_add_right _ _
      · rw [y]; exact Nat.le_refl _
    exact I1.fpOk lb (I1.hok.fresh lb)
section
variable {K : PySem.W.Frag} {σ : L2.St} {H : Hp} {D : Ends} {Q : VK} {a : Addr} {xs : List V} {Ps : List SP} {g : TG} {tb : TS} {tr : TA}
def kEnumT (K : PySem.W.Frag) (R : It → Hp → Prop) : List V → Hp → Prop := fun vs H1 => ∃ a xs, vs = [.ref a] ∧ SqT K H1 a xs ∧ R (IteT K a xs) H1
theorem r_ienumT {R : It → Hp → Prop} (h : tr σ H (kEnumT K R)) : iEnumT K tr σ H R := h
theorem r_for_enumT (J : LW) (S : Sep Ps H) (h0 : J 0 σ Ps) (hl : ∀ i σ Ps H, J i σ Ps → Sep Ps H → SqT K H a xs)
    (hs : ∀ i x T σ Ps H, xs[i]? = some x → J i σ Ps → Sep (pt T (.tup [.int (i : Nat), x]) :: Ps) H → g (.ref T) σ H fun σ2 H2 => tb { D with nx := Nx J (i + 1), ct := Nx J (i + 1), bk := D.nx } σ2 H2) (hd : ∀ σ Ps H, J xs.length σ Ps → Sep Ps H → D.nx σ H) :
    kEnumT K (fun Jt H1 => ForW Jt g tb D σ H1) [.ref a] H := by
  refine ⟨a, xs, rfl, hl 0 σ Ps H h0 S, fun i m σ H => m = xs.length - i ∧ i ≤ xs.length ∧ Nx J i σ H, ⟨xs.length, by simp, Nat.zero_le _, Ps, h0, S⟩, ?_⟩
  rintro i m σ H ⟨rfl, hi, Ps, j, S⟩
  by_cases he : i = xs.length
  · subst he
    exact .inl ⟨⟨hl _ σ Ps H j S, Nat.le_refl _⟩, hd σ Ps H j S⟩
  · refine .inr ⟨⟨hl _ σ Ps H j S, by omega⟩, Nx J (i + 1), fun σ' H' n => ⟨xs.length - (i + 1), by omega, rfl, by omega, n⟩, ?_⟩
    rintro x H' ⟨T, y, rfl, hT, rfl, hy⟩
    exact hs i y T σ Ps _ hy j (S.new _ hT)
end
/-! ### sorted of a list of data that are alike -/
def rSortD (K : PySem.W.Frag) : List V → Hp → VK → Prop := fun xs H Q => ∃ (a : Addr) (ds : List PyData) (G : Hp), xs = [.ref a] ∧ Le G H ∧ Dp K G (.ref a) (.list ds) ∧ PySem.W.AllAlike ds ∧ PySem.W.Sortable ds ∧ (∀ d ∈ ds, d.depth ≤ 50) ∧
  ∀ p out, H p = none → DpAll K G out (ds.mergeSort (PySem.W.dataLe false id)) → Q (.ref p) (upd H p (.lst out))
theorem each_out {K : PySem.W.Frag} {H : Hp} : ∀ {us : List Value} {ds : List PyData}, PySem.W.EachIs (fun u d => ∃ v, RelV v u ∧ Dp K H v d) us ds → ∃ vs, Vals vs us ∧ DpAll K H vs ds
  | _, _, .nil => ⟨[], .nil, .nil⟩
  | _, _, .cons ⟨v, r, h⟩ t => by
    obtain ⟨vs, rs, hs⟩ := each_out t
    exact ⟨v :: vs, .cons r rs, .cons h hs⟩
theorem each_in {X : Cx} {pins : List (Addr × Obj)} {σ : L2.St} {G H : Hp} {s : Shared} (le : Le G H) (I : Inv X pins σ H s) : ∀ {vs : List V} {us : List Value} {ds : List PyData}, Vals vs us → DpAll X.K G vs ds →
    PySem.W.EachIs (fun u d => ∃ v, RelV v u ∧ Dp X.K G v d) us ds ∧ PySem.W.EachIs (fun u d => ∃ as, Reads s.heap u d as) us ds
  | _, _, _, .nil, .nil => ⟨.nil, .nil⟩
  | _, _, _, .cons r rs, .cons h hs => by
    obtain ⟨e1, e2⟩ := each_in le I rs hs
    exact ⟨.cons ⟨_, r, h⟩ e1, .cons (Dp.reads I _ _ _ (Dp.le le _ _ h) r) e2⟩
theorem cr_sortD {X : Cx} (hu : X.A.units + 64 < cLine) : CallR X (.builtin "sorted") (rSortD X.K) := by
  intro pins s σ H xs us Q I r h
  obtain ⟨a, ds, G, rfl, le, hD, hal, hk, hdp, q⟩ := h
  obtain ⟨a', vs, ea, hs, hall⟩ := dp_lstInv hD
  cases ea
  obtain ⟨its, rv, pl, hz⟩ := I.list (SqL.le le hs)
  rw [Vals.ref1 r]
  obtain ⟨e1, e2⟩ := each_in le I rv hall
  have ln : its.length = ds.length := e1.length
  refine PySem.W.sorted_data (vs := its) (enc := id) (bs := ds) pl.isList e1 e2 (by rw [List.map_id]; exact hal) (by rw [List.map_id]; exact hk) (by rw [← ln, ← rv.length]; exact hz) (fun d m => by have := hdp d m; show X.A.units + 2 + d.depth < cLine; omega) fun out lo eo => ?_
  obtain ⟨ep, at1⟩ := sortedAll_at s.heap its out.toArray
  obtain ⟨ws, rw', dw⟩ := each_out eo
  have lw : ws.length ≤ sizeLine := by rw [rw'.length, lo, ← ln, ← rv.length]; exact hz
  exact ⟨.ref _, upd H (s.heap.objs.size + 1) (.lst ws), I.laid (t' := s.toks) (fun _ _ => sortedAll_old) (Nat.le_succ _) ⟨lw, out, ep, rw', at1⟩, rfl, q _ ws (I.hok.fresh (Nat.le_succ _)) dw⟩
end Kt

set_option Elab.async false
set_option linter.all false
set_option maxRecDepth 100000
namespace Kt
open PySem PySem.Spec L2 PyProof.Rows
/-! ### set(xs), xs a list of whole numbers -/
abbrev soOf (w : World) : Obj := { cls := .type "set", dict := none, data := .set #[] 0 (.fresh 0 0 (!w.params.followText "set-order")) }
section
variable {P : Program} {w : World} {A : Around} {E : Value → Shared → Prop} {s : Shared}
set_option maxHeartbeats 3200000 in
theorem callSetL {l : Addr} {vs : Array Value} (ns : List Int) {Z : Value → Shared → Prop} (h0 : A.handled = none) (hL : s.heap.IsList l vs) (hI : IntsAre vs.toList ns) (hB : ns.length + 1 < scanBound)
    (q : ∀ (h2 : Heap) (tk c : Nat), SetR w h2 s.heap.objs.size (fun j => decide (j ∈ ns)) c → c ≤ ns.length → (∀ b o, s.heap.get? b = some o → h2.get? b = some o) → Z (.ref s.heap.objs.size) { s with heap := h2, toks := tk }) :
    wpAny (model P w) A (call (.type "set") [.ref l]) Z E s := by
  have sz : vs.size = ns.length := (Array.length_toList ..).symm.trans (IntsAre.length hI)
  obtain ⟨c, tl, hmro⟩ := F.called_set.mro
  have hmade := F.called_set.made
  have hsub := F.called_set.sub
  refine wpAny_call (codeAny_of_tree ?_)
  show wpAny _ _ (callAny (.type "set") _) _ _ _
  refine wpAny_pure ⟨Code.quiet_builtin _ (by decide +kernel), codeAny_builtin F.entry_type_call ?_⟩
  rw [Around.under_plain (weight_type_call_type "set" [.ref l] []) rfl]
  have g1 := F.called_set.notType
  have g2 := F.called_set.canCreate
  have g3 := F.typeCall_set_1 (.ref l)
  repeat (any_goals (first | assumption | wp_step))
  refine codeAny_mono (code_set_led1 (.ref l) (E := E) (Q₁ := fun ob s₁ => ob = .ref s.heap.objs.size ∧ s₁ = { s with heap := s.heap.push (soOf w) }) ⟨rfl, rfl⟩) fun r s₁ hr => ?_
  cases r with
  | error e => exact hr
  | ok fl =>
    cases fl with
    | ret ob =>
      obtain ⟨rfl, rfl⟩ := hr
      have eS : (s.heap.push (soOf w)).get? s.heap.objs.size = some (soOf w) := Heap.get?_push_size _ rfl
      have tS : Shared.TypeIs { s with heap := s.heap.push (soOf w) } (.ref s.heap.objs.size) "set" := ⟨_, eS, rfl⟩
      have i1 := F.called_set.init.lookup
      have i2 := F.called_set.init.bind (.ref s.heap.objs.size)
      repeat (any_goals (first | assumption | wp_step))
      refine codeAny_mono (codeAny_call_builtin (R := wants (fun r s₂ => r = .none ∧ ∃ h2 tk c, s₂ = { s with heap := h2, toks := tk } ∧ SetR w h2 s.heap.objs.size (fun j => decide (j ∈ ns)) c ∧ c ≤ ns.length ∧ (∀ b o, s.heap.get? b = some o → h2.get? b = some o)) E) F.called_set.init.plain F.entry_set_init (check_set_init_1 tS ?_)) fun r₂ s₂ hr₂ => ?_
      · obtain ⟨ol, eol, col, nl, dol⟩ := hL
        obtain ⟨kc, kd, kt, ks⟩ := ol
        simp only at col dol
        subst col; subst dol
        have eo2 : (s.heap.push (soOf w)).get? l = some { cls := .type "list", dict := kd, data := .seq vs nl, slots := ks } := Heap.get?_push_of_some _ eol
        have sb1 := F.sub_list_set
        have sb2 := F.sub_list_frozenset
        have hne : (Value.type "list" == Value.type "dict") = false := by decide
        have hL1 : (s.heap.push (soOf w)).IsList l vs := ⟨_, eo2, rfl, nl, rfl⟩
        unfold Builtin.«set.__init__» noKeywords Builtin.Frozenset.updateFrom
        generalize hPI : pyIter = PI
        wp_walk
        subst hPI
        refine wpAny_pyIter_list hL1 ?_
        refine wpAny_bind (wpAny_runValue ?_)
        have ll : l < s.heap.objs.size := Heap.lt_size eol
        have hh3 : A.in1.in1.in1.handled = none := by simp [h0]
        have zz : (s.heap.push (soOf w)).objs.size = s.heap.objs.size + 1 := Heap.size_push ..
        have ne1 : l ≠ (s.heap.push (soOf w)).objs.size := by rw [zz]; exact Nat.ne_of_lt (Nat.lt_succ_of_lt ll)
        have ne2 : s.heap.objs.size ∉ [(s.heap.push (soOf w)).objs.size, l] := by
          rw [zz]; simp only [List.mem_cons, List.not_mem_nil, or_false, not_or]
          exact ⟨Nat.ne_of_lt (Nat.lt_succ_self _), Nat.ne_of_gt ll⟩
        have val : ∀ (i : Nat) (v : Value), vs[i]? = some v → ∃ k t, ns[i]? = some k ∧ v = .int k t := fun i v hv => by
          have hi : i < ns.length := by rw [← sz]; exact (Array.getElem?_eq_some_iff.mp hv).1
          obtain ⟨t, e⟩ := PyProof.Rows.IntsAre.int_at hI i v (by rw [Array.getElem?_toList]; exact hv)
          exact ⟨ns[i], t, List.getElem?_eq_getElem hi, by rw [e, List.getD_eq_getElem?_getD, List.getElem?_eq_getElem hi] <;> rfl⟩
        refine set_update_ints ((Walks.list hh3 _ l ne1 vs).toS) s.heap.objs.size ne2 ns sz hB val (vs.size - 0) 0 _ (by omega) (Nat.zero_le _) ⟨⟨_, Heap.get?_push_size _ rfl, rfl, rfl⟩, (hL1.push _)⟩ ?k0 ?k1
        case k0 => exact ⟨0, Nat.le_refl 0, setR_new_at (Heap.get?_push_of_some _ eS)⟩
        case k1 =>
          intro s' c' hm hc' hS'
          obtain ⟨h2, g2, d2, tk, os2⟩ := s'
          obtain rfl : g2 = s.gens := hm.gens
          obtain rfl : d2 = s.drawn := hm.drawn
          obtain rfl : os2 = s.os := hm.os
          show wpAny _ _ _ _ _ _
          refine wpAny_pure ?_
          show wpAny _ _ (ret Value.none) _ _ _
          rw [sz] at hc'
          refine wpAny_pure ⟨rfl, h2, tk, c', rfl, hS', hc', fun b o e => ?_⟩
          have lb : b < s.heap.objs.size := Heap.lt_size e
          exact hm.heap b o (by rw [zz]; simp only [List.mem_cons, List.not_mem_nil, or_false, not_or]; exact ⟨Nat.ne_of_lt lb, Nat.ne_of_lt (Nat.lt_succ_of_lt lb)⟩) (Heap.get?_push_of_some _ (Heap.get?_push_of_some _ e))
      · cases r₂ with
        | error e => exact hr₂
        | ok fl₂ =>
          cases fl₂ with
          | ret r =>
            obtain ⟨rfl, h2, tk, c', rfl, hS', hc', hk'⟩ := hr₂
            repeat (any_goals (first | assumption | wp_step))
            exact q _ _ _ hS' hc' hk'
          | _ => exact hr₂.elim
    | _ => exact hr.elim
end
/-- set(xs) -/
def rSetL (K : PySem.W.Frag) (w : World) : List V → Hp → VK → Prop := fun xs H Q => ∃ (a : Addr) (ns : List Int), xs = [.ref a] ∧ SqL K H a (ns.map V.int) ∧ ns.length ≤ 1000 ∧ ∀ p c, H p = none → c ≤ ns.length → Q (.ref p) (upd H p (SetO w p (fun j => decide (j ∈ ns)) c))
theorem cr_setL {X : Cx} (hc : X.calm = true) : CallR X (.type "set") (rSetL X.K X.w) := by
  intro pins s σ H xs us Q I r h
  obtain ⟨a, ns, rfl, hs, hl, q⟩ := h
  obtain ⟨its, rv, pl, hz⟩ := I.list hs
  rw [Vals.ref1 r]
  refine callSetL ns (I.ok.hd hc) pl.isList (by simpa using rv.ints) (Nat.lt_of_le_of_lt (Nat.add_le_add_right hl 1) (by unfold scanBound; decide)) fun h2 tk c R lc hk => ?_
  exact ⟨.ref _, upd H s.heap.objs.size (SetO X.w s.heap.objs.size (fun j => decide (j ∈ ns)) c), I.laid (t' := tk) hk (Nat.le_refl _) (setO_new R), rfl, q _ c (I.hok.fresh (Nat.le_refl _)) lc⟩
/-! ### sorted of a list of data, or of a set of whole numbers -/
theorem asc_ext : ∀ {a b : List Int}, a.Pairwise (· < ·) → b.Pairwise (· < ·) → (∀ k, k ∈ a ↔ k ∈ b) → a = b
  | [], [], _, _, _ => rfl
  | [], y :: b, _, _, h => by have := (h y).mpr List.mem_cons_self; cases this
  | x :: a, [], _, _, h => by have := (h x).mp List.mem_cons_self; cases this
  | x :: a, y :: b, ha, hb, h => by
    obtain ⟨a1, a2⟩ := List.pairwise_cons.mp ha
    obtain ⟨b1, b2⟩ := List.pairwise_cons.mp hb
    have e : x = y := by
      rcases List.mem_cons.mp ((h x).mp List.mem_cons_self) with e | m
      · exact e
      · rcases List.mem_cons.mp ((h y).mpr List.mem_cons_self) with e | m2
        · exact e.symm
        · have := b1 x m
          have := a1 y m2
          omega
    subst e
    congr 1
    refine asc_ext a2 b2 fun k => ⟨fun m => ?_, fun m => ?_⟩
    · rcases List.mem_cons.mp ((h k).mp (List.mem_cons_of_mem _ m)) with e | m2
      · subst e; have := a1 _ m; omega
      · exact m2
    · rcases List.mem_cons.mp ((h k).mpr (List.mem_cons_of_mem _ m)) with e | m2
      · subst e; have := b1 _ m; omega
      · exact m2
def rSortA (K : PySem.W.Frag) (w : World) : List V → Hp → VK → Prop := fun xs H Q => rSortD K xs H Q ∨ rSortedSet w xs H Q
theorem cr_sortA {X : Cx} (hc : X.calm = true) (hu : X.A.units + 64 < cLine) : CallR X (.builtin "sorted") (rSortA X.K X.w) := fun pins s σ H xs us Q I r h => h.elim (cr_sortD hu pins s σ H xs us Q I r) (cr_sortedSet hc pins s σ H xs us Q I r)
end Kt

set_option Elab.async false
set_option linter.all false
set_option maxRecDepth 100000
namespace Kt
open PySem L2 PyProof.Rows
/-! ### orders and shapes as data -/
abbrev Lv := List Str
abbrev Od := List Lv
def dLv (l : Lv) : PyData := .tuple (l.map PyData.str)
def dOd (o : Od) : PyData := .tuple (o.map dLv)
def dOds (os : List Od) : PyData := .list (os.map dOd)
def dShp (os : List Od) : PyData := .tuple (os.map dOd)
def dNs (l : List Str) : PyData := .list (l.map PyData.str)
def leOd : Od → Od → Bool := PySem.W.dataLe false dOd
def leS : Str → Str → Bool := PySem.W.dataLe false PyData.str
def sortS (l : List Str) : List Str := l.mergeSort leS
def lvO (o : Od) (x : Str) : Option Nat := o.findIdx? fun l => decide (x ∈ l)
def dOpt : Option Nat → PyData
  | none => .none
  | some n => .int n
def vOpt : Option Nat → V
  | none => .non
  | some n => .int n
def dOptI : Option Int → PyData
  | none => .none
  | some n => .int n
def vOptI : Option Int → V
  | none => .non
  | some n => .int n
def cmpO (o : Od) (x y : Str) : Option Int :=
  match lvO o x, lvO o y with
  | some i, some j => some (if i = j then 0 else if i < j then -1 else 1)
  | _, _ => none
def onlyO (ps : List Str) (o : Od) : Od := (o.map (List.filter fun x => decide (x ∈ ps))).filter fun l => !l.isEmpty
def shpO (os : List Od) : List Od := (os.filter fun o => !o.isEmpty).mergeSort leOd
def arrO (s : List Od) (x : Str) : Option Nat := s.findIdx? fun o => (lvO o x).isSome
def stO (s : List Od) (x y : Str) : Option Int := s.findSome? fun o => cmpO o x y
def passedS : List Str := ["+0", "+1"]
def commonS : List Str := ["=", "^", "!"]
def keptP (s : List Od) (ns : List Str) : List Od := shpO ((s.filter fun o => !(onlyO (ns ++ passedS) o).isEmpty).map (onlyO (ns ++ passedS ++ commonS)))
section
variable {K : PySem.W.Frag} {G H : Hp} {v : V}
theorem dp_opt (o : Option Nat) : Dp K G (vOpt o) (dOpt o) := by
  cases o with
  | none => exact .non
  | some n => exact .int _
theorem dp_optI (o : Option Int) : Dp K G (vOptI o) (dOptI o) := by
  cases o with
  | none => exact .non
  | some n => exact .int _
/-! ### all of these are alike -/
theorem alike_strs : ∀ a b : List Str, PySem.W.alikeAll (a.map PyData.str) (b.map PyData.str) = true
  | [], _ => by simp [PySem.W.alikeAll]
  | _ :: _, [] => by simp [PySem.W.alikeAll]
  | x :: a, y :: b => by
    show PySem.W.alikeAll (.str x :: a.map PyData.str) (.str y :: b.map PyData.str) = true
    rw [PySem.W.alikeAll, alike_strs a b]
    simp [PySem.W.alike]
theorem alike_lv (a b : Lv) : PySem.W.alike (dLv a) (dLv b) = true := by
  unfold dLv
  rw [PySem.W.alike]
  exact alike_strs a b
theorem alike_lvs : ∀ a b : Od, PySem.W.alikeAll (a.map dLv) (b.map dLv) = true
  | [], _ => by simp [PySem.W.alikeAll]
  | _ :: _, [] => by simp [PySem.W.alikeAll]
  | x :: a, y :: b => by
    show PySem.W.alikeAll (dLv x :: a.map dLv) (dLv y :: b.map dLv) = true
    rw [PySem.W.alikeAll, alike_lvs a b, alike_lv]
    rfl
theorem alike_od (a b : Od) : PySem.W.alike (dOd a) (dOd b) = true := by
  unfold dOd
  rw [PySem.W.alike]
  exact alike_lvs a b
theorem depth_strs : ∀ a : List Str, PyData.depthAll (a.map PyData.str) = 0
  | [] => by simp [PyData.depthAll]
  | x :: a => by
    show PyData.depthAll (.str x :: a.map PyData.str) = 0
    rw [PyData.depthAll, depth_strs a]
    simp [PyData.depth]
theorem depth_lv (a : Lv) : (dLv a).depth ≤ 1 := by
  unfold dLv
  rw [PyData.depth, depth_strs]
  decide
theorem depth_lvs : ∀ a : Od, PyData.depthAll (a.map dLv) ≤ 1
  | [] => by simp [PyData.depthAll]
  | x :: a => by
    show PyData.depthAll (dLv x :: a.map dLv) ≤ 1
    rw [PyData.depthAll]
    have h1 := depth_lv x
    have h2 := depth_lvs a
    omega
theorem depth_od (a : Od) : (dOd a).depth ≤ 2 := by
  unfold dOd
  rw [PyData.depth]
  have := depth_lvs a
  omega
theorem allAlike_od (os : List Od) : PySem.W.AllAlike (os.map dOd) := PySem.W.AllAlike.of alike_od
theorem allAlike_str (l : List Str) : PySem.W.AllAlike (l.map PyData.str) := PySem.W.AllAlike.of fun a b => by simp [PySem.W.alike]
theorem sortable_str (l : List Str) : PySem.W.Sortable (l.map PyData.str) := PySem.W.Sortable.others fun b => ⟨nofun, nofun⟩
theorem sortable_od {os : List Od} (h : ∀ o ∈ os, o ≠ []) : PySem.W.Sortable (os.map dOd) := .inl fun d hd => by
  obtain ⟨o, ho, rfl⟩ := List.mem_map.mp hd
  cases o with
  | nil => exact absurd rfl (h _ ho)
  | cons l o => exact ⟨dLv l, o.map dLv, rfl⟩
theorem sort_od (os : List Od) : (os.map dOd).mergeSort (PySem.W.dataLe false id) = (os.mergeSort leOd).map dOd := (List.map_mergeSort (f := dOd) (r := leOd) (s := PySem.W.dataLe false id) (l := os) (fun a _ b _ => rfl)).symm
theorem sort_str (l : List Str) : (l.map PyData.str).mergeSort (PySem.W.dataLe false id) = (sortS l).map PyData.str := (List.map_mergeSort (f := PyData.str) (r := leS) (s := PySem.W.dataLe false id) (l := l) (fun a _ b _ => rfl)).symm
/-- sorted of texts, of orders -/
theorem r_sortS {Q : VK} {w : World} {a : Addr} {l : List Str} (le : Le G H) (hD : Dp K G (.ref a) (dNs l)) (h : ∀ p, H p = none → Q (.ref p) (upd H p (.lst ((sortS l).map V.str)))) : rSortA K w [.ref a] H Q :=
  .inl ⟨a, _, G, rfl, le, hD, allAlike_str l, sortable_str l, fun d m => by
    obtain ⟨x, _, rfl⟩ := List.mem_map.mp m
    exact Nat.zero_le _, fun p out np ho => by
    rw [sort_str] at ho
    rw [dpall_strsInv ho]
    exact h p np⟩
theorem r_sortOd {Q : VK} {w : World} {a : Addr} {os : List Od} (le : Le G H) (hD : Dp K G (.ref a) (dOds os)) (h0 : ∀ o ∈ os, o ≠ []) (h : ∀ p out, H p = none → DpAll K G out ((os.mergeSort leOd).map dOd) → Q (.ref p) (upd H p (.lst out))) : rSortA K w [.ref a] H Q :=
  .inl ⟨a, _, G, rfl, le, hD, allAlike_od os, sortable_od h0, fun d m => by
    obtain ⟨x, _, rfl⟩ := List.mem_map.mp m
    have := depth_od x
    omega, fun p out np ho => by
    rw [sort_od] at ho
    exact h p out np ho⟩
/-- sorted of a set of whole numbers: the list that ascends -/
theorem r_sortSet {Q : VK} {w : World} {a : Addr} {ns ms : List Int} {c : Nat} (e : H a = some (SetO w a (fun j => decide (j ∈ ns)) c)) (hc : c < 64) (hm : ms.Pairwise (· < ·)) (hi : ∀ k, k ∈ ms ↔ k ∈ ns) (h : ∀ p, H p = none → Q (.ref p) (upd H p (.lst (ms.map V.int)))) : rSortA K w [.ref a] H Q :=
  .inr ⟨a, _, c, rfl, e, hc, fun zs p h1 h2 h3 np => by
    have : zs = ms := asc_ext h1 hm fun k => by rw [h2, hi]; simp
    rw [this]
    exact h p np⟩
end
/-! ### a star in a display -/
theorem pa_starK {X : Cx} (K : PySem.W.Frag) {e : Expr} {es : List Expr} {te : TE} {t : TA} {p : Pos} (he : PE X e te) (hr : PA X es t) (hK : X.K = K := by rfl) (hs : starEach (.Starred e p :: es) X.env = (true, eval e X.env) :: starEach es X.env := by rfl) : PA X (.Starred e p :: es) (StX.tStar K te t) := by
  subst hK
  exact StX.pa_star he hr hs
section
variable {K : PySem.W.Frag} {σ : L2.St} {G H : Hp} {Q : VK} {QA : List V → Hp → Prop} {QT : Bool → Hp → Prop} {a : Addr} {xs : List V} {ds : List PyData} {te : TE} {tr : TA} {R : List SP} {v : V} {d : PyData}
def kStar (K : PySem.W.Frag) (t : Hp → (List V → Hp → Prop) → Prop) (QA : List V → Hp → Prop) : V → Hp → Prop := fun x H1 => ∃ p xs, x = V.ref p ∧ (SqT K H1 p xs ∨ SqL K H1 p xs) ∧ t H1 fun ys H2 => QA (xs ++ ys) H2
theorem r_star (h : te σ H (kStar K (tr σ) QA)) : StX.tStar K te tr σ H QA := h
theorem r_starT (s : SqT K H a xs) (h : tr σ H fun ys H2 => QA (xs ++ ys) H2) : kStar K (tr σ) QA (.ref a) H := ⟨a, xs, rfl, .inl s, h⟩
theorem r_starL (s : SqL K H a xs) (h : tr σ H fun ys H2 => QA (xs ++ ys) H2) : kStar K (tr σ) QA (.ref a) H := ⟨a, xs, rfl, .inr s, h⟩
/-! ### what the growing part says -/
theorem hp_dp (S : Sep (hp G :: R) H) (h : Dp K G v d) : Dp K H v d := Dp.le (hp_le S) _ _ h
theorem hp_sqL (S : Sep (hp G :: R) H) (h : SqL K G a xs) : SqL K H a xs := SqL.le (hp_le S) h
theorem hp_sqT (S : Sep (hp G :: R) H) (h : SqT K G a xs) : SqT K H a xs := SqT.le (hp_le S) h
theorem dns_sq {l : List Str} (h : Dp K G (.ref a) (dNs l)) : SqL K G a (l.map V.str) := by
  obtain ⟨b, xs, e, s, t⟩ := dp_lstInv h
  cases e
  rw [← dpall_strsInv t]
  exact s
theorem dlv_sq {l : Lv} (h : Dp K G (.ref a) (dLv l)) : SqT K G a (l.map V.str) := by
  obtain ⟨b, xs, e, s, t⟩ := dp_tupInv h
  cases e
  rw [← dpall_strsInv t]
  exact s
theorem r_in_strs {i : Str} {ns : List Str} (s : SqL K H a (ns.map V.str) ∨ SqT K H a (ns.map V.str)) (h : Q (.bl (decide (i ∈ ns))) H) : rIn K false (.str i) (.ref a) H Q := ⟨a, _, rfl, s, rfl, flat_strs ns, by rw [in_strs]; exact h⟩
theorem r_notin_strs {i : Str} {ns : List Str} (s : SqL K H a (ns.map V.str) ∨ SqT K H a (ns.map V.str)) (h : Q (.bl (!decide (i ∈ ns))) H) : rIn K true (.str i) (.ref a) H Q := ⟨a, _, rfl, s, rfl, flat_strs ns, by rw [in_strs]; exact h⟩
/-! ### a test by truth -/
def tTru (K : PySem.W.Frag) (te : TE) : TT := fun σ H QT => te σ H fun x H1 => ∃ k, TruV K x H1 k ∧ QT k H1
def kTru (K : PySem.W.Frag) (QT : Bool → Hp → Prop) : V → Hp → Prop := fun x H1 => ∃ k, TruV K x H1 k ∧ QT k H1
theorem pt_truK {X : Cx} (K : PySem.W.Frag) {e : Expr} {te : TE} (he : PE X e te) (hK : X.K = K := by rfl) (hw : ∀ whole, isTrue e X.env whole = (do let v ← whole; standAt e.pos; holding [v] (truthy v)) := by intro _; rfl) : PT X e (tTru K te) := by
  subst hK
  exact pt_truth he hw
theorem r_tru (h : te σ H (kTru K QT)) : tTru K te σ H QT := h
theorem r_truT (s : SqT K H a xs) (h : QT (!xs.isEmpty) H) : kTru K QT (.ref a) H := ⟨_, .inr (.inl ⟨xs, s, rfl⟩), h⟩
theorem r_truL (s : SqL K H a xs) (h : QT (!xs.isEmpty) H) : kTru K QT (.ref a) H := ⟨_, .inl ⟨xs, s, rfl⟩, h⟩
theorem r_itup {R : It → Hp → Prop} {tl : TE} (h : tl σ H fun x H1 => ∃ a, x = .ref a ∧ (∃ xs, SqT K H1 a xs) ∧ R (Itt K a) H1) : iTup K tl σ H R := h
end
end Kt

set_option Elab.async false
set_option linter.all false
set_option maxRecDepth 100000
namespace Kt
open PySem L2 PyProof.Rows
/-! ### dicts whose keys are texts, whose values are whole numbers -/
abbrev Rk := List (Str × Int)
def kS (x : Str) : Key := .inr x
def encK (l : Rk) : List (Key × V) := l.map fun e => (kS e.1, .int e.2)
theorem encK_len (l : Rk) : (encK l).length = l.length := List.length_map ..
def rkGet (l : Rk) (p : Str) : Option Int := (l.find? fun e => decide (e.1 = p)).map (·.2)
theorem valV_enc (l : Rk) (p : Str) : valV (encK l) (kS p) = (rkGet l p).map V.int := by
  unfold valV rkGet encK
  rw [List.find?_map]
  have e : ((fun kv : Key × V => decide (kv.1 = kS p)) ∘ fun e : Str × Int => (kS e.1, V.int e.2)) = fun e : Str × Int => decide (e.1 = p) := by
    funext e
    exact decide_eq_decide.mpr ⟨fun h => Sum.inr.inj h, fun h => congrArg kS h⟩
  rw [e]
  cases (l.find? fun e => decide (e.1 = p)) <;> rfl
theorem putK_enc {l : Rk} {p : Str} {i : Int} (h : ∀ e ∈ l, e.1 ≠ p) : putK (encK l) (kS p) (.int i) = encK (l ++ [(p, i)]) := by
  unfold putK
  rw [if_neg]
  · unfold encK
    rw [List.map_append]
    rfl
  · intro q
    obtain ⟨kv, m, hd⟩ := List.any_eq_true.mp q
    obtain ⟨e, me, rfl⟩ := List.mem_map.mp m
    exact h e me (Sum.inr.inj (of_decide_eq_true hd))
theorem rkGet_mem {l : Rk} (hn : (l.map Prod.fst).Nodup) {e : Str × Int} (h : e ∈ l) : rkGet l e.1 = some e.2 := by
  induction l with
  | nil => cases h
  | cons x l ih =>
    rw [List.map_cons, List.nodup_cons] at hn
    unfold rkGet
    rw [List.find?_cons]
    rcases List.mem_cons.mp h with q | q
    · subst q
      simp
    · have ne : x.1 ≠ e.1 := fun z => hn.1 (z ▸ List.mem_map_of_mem (f := Prod.fst) q)
      rw [decide_eq_false ne]
      exact ih hn.2 q
section
variable {K : PySem.W.Frag} {σ : L2.St} {G H : Hp} {D : Ends} {Q : VK} {QT : Bool → Hp → Prop} {d : Addr} {kvs : List (Key × V)} {td ty tv : TE} {x y v : V} {R Ps : List SP} {p : Str} {l : Rk} {vs : List Nat} {g : TG} {tt : TT} {te : TE}
def kDGet (Q : VK) (x y : V) (H : Hp) : Prop := ∃ a v, x = .ref a ∧ DGet H a y (some v) ∧ Q v H
theorem r_dget (h : td σ H fun x H1 => ty σ H1 fun y H2 => kDGet Q x y H2) : tDGet td ty σ H Q := h
theorem r_dgetK {i : Int} (e : Rd H d (.dK (encK l))) (hv : rkGet l p = some i) (q : Q (.int i) H) : kDGet Q (.ref d) (.str p) H :=
  ⟨d, _, rfl, .inl ⟨_, kS p, e, rfl, by rw [valV_enc, hv]; rfl⟩, q⟩
def kDIn (Q : VK) (y x : V) (H : Hp) : Prop := ∃ a o, x = .ref a ∧ DGet H a y o ∧ Q (.bl o.isSome) H
def kDNotIn (Q : VK) (y x : V) (H : Hp) : Prop := ∃ a o, x = .ref a ∧ DGet H a y o ∧ Q (.bl (!o.isSome)) H
theorem r_din (h : ty σ H fun y H1 => td σ H1 fun x H2 => kDIn Q y x H2) : tDIn ty td σ H Q := h
theorem r_dnotin (h : ty σ H fun y H1 => td σ H1 fun x H2 => kDNotIn Q y x H2) : tDNotIn ty td σ H Q := h
theorem opt_map_some {α β : Type} {f : α → β} (o : Option α) : (o.map f).isSome = o.isSome := by cases o <;> rfl
theorem r_dinK (e : Rd H d (.dK (encK l))) (q : Q (.bl (rkGet l p).isSome) H) : kDIn Q (.str p) (.ref d) H :=
  ⟨d, _, rfl, .inl ⟨_, kS p, e, rfl, rfl⟩, by rw [valV_enc, opt_map_some]; exact q⟩
theorem r_dnotinK (e : Rd H d (.dK (encK l))) (q : Q (.bl (!(rkGet l p).isSome)) H) : kDNotIn Q (.str p) (.ref d) H :=
  ⟨d, _, rfl, .inl ⟨_, kS p, e, rfl, rfl⟩, by rw [valV_enc, opt_map_some]; exact q⟩
def kDPut (D : Ends) (σ : L2.St) (v x y : V) (H : Hp) : Prop := ∃ a H4, x = .ref a ∧ DPut H a y v H4 ∧ D.nx σ H4
theorem r_dput (h : tv σ H fun v H1 => td σ H1 fun x H2 => ty σ H2 fun y H3 => kDPut D σ v x y H3) : sDPut td ty tv D σ H := h
theorem r_dputK {i : Int} (S : Sep (pt d (.dK (encK l)) :: R) H) (hn : ∀ e ∈ l, e.1 ≠ p) (hl : l.length ≤ 100000) (q : ∀ H', Sep (pt d (.dK (encK (l ++ [(p, i)]))) :: R) H' → D.nx σ H') : kDPut D σ (.int i) (.ref d) (.str p) H :=
  ⟨d, _, rfl, .inl ⟨_, kS p, S.hd_at, rfl, by rw [encK_len]; exact Nat.lt_of_le_of_lt hl (by decide), rfl⟩, q _ (by rw [← putK_enc hn]; exact S.hd_set _)⟩
/-! ### a comprehension over a dict's keys -/
section
variable {β : Type} {enc2 : β → PyData} {f : Str × Int → Option β}
theorem r_lcD {iv : Nat} (S : Sep (pt d (.dK (encK l)) :: hp G :: R) H) (hv : σ[iv]? = some (some (.ref d))) (hl : l.length ≤ 80000) (f : Str × Int → Option β) (enc2 : β → PyData)
    (turn : ∀ e ∈ l, ∀ od, LcT K G (pt d (.frz od (.dK (encK l))) :: R) g tt te vs σ (.str e.1) ((f e).map enc2))
    (fin : ∀ D acc G' H', Le G G' → DpAll K G' acc ((l.filterMap f).map enc2) → Sep (pt D (.lst acc) :: hp G' :: pt d (.dK (encK l)) :: R) H' → Q (.ref D) H') : tLockE (tLc (iKeys (tVar iv)) g tt te vs) σ H Q := by
  refine ⟨d, .dK (encK l), S.hd_at, ?_, fun od => ?_⟩
  · first | trivial | exact .inr rfl | exact ⟨⟩ | simp [Mut]
  have S1 : Sep (hp G :: pt d (.frz od (.dK (encK l))) :: R) (upd H d (.frz od (.dK (encK l)))) := (S.hd_set _).swap
  refine r_tlc (q_var hv ⟨d, od, rfl, .inl ⟨encK l, upd_same, fun D nD => ?_⟩⟩)
  refine lc_it (walk_keys (d := d) (o := od) (kvs := encK l)) (CN (fun i acc Ps => ∃ Gi, Le G Gi ∧ Ps = hp Gi :: pt d (.frz od (.dK (encK l))) :: R ∧ DpAll K Gi acc (((l.take i).filterMap f).map enc2) ∧ acc.length ≤ i) D) ?_ ?_ ?_ ?_
  · exact ⟨[], _, ⟨G, Le.rfl, rfl, .nil, Nat.zero_le _⟩, S1.new _ nD⟩
  · rintro i H hi ⟨acc, Ps, ⟨Gi, le, rfl, _⟩, S⟩
    exact S.tl.tl.hd_at
  · rintro i x H H' hi ⟨acc, Ps, ⟨Gi, le, rfl, hacc, hn⟩, S⟩ ⟨rfl, k, v, hk, rfl⟩
    unfold encK at hk
    rw [List.getElem?_map] at hk
    rw [encK_len] at hi
    cases ez : l[i]? with
    | none => rw [ez] at hk; cases hk
    | some z =>
      rw [ez] at hk
      cases hk
      have st := lcd_step (f := f) (enc2 := enc2) ez
      refine turn z (List.mem_of_getElem? ez) od D acc Gi _ _ _ le (.str _) (by omega) S (fun y zz G' H4 l4 ey hy S4 => ?_) (fun en H3 S3 => ?_)
      · refine cn_in S4 (by omega) ⟨G', le.tr l4, rfl, ?_, by rw [List.length_append]; simp; omega⟩
        cases q : f z with
        | none => rw [q] at ey; cases ey
        | some w =>
          rw [q] at ey st
          cases ey
          rw [st]
          exact dpall_snoc (DpAll.le l4 _ _ hacc) hy
      · refine cn_out S3 ⟨Gi, le, rfl, ?_, by omega⟩
        cases q : f z with
        | some w => rw [q] at en; cases en
        | none =>
          rw [q] at st
          rw [st, List.append_nil]
          exact hacc
  · rintro H' ⟨acc, Ps, ⟨Gi, le, rfl, hacc, hn⟩, S⟩
    rw [encK_len, List.take_length] at hacc
    refine ⟨S.tl.tl.hd_at, fin D acc Gi _ le hacc ?_⟩
    have S3 : Sep (pt d (.frz od (.dK (encK l))) :: pt D (.lst acc) :: hp Gi :: R) H' := (S.cons_mono fun _ => Sep.swap).swap
    have S4 := S3.hd_set (.dK (encK l))
    exact S4.swap.cons_mono fun _ => Sep.swap
end
/-! ### ints in a list; pairs in a list -/
theorem dpall_intsInv : ∀ {xs : List Int} {vs : List V}, DpAll K G vs (xs.map PyData.int) → vs = xs.map V.int
  | [], _, h => by cases h; rfl
  | x :: xs, _, h => by
    rw [List.map_cons] at h
    cases h with
    | cons h t => rw [dp_intInv h, dpall_intsInv t]; rfl
def dPr (e : Str × Int) : PyData := .tuple [.str e.1, .int e.2]
theorem dpall_prs : ∀ {l : Rk} {vs : List V}, DpAll K G vs (l.map dPr) → ∃ ps : List Addr, vs = ps.map V.ref ∧ Paired (fun p kv => SqT K G p [kV kv.1, kv.2]) ps (encK l)
  | [], _, h => by cases h; exact ⟨[], rfl, .nil⟩
  | e :: l, _, h => by
    rw [List.map_cons] at h
    cases h with
    | cons h t =>
      obtain ⟨ps, rfl, hp⟩ := dpall_prs t
      obtain ⟨a, xs, rfl, hs, hx⟩ := dp_tupInv (ds := [.str e.1, .int e.2]) h
      cases hx with
      | cons h1 t1 =>
        cases t1 with
        | cons h2 t2 =>
          cases t2
          rw [dp_strInv h1, dp_intInv h2] at hs
          exact ⟨a :: ps, rfl, .cons hs hp⟩
theorem mergeK_app : ∀ {l l2 : Rk}, ((l ++ l2).map Prod.fst).Nodup → mergeK (encK l) (encK l2) = encK (l ++ l2)
  | l, [], _ => by rw [List.append_nil]; rfl
  | l, e :: l2, hn => by
    have ne : ∀ z ∈ l, z.1 ≠ e.1 := by
      intro z m q
      rw [List.map_append, List.nodup_append] at hn
      exact hn.2.2 z.1 (List.mem_map_of_mem m) e.1 (by simp) q
    show mergeK (putK (encK l) (kS e.1) (.int e.2)) (encK l2) = _
    have e1 : l ++ e :: l2 = (l ++ [e]) ++ l2 := by simp
    rw [putK_enc ne, e1]
    exact mergeK_app (by rw [← e1]; exact hn)
def rDictP (K : PySem.W.Frag) : List V → Hp → VK → Prop := fun xs H Q => ∃ (a : Addr) (ps : List Addr) (kvs : List (Key × V)), xs = [.ref a] ∧ SqL K H a (ps.map V.ref) ∧ Paired (fun p kv => SqT K H p [kV kv.1, kv.2]) ps kvs ∧
    ∀ p, H p = none → Q (.ref p) (upd H p (.dK (mergeK [] kvs)))
theorem cr_dictP {X : Cx} (hc : X.calm = true) : CallR X (.type "dict") (rDictP X.K) := call_dictP hc
theorem paired_imp {α β : Type} {p q : α → β → Prop} (h : ∀ a b, p a b → q a b) : ∀ {as : List α} {bs : List β}, Paired p as bs → Paired q as bs
  | _, _, .nil => .nil
  | _, _, .cons x t => .cons (h _ _ x) (paired_imp h t)
theorem r_dictP {a : Addr} (S : Sep (hp G :: R) H) (h : Dp K G (.ref a) (.list (l.map dPr))) (hn : (l.map Prod.fst).Nodup) (q : ∀ p H', Sep (pt p (.dK (encK l)) :: hp G :: R) H' → Q (.ref p) H') : rDictP K [.ref a] H Q := by
  obtain ⟨a', vs, e, hs, hx⟩ := dp_lstInv h
  cases e
  obtain ⟨ps, rfl, hpp⟩ := dpall_prs hx
  refine ⟨a, ps, encK l, rfl, hp_sqL S hs, paired_imp (fun p kv => hp_sqT S) hpp, fun p np => q p _ ?_⟩
  have e : mergeK [] (encK l) = encK l := mergeK_app (l := []) (l2 := l) hn
  rw [e]
  exact S.new _ np
theorem r_setI {w : World} {a : Addr} {ns : List Int} (S : Sep Ps H) (s : SqL K H a (ns.map V.int)) (hl : ns.length ≤ 1000) (q : ∀ p c H', c ≤ ns.length → Sep (pt p (SetO w p (fun j => decide (j ∈ ns)) c) :: Ps) H' → Q (.ref p) H') : rSetL K w [.ref a] H Q :=
  ⟨a, ns, rfl, s, hl, fun p c np hc => q p c _ hc (S.new _ np)⟩
end
end Kt

set_option Elab.async false
set_option linter.all false
set_option maxRecDepth 100000
namespace Kt
open PySem L2 PyProof.Rows
/-! ### the order of texts -/
theorem leS_eq : leS = fun a b => decide (a.cps.toList ≤ b.cps.toList) := PySem.W.dataLe_str (fun b : Str => b)
theorem leS_trans (a b c : Str) (h : leS a b = true) (h2 : leS b c = true) : leS a c = true := by
  rw [leS_eq] at h h2 ⊢
  exact decide_eq_true (List.le_trans (of_decide_eq_true h) (of_decide_eq_true h2))
theorem leS_total (a b : Str) : (leS a b || leS b a) = true := by
  rw [leS_eq]
  rcases List.le_total a.cps.toList b.cps.toList with h | h
  · show (decide _ || decide _) = true
    rw [decide_eq_true h]
    rfl
  · show (decide _ || decide _) = true
    rw [decide_eq_true h, Bool.or_true]
def Asc (l : List Str) : Prop := l.Pairwise fun a b => leS a b = true
theorem asc_sort (l : List Str) : Asc (sortS l) := List.pairwise_mergeSort leS_trans leS_total l
theorem sort_asc {l : List Str} (h : Asc l) : sortS l = l := List.mergeSort_of_pairwise h
theorem asc_filter {l : List Str} (p : Str → Bool) (h : Asc l) : Asc (l.filter p) := h.filter p
theorem sort_perm (l : List Str) : (sortS l).Perm l := List.mergeSort_perm l leS
/-! ### ranks -/
def rkF : Nat → Od → Rk
  | _, [] => []
  | n, l :: o => l.map (fun x => (x, (n : Int))) ++ rkF (n + 1) o
theorem rkF_app : ∀ (a b : Od) (n : Nat), rkF n (a ++ b) = rkF n a ++ rkF (n + a.length) b
  | [], b, n => by simp [rkF]
  | l :: a, b, n => by
    show l.map _ ++ rkF (n + 1) (a ++ b) = _
    rw [rkF_app a b (n + 1), List.length_cons, show n + 1 + a.length = n + (a.length + 1) by omega, ← List.append_assoc]
    rfl
theorem rkF_take {o : Od} {i : Nat} {l : Lv} (h : o[i]? = some l) : rkF 0 (o.take (i + 1)) = rkF 0 (o.take i) ++ l.map (fun x => (x, (i : Int))) := by
  have hi := (List.getElem?_eq_some_iff.mp h).1
  rw [List.take_add_one, h, rkF_app]
  have e : (o.take i).length = i := by rw [List.length_take]; omega
  rw [e, Nat.zero_add]
  show _ ++ (l.map _ ++ rkF (i + 1) []) = _
  rw [show rkF (i + 1) [] = [] from rfl, List.append_nil]
theorem rkF_keys : ∀ (o : Od) (n : Nat), (rkF n o).map Prod.fst = o.flatten
  | [], _ => rfl
  | l :: o, n => by
    show (l.map _ ++ rkF (n + 1) o).map Prod.fst = _
    rw [List.map_append, rkF_keys o, List.map_map, List.flatten_cons]
    congr 1
    exact List.map_id _
theorem rkF_len (o : Od) (n : Nat) : (rkF n o).length = o.flatten.length := by rw [← rkF_keys o n, List.length_map]
theorem rkGet_app (a b : Rk) (p : Str) : rkGet (a ++ b) p = (rkGet a p).or (rkGet b p) := by
  unfold rkGet
  rw [List.find?_append]
  cases a.find? fun e => decide (e.1 = p) <;> rfl
theorem rkGet_lv (p : Str) (n : Int) : ∀ l : Lv, rkGet (l.map fun x => (x, n)) p = if p ∈ l then some n else none
  | [] => by simp [rkGet]
  | x :: l => by
    have ih := rkGet_lv p n l
    unfold rkGet at ih ⊢
    rw [List.map_cons, List.find?_cons]
    by_cases e : x = p
    · subst e; simp
    · rw [decide_eq_false e]
      rw [ih]
      have : p ∈ x :: l ↔ p ∈ l := ⟨fun m => (List.mem_cons.mp m).resolve_left fun q => e q.symm, List.mem_cons_of_mem _⟩
      simp [this]
theorem lvO_cons (l : Lv) (o : Od) (p : Str) : lvO (l :: o) p = if p ∈ l then some 0 else (lvO o p).map (· + 1) := by
  unfold lvO
  rw [List.findIdx?_cons]
  by_cases h : p ∈ l <;> simp [h]
theorem rkGet_rkF (p : Str) : ∀ (o : Od) (n : Nat), rkGet (rkF n o) p = (lvO o p).map fun i => (n : Int) + (i : Int)
  | [], n => rfl
  | l :: o, n => by
    show rkGet (l.map _ ++ rkF (n + 1) o) p = _
    rw [rkGet_app, rkGet_lv, rkGet_rkF p o, lvO_cons]
    by_cases h : p ∈ l
    · simp [h]
    · simp only [h, if_false, Option.none_or, Option.map_map]
      cases lvO o p with
      | none => rfl
      | some i => simp; omega
theorem rkGet_0 (p : Str) (o : Od) : rkGet (rkF 0 o) p = (lvO o p).map fun i : Nat => (i : Int) := by
  rw [rkGet_rkF]
  cases lvO o p with
  | none => rfl
  | some i => simp
theorem lvO_mem {o : Od} {p : Str} : (lvO o p).isSome = true ↔ p ∈ o.flatten := by
  unfold lvO
  rw [List.findIdx?_isSome, List.any_eq_true]
  simp only [List.mem_flatten, decide_eq_true_eq]
theorem lvO_none {o : Od} {p : Str} : lvO o p = none ↔ p ∉ o.flatten := by
  rw [← lvO_mem]
  cases lvO o p <;> simp
/-! ### what is kept of an order -/
theorem onlyO_congr {ps qs : List Str} (h : ∀ x, x ∈ ps ↔ x ∈ qs) (o : Od) : onlyO ps o = onlyO qs o := by
  unfold onlyO
  have e : (fun x => decide (x ∈ ps)) = fun x => decide (x ∈ qs) := by
    funext x
    exact decide_eq_decide.mpr (h x)
  rw [e]
theorem onlyO_nil (ps : List Str) : onlyO ps [] = [] := rfl
theorem onlyO_cons (ps : List Str) (l : Lv) (o : Od) : onlyO ps (l :: o) = if (l.filter fun x => decide (x ∈ ps)).isEmpty = true then onlyO ps o else (l.filter fun x => decide (x ∈ ps)) :: onlyO ps o := by
  unfold onlyO
  rw [List.map_cons, List.filter_cons]
  cases (l.filter fun x => decide (x ∈ ps)).isEmpty <;> rfl
theorem onlyO_flat (ps : List Str) : ∀ o : Od, (onlyO ps o).flatten = o.flatten.filter fun x => decide (x ∈ ps)
  | [] => rfl
  | l :: o => by
    rw [onlyO_cons, List.flatten_cons, List.filter_append, ← onlyO_flat ps o]
    split
    · rename_i h
      rw [List.isEmpty_iff.mp h, List.nil_append]
    · rfl
theorem onlyO_ne {ps : List Str} {o : Od} {l : Lv} (h : l ∈ onlyO ps o) : l ≠ [] := by
  have := (List.mem_filter.mp h).2
  intro e
  rw [e] at this
  cases this
theorem onlyO_empty (ps : List Str) (o : Od) : (onlyO ps o).isEmpty = (o.flatten.filter fun x => decide (x ∈ ps)).isEmpty := by
  rw [← onlyO_flat]
  cases e : onlyO ps o with
  | nil => rfl
  | cons l t =>
    have := onlyO_ne (ps := ps) (o := o) (l := l) (by rw [e]; exact List.mem_cons_self)
    cases l with
    | nil => exact absurd rfl this
    | cons x l => rfl
/-! ### an order out of its ranks -/
def ordL (kv : Rk) (ms : List Int) : Od := ms.map fun r => sortS ((kv.filter fun e => decide (e.2 = r)).map Prod.fst)
def kvP (ps : List Str) (n : Nat) (o : Od) : Rk := (rkF n o).filter fun e => decide (e.1 ∈ ps)
def msO (ps : List Str) : Nat → Od → List Int
  | _, [] => []
  | n, l :: o => if (l.filter fun x => decide (x ∈ ps)).isEmpty = true then msO ps (n + 1) o else (n : Int) :: msO ps (n + 1) o
theorem kvP_cons (ps : List Str) (n : Nat) (l : Lv) (o : Od) : kvP ps n (l :: o) = (l.filter fun x => decide (x ∈ ps)).map (fun x => (x, (n : Int))) ++ kvP ps (n + 1) o := by
  unfold kvP
  show (l.map _ ++ rkF (n + 1) o).filter _ = _
  rw [List.filter_append, List.filter_map]
  rfl
theorem msO_cons (ps : List Str) (n : Nat) (l : Lv) (o : Od) : msO ps n (l :: o) = if (l.filter fun x => decide (x ∈ ps)).isEmpty = true then msO ps (n + 1) o else (n : Int) :: msO ps (n + 1) o := rfl
theorem msO_ge (ps : List Str) : ∀ (o : Od) (n : Nat) (k : Int), k ∈ msO ps n o → (n : Int) ≤ k
  | [], n, k, h => by cases h
  | l :: o, n, k, h => by
    unfold msO at h
    split at h
    · have := msO_ge ps o (n + 1) k h; omega
    · rcases List.mem_cons.mp h with e | m
      · omega
      · have := msO_ge ps o (n + 1) k m; omega
theorem msO_asc (ps : List Str) : ∀ (o : Od) (n : Nat), (msO ps n o).Pairwise (· < ·)
  | [], n => .nil
  | l :: o, n => by
    unfold msO
    split
    · exact msO_asc ps o (n + 1)
    · refine .cons (fun k m => ?_) (msO_asc ps o (n + 1))
      have := msO_ge ps o (n + 1) k m
      omega
theorem kvP_ge (ps : List Str) : ∀ (o : Od) (n : Nat) (e : Str × Int), e ∈ kvP ps n o → (n : Int) ≤ e.2
  | [], n, e, h => by cases h
  | l :: o, n, e, h => by
    rw [kvP_cons] at h
    rcases List.mem_append.mp h with m | m
    · obtain ⟨x, _, rfl⟩ := List.mem_map.mp m; exact Int.le_refl _
    · have := kvP_ge ps o (n + 1) e m; omega
theorem msO_mem (ps : List Str) (k : Int) : ∀ (o : Od) (n : Nat), k ∈ msO ps n o ↔ k ∈ (kvP ps n o).map Prod.snd
  | [], n => by simp [msO, kvP, rkF]
  | l :: o, n => by
    rw [kvP_cons, List.map_append, List.mem_append, ← msO_mem ps k o (n + 1), List.map_map, msO_cons]
    cases e : l.filter fun x => decide (x ∈ ps) with
    | nil => simp
    | cons y t =>
      rw [if_neg (by simp), List.mem_cons]
      refine or_congr ⟨fun h => by rw [h]; simp, fun h => ?_⟩ Iff.rfl
      obtain ⟨x, _, hx⟩ := List.mem_map.mp h
      exact hx.symm
theorem filter_none {α : Type} {p : α → Bool} {l : List α} (h : ∀ x ∈ l, p x = false) : l.filter p = [] := List.filter_eq_nil_iff.mpr fun x m => by rw [h x m]; decide
theorem ordL_only (ps : List Str) : ∀ (o : Od) (n : Nat), (∀ l ∈ o, Asc l) → ordL (kvP ps n o) (msO ps n o) = onlyO ps o
  | [], n, _ => rfl
  | l :: o, n, h => by
    have ih := ordL_only ps o (n + 1) fun x m => h x (List.mem_cons_of_mem _ m)
    have key : ∀ k ∈ msO ps (n + 1) o, (kvP ps n (l :: o)).filter (fun e => decide (e.2 = k)) = (kvP ps (n + 1) o).filter fun e => decide (e.2 = k) := fun k m => by
      have := msO_ge ps o (n + 1) k m
      rw [kvP_cons, List.filter_append, filter_none, List.nil_append]
      intro e me
      obtain ⟨x, _, rfl⟩ := List.mem_map.mp me
      exact decide_eq_false fun q => by have q : (n : Int) = k := q; omega
    have key2 : ordL (kvP ps n (l :: o)) (msO ps (n + 1) o) = onlyO ps o := by
      rw [← ih]
      exact List.map_congr_left fun k m => by rw [key k m]
    rw [onlyO_cons]
    unfold msO
    by_cases e : (l.filter fun x => decide (x ∈ ps)).isEmpty = true
    · rw [if_pos e, if_pos e]
      exact key2
    · rw [if_neg e, if_neg e]
      show sortS _ :: ordL _ (msO ps (n + 1) o) = _
      rw [key2]
      congr 1
      have e1 : (kvP ps n (l :: o)).filter (fun e => decide (e.2 = (n : Int))) = (l.filter fun x => decide (x ∈ ps)).map fun x => (x, (n : Int)) := by
        rw [kvP_cons, List.filter_append, filter_none (l := kvP ps (n + 1) o), List.append_nil, List.filter_eq_self]
        · intro e me
          obtain ⟨x, _, rfl⟩ := List.mem_map.mp me
          exact decide_eq_true rfl
        · intro e me
          have := kvP_ge ps o (n + 1) e me
          exact decide_eq_false fun q => by omega
      rw [e1, List.map_map]
      have e2 : ((l.filter fun x => decide (x ∈ ps)).map (Prod.fst ∘ fun x => (x, (n : Int)))) = l.filter fun x => decide (x ∈ ps) := List.map_id _
      rw [e2]
      exact sort_asc (asc_filter _ (h l List.mem_cons_self))
/-! ### names that stand in one order at most -/
def Apart (p : Str) (s : List Od) : Prop := s.Pairwise fun a b => ¬ (p ∈ a.flatten ∧ p ∈ b.flatten)
theorem arrO_cons (o : Od) (s : List Od) (p : Str) : arrO (o :: s) p = if p ∈ o.flatten then some 0 else (arrO s p).map (· + 1) := by
  unfold arrO
  rw [List.findIdx?_cons]
  by_cases h : p ∈ o.flatten
  · rw [if_pos h, if_pos (lvO_mem.mpr h)]
  · rw [if_neg h, if_neg fun q => h (lvO_mem.mp q)]
theorem cmpO_none {o : Od} {p q : Str} : cmpO o p q = none ↔ ¬ (p ∈ o.flatten ∧ q ∈ o.flatten) := by
  rw [← lvO_mem, ← lvO_mem]
  unfold cmpO
  cases lvO o p <;> cases lvO o q <;> simp
theorem stO_cons (o : Od) (s : List Od) (p q : Str) : stO (o :: s) p q = (cmpO o p q).or (stO s p q) := by
  unfold stO
  rw [List.findSome?_cons]
  cases cmpO o p q <;> rfl
theorem stO_away {s : List Od} {p q : Str} (h : ∀ o ∈ s, p ∉ o.flatten ∨ q ∉ o.flatten) : stO s p q = none := by
  unfold stO
  rw [List.findSome?_eq_none_iff]
  intro o m
  refine cmpO_none.mpr fun ⟨a, b⟩ => ?_
  rcases h o m with z | z
  · exact z a
  · exact z b
/-- where two names stand: in the order that holds both, if there is one -/
theorem stO_arr : ∀ {s : List Od} {p q : Str}, Apart p s → Apart q s → stO s p q = match arrO s p, arrO s q with
    | some i, some j => if i = j then cmpO (s.getD i []) p q else none
    | _, _ => none
  | [], p, q, _, _ => rfl
  | o :: s, p, q, hp, hq => by
    obtain ⟨p1, p2⟩ := List.pairwise_cons.mp hp
    obtain ⟨q1, q2⟩ := List.pairwise_cons.mp hq
    have ih := stO_arr p2 q2
    rw [stO_cons, arrO_cons, arrO_cons]
    by_cases a : p ∈ o.flatten
    · by_cases b : q ∈ o.flatten
      · rw [if_pos a, if_pos b]
        cases e : cmpO o p q with
        | none => exact absurd ⟨a, b⟩ (cmpO_none.mp e)
        | some z =>
          show some z = cmpO o p q
          exact e.symm
      · rw [if_pos a, if_neg b, cmpO_none.mpr fun z => b z.2, stO_away fun x m => .inl fun z => p1 x m ⟨a, z⟩]
        cases arrO s q <;> simp
    · by_cases b : q ∈ o.flatten
      · rw [if_neg a, if_pos b, cmpO_none.mpr fun z => a z.1, stO_away fun x m => .inr fun z => q1 x m ⟨b, z⟩]
        cases arrO s p <;> simp
      · rw [if_neg a, if_neg b, cmpO_none.mpr fun z => a z.1, Option.none_or, ih]
        cases arrO s p with
        | none => rfl
        | some i =>
          cases arrO s q with
          | none => rfl
          | some j => simp
theorem arrO_some {s : List Od} {p : Str} {i : Nat} (h : arrO s p = some i) : ∃ o, s[i]? = some o ∧ p ∈ o.flatten := by
  unfold arrO at h
  rw [List.findIdx?_eq_some_iff_getElem] at h
  obtain ⟨hi, h1, _⟩ := h
  exact ⟨s[i], List.getElem?_eq_getElem hi, lvO_mem.mp h1⟩
theorem stO_isSome {s : List Od} {p q : Str} (hp : Apart p s) (hq : Apart q s) : (stO s p q).isSome = ((arrO s p).isSome && decide (arrO s p = arrO s q)) := by
  rw [stO_arr hp hq]
  cases e1 : arrO s p with
  | none => rfl
  | some i =>
    cases e2 : arrO s q with
    | none => simp
    | some j =>
      by_cases e : i = j
      · subst e
        obtain ⟨o, ho, m1⟩ := arrO_some e1
        obtain ⟨o2, ho2, m2⟩ := arrO_some e2
        rw [ho] at ho2
        cases ho2
        have : s.getD i [] = o := by rw [List.getD_eq_getElem?_getD, ho]; rfl
        simp only [if_true, this]
        cases e3 : cmpO o p q with
        | none => exact absurd ⟨m1, m2⟩ (cmpO_none.mp e3)
        | some z => simp
      · simp [e]
theorem apart_filter {p : Str} {s : List Od} (f : Od → Bool) (h : Apart p s) : Apart p (s.filter f) := h.filter f
theorem apart_perm {p : Str} {s t : List Od} (h : Apart p s) (e : s.Perm t) : Apart p t := e.pairwise h fun z w => z ⟨w.2, w.1⟩
theorem shpO_perm (os : List Od) : (shpO os).Perm (os.filter fun o => !o.isEmpty) := List.mergeSort_perm _ leOd
theorem shpO_mem {os : List Od} {o : Od} : o ∈ shpO os ↔ o ∈ os ∧ o ≠ [] := by
  rw [(shpO_perm os).mem_iff, List.mem_filter]
  cases o <;> simp
theorem shpO_apart {p : Str} {os : List Od} (h : Apart p os) : Apart p (shpO os) := apart_perm (apart_filter _ h) (shpO_perm os).symm
end Kt

set_option Elab.async false
set_option linter.all false
set_option maxRecDepth 100000
namespace Kt
open PySem L2 PyProof.Rows
section
variable {K : PySem.W.Frag} {σ : L2.St} {G H : Hp} {D : Ends} {Q : VK} {a b : Addr} {xs : List V} {y : V} {Ps R : List SP} {ds : List PyData} {k : Nat}
theorem r_dnew (S : Sep Ps H) (q : ∀ p H', Sep (pt p (.dK (encK [])) :: Ps) H' → Q (.ref p) H') : tDNewK σ H Q := fun p np => q p _ (S.new _ np)
/-- xs.insert(i, y) -/
def rIns : V → List V → Hp → VK → Prop := fun x vs H Q => ∃ (l : Addr) (xs : List V) (i : Int) (y : V), x = .ref l ∧ vs = [.int i, y] ∧ H l = some (.lst xs) ∧ xs.length < sizeLine ∧ 0 ≤ i ∧ i < 2 ^ 63 ∧ Q .non (upd H l (.lst (xs.take i.toNat ++ [y] ++ xs.drop i.toNat)))
theorem mt_insertK {X : Cx} : MtR X "list.insert" rIns := mt_insert
theorem r_ins {i : Int} (S : Sep (pt a (.lst xs) :: R) H) (h0 : 0 ≤ i) (hi : i ≤ 1000000) (hz : xs.length < 100000) (h : ∀ H', Sep (pt a (.lst (xs.take i.toNat ++ y :: xs.drop i.toNat)) :: R) H' → Q .non H') : rIns (.ref a) [.int i, y] H Q :=
  ⟨a, xs, i, y, rfl, rfl, S.hd_at, Nat.lt_of_lt_of_le hz (by decide), h0, by omega, by
    have e : xs.take i.toNat ++ [y] ++ xs.drop i.toNat = xs.take i.toNat ++ y :: xs.drop i.toNat := by simp
    rw [e]
    exact h _ (S.hd_set _)⟩
/-! ### while -/
def WhN (J : LW) (m : Nat) : L2.St → Hp → Prop := fun σ' H' => ∃ m', m' < m ∧ Nx J m' σ' H'
theorem wh_in {J : LW} {m m' : Nat} (h : m' < m) (S : Sep Ps H) (j : J m' σ Ps) : WhN J m σ H := ⟨m', h, Ps, j, S⟩
theorem wh_go {tb : TS} {J : LW} {m : Nat} (h : tb { D with nx := WhN J m, ct := WhN J m, bk := D.nx } σ H) : ∃ N : L2.St → Hp → Prop, (∀ σ' H', N σ' H' → ∃ m', m' < m ∧ Nx J m' σ' H') ∧ tb { D with nx := N, ct := N, bk := D.nx } σ H := ⟨WhN J m, fun _ _ h => h, h⟩
theorem r_while {tc : TT} {tb : TS} (J : LW) (m : Nat) (S : Sep Ps H) (h0 : J m σ Ps) (hs : ∀ m σ Ps H, J m σ Ps → Sep Ps H → tc σ H fun b H1 => if b = true then ∃ N : L2.St → Hp → Prop, (∀ σ' H', N σ' H' → ∃ m', m' < m ∧ Nx J m' σ' H') ∧ tb { D with nx := N, ct := N, bk := D.nx } σ H1 else D.nx σ H1) : tWhile tc tb D σ H :=
  ⟨Nx J, ⟨m, nx_in S h0⟩, fun m σ H ⟨Ps, j, S⟩ => hs m σ Ps H j S⟩
/-! ### compared with what is empty -/
theorem eqv_nil : ∀ ds : List PyData, PyData.eqvAll ds [] = ds.isEmpty
  | [] => by simp [PyData.eqvAll]
  | d :: ds => by simp [PyData.eqvAll]
theorem r_ne_nilL (h1 : Dp K H (.ref a) (.list ds)) (o : Okd k (.list ds)) (hk : k ≤ 64) (s : SqL K H b []) (h : Q (.bl (!ds.isEmpty)) H) : rNeA K (.ref a) (.ref b) H Q :=
  .inr ⟨_, .list [], h1, .lst s .nil, o.shaped hk, (okd_list (k := 0) (by simp)).shaped (by decide), by rw [PyData.eqv, eqv_nil]; exact h⟩
theorem r_eq_nilL (h1 : Dp K H (.ref a) (.list ds)) (o : Okd k (.list ds)) (hk : k ≤ 64) (s : SqL K H b []) (h : Q (.bl ds.isEmpty) H) : rEqA K (.ref a) (.ref b) H Q :=
  .inr ⟨_, .list [], h1, .lst s .nil, o.shaped hk, (okd_list (k := 0) (by simp)).shaped (by decide), by rw [PyData.eqv, eqv_nil]; exact h⟩
theorem r_ne_nilT (h1 : Dp K H (.ref a) (.tuple ds)) (o : Okd k (.tuple ds)) (hk : k ≤ 64) (s : SqT K H b []) (h : Q (.bl (!ds.isEmpty)) H) : rNeA K (.ref a) (.ref b) H Q :=
  .inr ⟨_, .tuple [], h1, .tup s .nil, o.shaped hk, (okd_tuple (k := 0) (by simp)).shaped (by decide), by rw [PyData.eqv, eqv_nil]; exact h⟩
/-! ### names: texts that may be laid down -/
def Nms (l : List Str) : Prop := ∀ x ∈ l, PyData.strOk x = true
theorem okd_str {k : Nat} {x : Str} (h : PyData.strOk x = true) : Okd k (.str x) := ⟨h, Nat.zero_le _⟩
theorem okd_strs {k : Nat} {l : List Str} (h : Nms l) : ∀ d ∈ l.map PyData.str, Okd k d := fun d m => by
  obtain ⟨x, hx, rfl⟩ := List.mem_map.mp m
  exact okd_str (h x hx)
theorem okd_ns {l : List Str} (h : Nms l) : Okd 1 (dNs l) := okd_list (okd_strs h)
theorem okd_lv {l : List Str} (h : Nms l) : Okd 1 (dLv l) := okd_tuple (okd_strs h)
theorem okd_lvs {o : Od} (h : Nms o.flatten) : ∀ d ∈ o.map dLv, Okd 1 d := fun d m => by
  obtain ⟨x, hx, rfl⟩ := List.mem_map.mp m
  exact okd_lv fun z mz => h z (List.mem_flatten.mpr ⟨x, hx, mz⟩)
theorem okd_od {o : Od} (h : Nms o.flatten) : Okd 2 (dOd o) := okd_tuple (okd_lvs h)
theorem okd_ods {s : List Od} (h : ∀ o ∈ s, Nms o.flatten) : ∀ d ∈ s.map dOd, Okd 2 d := fun d m => by
  obtain ⟨x, hx, rfl⟩ := List.mem_map.mp m
  exact okd_od (h x hx)
theorem okd_shp {s : List Od} (h : ∀ o ∈ s, Nms o.flatten) : Okd 3 (dShp s) := okd_tuple (okd_ods h)
theorem okd_os {s : List Od} (h : ∀ o ∈ s, Nms o.flatten) : Okd 3 (dOds s) := okd_list (okd_ods h)
/-! ### tests that are known -/
theorem iteD {p A B : Prop} [Decidable p] (hp : p) (h : A) : if decide p = true then A else B := by rw [decide_eq_true hp]; exact h
theorem iteDN {p A B : Prop} [Decidable p] (hp : ¬ p) (h : B) : if decide p = true then A else B := by rw [decide_eq_false hp]; exact h
theorem iteB {b : Bool} {A B : Prop} (hb : b = true) (h : A) : if b = true then A else B := by rw [hb]; exact h
theorem iteBN {b : Bool} {A B : Prop} (hb : b = false) (h : B) : if b = true then A else B := by rw [hb]; exact h
theorem iteND {p A B : Prop} [Decidable p] (hp : ¬ p) (h : A) : if (!decide p) = true then A else B := by rw [decide_eq_false hp]; exact h
theorem iteNDN {p A B : Prop} [Decidable p] (hp : p) (h : B) : if (!decide p) = true then A else B := by rw [decide_eq_true hp]; exact h
theorem r_notN {x : V} (h : Q (.bl (!decide (x = .non))) H) : rNotN x .non H Q := ⟨rfl, h⟩
/-! ### cut in two -/
theorem cut_pre {n : Nat} : cutV xs none (some (n : Int)) = xs.take n := by
  unfold cutV HT.sIx
  simp only [List.drop_zero, Nat.sub_zero]
  rw [if_neg (by omega), Int.toNat_natCast, List.take_eq_take_iff]
  omega
theorem cut_suf {n : Nat} : cutV xs (some (n : Int)) none = xs.drop n := by
  unfold cutV HT.sIx
  simp only
  rw [if_neg (by omega), Int.toNat_natCast]
  by_cases h : n ≤ xs.length
  · rw [Nat.min_eq_left h, List.take_of_length_le (by rw [List.length_drop]; omega)]
  · rw [Nat.min_eq_right (by omega), List.drop_eq_nil_of_le (Nat.le_refl _), List.take_nil, List.drop_eq_nil_of_le (by omega)]
/-! ### a list of data that is of the heap's own -/
def LD (K : PySem.W.Frag) (G : Hp) (a : Addr) (ds : List PyData) : Prop := ∃ vs, G a = some (.lst vs) ∧ DpAll K G vs ds
theorem LD.le {G' : Hp} (h : LD K G a ds) (l : Le G G') : LD K G' a ds := by
  obtain ⟨vs, e, d⟩ := h
  exact ⟨vs, l _ _ e, DpAll.le l _ _ d⟩
theorem LD.dp (h : LD K G a ds) : Dp K G (.ref a) (.list ds) := by
  obtain ⟨vs, e, d⟩ := h
  exact .lst (SqL.of e) d
theorem LD.sq {l : List Str} (h : LD K G a (l.map PyData.str)) : SqL K G a (l.map V.str) := dns_sq h.dp
theorem hp_LD {p : Addr} (S : Sep (pt p (.lst xs) :: hp G :: R) H) (h : DpAll K G xs ds) : ∃ G', Le G G' ∧ LD K G' p ds ∧ Sep (hp G' :: R) H := by
  obtain ⟨G', l, e, S⟩ := hp_add S
  exact ⟨G', l, ⟨xs, e, DpAll.le l _ _ h⟩, S⟩
/-- a piece of a list of data, as a list of data -/
theorem r_pre {n : Nat} (S : Sep (hp G :: R) H) (hx : Dp K G (.ref a) (.list ds)) (h : ∀ p G' H', Le G G' → LD K G' p (ds.take n) → Sep (hp G' :: R) H' → Q (.ref p) H') : kSl K Q (.ref a) none (some (n : Int)) H := by
  obtain ⟨a', vs, e, hs, hv⟩ := dp_lstInv hx
  cases e
  refine r_ksl S (hp_sqL S hs) fun p H' S => ?_
  rw [cut_pre] at S
  obtain ⟨G', le, hd, S⟩ := hp_LD S (dpall_take n hv)
  exact h p G' H' le hd S
theorem r_suf {n : Nat} (S : Sep (hp G :: R) H) (hx : Dp K G (.ref a) (.list ds)) (h : ∀ p G' H', Le G G' → LD K G' p (ds.drop n) → Sep (hp G' :: R) H' → Q (.ref p) H') : kSl K Q (.ref a) (some (n : Int)) none H := by
  obtain ⟨a', vs, e, hs, hv⟩ := dp_lstInv hx
  cases e
  refine r_ksl S (hp_sqL S hs) fun p H' S => ?_
  rw [cut_suf] at S
  obtain ⟨G', le, hd, S⟩ := hp_LD S (dpall_drop n hv)
  exact h p G' H' le hd S
/-- two lists of data, one after the other -/
theorem r_catD {es : List PyData} (S : Sep (hp G :: R) H) (h1 : LD K G a ds) (h2 : LD K G b es) (hz : ds.length + es.length ≤ 100000) (h : ∀ p G' H', Le G G' → LD K G' p (ds ++ es) → Sep (hp G' :: R) H' → Q (.ref p) H') : rAddA (.ref a) (.ref b) H Q := by
  obtain ⟨v1, e1, d1⟩ := h1
  obtain ⟨v2, e2, d2⟩ := h2
  have l1 := dpall_len d1
  have l2 := dpall_len d2
  refine r_cat S (hp_le S _ _ e1) (hp_le S _ _ e2) (by omega) fun p H' S => ?_
  obtain ⟨G', le, hd, S⟩ := hp_LD S (dpall_app d1 d2)
  exact h p G' H' le hd S
/-- one list of data made new -/
theorem r_newD (S : Sep (hp G :: R) H) (hd : DpAll K G xs ds) (hl : xs.length ≤ 1000) (h : ∀ p G' H', Le G G' → LD K G' p ds → Sep (hp G' :: R) H' → Q (.ref p) H') : kLst Q xs H :=
  q_new S hl fun p H' S => by
    obtain ⟨G', le, hd, S⟩ := hp_LD S hd
    exact h p G' H' le hd S
theorem r_newTD (S : Sep (hp G :: R) H) (hd : DpAll K G xs ds) (hl : xs.length ≤ 1000) (h : ∀ p G' H', Le G G' → Dp K G' (.ref p) (.tuple ds) → Sep (hp G' :: R) H' → Q (.ref p) H') : kTup Q xs H :=
  q_newT S hl fun p H' S => by
    obtain ⟨G', le, hd, S⟩ := hp_tup S hd
    exact h p G' H' le hd S
end
end Kt

set_option Elab.async false
set_option linter.all false
set_option maxRecDepth 100000
set_option maxHeartbeats 4000000
namespace Pf
open PySem L2 Kt
set_option hygiene false
local macro_rules | `(tactic| walk_at "mem") => `(tactic| (with_reducible (repeat (first | exact Pick.hd | apply Pick.tl)); done))
local macro_rules | `(tactic| walk_at "rep") => `(tactic| (with_reducible (repeat (first | exact Repl.hd | apply Repl.tl)); done))
local macro_rules | `(tactic| walk_at "sel") => `(tactic| ((repeat (with_reducible apply Sel.cons; (focus walk_at "mem"))); (with_reducible apply Sel.nil); (with_reducible (repeat (first | exact Dr.all | apply Dr.skip)); done)))
local macro_rules | `(tactic| walk_at "at") => `(tactic| (refine' Sep.at_ (by assumption) ?kkpk; (case kkpk => walk_at "mem")))
local macro_rules | `(tactic| walk_at "sq") => `(tactic| first | assumption | (refine' Sep.sq (by assumption) ?kkpk; (case kkpk => walk_at "mem")))
local macro_rules | `(tactic| walk_at "st") => `(tactic| first | assumption | (refine' Sep.st (by assumption) ?kkpk; (case kkpk => walk_at "mem")))
local macro_rules | `(tactic| walk_at "lk") => `(tactic| (repeat (first | (with_reducible exact lk_eq) | exact rfl | refine (lk_ne (by decide +kernel)).trans ?_)))
local macro_rules | `(tactic| walk_at "pf") => `(tactic| (repeat (first | (with_reducible exact pf_nil) | (with_reducible exact pf_eq) | (apply pf_ne; (focus decide +kernel)))))
local macro_rules | `(tactic| walk_at "ty") => `(tactic| first | exact ty_int | (refine' ty_lst ?kkh; (case kkh => walk_at "at")))
local macro_rules | `(tactic| walk_at "k1") => `(tactic| with_reducible first
  | refine q_seq ?_ | refine q_set ?_ | refine q_asg ?_ | refine q_ret ?_ | refine q_drop ?_ | refine q_next ?_ | refine q_c ?_ | refine q_op ?_ | refine q_un ?_ | refine q_nil ?_ | refine q_cons ?_ | refine q_cb ?_
  | refine q_call ?_ | refine q_ifs ?_ | refine q_if ?_ | refine q_test ?_ | refine q_tb ?_ | refine q_bl ?_ | refine q_notT ?_ | refine q_andT ?_ | refine q_orT ?_ | refine q_andV ?_ | refine q_orV ?_ | refine q_notV ?_
  | refine q_addA ?_ | refine q_subI ?_ | refine q_ltI ?_ | refine q_leI ?_ | refine q_gtI ?_ | refine q_geI ?_ | refine q_eqI ?_ | refine q_neI ?_ | refine q_abs ?_ | refine q_int ?_ | refine q_intB ?_ | refine q_max ?_ | refine q_min ?_
  | refine q_ipAdd ?_ | refine q_ipSub ?_ | refine q_gsub ?_ | refine q_augs ?_ | refine q_lst ?_ | refine q_tup ?_ | refine q_blI ?_ | refine iteT ?_ | refine iteF ?_ | refine iteNT ?_ | refine iteNF ?_
  | refine r_prop ?_ | refine r_fld ?_ | refine r_sfld ?_ | refine r_meth ?_ | refine r_make ?_ | refine r_sl ?_ | refine r_nopart ?_ | refine r_part ?_ | refine r_parti ?_ | refine r_gsl ?_ | refine r_bm ?_ | refine r_bm0 ?_ | refine r_for ?_ | refine r_ilist ?_ | refine r_irng ?_
  | refine r_gname ?_ | refine r_gcons ?_ | refine r_gnil ?_ | refine r_par ?_ | refine r_parA ?_ | refine r_chain ?_ | refine r_isN ?_ | refine r_tlc ?_ | refine r_yes ?_ | refine r_makek ?_ | refine r_neg ?_)
local macro_rules | `(tactic| walk_at "k2") => `(tactic| first
  | ((with_reducible refine' q_var ?kke ?_); (case kke => rfl))
  | ((with_reducible refine' q_aug ?kke ?_); (case kke => rfl))
  | ((with_reducible refine' q_ixL ?kks ?kke ?_); (case kks => walk_at "sq"); (case kke => first | rfl | assumption))
  | ((with_reducible refine' q_ixT ?kks ?kke ?_); (case kks => walk_at "st"); (case kke => first | rfl | assumption))
  | ((with_reducible refine' q_ixLL ?kks ?kke ?_); (case kks => walk_at "sq"); (case kke => first | rfl | assumption))
  | ((with_reducible refine' q_lenL ?kks ?_); (case kks => walk_at "sq"))
  | ((with_reducible refine' q_mulI ?kkc ?_); (case kkc => first | exact .inl (by omega) | exact .inr (by omega)))
  | ((with_reducible refine' q_modI ?kkc ?_); (case kkc => omega))
  | ((with_reducible refine' q_divI ?kkc ?_); (case kkc => exact ⟨by omega, by omega⟩))
  | ((with_reducible refine' q_powI ?kkc ?_); (case kkc => exact ⟨by decide, by decide, by decide⟩))
  | ((with_reducible refine' r_kfld ?kkS ?kkp ?kkc ?kkn ?kkl ?_); (case kkS => assumption); (case kkp => walk_at "mem"); (case kkc => walk_at "cls"); (case kkn => walk_at "na"); (case kkl => walk_at "lk"))
  | ((with_reducible refine' r_kprop ?kkS ?kkp ?_); (case kkS => assumption); (case kkp => walk_at "mem"))
  | ((with_reducible refine' r_kmeth ?kkS ?kkp ?kkl ?_); (case kkS => assumption); (case kkp => walk_at "mem"); (case kkl => walk_at "lk"))
  | ((with_reducible refine' r_calll ?kks ?_); (case kks => rfl))
  | ((with_reducible refine' r_tyl ?kks ?_); (case kks => walk_at "sq"))
  | ((with_reducible refine' r_isi (k := true) ?kkt ?kke ?_); (case kkt => walk_at "ty"); (case kke => decide +kernel))
  | ((with_reducible refine' r_isi (k := false) ?kkt ?kke ?_); (case kkt => walk_at "ty"); (case kke => decide +kernel)))
local macro_rules | `(tactic| walk_at "k3") => `(tactic| first
  | ((with_reducible refine' q_setS ?kkS ?kkr ?kke ?_); (case kkS => assumption); (case kkr => walk_at "rep"); (case kke => rfl); intro H S)
  | ((with_reducible refine' r_kset ?kkS ?kkr ?kkc ?kkn ?kkl ?kke ?_); (case kkS => assumption); (case kkr => walk_at "rep"); (case kkc => walk_at "cls"); (case kkn => walk_at "na"); (case kkl => first | exact Nat.le_of_ble_eq_true rfl | assumption | omega | (simp; done) | (simp; omega)); (case kke => walk_at "pf"); intro H S)
  | ((with_reducible refine' q_new ?kkS ?kkl ?_); (case kkS => assumption); (case kkl => first | exact Nat.le_of_ble_eq_true rfl | assumption | omega | (simp; done) | (simp; omega)); intro p H S)
  | ((with_reducible refine' q_newT ?kkS ?kkl ?_); (case kkS => assumption); (case kkl => first | exact Nat.le_of_ble_eq_true rfl | assumption | omega | (simp; done) | (simp; omega)); intro p H S)
  | ((with_reducible refine' r_knew ?kkS ?_); (case kkS => assumption); intro x dx H S)
  | ((with_reducible refine' r_knewk ?kkS ?kkl1 ?kkl2 ?_); (case kkS => assumption); (case kkl1 => rfl); (case kkl2 => rfl); intro x dx H S)
  | ((with_reducible refine' r_ksl ?kkS ?kks ?_); (case kkS => assumption); (case kks => walk_at "sq"); intro p H S)
  | ((with_reducible refine' r_list ?kkS ?kks ?_); (case kkS => assumption); (case kks => walk_at "sq"); intro p H S)
  | ((with_reducible refine' r_cat ?kkS ?kks1 ?kks2 ?kkz ?_); (case kkS => assumption); (case kks1 => walk_at "at"); (case kks2 => walk_at "at"); (case kkz => first | omega | (simp; omega)); intro p H S)
  | ((with_reducible refine' r_append ?kkS ?kkr ?kkz ?_); (case kkS => assumption); (case kkr => walk_at "rep"); (case kkz => first | omega | (simp; omega)); intro H S)
  | ((with_reducible refine' r_reverse ?kkS ?kkr ?_); (case kkS => assumption); (case kkr => walk_at "rep"); intro H S)
  | ((with_reducible refine' r_clear ?kkS ?kkr ?_); (case kkS => assumption); (case kkr => walk_at "rep"); intro H S))
local macro_rules | `(tactic| walk_at "gn") => `(tactic| repeat (first | walk_at "k1" | walk_at "k2"))
local macro_rules | `(tactic| walk_at "go") => `(tactic| repeat (first | walk_at "k1" | walk_at "k2" | walk_at "k3"))

local macro_rules | `(tactic| walk_at "sq") => `(tactic| first | assumption | (refine' Sep.sq ?kkS ?kkpk; (case kkS => assumption); (case kkpk => walk_at "mem")) | (refine' hp_sqL ?kkS ?kkx; (case kkS => assumption); (case kkx => assumption)) | (refine' hp_sqL (Sep.tl ?kkS) ?kkx; (case kkS => assumption); (case kkx => assumption)) | (refine' hp_sqL (Sep.tl (Sep.tl ?kkS)) ?kkx; (case kkS => assumption); (case kkx => assumption)))
local macro_rules | `(tactic| walk_at "st") => `(tactic| first | assumption | (refine' Sep.st ?kkS ?kkpk; (case kkS => assumption); (case kkpk => walk_at "mem")) | (refine' hp_sqT ?kkS ?kkx; (case kkS => assumption); (case kkx => assumption)) | (refine' hp_sqT (Sep.tl ?kkS) ?kkx; (case kkS => assumption); (case kkx => assumption)) | (refine' hp_sqT (Sep.tl (Sep.tl ?kkS)) ?kkx; (case kkS => assumption); (case kkx => assumption)))
local macro_rules | `(tactic| walk_at "k1") => `(tactic| with_reducible first | refine r_ienumT ?_ | refine r_tru ?_ | refine r_itup ?_ | refine r_star ?_ | refine r_par3 ?_ | refine r_parA3 ?_ | refine r_dget ?_ | refine r_din ?_ | refine r_dnotin ?_ | refine r_dput ?_)

def top (i : Nat) : Stmt := PySem.Challenge.pw_sparetails_k53_shapes_told.main.body.getD i (.Pass ⟨0, 0, 0, 0⟩)
abbrev s_level_of : Stmt := top 1
abbrev N_level_of : List Str := ["order", "point", "at", "level"]
abbrev s_compare : Stmt := top 2
abbrev N_compare : List Str := ["order", "one", "other", "mine", "its"]
abbrev s_without_empty : Stmt := top 3
abbrev N_without_empty : List Str := ["levels", "level"]
abbrev s_only : Stmt := top 4
abbrev N_only : List Str := ["order", "points", "level", "point"]
abbrev s_shape_of : Stmt := top 8
abbrev N_shape_of : List Str := ["orders", "order"]
abbrev s_array_of : Stmt := top 9
abbrev N_array_of : List Str := ["shape", "point", "at", "order"]
abbrev s_stands : Stmt := top 10
abbrev N_stands : List Str := ["shape", "one", "other", "order", "told"]
abbrev s_share : Stmt := top 11
abbrev N_share : List Str := ["shape", "one", "other"]
abbrev s_kept_points : Stmt := top 12
abbrev N_kept_points : List Str := ["shape", "names", "holding", "points", "order"]
abbrev s_l_bag : Stmt := top 14
abbrev N_l_bag : List Str := ["_law_script", "_law_cell"]
abbrev s_l_take : Stmt := top 15
abbrev N_l_take : List Str := ["_law_bag_here", "_law_many", "_law_cell", "_law_mixed_here", "_law_value", "_law_begin", "_law_second"]
abbrev s_l_alike : Stmt := top 16
abbrev N_l_alike : List Str := ["_law_found", "_law_due"]
abbrev s_l_mixed : Stmt := top 17
abbrev N_l_mixed : List Str := ["_law_bag_here", "_law_things", "_law_found", "_law_thing"]
abbrev s_l_drawn_order : Stmt := top 18
abbrev N_l_drawn_order : List Str := ["_law_bag_here", "_law_points", "_law_found", "_law_point", "_law_place"]
abbrev s_l_as_order : Stmt := top 19
abbrev N_l_as_order : List Str := ["_law_levels", "_law_level"]
abbrev s_l_ranks : Stmt := top 20
abbrev N_l_ranks : List Str := ["_law_order", "_law_found", "_law_at_here", "_law_point"]
abbrev s_l_order_of : Stmt := top 21
abbrev N_l_order_of : List Str := ["_law_ranks_here", "_law_levels", "_law_rank", "_law_point"]
abbrev s_l_sign_of : Stmt := top 22
abbrev N_l_sign_of : List Str := ["_law_at_here", "_law_one", "_law_other", "_law_higher"]
abbrev s_l_orders : Stmt := top 23
abbrev N_l_orders : List Str := ["_law_bag_here", "_law_names", "_law_found", "_law_signs", "_law_many", "_law_points", "_law_sign"]
abbrev s_l_at : Stmt := top 24
abbrev N_l_at : List Str := ["_law_shape", "_law_point", "_law_at_here"]
abbrev s_l_kept : Stmt := top 25
abbrev N_l_kept : List Str := ["_law_order", "_law_names", "_law_ranks_here", "_law_signs", "_law_point"]
abbrev s_l_reckon : Stmt := top 26
abbrev N_l_reckon : List Str := ["_law_orders_here", "_law_names", "_law_shape", "_law_found", "_law_one", "_law_other", "_law_at_here", "_law_to", "_law_sign", "_law_some", "_law_order"]
abbrev s_l_told : Stmt := top 27
abbrev N_l_told : List Str := ["_law_orders_here", "_law_names", "_law_shape", "_law_found", "_law_one", "_law_signs", "_law_some", "_law_told_here", "_law_other", "_law_sign"]
abbrev s_law : Stmt := top 28
abbrev N_law : List Str := ["_law_script", "_law_bag_here", "_law_turn", "_law_several", "_law_names", "_law_dues", "_law_shown", "_law_k", "_law_orders_here"]
structure Txt (K : PySem.W.Frag) (mg : Str → Option Value) (f_PASSED f_COMMON : Addr) : Prop where
  z_enumerate : mg "enumerate" = none
  z_tuple : mg "tuple" = none
  z_sorted : mg "sorted" = none
  z_len : mg "len" = none
  z_int : mg "int" = none
  z_abs : mg "abs" = none
  z_set : mg "set" = none
  z_dict : mg "dict" = none
  z_range : mg "range" = none
  z_repr : mg "repr" = none
  g_PASSED : mg "PASSED" = some (.ref f_PASSED)
  g_COMMON : mg "COMMON" = some (.ref f_COMMON)
abbrev Tx (K : PySem.W.Frag) (mg : Str → Option Value) (f_PASSED f_COMMON : Addr) := Txt K mg f_PASSED f_COMMON
/-! ### what is small -/
def WfO (o : Od) : Prop := o.length ≤ 100 ∧ ∀ l ∈ o, l.length ≤ 100
def WfS (os : List Od) : Prop := os.length ≤ 100 ∧ ∀ o ∈ os, WfO o
section
variable {K : PySem.W.Frag} {G : Hp} {xs : List V}
theorem od_at {o : Od} {i : Nat} {x : V} (h : DpAll K G xs (o.map dLv)) (hi : xs[i]? = some x) : ∃ l b, o[i]? = some l ∧ x = .ref b ∧ SqT K G b (l.map V.str) := by
  obtain ⟨d, hd, hx⟩ := dpall_at h hi
  rw [List.getElem?_map] at hd
  cases e : o[i]? with
  | none => rw [e] at hd; cases hd
  | some l =>
    rw [e] at hd
    cases hd
    obtain ⟨b, ys, eb, _, _⟩ := dp_tupInv hx
    subst eb
    exact ⟨l, b, rfl, rfl, dlv_sq hx⟩
theorem sh_at {s : List Od} {i : Nat} {x : V} (h : DpAll K G xs (s.map dOd)) (hi : xs[i]? = some x) : ∃ o b, s[i]? = some o ∧ x = .ref b ∧ Dp K G (.ref b) (dOd o) := by
  obtain ⟨d, hd, hx⟩ := dpall_at h hi
  rw [List.getElem?_map] at hd
  cases e : s[i]? with
  | none => rw [e] at hd; cases hd
  | some o =>
    rw [e] at hd
    cases hd
    obtain ⟨b, ys, eb, _, _⟩ := dp_tupInv hx
    subst eb
    exact ⟨o, b, rfl, rfl, hx⟩
theorem fi_step {α : Type} {p : α → Bool} {l : List α} {i : Nat} {x : α} (h0 : (l.take i).findIdx? p = none) (hx : l[i]? = some x) : (p x = true → l.findIdx? p = some i) ∧ (p x = false → (l.take (i + 1)).findIdx? p = none) := by
  rw [List.findIdx?_eq_none_iff] at h0
  have hi := (List.getElem?_eq_some_iff.mp hx).1
  have hxe := (List.getElem?_eq_some_iff.mp hx).2
  constructor
  · intro hp
    rw [List.findIdx?_eq_some_iff_getElem]
    refine ⟨hi, by rw [hxe]; exact hp, fun j hj => ?_⟩
    have := h0 l[j] (List.mem_take_iff_getElem.mpr ⟨j, by omega, rfl⟩)
    simp [this]
  · intro hp
    rw [List.findIdx?_eq_none_iff]
    intro y hy
    rw [List.take_add_one, hx] at hy
    rcases List.mem_append.mp hy with m | m
    · exact h0 y m
    · simp at m; rw [m]; exact hp
end
section
variable {P : Program} {w : World} {K : PySem.W.Frag} {mg : Str → Option Value} {base : Heap} {f_PASSED f_COMMON : Addr}
theorem sc_level_of : FnScope N_level_of ["order", "point"] (defScope s_level_of) := ⟨rfl, rfl, rfl, by decide +kernel, rfl, by decide +kernel, by decide +kernel⟩
def spLevel (K : PySem.W.Frag) : Sp := fun vs H Q _ => ∃ (a : Addr) (o : Od) (p : Str) (G : Hp) (R : List SP), vs = [.ref a, .str p] ∧ Dp K G (.ref a) (dOd o) ∧ Sep (hp G :: R) H ∧ ∀ H', Sep (hp G :: R) H' → Q (vOpt (lvO o p)) H'
theorem ok_level_of {f : Addr} (F : Dt K mg "level_of" s_level_of ["order", "point"] f) (T : Tx K mg f_PASSED f_COMMON) : Df P w K mg base 1 "level_of" f ["order", "point"] (spLevel K) := by
  refine F.ok sc_level_of (fun vs H Q E h => ?_) (fun cdv A outer s H vs Q E hr h => ?_)
  · obtain ⟨a, o, p, G, R, rfl, _⟩ := h
    rfl
  obtain ⟨a, o, p, G, R, rfl, hx, S, q⟩ := h
  refine ⟨_, (pss_cons (ps_for PassesOwn.never rfl (pi_enumT K (by rfl) T.z_enumerate (pa_cons (pv 0) pa_nil)) (pg_tupK K rfl (pgs_cons (pg_name (i := 2) sc_level_of.nd rfl (by first | exact Or.inl rfl | exact Or.inr rfl)) (pgs_cons (pg_name (i := 3) sc_level_of.nd rfl (by first | exact Or.inl rfl | exact Or.inr rfl)) pgs_nil))) (pss_one (ps_if (pt_cmpR (r := rIn K false) op_in_seq (pv 1) (pv 3) (by rfl)) (pss_one (ps_ret (pv 2))) pss_nil)))
      (pss_one (ps_ret pe_non))), ?_⟩
  obtain ⟨a', xs, e, hs, ha⟩ := dp_tupInv (ds := o.map dLv) hx
  cases e
  have hl : xs.length = o.length := by rw [dpall_len ha, List.length_map]
  walk_at "go"
  refine r_for_enumT (xs := xs) (fun i σ Ps => (∃ u2 u3, σ = [some (.ref a), some (.str p), u2, u3]) ∧ Ps = hp G :: R ∧ (o.take i).findIdx? (fun l => decide (p ∈ l)) = none) S ⟨⟨_, _, rfl⟩, rfl, by simp⟩ (fun i σ Ps H ⟨_, e, _⟩ S => by subst e; walk_at "st") ?_ ?_
  · rintro i x T σ Ps H hi ⟨⟨u2, u3, rfl⟩, rfl, hn⟩ S
    obtain ⟨l, b, el, rfl, hb⟩ := od_at ha hi
    obtain ⟨st1, st2⟩ := fi_step hn el
    walk_at "go"
    refine r_gtup (by walk_at "st") rfl ?_
    walk_at "go"
    have hb' : SqT K H b (l.map V.str) := SqT.le (hp_le S.tl) hb
    refine r_in_strs (.inr hb') ?_
    walk_at "go"
    refine q_ite (fun hm => ?_) (fun hm => ?_)
    · walk_at "go"
      have := q H S.tl
      rw [show lvO o p = some i from st1 (by simpa using hm)] at this
      exact this
    · walk_at "go"
      exact ⟨_, ⟨⟨_, _, rfl⟩, rfl, st2 (by simpa using hm)⟩, S.tl⟩
  · rintro σ Ps H ⟨⟨u2, u3, rfl⟩, rfl, hn⟩ S
    walk_at "go"
    rw [hl, List.take_length] at hn
    have := q H S
    rw [show lvO o p = none from hn] at this
    exact this
theorem sc_compare : FnScope N_compare ["order", "one", "other"] (defScope s_compare) := ⟨rfl, rfl, rfl, by decide +kernel, rfl, by decide +kernel, by decide +kernel⟩
def spCmp (K : PySem.W.Frag) : Sp := fun vs H Q _ => ∃ (a : Addr) (o : Od) (p p2 : Str) (G : Hp) (R : List SP), vs = [.ref a, .str p, .str p2] ∧ Dp K G (.ref a) (dOd o) ∧ Sep (hp G :: R) H ∧ ∀ H', Sep (hp G :: R) H' → Q (vOptI (cmpO o p p2)) H'
theorem ok_compare {f f1 : Addr} (F : Dt K mg "compare" s_compare ["order", "one", "other"] f) (T : Tx K mg f_PASSED f_COMMON) (D_level_of : Df P w K mg base 1 "level_of" f1 ["order", "point"] (spLevel K)) : Df P w K mg base 2 "compare" f ["order", "one", "other"] (spCmp K) := by
  refine F.ok sc_compare (fun vs H Q E h => ?_) (fun cdv A outer s H vs Q E hr h => ?_)
  · obtain ⟨a, o, p, p2, G, R, rfl, _⟩ := h
    rfl
  obtain ⟨a, o, p, p2, G, R, rfl, hx, S, q⟩ := h
  refine ⟨_, (pss_cons (ps_set (i := 3) sc_compare.nd rfl (by first | exact Or.inl rfl | exact Or.inr rfl) (pe_df D_level_of (hr.mono (by decide)) (pa_cons (pv 0) (pa_cons (pv 1) pa_nil))))
      (pss_cons (ps_set (i := 4) sc_compare.nd rfl (by first | exact Or.inl rfl | exact Or.inr rfl) (pe_df D_level_of (hr.mono (by decide)) (pa_cons (pv 0) (pa_cons (pv 2) pa_nil))))
      (pss_cons (ps_if (PW.pt (pw_or (pt_cmpR (r := rIsN) op_isN (pv 3) pe_non (nomark _)) (pw_or1 (pt_cmpR (r := rIsN) op_isN (pv 4) pe_non (nomark _))))) (pss_one (ps_ret pe_non)) pss_nil)
      (pss_cons (ps_if (pt_cmpR (r := rEqA K) (op_eqA hr.units) (pv 3) (pv 4) (nomark _)) (pss_one (ps_ret pe_int)) pss_nil)
      (pss_one (ps_ret (pe_ifExp (pt_cmpR (r := rLtI) op_lt (pv 3) (pv 4) (nomark _)) (pe_un un_neg pe_int) pe_int))))))), ?_⟩
  walk_at "go"
  refine ⟨a, o, p, G, R, rfl, hx, S, fun H S => ?_⟩
  walk_at "go"
  refine ⟨a, o, p2, G, R, rfl, hx, S, fun H S => ?_⟩
  walk_at "go"
  unfold cmpO at q
  cases e1 : lvO o p with
  | none =>
    rw [e1] at q
    refine iteD rfl ?_
    walk_at "go"
    exact q H S
  | some i =>
    rw [e1] at q
    refine iteDN (fun h => nomatch h) ?_
    walk_at "go"
    cases e2 : lvO o p2 with
    | none =>
      rw [e2] at q
      refine iteD rfl ?_
      walk_at "go"
      exact q H S
    | some j =>
      rw [e2] at q
      refine iteDN (fun h => nomatch h) ?_
      walk_at "go"
      simp only [vOpt]
      walk_at "go"
      simp only [vOptI] at q
      refine q_ite (fun h1 => ?_) (fun h1 => ?_)
      · walk_at "go"
        rw [if_pos (by omega)] at q
        exact q H S
      · walk_at "go"
        refine q_ite (fun h2 => ?_) (fun h2 => ?_)
        · walk_at "go"
          rw [if_neg (by omega), if_pos (by omega)] at q
          exact q H S
        · walk_at "go"
          rw [if_neg (by omega), if_neg (by omega)] at q
          exact q H S
theorem sc_without_empty : FnScope N_without_empty ["levels"] (defScope s_without_empty) := ⟨rfl, rfl, rfl, by decide +kernel, rfl, by decide +kernel, by decide +kernel⟩
theorem fm_if {α : Type} {p : α → Bool} : ∀ l : List α, (l.filterMap fun x => if p x = true then some x else none) = l.filter p
  | [] => rfl
  | x :: l => by
    rw [List.filterMap_cons, List.filter_cons, fm_if l]
    cases p x <;> rfl
theorem fm_map {α β : Type} {f : α → β} : ∀ l : List α, (l.filterMap fun x => some (f x)) = l.map f
  | [] => rfl
  | x :: l => by rw [List.filterMap_cons, List.map_cons, fm_map l]
theorem fm_ifmap {α β : Type} {p : α → Bool} {f : α → β} : ∀ l : List α, (l.filterMap fun x => if p x = true then some (f x) else none) = (l.filter p).map f
  | [] => rfl
  | x :: l => by
    rw [List.filterMap_cons, List.filter_cons, fm_ifmap l]
    cases p x <;> rfl
def spWE (K : PySem.W.Frag) : Sp := fun vs H Q _ => ∃ (a : Addr) (o : Od) (G : Hp) (R : List SP), vs = [.ref a] ∧ o.length ≤ 100 ∧ Dp K G (.ref a) (.list (o.map dLv)) ∧ Sep (hp G :: R) H ∧
  ∀ t G' H', Le G G' → Dp K G' (.ref t) (dOd (o.filter fun l => !l.isEmpty)) → Sep (hp G' :: R) H' → Q (.ref t) H'
theorem ok_without_empty {f : Addr} (F : Dt K mg "_without_empty" s_without_empty ["levels"] f) (T : Tx K mg f_PASSED f_COMMON) : Df P w K mg base 1 "_without_empty" f ["levels"] (spWE K) := by
  refine F.ok sc_without_empty (fun vs H Q E h => ?_) (fun cdv A outer s H vs Q E hr h => ?_)
  · obtain ⟨a, o, G, R, rfl, _⟩ := h
    rfl
  obtain ⟨a, o, G, R, rfl, hl, hx, S, q⟩ := h
  refine ⟨_, (pss_one (ps_ret (pe_callTy (r := cTup K) call_tupA (by rfl) T.z_tuple (by decide +kernel) (pa_cons (pe_lc (own := [("level", 1)]) rfl sc_without_empty.nd (pi_listK K (pv 0)) (blkOk_by (own := [("level", 1)]) (N := N_without_empty) (sc := defScope s_without_empty) (by decide +kernel)) (fun _ _ _ _ _ => (pg_name (i := 1) sc_without_empty.nd rfl (by first | exact Or.inl rfl | exact Or.inr rfl))) (fun _ _ _ _ _ => (pts_one (pt_truK K (pv 1)))) (fun _ _ _ _ _ => (pv 1))) pa_nil)))), ?_⟩
  walk_at "go"
  refine r_lcL S hx (by omega) (fun l => if (!l.isEmpty) = true then some l else none) dLv (fun l hl => ?_) (fun D acc G' H' le hacc S => ?_)
  · intro D acc Gi x H N le hx hn S kY kN
    obtain ⟨b, ys, rfl, _, _⟩ := dp_tupInv (ds := l.map PyData.str) hx
    have hb := dlv_sq hx
    walk_at "go"
    refine ⟨rfl, ?_⟩
    walk_at "go"
    refine r_truT (SqT.le (hp_le S.tl) hb) ?_
    cases l with
    | nil =>
      refine iteF ?_
      exact kN rfl H S
    | cons x l =>
      refine iteT ?_
      walk_at "go"
      exact kY _ _ Gi H Le.rfl rfl hx S
  · walk_at "go"
    refine r_tupOf S (by walk_at "sq") fun t H S => ?_
    have S2 : Sep (pt t (.tup acc) :: hp G' :: R) H := S.s2 (by walk_at "sel")
    obtain ⟨G2, le2, hd, S3⟩ := hp_tup S2 hacc
    rw [fm_if] at hd
    exact q t G2 H (le.tr le2) hd S3
theorem sc_only : FnScope N_only ["order", "points"] (defScope s_only) := ⟨rfl, rfl, rfl, by decide +kernel, rfl, by decide +kernel, by decide +kernel⟩
def spOnly (K : PySem.W.Frag) : Sp := fun vs H Q _ => ∃ (a b : Addr) (o : Od) (ps : List Str) (G : Hp) (R : List SP), vs = [.ref a, .ref b] ∧ WfO o ∧ Dp K G (.ref a) (dOd o) ∧ Dp K G (.ref b) (dNs ps) ∧ Sep (hp G :: R) H ∧
  ∀ t G' H', Le G G' → Dp K G' (.ref t) (dOd (onlyO ps o)) → Sep (hp G' :: R) H' → Q (.ref t) H'
theorem ok_only {f f1 : Addr} (F : Dt K mg "only" s_only ["order", "points"] f) (T : Tx K mg f_PASSED f_COMMON) (D_without_empty : Df P w K mg base 1 "_without_empty" f1 ["levels"] (spWE K)) : Df P w K mg base 2 "only" f ["order", "points"] (spOnly K) := by
  refine F.ok sc_only (fun vs H Q E h => ?_) (fun cdv A outer s H vs Q E hr h => ?_)
  · obtain ⟨a, b, o, ps, G, R, rfl, _⟩ := h
    rfl
  obtain ⟨a, b, o, ps, G, R, rfl, wf, hx, hb, S, q⟩ := h
  refine ⟨_, (pss_one (ps_ret (pe_df D_without_empty (hr.mono (by decide)) (pa_cons (pe_lc (own := [("level", 2)]) rfl sc_only.nd (pi_tupK K (pv 0)) (blkOk_by (own := [("level", 2)]) (N := N_only) (sc := defScope s_only) (by decide +kernel)) (fun _ _ _ _ _ => (pg_name (i := 2) sc_only.nd rfl (by first | exact Or.inl rfl | exact Or.inr rfl))) (fun _ _ _ _ _ => pts_nil) (fun _ _ _ _ _ => (pe_callTy (r := cTup K) call_tupA (by rfl) T.z_tuple (by decide +kernel) (pa_cons (pe_lc (own := [("point", 3)]) rfl sc_only.nd (pi_tupK K (pv 2)) (by show BlkOk N_only { kind := ScopeKind.function, names := [(Str.ofString ".0", NameKind.local), (Str.ofString "level", NameKind.local), (Str.ofString "tuple", NameKind.globalImplicit), (Str.ofString "points", NameKind.cell)], isGenerator := false, isCoroutine := false } _ [("point", 3)]; exact blkOk_by (by decide +kernel)) (fun _ _ _ _ _ => (pg_name (i := 3) sc_only.nd rfl (by first | exact Or.inl rfl | exact Or.inr rfl))) (fun _ _ _ _ _ => (pts_one (pt_cmpR (r := rIn K false) op_in_seq (pv 3) (pv 1) (by rfl)))) (fun _ _ _ _ _ => (pv 3))) pa_nil)))) pa_nil)))), ?_⟩
  walk_at "go"
  refine r_lcT (l := o) (enc := dLv) S hx (by have := wf.1; omega) (fun l => some (l.filter fun x => decide (x ∈ ps))) dLv (fun l hl => ?_) (fun D acc G' H' le hacc S => ?_)
  · intro D acc Gi x H N le hx hn S kY kN
    obtain ⟨c, ys, rfl, _, _⟩ := dp_tupInv (ds := l.map PyData.str) hx
    walk_at "go"
    refine ⟨rfl, ?_⟩
    walk_at "go"
    refine r_lcT (l := l) (enc := PyData.str) S.swap hx (by have := wf.2 l hl; omega) (fun x => if decide (x ∈ ps) = true then some x else none) PyData.str (fun x hm => ?_) (fun D2 acc2 G' H' le2 hacc S => ?_)
    · intro D2 acc2 Gj y H N2 le2 hy hn S kY kN
      cases dp_strInv hy
      walk_at "go"
      refine ⟨rfl, ?_⟩
      walk_at "go"
      have hb2 : SqL K H b (ps.map V.str) := SqL.le (hp_le S.tl) (SqL.le (le.tr le2) (dns_sq hb))
      refine r_in_strs (.inl hb2) ?_
      walk_at "go"
      by_cases hm : x ∈ ps
      · rw [decide_eq_true hm]
        refine iteT ?_
        walk_at "go"
        exact kY _ _ Gj H Le.rfl (by simp [hm]) hy S
      · rw [decide_eq_false hm]
        refine iteF ?_
        exact kN (by simp [hm]) H S
    · walk_at "go"
      refine r_tupOf S (by walk_at "sq") fun t H S => ?_
      have S2 : Sep (pt t (.tup acc2) :: hp G' :: pt D (.lst acc) :: R) H := S.s3 (by walk_at "sel")
      obtain ⟨G2, le3, hd, S3⟩ := hp_tup S2 hacc
      rw [fm_if] at hd
      exact kY _ _ G2 H (le2.tr le3) rfl hd S3.swap
  · walk_at "go"
    obtain ⟨G2, le2, hd, S3⟩ := hp_lst S hacc
    rw [fm_map] at hd
    refine ⟨D, _, G2, R, rfl, by rw [List.length_map]; exact wf.1, hd, S3, fun t G3 H le3 hd S => ?_⟩
    exact q t G3 H ((le.tr le2).tr le3) hd S
theorem sc_shape_of : FnScope N_shape_of ["orders"] (defScope s_shape_of) := ⟨rfl, rfl, rfl, by decide +kernel, rfl, by decide +kernel, by decide +kernel⟩
def spShape (K : PySem.W.Frag) : Sp := fun vs H Q _ => ∃ (a : Addr) (os : List Od) (G : Hp) (R : List SP), vs = [.ref a] ∧ os.length ≤ 100 ∧ Dp K G (.ref a) (dOds os) ∧ Sep (hp G :: R) H ∧
  ∀ t G' H', Le G G' → Dp K G' (.ref t) (dShp (shpO os)) → Sep (hp G' :: R) H' → Q (.ref t) H'
theorem ok_shape_of {f : Addr} (F : Dt K mg "shape_of" s_shape_of ["orders"] f) (T : Tx K mg f_PASSED f_COMMON) : Df P w K mg base 1 "shape_of" f ["orders"] (spShape K) := by
  refine F.ok sc_shape_of (fun vs H Q E h => ?_) (fun cdv A outer s H vs Q E hr h => ?_)
  · obtain ⟨a, os, G, R, rfl, _⟩ := h
    rfl
  obtain ⟨a, os, G, R, rfl, hl, hx, S, q⟩ := h
  refine ⟨_, (pss_one (ps_ret (pe_callTy (r := cTup K) call_tupA (by rfl) T.z_tuple (by decide +kernel) (pa_cons (pe_callB (cr_sortA rfl hr.units) (by rfl) T.z_sorted (by decide +kernel) (pa_cons (pe_lc (own := [("order", 1)]) rfl sc_shape_of.nd (pi_listK K (pv 0)) (blkOk_by (own := [("order", 1)]) (N := N_shape_of) (sc := defScope s_shape_of) (by decide +kernel)) (fun _ _ _ _ _ => (pg_name (i := 1) sc_shape_of.nd rfl (by first | exact Or.inl rfl | exact Or.inr rfl))) (fun _ _ _ _ _ => (pts_one (pt_truK K (pv 1)))) (fun _ _ _ _ _ => (pv 1))) pa_nil)) pa_nil)))), ?_⟩
  walk_at "go"
  refine r_lcL (l := os) (enc := dOd) S hx (by omega) (fun l => if (!l.isEmpty) = true then some l else none) dOd (fun l hl => ?_) (fun D acc G' H' le hacc S => ?_)
  · intro D acc Gi x H N le hx hn S kY kN
    obtain ⟨b, ys, rfl, hb, hy⟩ := dp_tupInv (ds := l.map dLv) hx
    have hlen := dpall_len hy
    walk_at "go"
    refine ⟨rfl, ?_⟩
    walk_at "go"
    refine r_truT (SqT.le (hp_le S.tl) hb) ?_
    cases l with
    | nil =>
      cases hy
      refine iteF ?_
      exact kN rfl H S
    | cons x l =>
      cases hy
      refine iteT ?_
      walk_at "go"
      exact kY _ _ Gi H Le.rfl rfl hx S
  · walk_at "go"
    rw [fm_if] at hacc
    obtain ⟨G2, le2, hd, S⟩ := hp_lst S hacc
    refine r_sortOd (hp_le S) hd (fun o m => ?_) fun p out np ho => ?_
    · have := (List.mem_filter.mp m).2
      intro e
      rw [e] at this
      cases this
    · have S := S.new (.lst out) np
      walk_at "go"
      refine r_tupOf S (by walk_at "sq") fun t H S => ?_
      have S2 : Sep (pt t (.tup out) :: hp G2 :: R) H := S.s2 (by walk_at "sel")
      obtain ⟨G3, le3, hd3, S3⟩ := hp_tup S2 ho
      exact q t G3 H ((le.tr le2).tr le3) hd3 S3
theorem sc_array_of : FnScope N_array_of ["shape", "point"] (defScope s_array_of) := ⟨rfl, rfl, rfl, by decide +kernel, rfl, by decide +kernel, by decide +kernel⟩
def spArr (K : PySem.W.Frag) : Sp := fun vs H Q _ => ∃ (a : Addr) (os : List Od) (p : Str) (G : Hp) (R : List SP), vs = [.ref a, .str p] ∧ Dp K G (.ref a) (dShp os) ∧ Sep (hp G :: R) H ∧ ∀ H', Sep (hp G :: R) H' → Q (vOpt (arrO os p)) H'
theorem ok_array_of {f f1 : Addr} (F : Dt K mg "array_of" s_array_of ["shape", "point"] f) (T : Tx K mg f_PASSED f_COMMON) (D_level_of : Df P w K mg base 1 "level_of" f1 ["order", "point"] (spLevel K)) : Df P w K mg base 2 "array_of" f ["shape", "point"] (spArr K) := by
  refine F.ok sc_array_of (fun vs H Q E h => ?_) (fun cdv A outer s H vs Q E hr h => ?_)
  · obtain ⟨a, os, p, G, R, rfl, _⟩ := h
    rfl
  obtain ⟨a, os, p, G, R, rfl, hx, S, q⟩ := h
  refine ⟨_, (pss_cons (ps_for PassesOwn.never rfl (pi_enumT K (by rfl) T.z_enumerate (pa_cons (pv 0) pa_nil)) (pg_tupK K rfl (pgs_cons (pg_name (i := 2) sc_array_of.nd rfl (by first | exact Or.inl rfl | exact Or.inr rfl)) (pgs_cons (pg_name (i := 3) sc_array_of.nd rfl (by first | exact Or.inl rfl | exact Or.inr rfl)) pgs_nil))) (pss_one (ps_if (pt_cmpR (r := rNotN) op_notN (pe_df D_level_of (hr.mono (by decide)) (pa_cons (pv 3) (pa_cons (pv 1) pa_nil))) pe_non (nomark _)) (pss_one (ps_ret (pv 2))) pss_nil)))
      (pss_one (ps_ret pe_non))), ?_⟩
  obtain ⟨a', xs, e, hs, ha⟩ := dp_tupInv (ds := os.map dOd) hx
  cases e
  have hl : xs.length = os.length := by rw [dpall_len ha, List.length_map]
  walk_at "go"
  refine r_for_enumT (xs := xs) (fun i σ Ps => (∃ u2 u3, σ = [some (.ref a), some (.str p), u2, u3]) ∧ Ps = hp G :: R ∧ (os.take i).findIdx? (fun o => (lvO o p).isSome) = none) S ⟨⟨_, _, rfl⟩, rfl, by simp⟩ (fun i σ Ps H ⟨_, e, _⟩ S => by subst e; walk_at "st") ?_ ?_
  · rintro i x T σ Ps H hi ⟨⟨u2, u3, rfl⟩, rfl, hn⟩ S
    obtain ⟨o, b, el, rfl, hb⟩ := sh_at ha hi
    obtain ⟨st1, st2⟩ := fi_step hn el
    walk_at "go"
    refine r_gtup (by walk_at "st") rfl ?_
    walk_at "go"
    refine ⟨b, o, p, G, _, rfl, hb, S.swap, fun H S => ?_⟩
    cases eo : lvO o p with
    | none =>
      walk_at "go"
      refine r_notN ?_
      walk_at "go"
      refine iteNDN rfl ?_
      walk_at "go"
      exact ⟨_, ⟨⟨_, _, rfl⟩, rfl, st2 (by rw [eo]; rfl)⟩, (S.s1 (by walk_at "sel"))⟩
    | some j =>
      walk_at "go"
      refine r_notN ?_
      walk_at "go"
      refine iteND (fun h => nomatch h) ?_
      walk_at "go"
      have := q H (S.swap.tl)
      rw [show arrO os p = some i from st1 (by rw [eo]; rfl)] at this
      exact this
  · rintro σ Ps H ⟨⟨u2, u3, rfl⟩, rfl, hn⟩ S
    walk_at "go"
    rw [hl, List.take_length] at hn
    have := q H S
    rw [show arrO os p = none from hn] at this
    exact this
theorem sc_stands : FnScope N_stands ["shape", "one", "other"] (defScope s_stands) := ⟨rfl, rfl, rfl, by decide +kernel, rfl, by decide +kernel, by decide +kernel⟩
theorem fs_step {α β : Type} {p : α → Option β} {l : List α} {i : Nat} {x : α} (h0 : (l.take i).findSome? p = none) (hx : l[i]? = some x) : (∀ z, p x = some z → l.findSome? p = some z) ∧ (p x = none → (l.take (i + 1)).findSome? p = none) := by
  have hi := (List.getElem?_eq_some_iff.mp hx).1
  have e : l = l.take (i + 1) ++ l.drop (i + 1) := (List.take_append_drop ..).symm
  have e2 : l.take (i + 1) = l.take i ++ [x] := by rw [List.take_add_one, hx]; rfl
  constructor
  · intro z hz
    rw [e, e2, List.findSome?_append, List.findSome?_append, h0]
    simp [hz]
  · intro hz
    rw [e2, List.findSome?_append, h0]
    simp [hz]
def spSt (K : PySem.W.Frag) : Sp := fun vs H Q _ => ∃ (a : Addr) (os : List Od) (p p2 : Str) (G : Hp) (R : List SP), vs = [.ref a, .str p, .str p2] ∧ Dp K G (.ref a) (dShp os) ∧ Sep (hp G :: R) H ∧ ∀ H', Sep (hp G :: R) H' → Q (vOptI (stO os p p2)) H'
theorem ok_stands {f f1 : Addr} (F : Dt K mg "stands" s_stands ["shape", "one", "other"] f) (T : Tx K mg f_PASSED f_COMMON) (D_compare : Df P w K mg base 2 "compare" f1 ["order", "one", "other"] (spCmp K)) : Df P w K mg base 3 "stands" f ["shape", "one", "other"] (spSt K) := by
  refine F.ok sc_stands (fun vs H Q E h => ?_) (fun cdv A outer s H vs Q E hr h => ?_)
  · obtain ⟨a, os, p, p2, G, R, rfl, _⟩ := h
    rfl
  obtain ⟨a, os, p, p2, G, R, rfl, hx, S, q⟩ := h
  refine ⟨_, (pss_cons (ps_for PassesOwn.never rfl (pi_tupK K (pv 0)) (pg_name (i := 3) sc_stands.nd rfl (by first | exact Or.inl rfl | exact Or.inr rfl)) (pss_cons (ps_set (i := 4) sc_stands.nd rfl (by first | exact Or.inl rfl | exact Or.inr rfl) (pe_df D_compare (hr.mono (by decide)) (pa_cons (pv 3) (pa_cons (pv 1) (pa_cons (pv 2) pa_nil)))))
      (pss_one (ps_if (pt_cmpR (r := rNotN) op_notN (pv 4) pe_non (nomark _)) (pss_one (ps_ret (pv 4))) pss_nil))))
      (pss_one (ps_ret pe_non))), ?_⟩
  obtain ⟨a', xs, e, hs, ha⟩ := dp_tupInv (ds := os.map dOd) hx
  cases e
  have hl : xs.length = os.length := by rw [dpall_len ha, List.length_map]
  walk_at "go"
  refine r_for_tup (xs := xs) (fun i σ Ps => (∃ u2 u3, σ = [some (.ref a), some (.str p), some (.str p2), u2, u3]) ∧ Ps = hp G :: R ∧ (os.take i).findSome? (fun o => cmpO o p p2) = none) S ⟨⟨_, _, rfl⟩, rfl, by simp⟩ (fun i σ Ps H _ ⟨_, e, _⟩ S => by subst e; walk_at "st") ?_ ?_
  · rintro i x σ Ps H hi ⟨⟨u2, u3, rfl⟩, rfl, hn⟩ S
    obtain ⟨o, b, el, rfl, hb⟩ := sh_at ha hi
    obtain ⟨st1, st2⟩ := fs_step hn el
    walk_at "go"
    refine ⟨b, o, p, p2, G, _, rfl, hb, S, fun H S => ?_⟩
    cases eo : cmpO o p p2 with
    | none =>
      walk_at "go"
      refine r_notN ?_
      walk_at "go"
      refine iteNDN rfl ?_
      walk_at "go"
      exact ⟨_, ⟨⟨_, _, rfl⟩, rfl, st2 eo⟩, S⟩
    | some j =>
      walk_at "go"
      refine r_notN ?_
      walk_at "go"
      refine iteND (fun h => nomatch h) ?_
      walk_at "go"
      have := q H S
      rw [show stO os p p2 = some j from st1 j eo] at this
      exact this
  · rintro σ Ps H ⟨⟨u2, u3, rfl⟩, rfl, hn⟩ S
    walk_at "go"
    rw [hl, List.take_length] at hn
    have := q H S
    rw [show stO os p p2 = none from hn] at this
    exact this
theorem sc_share : FnScope N_share ["shape", "one", "other"] (defScope s_share) := ⟨rfl, rfl, rfl, by decide +kernel, rfl, by decide +kernel, by decide +kernel⟩
def spShare (K : PySem.W.Frag) : Sp := fun vs H Q _ => ∃ (a : Addr) (os : List Od) (p p2 : Str) (G : Hp) (R : List SP), vs = [.ref a, .str p, .str p2] ∧ Dp K G (.ref a) (dShp os) ∧ Sep (hp G :: R) H ∧ ∀ H', Sep (hp G :: R) H' → Q (.bl (stO os p p2).isSome) H'
theorem ok_share {f f1 : Addr} (F : Dt K mg "share" s_share ["shape", "one", "other"] f) (T : Tx K mg f_PASSED f_COMMON) (D_stands : Df P w K mg base 3 "stands" f1 ["shape", "one", "other"] (spSt K)) : Df P w K mg base 4 "share" f ["shape", "one", "other"] (spShare K) := by
  refine F.ok sc_share (fun vs H Q E h => ?_) (fun cdv A outer s H vs Q E hr h => ?_)
  · obtain ⟨a, os, p, p2, G, R, rfl, _⟩ := h
    rfl
  obtain ⟨a, os, p, p2, G, R, rfl, hx, S, q⟩ := h
  refine ⟨_, (pss_one (ps_ret (pe_cmpR (r := rNotN) op_notN (pe_df D_stands (hr.mono (by decide)) (pa_cons (pv 0) (pa_cons (pv 1) (pa_cons (pv 2) pa_nil)))) pe_non (nomark _)))), ?_⟩
  walk_at "go"
  refine ⟨a, os, p, p2, G, R, rfl, hx, S, fun H S => ?_⟩
  have := q H S
  cases eo : stO os p p2 with
  | none =>
    rw [eo] at this
    walk_at "go"
    refine r_notN ?_
    exact this
  | some j =>
    rw [eo] at this
    walk_at "go"
    refine r_notN ?_
    exact this
theorem sc_kept_points : FnScope N_kept_points ["shape", "names"] (defScope s_kept_points) := ⟨rfl, rfl, rfl, by decide +kernel, rfl, by decide +kernel, by decide +kernel⟩
def spKept (K : PySem.W.Frag) : Sp := fun vs H Q _ => ∃ (a b : Addr) (os : List Od) (ns : List Str) (G : Hp) (R : List SP), vs = [.ref a, .ref b] ∧ WfS os ∧ ns.length ≤ 100 ∧ Dp K G (.ref a) (dShp os) ∧ Dp K G (.ref b) (dNs ns) ∧ Sep (hp G :: R) H ∧
  ∀ t G' H', Le G G' → Dp K G' (.ref t) (dShp (keptP os ns)) → Sep (hp G' :: R) H' → Q (.ref t) H'
theorem ok_kept_points {f f1 f2 : Addr} (F : Dt K mg "kept_points" s_kept_points ["shape", "names"] f) (T : Tx K mg f_PASSED f_COMMON) (hP : SqT K (fun _ => none) f_PASSED (passedS.map V.str)) (hC : SqT K (fun _ => none) f_COMMON (commonS.map V.str)) (D_only : Df P w K mg base 2 "only" f1 ["order", "points"] (spOnly K)) (D_shape_of : Df P w K mg base 1 "shape_of" f2 ["orders"] (spShape K)) : Df P w K mg base 3 "kept_points" f ["shape", "names"] (spKept K) := by
  refine F.ok sc_kept_points (fun vs H Q E h => ?_) (fun cdv A outer s H vs Q E hr h => ?_)
  · obtain ⟨a, b, os, ns, G, R, rfl, _⟩ := h
    rfl
  obtain ⟨a, b, os, ns, G, R, rfl, wf, hn, hx, hb, S, q⟩ := h
  have no : ∀ {H : Hp}, Le (fun _ => none) H := fun _ _ (e : (none : Option HO) = some _) => (Option.noConfusion rfl (heq_of_eq e))
  refine ⟨_, (pss_cons (ps_set (i := 2) sc_kept_points.nd rfl (by first | exact Or.inl rfl | exact Or.inr rfl) (pe_lst (pa_starK K (pv 1) (pa_starK K (pe_glob (v := .ref f_PASSED) rfl T.g_PASSED rfl) pa_nil))))
      (pss_cons (ps_set (i := 3) sc_kept_points.nd rfl (by first | exact Or.inl rfl | exact Or.inr rfl) (pe_lst (pa_starK K (pv 2) (pa_starK K (pe_glob (v := .ref f_COMMON) rfl T.g_COMMON rfl) pa_nil))))
      (pss_one (ps_ret (pe_df D_shape_of (hr.mono (by decide)) (pa_cons (pe_lc (own := [("order", 4)]) rfl sc_kept_points.nd (pi_tupK K (pv 0)) (blkOk_by (own := [("order", 4)]) (N := N_kept_points) (sc := defScope s_kept_points) (by decide +kernel)) (fun _ _ _ _ _ => (pg_name (i := 4) sc_kept_points.nd rfl (by first | exact Or.inl rfl | exact Or.inr rfl))) (fun _ _ _ _ _ => (pts_one (pt_truK K (pe_df D_only (hr.mono (by decide)) (pa_cons (pv 4) (pa_cons (pv 2) pa_nil)))))) (fun _ _ _ _ _ => (pe_df D_only (hr.mono (by decide)) (pa_cons (pv 4) (pa_cons (pv 3) pa_nil))))) pa_nil)))))), ?_⟩
  walk_at "go"
  refine r_starL (SqL.le (hp_le S) (dns_sq hb)) ?_
  walk_at "go"
  refine r_starT (SqT.le no hP) ?_
  walk_at "go"
  refine q_new S (by simp; show _ + 2 ≤ _; omega) fun p H S => ?_
  have e1 : ns.map V.str ++ (passedS.map V.str ++ []) = (ns ++ passedS).map V.str := by simp
  rw [e1] at S
  obtain ⟨G1, le1, hd1, S⟩ := hp_lst S (dpall_strs _)
  walk_at "go"
  refine r_starL (SqL.le (hp_le S) (dns_sq hd1)) ?_
  walk_at "go"
  refine r_starT (SqT.le no hC) ?_
  walk_at "go"
  refine q_new S (by simp; show _ + (2 + 3) ≤ _; omega) fun p2 H S => ?_
  have e2 : (ns ++ passedS).map V.str ++ (commonS.map V.str ++ []) = (ns ++ passedS ++ commonS).map V.str := by simp
  rw [e2] at S
  obtain ⟨G2, le2, hd2, S⟩ := hp_lst S (dpall_strs _)
  walk_at "go"
  refine r_lcT (l := os) (enc := dOd) S (Dp.le (le1.tr le2) _ _ hx) (by have := wf.1; omega) (fun o => if (!(onlyO (ns ++ passedS) o).isEmpty) = true then some (onlyO (ns ++ passedS ++ commonS) o) else none) dOd (fun o ho => ?_) (fun D acc G' H' le hacc S => ?_)
  · intro D acc Gi x H N le hx hn S kY kN
    obtain ⟨c, ys, rfl, _, _⟩ := dp_tupInv (ds := o.map dLv) hx
    walk_at "go"
    refine ⟨rfl, ?_⟩
    walk_at "go"
    refine ⟨c, p, o, _, Gi, _, rfl, wf.2 o ho, hx, Dp.le (le2.tr le) _ _ hd1, S.swap, fun t Gj H le3 ht S => ?_⟩
    obtain ⟨t', ys, e, hs, hy⟩ := dp_tupInv (ds := (onlyO (ns ++ passedS) o).map dLv) ht
    cases e
    refine r_truT (SqT.le (hp_le S) hs) ?_
    have ee : ys.isEmpty = (onlyO (ns ++ passedS) o).isEmpty := by
      have := dpall_len hy
      rw [List.length_map] at this
      rw [Bool.eq_iff_iff, List.isEmpty_iff_length_eq_zero, List.isEmpty_iff_length_eq_zero, this]
    rw [ee]
    refine q_iteB (fun h => ?_) (fun h => ?_)
    · walk_at "go"
      refine ⟨c, p2, o, _, Gj, _, rfl, wf.2 o ho, Dp.le le3 _ _ hx, Dp.le (le.tr le3) _ _ hd2, S, fun t2 Gk H le4 ht S => ?_⟩
      exact kY _ _ Gk H (le3.tr le4) (by rw [if_pos h]; rfl) ht S.swap
    · exact kN (by rw [if_neg (by rw [h]; decide)]; rfl) H (S.swap.cons_mono fun _ => Sep.hd_mono fun G l => le3.tr l)
  · walk_at "go"
    rw [fm_ifmap] at hacc
    obtain ⟨G3, le3, hd, S⟩ := hp_lst S hacc
    refine ⟨D, _, G3, R, rfl, ?_, hd, S, fun t G4 H le4 ht S => ?_⟩
    · rw [List.length_map]
      exact Nat.le_trans (List.length_filter_le ..) wf.1
    · exact q t G4 H ((((le1.tr le2).tr le).tr le3).tr le4) ht S
end
end Pf

set_option Elab.async false
set_option linter.all false
set_option maxRecDepth 100000
set_option maxHeartbeats 4000000
namespace Pf
open PySem L2 Kt
set_option hygiene false
local macro_rules | `(tactic| walk_at "mem") => `(tactic| (with_reducible (repeat (first | exact Pick.hd | apply Pick.tl)); done))
local macro_rules | `(tactic| walk_at "rep") => `(tactic| (with_reducible (repeat (first | exact Repl.hd | apply Repl.tl)); done))
local macro_rules | `(tactic| walk_at "sel") => `(tactic| ((repeat (with_reducible apply Sel.cons; (focus walk_at "mem"))); (with_reducible apply Sel.nil); (with_reducible (repeat (first | exact Dr.all | apply Dr.skip)); done)))
local macro_rules | `(tactic| walk_at "at") => `(tactic| (refine' Sep.at_ (by assumption) ?kkpk; (case kkpk => walk_at "mem")))
local macro_rules | `(tactic| walk_at "sq") => `(tactic| first | assumption | (refine' Sep.sq (by assumption) ?kkpk; (case kkpk => walk_at "mem")))
local macro_rules | `(tactic| walk_at "st") => `(tactic| first | assumption | (refine' Sep.st (by assumption) ?kkpk; (case kkpk => walk_at "mem")))
local macro_rules | `(tactic| walk_at "lk") => `(tactic| (repeat (first | (with_reducible exact lk_eq) | exact rfl | refine (lk_ne (by decide +kernel)).trans ?_)))
local macro_rules | `(tactic| walk_at "pf") => `(tactic| (repeat (first | (with_reducible exact pf_nil) | (with_reducible exact pf_eq) | (apply pf_ne; (focus decide +kernel)))))
local macro_rules | `(tactic| walk_at "ty") => `(tactic| first | exact ty_int | (refine' ty_lst ?kkh; (case kkh => walk_at "at")))
local macro_rules | `(tactic| walk_at "k1") => `(tactic| with_reducible first
  | refine q_seq ?_ | refine q_set ?_ | refine q_asg ?_ | refine q_ret ?_ | refine q_drop ?_ | refine q_next ?_ | refine q_c ?_ | refine q_op ?_ | refine q_un ?_ | refine q_nil ?_ | refine q_cons ?_ | refine q_cb ?_
  | refine q_call ?_ | refine q_ifs ?_ | refine q_if ?_ | refine q_test ?_ | refine q_tb ?_ | refine q_bl ?_ | refine q_notT ?_ | refine q_andT ?_ | refine q_orT ?_ | refine q_andV ?_ | refine q_orV ?_ | refine q_notV ?_
  | refine q_addA ?_ | refine q_subI ?_ | refine q_ltI ?_ | refine q_leI ?_ | refine q_gtI ?_ | refine q_geI ?_ | refine q_eqI ?_ | refine q_neI ?_ | refine q_abs ?_ | refine q_int ?_ | refine q_intB ?_ | refine q_max ?_ | refine q_min ?_
  | refine q_ipAdd ?_ | refine q_ipSub ?_ | refine q_gsub ?_ | refine q_augs ?_ | refine q_lst ?_ | refine q_tup ?_ | refine q_blI ?_ | refine iteT ?_ | refine iteF ?_ | refine iteNT ?_ | refine iteNF ?_
  | refine r_prop ?_ | refine r_fld ?_ | refine r_sfld ?_ | refine r_meth ?_ | refine r_make ?_ | refine r_sl ?_ | refine r_nopart ?_ | refine r_part ?_ | refine r_parti ?_ | refine r_gsl ?_ | refine r_bm ?_ | refine r_bm0 ?_ | refine r_for ?_ | refine r_ilist ?_ | refine r_irng ?_
  | refine r_gname ?_ | refine r_gcons ?_ | refine r_gnil ?_ | refine r_par ?_ | refine r_parA ?_ | refine r_chain ?_ | refine r_isN ?_ | refine r_tlc ?_ | refine r_yes ?_ | refine r_makek ?_ | refine r_neg ?_)
local macro_rules | `(tactic| walk_at "k2") => `(tactic| first
  | ((with_reducible refine' q_var ?kke ?_); (case kke => rfl))
  | ((with_reducible refine' q_aug ?kke ?_); (case kke => rfl))
  | ((with_reducible refine' q_ixL ?kks ?kke ?_); (case kks => walk_at "sq"); (case kke => first | rfl | assumption))
  | ((with_reducible refine' q_ixT ?kks ?kke ?_); (case kks => walk_at "st"); (case kke => first | rfl | assumption))
  | ((with_reducible refine' q_ixLL ?kks ?kke ?_); (case kks => walk_at "sq"); (case kke => first | rfl | assumption))
  | ((with_reducible refine' q_lenL ?kks ?_); (case kks => walk_at "sq"))
  | ((with_reducible refine' q_mulI ?kkc ?_); (case kkc => first | exact .inl (by omega) | exact .inr (by omega)))
  | ((with_reducible refine' q_modI ?kkc ?_); (case kkc => omega))
  | ((with_reducible refine' q_divI ?kkc ?_); (case kkc => exact ⟨by omega, by omega⟩))
  | ((with_reducible refine' q_powI ?kkc ?_); (case kkc => exact ⟨by decide, by decide, by decide⟩))
  | ((with_reducible refine' r_kfld ?kkS ?kkp ?kkc ?kkn ?kkl ?_); (case kkS => assumption); (case kkp => walk_at "mem"); (case kkc => walk_at "cls"); (case kkn => walk_at "na"); (case kkl => walk_at "lk"))
  | ((with_reducible refine' r_kprop ?kkS ?kkp ?_); (case kkS => assumption); (case kkp => walk_at "mem"))
  | ((with_reducible refine' r_kmeth ?kkS ?kkp ?kkl ?_); (case kkS => assumption); (case kkp => walk_at "mem"); (case kkl => walk_at "lk"))
  | ((with_reducible refine' r_calll ?kks ?_); (case kks => rfl))
  | ((with_reducible refine' r_tyl ?kks ?_); (case kks => walk_at "sq"))
  | ((with_reducible refine' r_isi (k := true) ?kkt ?kke ?_); (case kkt => walk_at "ty"); (case kke => decide +kernel))
  | ((with_reducible refine' r_isi (k := false) ?kkt ?kke ?_); (case kkt => walk_at "ty"); (case kke => decide +kernel)))
local macro_rules | `(tactic| walk_at "k3") => `(tactic| first
  | ((with_reducible refine' q_setS ?kkS ?kkr ?kke ?_); (case kkS => assumption); (case kkr => walk_at "rep"); (case kke => rfl); intro H S)
  | ((with_reducible refine' r_kset ?kkS ?kkr ?kkc ?kkn ?kkl ?kke ?_); (case kkS => assumption); (case kkr => walk_at "rep"); (case kkc => walk_at "cls"); (case kkn => walk_at "na"); (case kkl => first | exact Nat.le_of_ble_eq_true rfl | assumption | omega | (simp; done) | (simp; omega)); (case kke => walk_at "pf"); intro H S)
  | ((with_reducible refine' q_new ?kkS ?kkl ?_); (case kkS => assumption); (case kkl => first | exact Nat.le_of_ble_eq_true rfl | assumption | omega | (simp; done) | (simp; omega)); intro p H S)
  | ((with_reducible refine' q_newT ?kkS ?kkl ?_); (case kkS => assumption); (case kkl => first | exact Nat.le_of_ble_eq_true rfl | assumption | omega | (simp; done) | (simp; omega)); intro p H S)
  | ((with_reducible refine' r_knew ?kkS ?_); (case kkS => assumption); intro x dx H S)
  | ((with_reducible refine' r_knewk ?kkS ?kkl1 ?kkl2 ?_); (case kkS => assumption); (case kkl1 => rfl); (case kkl2 => rfl); intro x dx H S)
  | ((with_reducible refine' r_ksl ?kkS ?kks ?_); (case kkS => assumption); (case kks => walk_at "sq"); intro p H S)
  | ((with_reducible refine' r_list ?kkS ?kks ?_); (case kkS => assumption); (case kks => walk_at "sq"); intro p H S)
  | ((with_reducible refine' r_cat ?kkS ?kks1 ?kks2 ?kkz ?_); (case kkS => assumption); (case kks1 => walk_at "at"); (case kks2 => walk_at "at"); (case kkz => first | omega | (simp; omega)); intro p H S)
  | ((with_reducible refine' r_append ?kkS ?kkr ?kkz ?_); (case kkS => assumption); (case kkr => walk_at "rep"); (case kkz => first | omega | (simp; omega)); intro H S)
  | ((with_reducible refine' r_reverse ?kkS ?kkr ?_); (case kkS => assumption); (case kkr => walk_at "rep"); intro H S)
  | ((with_reducible refine' r_clear ?kkS ?kkr ?_); (case kkS => assumption); (case kkr => walk_at "rep"); intro H S))
local macro_rules | `(tactic| walk_at "gn") => `(tactic| repeat (first | walk_at "k1" | walk_at "k2"))
local macro_rules | `(tactic| walk_at "go") => `(tactic| repeat (first | walk_at "k1" | walk_at "k2" | walk_at "k3"))

local macro_rules | `(tactic| walk_at "sq") => `(tactic| first | assumption | (refine' Sep.sq ?kkS ?kkpk; (case kkS => assumption); (case kkpk => walk_at "mem")) | (refine' hp_sqL ?kkS ?kkx; (case kkS => assumption); (case kkx => assumption)) | (refine' hp_sqL (Sep.tl ?kkS) ?kkx; (case kkS => assumption); (case kkx => assumption)) | (refine' hp_sqL (Sep.tl (Sep.tl ?kkS)) ?kkx; (case kkS => assumption); (case kkx => assumption)))
local macro_rules | `(tactic| walk_at "st") => `(tactic| first | assumption | (refine' Sep.st ?kkS ?kkpk; (case kkS => assumption); (case kkpk => walk_at "mem")) | (refine' hp_sqT ?kkS ?kkx; (case kkS => assumption); (case kkx => assumption)) | (refine' hp_sqT (Sep.tl ?kkS) ?kkx; (case kkS => assumption); (case kkx => assumption)) | (refine' hp_sqT (Sep.tl (Sep.tl ?kkS)) ?kkx; (case kkS => assumption); (case kkx => assumption)))
local macro_rules | `(tactic| walk_at "k1") => `(tactic| with_reducible first | refine r_ienumT ?_ | refine r_tru ?_ | refine r_itup ?_ | refine r_star ?_ | refine r_par3 ?_ | refine r_parA3 ?_ | refine r_dget ?_ | refine r_din ?_ | refine r_dnotin ?_ | refine r_dput ?_)

/-! ### many parts as one -/
theorem Sep.b_nil {R : List SP} {H : Hp} (S : Sep R H) : Sep (Sep [] :: R) H := Sep.unflat (As := []) S
theorem Sep.b_add {P : SP} {Ps R : List SP} {H : Hp} (S : Sep (P :: Sep Ps :: R) H) : Sep (Sep (Ps ++ [P]) :: R) H := by
  have S1 : Sep (P :: (Ps ++ R)) H := S.cons_mono fun _ => Sep.flat
  have S2 : Sep (Ps ++ P :: R) H := (pick_mid _).back S1
  refine Sep.unflat (As := Ps ++ [P]) ?_
  rw [List.append_assoc]
  exact S2
theorem Sep.b_open {P : SP} {Ps Qs R : List SP} {H : Hp} (S : Sep (Sep (Ps ++ P :: Qs) :: R) H) : Sep (P :: Sep (Ps ++ Qs) :: R) H := by
  have S1 : Sep (Ps ++ P :: (Qs ++ R)) H := by
    have S0 := S.flat
    rw [List.append_assoc] at S0
    exact S0
  have S2 : Sep (P :: (Ps ++ (Qs ++ R))) H := (pick_mid _).go S1
  rw [← List.append_assoc] at S2
  exact S2.cons_mono fun _ => Sep.unflat
theorem Sep.b_shut {P : SP} {Ps Qs R : List SP} {H : Hp} (S : Sep (P :: Sep (Ps ++ Qs) :: R) H) : Sep (Sep (Ps ++ P :: Qs) :: R) H := by
  have S1 : Sep (P :: (Ps ++ (Qs ++ R))) H := by
    rw [← List.append_assoc]
    exact S.cons_mono fun _ => Sep.flat
  have S2 : Sep (Ps ++ P :: (Qs ++ R)) H := (pick_mid _).back S1
  refine Sep.unflat (As := Ps ++ P :: Qs) ?_
  rw [List.append_assoc]
  exact S2

/-- the drawing bag at b -/
def bag (b : Addr) : SP := fun G => ∃ (x y z : Int) (c : Addr) (ns : List Int), 0 ≤ z ∧ Sep [pt b (.lst [.int x, .int y, .int z, .ref c]), pt c (.lst (ns.map V.int))] G
def spTake : Sp := fun vs H Q _ => ∃ (b : Addr) (n : Int) (R : List SP), vs = [.ref b, .int n] ∧ 0 < n ∧ n < 1073741824 ∧ Sep (bag b :: R) H ∧ ∀ v H', 0 ≤ v → v < n → Sep (bag b :: R) H' → Q (.int v) H'
def spBag (K : PySem.W.Frag) : Sp := fun vs H Q _ => ∃ (a : Addr) (ns : List Int) (R : List SP), vs = [.ref a] ∧ SqL K H a (ns.map V.int) ∧ ns.length ≤ 63 ∧ Sep R H ∧ ∀ b H', Sep (bag b :: R) H' → Q (.ref b) H'
theorem bag_open {b : Addr} {R : List SP} {H : Hp} (S : Sep (bag b :: R) H) : ∃ (x y z : Int) (c : Addr) (ns : List Int), 0 ≤ z ∧ Sep (pt b (.lst [.int x, .int y, .int z, .ref c]) :: pt c (.lst (ns.map V.int)) :: R) H := by
  obtain ⟨x, S⟩ := S.ex
  obtain ⟨y, S⟩ := S.ex
  obtain ⟨z, S⟩ := S.ex
  obtain ⟨c, S⟩ := S.ex
  obtain ⟨ns, S⟩ := S.ex
  obtain ⟨hz, S⟩ := S.pure
  exact ⟨x, y, z, c, ns, hz, S.flat⟩
theorem bag_shut {b : Addr} {R : List SP} {H : Hp} {x y z : Int} {c : Addr} {ns : List Int} (hz : 0 ≤ z) (S : Sep (pt b (.lst [.int x, .int y, .int z, .ref c]) :: pt c (.lst (ns.map V.int)) :: R) H) : Sep (bag b :: R) H :=
  Sep.ex_in x (Sep.ex_in y (Sep.ex_in z (Sep.ex_in c (Sep.ex_in ns (Sep.pure_in hz (Sep.unflat (As := [_, _]) S))))))
section
variable {P : Program} {w : World} {K : PySem.W.Frag} {mg : Str → Option Value} {base : Heap}
theorem sc_l_take : FnScope N_l_take ["_law_bag_here", "_law_many"] (defScope s_l_take) := ⟨rfl, rfl, rfl, by decide +kernel, rfl, by decide +kernel, by decide +kernel⟩
theorem ok_l_take {f_PASSED f_COMMON : Addr} {f : Addr} (F : Dt K mg "_law_take" s_l_take ["_law_bag_here", "_law_many"] f) (T : Tx K mg f_PASSED f_COMMON) : Df P w K mg base 1 "_law_take" f ["_law_bag_here", "_law_many"] spTake := by
  refine F.ok sc_l_take (fun vs H Q E h => ?_) (fun cdv A outer s H vs Q E hr h => ?_)
  · obtain ⟨b, n, R, rfl, _⟩ := h
    rfl
  obtain ⟨b, n, R, rfl, h0, h1, S, q⟩ := h
  refine ⟨_, (C8.pss_cut (ps_if (pt_cmpR (r := rEqA K) (op_eqA hr.units) (pe_ix (r := rIx K) ix_seq (pv 0) pe_int (fun _ _ => rfl)) pe_int (nomark _)) (pss_cons (ps_set (i := 2) sc_l_take.nd rfl (by first | exact Or.inl rfl | exact Or.inr rfl) pe_int)
      (C8.pss_cut (ps_if (pt_cmpR (r := rLtI) op_lt (pe_ix (r := rIx K) ix_seq (pv 0) pe_int (fun _ _ => rfl)) (pe_callB (r := cOr (cLenQ K) cLenS) call_lenA (by rfl) T.z_len (by decide +kernel) (pa_cons (pe_ix (r := rIx K) ix_seq (pv 0) pe_int (fun _ _ => rfl)) pa_nil)) (nomark _)) (pss_one (ps_set (i := 2) sc_l_take.nd rfl (by first | exact Or.inl rfl | exact Or.inr rfl) (pe_ix (r := rIx K) ix_seq (pe_ix (r := rIx K) ix_seq (pv 0) pe_int (fun _ _ => rfl)) (pe_ix (r := rIx K) ix_seq (pv 0) pe_int (fun _ _ => rfl)) (fun _ _ => rfl)))) pss_nil)
      (pss_cons (ps_augS (tget := rIxL K) (pv 0) pe_int get_list pe_int ip_add set_list)
      (C8.pss_cut (ps_if (pt_cmpR (r := rGeI) op_ge (pv 2) pe_int (nomark _)) (pss_one (ps_asg (pv 2) (pg_sub (pv 0) pe_int set_list))) pss_nil)
      (pss_cons (ps_set (i := 3) sc_l_take.nd rfl (by first | exact Or.inl rfl | exact Or.inr rfl) (pe_op (r := rAddA) op_addA (pe_op (r := rAddA) op_addA (pe_op (r := rMulA) op_mulA (pe_ix (r := rIx K) ix_seq (pv 0) pe_int (fun _ _ => rfl)) pe_int) (pe_op (r := rModI) op_mod (pe_callTy (r := cInt) call_int1 (by rfl) T.z_int (by decide +kernel) (pa_cons (pv 2) pa_nil)) pe_int)) (pe_op (r := rMulA) op_mulA pe_int (pe_ix (r := rIx K) ix_seq (pv 0) pe_int (fun _ _ => rfl)))))
      (pss_one (ps_asg (pe_op (r := rModI) op_mod (pe_callTy (r := cInt) call_int1 (by rfl) T.z_int (by decide +kernel) (pa_cons (pv 3) pa_nil)) pe_int) (pg_sub (pv 0) pe_int set_list)))))))) pss_nil)
      (pss_cons (ps_if (pt_cmpR (r := rGtI) op_gt (pe_ix (r := rIx K) ix_seq (pv 0) pe_int (fun _ _ => rfl)) pe_int (nomark _)) (pss_cons (ps_set (i := 4) sc_l_take.nd rfl (by first | exact Or.inl rfl | exact Or.inr rfl) (pe_op (r := rModI) op_mod (pe_callTy (r := cInt) call_int1 (by rfl) T.z_int (by decide +kernel) (pa_cons (pe_ix (r := rIx K) ix_seq (pv 0) pe_int (fun _ _ => rfl)) pa_nil)) (pv 1)))
      (pss_cons (ps_asg (pe_op (r := rDivI) op_fdiv (pe_ix (r := rIx K) ix_seq (pv 0) pe_int (fun _ _ => rfl)) (pv 1)) (pg_sub (pv 0) pe_int set_list))
      (pss_one (ps_ret (pv 4))))) pss_nil)
      (pss_cons (ps_set (i := 5) sc_l_take.nd rfl (by first | exact Or.inl rfl | exact Or.inr rfl) (pe_op (r := rModI) op_mod (pe_callTy (r := cInt) call_int1 (by rfl) T.z_int (by decide +kernel) (pa_cons (pe_op (r := rMulA) op_mulA (pe_op (r := rAddA) op_addA (pe_ix (r := rIx K) ix_seq (pv 0) pe_int (fun _ _ => rfl)) pe_int) pe_int) pa_nil)) pe_int))
      (pss_cons (ps_set (i := 6) sc_l_take.nd rfl (by first | exact Or.inl rfl | exact Or.inr rfl) (pe_op (r := rModI) op_mod (pe_callTy (r := cInt) call_int1 (by rfl) T.z_int (by decide +kernel) (pa_cons (pe_op (r := rMulA) op_mulA (pe_op (r := rModI) op_mod (pe_callTy (r := cInt) call_int1 (by rfl) T.z_int (by decide +kernel) (pa_cons (pe_op (r := rMulA) op_mulA (pv 5) (pv 5)) pa_nil)) pe_int) pe_int) pa_nil)) pe_int))
      (pss_cons (ps_if (pt_cmpR (r := rGtI) op_gt (pv 1) pe_int (nomark _)) (pss_one (ps_ret (pe_op (r := rModI) op_mod (pe_callTy (r := cInt) call_int1 (by rfl) T.z_int (by decide +kernel) (pa_cons (pe_op (r := rAddA) op_addA (pe_op (r := rMulA) op_mulA (pv 6) pe_int) (pv 5)) pa_nil)) (pv 1)))) pss_nil)
      (pss_one (ps_ret (pe_op (r := rModI) op_mod (pe_callTy (r := cInt) call_int1 (by rfl) T.z_int (by decide +kernel) (pa_cons (pe_op (r := rDivI) op_fdiv (pv 6) pe_int) pa_nil)) (pv 1))))))))), ?_⟩
  obtain ⟨x, y, z, c, ns, hz, S⟩ := bag_open S
  refine q_cut (Mid := fun σ H => ∃ u2 u3, σ = [some (.ref b), some (.int n), u2, u3, none, none, none] ∧ ∃ (x y z : Int) (c : Addr) (ns : List Int), 0 ≤ z ∧ Sep (pt b (.lst [.int x, .int y, .int z, .ref c]) :: pt c (.lst (ns.map V.int)) :: R) H) ?_ ?_
  · walk_at "go"
    refine q_ite (fun hx => ?_) (fun hx => ?_)
    · walk_at "go"
      refine q_cut (Mid := fun σ H => ∃ u, σ = [some (.ref b), some (.int n), some (.int u), none, none, none, none] ∧ Sep (pt b (.lst [.int x, .int y, .int z, .ref c]) :: pt c (.lst (ns.map V.int)) :: R) H) ?_ ?_
      · walk_at "go"
        refine q_ite (fun hl => ?_) (fun hl => ?_)
        · walk_at "go"
          rw [List.length_map] at hl
          obtain ⟨j, rfl⟩ := Int.eq_ofNat_of_zero_le hz
          refine q_ixL (by walk_at "sq") (atI_nat (v := V.int (ns[j]'(by omega))) (by simp)) ?_
          exact ⟨_, rfl, S⟩
        · exact ⟨_, rfl, S⟩
      rintro σ H ⟨u, rfl, S⟩
      walk_at "go"
      refine q_cut (Mid := fun σ H => σ = [some (.ref b), some (.int n), some (.int u), none, none, none, none] ∧ ∃ x', Sep (pt b (.lst [.int x', .int y, .int (z + 1), .ref c]) :: pt c (.lst (ns.map V.int)) :: R) H) ?_ ?_
      · walk_at "go"
        refine q_ite (fun hu => ?_) (fun hu => ?_)
        · walk_at "go"
          exact ⟨rfl, _, S⟩
        · exact ⟨rfl, _, S⟩
      rintro σ H ⟨rfl, x', S⟩
      walk_at "go"
      exact ⟨_, _, rfl, _, _, _, _, _, by omega, S⟩
    · exact ⟨_, _, rfl, _, _, _, _, _, hz, S⟩
  rintro σ H ⟨u2, u3, rfl, x, y, z, c, ns, hz, S⟩
  walk_at "go"
  refine q_ite (fun hx => ?_) (fun hx => ?_)
  · walk_at "go"
    exact q _ _ (Int.emod_nonneg _ (by omega)) (Int.emod_lt_of_pos _ h0) (bag_shut hz S)
  · walk_at "go"
    refine q_ite (fun hm => ?_) (fun hm => ?_)
    · walk_at "go"
      exact q _ _ (Int.emod_nonneg _ (by omega)) (Int.emod_lt_of_pos _ h0) (bag_shut hz S)
    · walk_at "go"
      exact q _ _ (Int.emod_nonneg _ (by omega)) (Int.emod_lt_of_pos _ h0) (bag_shut hz S)
theorem sc_l_bag : FnScope N_l_bag ["_law_script"] (defScope s_l_bag) := ⟨rfl, rfl, rfl, by decide +kernel, rfl, by decide +kernel, by decide +kernel⟩
theorem ok_l_bag {f_PASSED f_COMMON : Addr} {f : Addr} (F : Dt K mg "_law_bag" s_l_bag ["_law_script"] f) (T : Tx K mg f_PASSED f_COMMON) : Df P w K mg base 1 "_law_bag" f ["_law_script"] (spBag K) := by
  refine F.ok sc_l_bag (fun vs H Q E h => ?_) (fun cdv A outer s H vs Q E hr h => ?_)
  · obtain ⟨a, ns, R, rfl, _⟩ := h
    rfl
  obtain ⟨a, ns, R, rfl, hq, hl, S, q⟩ := h
  refine ⟨_, (pss_one (ps_ret (pe_lst (pa_cons pe_int (pa_cons pe_int (pa_cons pe_int (pa_cons (pe_lc (own := [("_law_cell", 1)]) rfl sc_l_bag.nd (pi_listK K (pe_slice (r := rSlL K) sl_list (pv 0) po_none (po_some pe_int))) (blkOk_by (own := [("_law_cell", 1)]) (N := N_l_bag) (sc := defScope s_l_bag) (by decide +kernel)) (fun _ _ _ _ _ => (pg_name (i := 1) sc_l_bag.nd rfl (by first | exact Or.inl rfl | exact Or.inr rfl))) (fun _ _ _ _ _ => pts_nil) (fun _ _ _ _ _ => (pe_callB (r := cAbs) call_abs (by rfl) T.z_abs (by decide +kernel) (pa_cons (pv 1) pa_nil)))) pa_nil))))))), ?_⟩
  walk_at "go"
  have ec : cutV (ns.map V.int) none (some (63 : Int)) = (ns.take 63).map V.int := by
    have := cut_pre (xs := ns.map V.int) (n := 63)
    rw [List.map_take]
    exact this
  rw [ec] at S
  have hm : (ns.take 63).length ≤ 63 := by simp; omega
  generalize ns.take 63 = ms at S hm
  refine r_lc_list (xs := ms.map V.int) (fun i acc Ps => ∃ zs : List Int, acc = zs.map V.int ∧ zs.length = i ∧ Ps = pt p (.lst (ms.map V.int)) :: R) S ⟨[], rfl, rfl, rfl⟩ (fun D i acc Ps H hi ⟨_, _, _, e⟩ S => by subst e; walk_at "sq") (by walk_at "sq") ?_ ?_
  · rintro D i x acc Ps H hi ⟨zs, rfl, ez, rfl⟩ S
    obtain ⟨z, hz, rfl⟩ : ∃ z, ms[i]? = some z ∧ V.int z = x := by
      rw [List.getElem?_map] at hi
      cases e : ms[i]? with
      | none => rw [e] at hi; cases hi
      | some z => rw [e] at hi; exact ⟨z, rfl, Option.some.inj hi⟩
    walk_at "go"
    refine ⟨rfl, ?_⟩
    walk_at "go"
    have hi' := (List.getElem?_eq_some_iff.mp hz).1
    refine cn_in S (by rw [List.length_map]; omega) ⟨zs ++ [if z < 0 then -z else z], by simp, by simp [ez], rfl⟩
  · rintro D acc Ps H ⟨zs, rfl, ez, rfl⟩ S
    walk_at "go"
    exact q _ _ (bag_shut (x := 0) (y := 1234567891) (z := 0) (c := D) (ns := zs) (by decide) (S.s2 (by walk_at "sel")))
end

/-! ### lists of texts, by their places -/
abbrev CL := Addr × List Str
def cl (e : CL) : SP := pt e.1 (.lst (e.2.map V.str))
def cls (l : List CL) : SP := Sep (l.map cl)
section
variable {K : PySem.W.Frag} {R : List SP} {H : Hp} {l : List CL} {e e' : CL} {k : Nat}
theorem cls_nil (S : Sep R H) : Sep (cls [] :: R) H := Sep.b_nil S
theorem cls_split (l : List CL) (k : Nat) : l.map cl = (l.take k).map cl ++ (l.drop k).map cl := by rw [← List.map_append, List.take_append_drop]
theorem cls_add (k : Nat) (S : Sep (cl e :: cls l :: R) H) : Sep (cls (l.take k ++ e :: l.drop k) :: R) H := by
  unfold cls at S ⊢
  rw [List.map_append, List.map_cons]
  rw [cls_split l k] at S
  exact Sep.b_shut S
theorem cls_at (h : l[k]? = some e) : l = l.take k ++ e :: l.drop (k + 1) := by
  obtain ⟨hk, rfl⟩ := List.getElem?_eq_some_iff.mp h
  rw [List.getElem_cons_drop, List.take_append_drop]
theorem cls_open (h : l[k]? = some e) (S : Sep (cls l :: R) H) : Sep (cl e :: cls (l.take k ++ l.drop (k + 1)) :: R) H := by
  unfold cls at S ⊢
  have S : Sep (Sep ((l.take k).map cl ++ cl e :: (l.drop (k + 1)).map cl) :: R) H := by
    rw [← List.map_cons, ← List.map_append, ← cls_at h]
    exact S
  rw [List.map_append]
  exact Sep.b_open S
theorem cls_shut (S : Sep (cl e' :: cls (l.take k ++ l.drop (k + 1)) :: R) H) : Sep (cls (l.take k ++ e' :: l.drop (k + 1)) :: R) H := by
  unfold cls at S ⊢
  rw [List.map_append] at S
  rw [List.map_append, List.map_cons]
  exact Sep.b_shut S
theorem cls_pool : ∀ {l : List CL} {G : Hp} {R : List SP}, Sep (cls l :: hp G :: R) H → ∃ G', Le G G' ∧ DpAll K G' (l.map fun c : CL => V.ref c.1) (l.map fun c => dNs c.2) ∧ Sep (hp G' :: R) H
  | [], G, R, S => ⟨G, Le.rfl, .nil, S.tl⟩
  | e :: l, G, R, S => by
    have S1 : Sep (cl e :: cls l :: hp G :: R) H := by
      have S0 := Sep.flat S
      exact S0.cons_mono fun _ S => Sep.unflat (As := l.map cl) S
    have S2 : Sep (cls l :: hp G :: cl e :: R) H := S1.s3 (A := cls l) (B := hp G) (C := cl e) (by walk_at "sel")
    obtain ⟨G1, le1, h1, S3⟩ := cls_pool S2
    obtain ⟨G2, le2, h2, S4⟩ := hp_lst (K := K) S3.swap (dpall_strs e.2)
    exact ⟨G2, le1.tr le2, .cons h2 (DpAll.le le2 _ _ h1), S4⟩
end
section
variable {P : Program} {w : World} {K : PySem.W.Frag} {mg : Str → Option Value} {base : Heap} {f_PASSED f_COMMON : Addr}
theorem str_at {ps : List Str} {i : Nat} {x : V} (h : (ps.map V.str)[i]? = some x) : ∃ z, ps[i]? = some z ∧ V.str z = x := by
  rw [List.getElem?_map] at h
  cases e : ps[i]? with
  | none => rw [e] at h; cases h
  | some z => rw [e] at h; exact ⟨z, rfl, Option.some.inj h⟩
theorem int_at {ps : List Int} {i : Nat} {x : V} (h : (ps.map V.int)[i]? = some x) : ∃ z, ps[i]? = some z ∧ V.int z = x := by
  rw [List.getElem?_map] at h
  cases e : ps[i]? with
  | none => rw [e] at h; cases h
  | some z => rw [e] at h; exact ⟨z, rfl, Option.some.inj h⟩
theorem ins_perm {α : Type} {l m : List α} {z : α} (k : Nat) (h : l.Perm m) : (l.take k ++ z :: l.drop k).Perm (m ++ [z]) := by
  have h1 : (l.take k ++ z :: l.drop k).Perm (z :: (l.take k ++ l.drop k)) := List.perm_middle
  rw [List.take_append_drop] at h1
  exact h1.trans ((h.cons z).trans (List.perm_append_singleton z m).symm)
theorem sc_l_mixed : FnScope N_l_mixed ["_law_bag_here", "_law_things"] (defScope s_l_mixed) := ⟨rfl, rfl, rfl, by decide +kernel, rfl, by decide +kernel, by decide +kernel⟩
def spMixed (K : PySem.W.Frag) : Sp := fun vs H Q _ => ∃ (b a : Addr) (ps : List Str) (G : Hp) (R : List SP), vs = [.ref b, .ref a] ∧ ps.length ≤ 100 ∧ Dp K G (.ref a) (dNs ps) ∧ Sep (hp G :: bag b :: R) H ∧
  ∀ (t : Addr) (qs : List Str) (G' H' : Hp), qs.Perm ps → Le G G' → LD K G' t (qs.map PyData.str) → Sep (hp G' :: bag b :: R) H' → Q (.ref t) H'
theorem ok_l_mixed {f f1 : Addr} (F : Dt K mg "_law_mixed" s_l_mixed ["_law_bag_here", "_law_things"] f) (T : Tx K mg f_PASSED f_COMMON) (D_l_take : Df P w K mg base 1 "_law_take" f1 ["_law_bag_here", "_law_many"] spTake) : Df P w K mg base 2 "_law_mixed" f ["_law_bag_here", "_law_things"] (spMixed K) := by
  refine F.ok sc_l_mixed (fun vs H Q E h => ?_) (fun cdv A outer s H vs Q E hr h => ?_)
  · obtain ⟨b, a, ps, G, R, rfl, _⟩ := h
    rfl
  obtain ⟨b, a, ps, G, R, rfl, hl, hx, S, q⟩ := h
  refine ⟨_, (pss_cons (ps_set (i := 2) sc_l_mixed.nd rfl (by first | exact Or.inl rfl | exact Or.inr rfl) (pe_lst pa_nil))
      (pss_cons (ps_for PassesOwn.never rfl (pi_listK K (pv 1)) (pg_name (i := 3) sc_l_mixed.nd rfl (by first | exact Or.inl rfl | exact Or.inr rfl)) (pss_one (ps_expr (pe_bmK K PySem.F.plainAttrs_list PySem.F.slot_list_insert PySem.F.type_list_insert mt_insertK (pv 2) (pa_cons (pe_df D_l_take (hr.mono (by decide)) (pa_cons (pv 0) (pa_cons (pe_op (r := rAddA) op_addA (pe_callB (r := cOr (cLenQ K) cLenS) call_lenA (by rfl) T.z_len (by decide +kernel) (pa_cons (pv 2) pa_nil)) pe_int) pa_nil))) (pa_cons (pv 3) pa_nil))))))
      (pss_one (ps_ret (pv 2))))), ?_⟩
  have sq := dns_sq hx
  walk_at "go"
  refine r_for_list (xs := ps.map V.str) (fun i σ Ps => ∃ (u : Option V) (qs : List Str), σ = [some (.ref b), some (.ref a), some (.ref p), u] ∧ qs.Perm (ps.take i) ∧ Ps = pt p (.lst (qs.map V.str)) :: hp G :: bag b :: R) S ⟨_, [], rfl, by simp, rfl⟩ (fun i σ Ps H hi ⟨_, _, _, _, e⟩ S => by subst e; exact hp_sqL S.tl sq) ?_ ?_
  · rintro i x σ Ps H hi ⟨u, qs, rfl, hpm, rfl⟩ S
    obtain ⟨z, hz, rfl⟩ := str_at hi
    have hi' := (List.getElem?_eq_some_iff.mp hz).1
    have hlen : qs.length = i := by rw [hpm.length_eq, List.length_take]; omega
    walk_at "go"
    refine ⟨b, _, _, rfl, by rw [List.length_map]; omega, by rw [List.length_map]; omega, S.s1 (A := bag b) (by walk_at "sel"), fun v H hv0 hv1 S => ?_⟩
    rw [List.length_map] at hv1
    walk_at "go"
    refine r_ins (S.s1 (A := pt p (.lst (qs.map V.str))) (by walk_at "sel")) hv0 (by omega) (by rw [List.length_map]; omega) fun H S => ?_
    have e : (qs.map V.str).take v.toNat ++ .str z :: (qs.map V.str).drop v.toNat = (qs.take v.toNat ++ z :: qs.drop v.toNat).map V.str := by simp
    rw [e] at S
    walk_at "go"
    refine ⟨_, ⟨_, _, rfl, ?_, rfl⟩, S.s3 (A := pt p (.lst ((qs.take v.toNat ++ z :: qs.drop v.toNat).map V.str))) (B := hp G) (C := bag b) (by walk_at "sel")⟩
    rw [List.take_add_one, hz]
    exact ins_perm _ hpm
  · rintro σ Ps H ⟨u, qs, rfl, hpm, rfl⟩ S
    rw [List.length_map, List.take_length] at hpm
    obtain ⟨G', le, hd, S⟩ := hp_LD (K := K) S (dpall_strs qs)
    walk_at "go"
    exact q p qs G' H hpm le hd S
theorem sc_l_drawn_order : FnScope N_l_drawn_order ["_law_bag_here", "_law_points"] (defScope s_l_drawn_order) := ⟨rfl, rfl, rfl, by decide +kernel, rfl, by decide +kernel, by decide +kernel⟩
def spDrawn (K : PySem.W.Frag) : Sp := fun vs H Q _ => ∃ (b a : Addr) (ps : List Str) (G : Hp) (R : List SP), vs = [.ref b, .ref a] ∧ ps.length ≤ 100 ∧ Dp K G (.ref a) (dNs ps) ∧ Sep (hp G :: bag b :: R) H ∧
  ∀ (t : Addr) (lv : List (List Str)) (G' H' : Hp), lv.flatten.Perm ps → (∀ l ∈ lv, l ≠ []) → Le G G' → LD K G' t (lv.map dNs) → Sep (hp G' :: bag b :: R) H' → Q (.ref t) H'
theorem fl_ins (l : List (List Str)) (k : Nat) (z : Str) : (l.take k ++ [z] :: l.drop k).flatten.Perm (l.flatten ++ [z]) := by
  have e : l.flatten = (l.take k).flatten ++ (l.drop k).flatten := by rw [← List.flatten_append, List.take_append_drop]
  rw [List.flatten_append, List.flatten_cons, e]
  show (_ ++ z :: (l.drop k).flatten).Perm _
  exact List.perm_middle.trans (List.perm_append_singleton z _).symm
theorem fl_app (l : List (List Str)) (k : Nat) (x : List Str) (z : Str) : (l.take k ++ (x ++ [z]) :: l.drop (k + 1)).flatten.Perm ((l.take k ++ x :: l.drop (k + 1)).flatten ++ [z]) := by
  rw [List.flatten_append, List.flatten_cons, List.flatten_append, List.flatten_cons, List.append_assoc, List.append_assoc, List.append_assoc]
  refine List.Perm.append_left _ (List.Perm.append_left _ ?_)
  exact (List.perm_append_singleton z _).symm
theorem ok_l_drawn_order {f f1 f2 : Addr} (F : Dt K mg "_law_drawn_order" s_l_drawn_order ["_law_bag_here", "_law_points"] f) (T : Tx K mg f_PASSED f_COMMON) (D_l_take : Df P w K mg base 1 "_law_take" f1 ["_law_bag_here", "_law_many"] spTake) (D_l_mixed : Df P w K mg base 2 "_law_mixed" f2 ["_law_bag_here", "_law_things"] (spMixed K)) : Df P w K mg base 3 "_law_drawn_order" f ["_law_bag_here", "_law_points"] (spDrawn K) := by
  refine F.ok sc_l_drawn_order (fun vs H Q E h => ?_) (fun cdv A outer s H vs Q E hr h => ?_)
  · obtain ⟨b, a, ps, G, R, rfl, _⟩ := h
    rfl
  obtain ⟨b, a, ps, G, R, rfl, hl, hx, S, q⟩ := h
  refine ⟨_, (pss_cons (ps_set (i := 2) sc_l_drawn_order.nd rfl (by first | exact Or.inl rfl | exact Or.inr rfl) (pe_lst pa_nil))
      (pss_cons (ps_for PassesOwn.never rfl (pi_listK K (pe_df D_l_mixed (hr.mono (by decide)) (pa_cons (pv 0) (pa_cons (pv 1) pa_nil)))) (pg_name (i := 3) sc_l_drawn_order.nd rfl (by first | exact Or.inl rfl | exact Or.inr rfl)) (pss_cons (ps_set (i := 4) sc_l_drawn_order.nd rfl (by first | exact Or.inl rfl | exact Or.inr rfl) (pe_df D_l_take (hr.mono (by decide)) (pa_cons (pv 0) (pa_cons (pe_op (r := rAddA) op_addA (pe_op (r := rMulA) op_mulA pe_int (pe_callB (r := cOr (cLenQ K) cLenS) call_lenA (by rfl) T.z_len (by decide +kernel) (pa_cons (pv 2) pa_nil))) pe_int) pa_nil))))
      (pss_one (ps_if (pt_cmpR (r := rEqA K) (op_eqA hr.units) (pv 4) (pe_op (r := rMulA) op_mulA pe_int (pe_op (r := rDivI) op_fdiv (pv 4) pe_int)) (nomark _)) (pss_one (ps_expr (pe_bmK K PySem.F.plainAttrs_list PySem.F.slot_list_insert PySem.F.type_list_insert mt_insertK (pv 2) (pa_cons (pe_op (r := rDivI) op_fdiv (pv 4) pe_int) (pa_cons (pe_lst (pa_cons (pv 3) pa_nil)) pa_nil))))) (pss_one (ps_expr (pe_bmK K PySem.F.plainAttrs_list PySem.F.slot_list_append PySem.F.type_list_append mt_append (pe_ix (r := rIx K) ix_seq (pv 2) (pe_op (r := rDivI) op_fdiv (pv 4) pe_int) (fun _ _ => rfl)) (pa_cons (pv 3) pa_nil))))))))
      (pss_one (ps_ret (pv 2))))), ?_⟩
  walk_at "go"
  obtain ⟨F, rfl⟩ : ∃ F, F = p := ⟨p, rfl⟩
  refine ⟨b, a, ps, G, _, rfl, hl, hx, S.s2 (A := hp G) (B := bag b) (by walk_at "sel"), fun m qs G1 H hm le1 hd1 S => ?_⟩
  have sq := hd1.sq
  have hlq : qs.length = ps.length := hm.length_eq
  have S : Sep (pt F (.lst (([] : List CL).map fun c : CL => V.ref c.1)) :: cls [] :: hp G1 :: bag b :: R) H := (S.s3 (A := pt F (.lst [])) (B := hp G1) (C := bag b) (by walk_at "sel")).cons_mono fun _ => cls_nil
  refine r_for_list (xs := qs.map V.str) (fun i σ Ps => ∃ (u u2 : Option V) (cs : List CL), σ = [some (.ref b), some (.ref a), some (.ref F), u, u2] ∧ (cs.map Prod.snd).flatten.Perm (qs.take i) ∧ (∀ c ∈ cs, c.2 ≠ []) ∧ cs.length ≤ i ∧ Ps = pt F (.lst (cs.map fun c : CL => V.ref c.1)) :: cls cs :: hp G1 :: bag b :: R) S ⟨_, _, [], rfl, by simp, by simp, Nat.le_refl _, rfl⟩ (fun i σ Ps H hi ⟨_, _, _, _, _, _, _, e⟩ S => by subst e; exact hp_sqL S.tl.tl sq) ?_ ?_
  · rintro i x σ Ps H hi ⟨u, u2, cs, rfl, hpm, hne, hln, rfl⟩ S
    obtain ⟨z, hz, rfl⟩ := str_at hi
    have hi' := (List.getElem?_eq_some_iff.mp hz).1
    walk_at "go"
    refine ⟨b, _, _, rfl, by rw [List.length_map]; omega, by rw [List.length_map]; omega, S.s1 (A := bag b) (by walk_at "sel"), fun v H hv0 hv1 S => ?_⟩
    rw [List.length_map] at hv1
    walk_at "go"
    refine q_ite (fun he => ?_) (fun he => ?_)
    · walk_at "go"
      refine r_ins (S.s1 (A := pt F (.lst (cs.map fun c : CL => V.ref c.1))) (by walk_at "sel")) (by omega) (by omega) (by rw [List.length_map]; omega) fun H S => ?_
      generalize (v / 2).toNat = k at S
      have e : (cs.map fun c : CL => V.ref c.1).take k ++ .ref p :: (cs.map fun c : CL => V.ref c.1).drop k = (cs.take k ++ (p, [z]) :: cs.drop k).map fun c : CL => V.ref c.1 := by simp
      rw [e] at S
      have S := S.s5 (A := pt p (.lst [.str z])) (B := cls cs) (C := pt F (.lst ((cs.take k ++ (p, [z]) :: cs.drop k).map fun c : CL => V.ref c.1))) (D := hp G1) (E := bag b) (by walk_at "sel")
      have S : Sep (cl (p, [z]) :: cls cs :: pt F (.lst ((cs.take k ++ (p, [z]) :: cs.drop k).map fun c : CL => V.ref c.1)) :: hp G1 :: bag b :: R) H := S
      have S := (cls_add k S).swap
      walk_at "go"
      refine ⟨_, ⟨_, _, _, rfl, ?_, ?_, ?_, rfl⟩, S⟩
      · rw [List.take_add_one, hz, List.map_append, List.map_cons, List.map_take, List.map_drop]
        exact (fl_ins _ k z).trans (hpm.append_right _)
      · intro c m
        rcases List.mem_append.mp m with m | m
        · exact hne c (List.mem_of_mem_take m)
        · rcases List.mem_cons.mp m with rfl | m
          · exact List.cons_ne_nil _ _
          · exact hne c (List.mem_of_mem_drop m)
      · rw [List.length_append, List.length_cons, List.length_take, List.length_drop]
        omega
    · walk_at "go"
      obtain ⟨k, hk⟩ : ∃ k : Nat, v / 2 = (k : Int) := Int.eq_ofNat_of_zero_le (by omega)
      have hkl : k < cs.length := by omega
      obtain ⟨e, he⟩ : ∃ e, cs[k]? = some e := ⟨cs[k], List.getElem?_eq_getElem hkl⟩
      rw [hk]
      refine q_ixL (v := .ref e.1) (by walk_at "sq") (atI_nat (by rw [List.getElem?_map, he]; rfl)) ?_
      have S : Sep (pt e.1 (.lst (e.2.map V.str)) :: cls (cs.take k ++ cs.drop (k + 1)) :: pt F (.lst (cs.map fun c : CL => V.ref c.1)) :: hp G1 :: bag b :: R) H := cls_open he (S.s4 (A := cls cs) (B := pt F (.lst (cs.map fun c : CL => V.ref c.1))) (C := hp G1) (D := bag b) (by walk_at "sel"))
      have hsmall : e.2.length ≤ 1000 := by
        have h1 : e.2.length ≤ (cs.map Prod.snd).flatten.length := by
          have := congrArg (fun l : List CL => (l.map Prod.snd).flatten.length) (cls_at he)
          simp only [List.map_append, List.map_cons, List.flatten_append, List.flatten_cons, List.length_append] at this
          omega
        rw [hpm.length_eq, List.length_take] at h1
        omega
      walk_at "go"
      have e2 : e.2.map V.str ++ [.str z] = (e.2 ++ [z]).map V.str := by simp
      rw [e2] at S
      have S := cls_shut (e' := (e.1, e.2 ++ [z])) S
      have e3 : cs.map (fun c : CL => V.ref c.1) = (cs.take k ++ (e.1, e.2 ++ [z]) :: cs.drop (k + 1)).map fun c : CL => V.ref c.1 := by
        have := congrArg (List.map fun c : CL => V.ref c.1) (cls_at he)
        rw [this]
        simp
      rw [e3] at S
      refine ⟨_, ⟨_, _, _, rfl, ?_, ?_, ?_, rfl⟩, S.swap⟩
      · rw [List.take_add_one, hz, List.map_append, List.map_cons, List.map_take, List.map_drop]
        refine (fl_app _ k e.2 z).trans (List.Perm.append_right _ ?_)
        have := congrArg (List.map (Prod.snd : CL → List Str)) (cls_at he)
        rw [List.map_append, List.map_cons, List.map_take, List.map_drop] at this
        rw [← this]
        exact hpm
      · intro c m
        rcases List.mem_append.mp m with m | m
        · exact hne c (List.mem_of_mem_take m)
        · rcases List.mem_cons.mp m with rfl | m
          · simp
          · exact hne c (List.mem_of_mem_drop m)
      · rw [List.length_append, List.length_cons, List.length_take, List.length_drop]
        omega
  · rintro σ Ps H ⟨u, u2, cs, rfl, hpm, hne, hln, rfl⟩ S
    rw [List.length_map, List.take_length] at hpm
    have S : Sep (cls cs :: hp G1 :: pt F (.lst (cs.map fun c : CL => V.ref c.1)) :: bag b :: R) H := S.s3 (A := cls cs) (B := hp G1) (C := pt F (.lst (cs.map fun c : CL => V.ref c.1))) (by walk_at "sel")
    obtain ⟨G2, le2, hda, S⟩ := cls_pool (K := K) S
    obtain ⟨G3, le3, hd, S⟩ := hp_LD (K := K) S.swap hda
    walk_at "go"
    refine q F (cs.map Prod.snd) G3 H (hpm.trans hm) (fun l m => ?_) ((le1.tr le2).tr le3) ?_ S
    · obtain ⟨c, hc, rfl⟩ := List.mem_map.mp m
      exact hne c hc
    · rw [List.map_map]
      exact hd
end
end Pf

set_option Elab.async false
set_option linter.all false
set_option maxRecDepth 100000
set_option maxHeartbeats 4000000
namespace Pf
open PySem L2 Kt
set_option hygiene false
local macro_rules | `(tactic| walk_at "mem") => `(tactic| (with_reducible (repeat (first | exact Pick.hd | apply Pick.tl)); done))
local macro_rules | `(tactic| walk_at "rep") => `(tactic| (with_reducible (repeat (first | exact Repl.hd | apply Repl.tl)); done))
local macro_rules | `(tactic| walk_at "sel") => `(tactic| ((repeat (with_reducible apply Sel.cons; (focus walk_at "mem"))); (with_reducible apply Sel.nil); (with_reducible (repeat (first | exact Dr.all | apply Dr.skip)); done)))
local macro_rules | `(tactic| walk_at "at") => `(tactic| (refine' Sep.at_ (by assumption) ?kkpk; (case kkpk => walk_at "mem")))
local macro_rules | `(tactic| walk_at "sq") => `(tactic| first | assumption | (refine' Sep.sq (by assumption) ?kkpk; (case kkpk => walk_at "mem")))
local macro_rules | `(tactic| walk_at "st") => `(tactic| first | assumption | (refine' Sep.st (by assumption) ?kkpk; (case kkpk => walk_at "mem")))
local macro_rules | `(tactic| walk_at "lk") => `(tactic| (repeat (first | (with_reducible exact lk_eq) | exact rfl | refine (lk_ne (by decide +kernel)).trans ?_)))
local macro_rules | `(tactic| walk_at "pf") => `(tactic| (repeat (first | (with_reducible exact pf_nil) | (with_reducible exact pf_eq) | (apply pf_ne; (focus decide +kernel)))))
local macro_rules | `(tactic| walk_at "ty") => `(tactic| first | exact ty_int | (refine' ty_lst ?kkh; (case kkh => walk_at "at")))
local macro_rules | `(tactic| walk_at "k1") => `(tactic| with_reducible first
  | refine q_seq ?_ | refine q_set ?_ | refine q_asg ?_ | refine q_ret ?_ | refine q_drop ?_ | refine q_next ?_ | refine q_c ?_ | refine q_op ?_ | refine q_un ?_ | refine q_nil ?_ | refine q_cons ?_ | refine q_cb ?_
  | refine q_call ?_ | refine q_ifs ?_ | refine q_if ?_ | refine q_test ?_ | refine q_tb ?_ | refine q_bl ?_ | refine q_notT ?_ | refine q_andT ?_ | refine q_orT ?_ | refine q_andV ?_ | refine q_orV ?_ | refine q_notV ?_
  | refine q_addA ?_ | refine q_subI ?_ | refine q_ltI ?_ | refine q_leI ?_ | refine q_gtI ?_ | refine q_geI ?_ | refine q_eqI ?_ | refine q_neI ?_ | refine q_abs ?_ | refine q_int ?_ | refine q_intB ?_ | refine q_max ?_ | refine q_min ?_
  | refine q_ipAdd ?_ | refine q_ipSub ?_ | refine q_gsub ?_ | refine q_augs ?_ | refine q_lst ?_ | refine q_tup ?_ | refine q_blI ?_ | refine iteT ?_ | refine iteF ?_ | refine iteNT ?_ | refine iteNF ?_
  | refine r_prop ?_ | refine r_fld ?_ | refine r_sfld ?_ | refine r_meth ?_ | refine r_make ?_ | refine r_sl ?_ | refine r_nopart ?_ | refine r_part ?_ | refine r_parti ?_ | refine r_gsl ?_ | refine r_bm ?_ | refine r_bm0 ?_ | refine r_for ?_ | refine r_ilist ?_ | refine r_irng ?_
  | refine r_gname ?_ | refine r_gcons ?_ | refine r_gnil ?_ | refine r_par ?_ | refine r_parA ?_ | refine r_chain ?_ | refine r_isN ?_ | refine r_tlc ?_ | refine r_yes ?_ | refine r_makek ?_ | refine r_neg ?_)
local macro_rules | `(tactic| walk_at "k2") => `(tactic| first
  | ((with_reducible refine' q_var ?kke ?_); (case kke => rfl))
  | ((with_reducible refine' q_aug ?kke ?_); (case kke => rfl))
  | ((with_reducible refine' q_ixL ?kks ?kke ?_); (case kks => walk_at "sq"); (case kke => first | rfl | assumption))
  | ((with_reducible refine' q_ixT ?kks ?kke ?_); (case kks => walk_at "st"); (case kke => first | rfl | assumption))
  | ((with_reducible refine' q_ixLL ?kks ?kke ?_); (case kks => walk_at "sq"); (case kke => first | rfl | assumption))
  | ((with_reducible refine' q_lenL ?kks ?_); (case kks => walk_at "sq"))
  | ((with_reducible refine' q_mulI ?kkc ?_); (case kkc => first | exact .inl (by omega) | exact .inr (by omega)))
  | ((with_reducible refine' q_modI ?kkc ?_); (case kkc => omega))
  | ((with_reducible refine' q_divI ?kkc ?_); (case kkc => exact ⟨by omega, by omega⟩))
  | ((with_reducible refine' q_powI ?kkc ?_); (case kkc => exact ⟨by decide, by decide, by decide⟩))
  | ((with_reducible refine' r_kfld ?kkS ?kkp ?kkc ?kkn ?kkl ?_); (case kkS => assumption); (case kkp => walk_at "mem"); (case kkc => walk_at "cls"); (case kkn => walk_at "na"); (case kkl => walk_at "lk"))
  | ((with_reducible refine' r_kprop ?kkS ?kkp ?_); (case kkS => assumption); (case kkp => walk_at "mem"))
  | ((with_reducible refine' r_kmeth ?kkS ?kkp ?kkl ?_); (case kkS => assumption); (case kkp => walk_at "mem"); (case kkl => walk_at "lk"))
  | ((with_reducible refine' r_calll ?kks ?_); (case kks => rfl))
  | ((with_reducible refine' r_tyl ?kks ?_); (case kks => walk_at "sq"))
  | ((with_reducible refine' r_isi (k := true) ?kkt ?kke ?_); (case kkt => walk_at "ty"); (case kke => decide +kernel))
  | ((with_reducible refine' r_isi (k := false) ?kkt ?kke ?_); (case kkt => walk_at "ty"); (case kke => decide +kernel)))
local macro_rules | `(tactic| walk_at "k3") => `(tactic| first
  | ((with_reducible refine' q_setS ?kkS ?kkr ?kke ?_); (case kkS => assumption); (case kkr => walk_at "rep"); (case kke => rfl); intro H S)
  | ((with_reducible refine' r_kset ?kkS ?kkr ?kkc ?kkn ?kkl ?kke ?_); (case kkS => assumption); (case kkr => walk_at "rep"); (case kkc => walk_at "cls"); (case kkn => walk_at "na"); (case kkl => first | exact Nat.le_of_ble_eq_true rfl | assumption | omega | (simp; done) | (simp; omega)); (case kke => walk_at "pf"); intro H S)
  | ((with_reducible refine' q_new ?kkS ?kkl ?_); (case kkS => assumption); (case kkl => first | exact Nat.le_of_ble_eq_true rfl | assumption | omega | (simp; done) | (simp; omega)); intro p H S)
  | ((with_reducible refine' q_newT ?kkS ?kkl ?_); (case kkS => assumption); (case kkl => first | exact Nat.le_of_ble_eq_true rfl | assumption | omega | (simp; done) | (simp; omega)); intro p H S)
  | ((with_reducible refine' r_knew ?kkS ?_); (case kkS => assumption); intro x dx H S)
  | ((with_reducible refine' r_knewk ?kkS ?kkl1 ?kkl2 ?_); (case kkS => assumption); (case kkl1 => rfl); (case kkl2 => rfl); intro x dx H S)
  | ((with_reducible refine' r_ksl ?kkS ?kks ?_); (case kkS => assumption); (case kks => walk_at "sq"); intro p H S)
  | ((with_reducible refine' r_list ?kkS ?kks ?_); (case kkS => assumption); (case kks => walk_at "sq"); intro p H S)
  | ((with_reducible refine' r_cat ?kkS ?kks1 ?kks2 ?kkz ?_); (case kkS => assumption); (case kks1 => walk_at "at"); (case kks2 => walk_at "at"); (case kkz => first | omega | (simp; omega)); intro p H S)
  | ((with_reducible refine' r_append ?kkS ?kkr ?kkz ?_); (case kkS => assumption); (case kkr => walk_at "rep"); (case kkz => first | omega | (simp; omega)); intro H S)
  | ((with_reducible refine' r_reverse ?kkS ?kkr ?_); (case kkS => assumption); (case kkr => walk_at "rep"); intro H S)
  | ((with_reducible refine' r_clear ?kkS ?kkr ?_); (case kkS => assumption); (case kkr => walk_at "rep"); intro H S))
local macro_rules | `(tactic| walk_at "gn") => `(tactic| repeat (first | walk_at "k1" | walk_at "k2"))
local macro_rules | `(tactic| walk_at "go") => `(tactic| repeat (first | walk_at "k1" | walk_at "k2" | walk_at "k3"))

local macro_rules | `(tactic| walk_at "sq") => `(tactic| first | assumption | (refine' Sep.sq ?kkS ?kkpk; (case kkS => assumption); (case kkpk => walk_at "mem")) | (refine' hp_sqL ?kkS ?kkx; (case kkS => assumption); (case kkx => assumption)) | (refine' hp_sqL (Sep.tl ?kkS) ?kkx; (case kkS => assumption); (case kkx => assumption)) | (refine' hp_sqL (Sep.tl (Sep.tl ?kkS)) ?kkx; (case kkS => assumption); (case kkx => assumption)))
local macro_rules | `(tactic| walk_at "st") => `(tactic| first | assumption | (refine' Sep.st ?kkS ?kkpk; (case kkS => assumption); (case kkpk => walk_at "mem")) | (refine' hp_sqT ?kkS ?kkx; (case kkS => assumption); (case kkx => assumption)) | (refine' hp_sqT (Sep.tl ?kkS) ?kkx; (case kkS => assumption); (case kkx => assumption)) | (refine' hp_sqT (Sep.tl (Sep.tl ?kkS)) ?kkx; (case kkS => assumption); (case kkx => assumption)))
local macro_rules | `(tactic| walk_at "k1") => `(tactic| with_reducible first | refine r_ienumT ?_ | refine r_tru ?_ | refine r_itup ?_ | refine r_star ?_ | refine r_par3 ?_ | refine r_parA3 ?_ | refine r_dget ?_ | refine r_din ?_ | refine r_dnotin ?_ | refine r_dput ?_)

section
variable {P : Program} {w : World} {K : PySem.W.Frag} {mg : Str → Option Value} {base : Heap} {f_PASSED f_COMMON : Addr}
theorem sc_l_as_order : FnScope N_l_as_order ["_law_levels"] (defScope s_l_as_order) := ⟨rfl, rfl, rfl, by decide +kernel, rfl, by decide +kernel, by decide +kernel⟩
def asO (lv : List (List Str)) : Od := (lv.filter fun l => !l.isEmpty).map sortS
def spAsOrder (K : PySem.W.Frag) : Sp := fun vs H Q _ => ∃ (a : Addr) (lv : List (List Str)) (G : Hp) (R : List SP), vs = [.ref a] ∧ lv.length ≤ 100 ∧ (∀ l ∈ lv, Nms l) ∧ Dp K G (.ref a) (.list (lv.map dNs)) ∧ Sep (hp G :: R) H ∧
  ∀ t G' H', Le G G' → Dp K G' (.ref t) (dOd (asO lv)) → Sep (hp G' :: R) H' → Q (.ref t) H'
theorem ok_l_as_order {f : Addr} (F : Dt K mg "_law_as_order" s_l_as_order ["_law_levels"] f) (T : Tx K mg f_PASSED f_COMMON) : Df P w K mg base 1 "_law_as_order" f ["_law_levels"] (spAsOrder K) := by
  refine F.ok sc_l_as_order (fun vs H Q E h => ?_) (fun cdv A outer s H vs Q E hr h => ?_)
  · obtain ⟨a, lv, G, R, rfl, _⟩ := h
    rfl
  obtain ⟨a, lv, G, R, rfl, hl, hnm, hx, S, q⟩ := h
  refine ⟨_, (pss_one (ps_ret (pe_callTy (r := cTup K) call_tupA (by rfl) T.z_tuple (by decide +kernel) (pa_cons (pe_lc (own := [("_law_level", 1)]) rfl sc_l_as_order.nd (pi_listK K (pv 0)) (blkOk_by (own := [("_law_level", 1)]) (N := N_l_as_order) (sc := defScope s_l_as_order) (by decide +kernel)) (fun _ _ _ _ _ => (pg_name (i := 1) sc_l_as_order.nd rfl (by first | exact Or.inl rfl | exact Or.inr rfl))) (fun _ _ _ _ _ => (pts_one (pt_cmpR (r := rNeA K) (op_neA hr.units) (pv 1) (pe_lst pa_nil) (nomark _)))) (fun _ _ _ _ _ => (pe_callTy (r := cTup K) call_tupA (by rfl) T.z_tuple (by decide +kernel) (pa_cons (pe_callB (r := rSortA K w) (cr_sortA rfl hr.units) (by rfl) T.z_sorted (by decide +kernel) (pa_cons (pv 1) pa_nil)) pa_nil)))) pa_nil)))), ?_⟩
  walk_at "go"
  refine r_lcL (l := lv) (enc := dNs) S hx (by omega) (fun l => if (!l.isEmpty) = true then some (sortS l) else none) dLv (fun l hl => ?_) (fun D acc G' H' le hacc S => ?_)
  · intro D acc Gi x H N le hx hn S kY kN
    obtain ⟨c, ys, rfl, _, _⟩ := dp_lstInv hx
    walk_at "go"
    refine ⟨rfl, ?_⟩
    walk_at "go"
    refine r_ne_nilL (hp_dp S.tl.tl hx) (okd_ns (hnm l hl)) (by decide) (by walk_at "sq") ?_
    walk_at "go"
    have S : Sep (hp Gi :: pt D (.lst acc) :: R) H := S.s2 (A := hp Gi) (B := pt D (.lst acc)) (by walk_at "sel")
    cases l with
    | nil =>
      refine iteF ?_
      exact kN rfl H S.swap
    | cons z l =>
      refine iteT ?_
      walk_at "go"
      refine r_sortS (hp_le S) hx fun p np => ?_
      have S := S.new (.lst ((sortS (z :: l)).map V.str)) np
      walk_at "go"
      refine r_tupOf S (by walk_at "sq") fun t H S => ?_
      have S2 : Sep (pt t (.tup ((sortS (z :: l)).map V.str)) :: hp Gi :: pt D (.lst acc) :: R) H := S.s3 (A := pt t (.tup ((sortS (z :: l)).map V.str))) (B := hp Gi) (C := pt D (.lst acc)) (by walk_at "sel")
      obtain ⟨G2, le2, hd, S3⟩ := hp_tup (K := K) S2 (dpall_strs _)
      exact kY _ _ G2 H le2 rfl hd S3.swap
  · walk_at "go"
    refine r_tupOf S (by walk_at "sq") fun t H S => ?_
    have S2 : Sep (pt t (.tup acc) :: hp G' :: R) H := S.s2 (by walk_at "sel")
    obtain ⟨G2, le2, hd, S3⟩ := hp_tup S2 hacc
    rw [fm_ifmap] at hd
    exact q t G2 H (le.tr le2) hd S3
theorem sc_l_ranks : FnScope N_l_ranks ["_law_order"] (defScope s_l_ranks) := ⟨rfl, rfl, rfl, by decide +kernel, rfl, by decide +kernel, by decide +kernel⟩
theorem flat_at {α : Type} {o : List (List α)} {i : Nat} {l : List α} (h : o[i]? = some l) : (o.take (i + 1)).flatten = (o.take i).flatten ++ l := by
  rw [List.take_add_one, h, List.flatten_append]
  simp
theorem nd_at {o : Od} {i j : Nat} {l : Lv} {p : Str} (nd : o.flatten.Nodup) (hi : o[i]? = some l) (hj : l[j]? = some p) : p ∉ (o.take i).flatten ++ l.take j := by
  have e : o.flatten = (o.take (i + 1)).flatten ++ (o.drop (i + 1)).flatten := by rw [← List.flatten_append, List.take_append_drop]
  rw [e, flat_at hi] at nd
  have nd := (List.nodup_append.mp nd).1
  obtain ⟨hjl, rfl⟩ := List.getElem?_eq_some_iff.mp hj
  have e2 : l = l.take j ++ l[j] :: l.drop (j + 1) := by rw [List.getElem_cons_drop, List.take_append_drop]
  have e3 : (o.take i).flatten ++ l = ((o.take i).flatten ++ l.take j) ++ l[j] :: l.drop (j + 1) := by
    rw [List.append_assoc, ← e2]
  rw [e3] at nd
  intro m
  exact (List.nodup_append.mp nd).2.2 _ m _ List.mem_cons_self rfl
structure SmO (o : Od) : Prop where
  ln : o.length ≤ 100
  nd : o.flatten.Nodup
  fl : o.flatten.length ≤ 50
def spRanks (K : PySem.W.Frag) : Sp := fun vs H Q _ => ∃ (a : Addr) (o : Od) (G : Hp) (R : List SP), vs = [.ref a] ∧ SmO o ∧ Dp K G (.ref a) (dOd o) ∧ Sep (hp G :: R) H ∧ ∀ d H', Sep (pt d (.dK (encK (rkF 0 o))) :: hp G :: R) H' → Q (.ref d) H'
theorem ok_l_ranks {f : Addr} (F : Dt K mg "_law_ranks" s_l_ranks ["_law_order"] f) (T : Tx K mg f_PASSED f_COMMON) : Df P w K mg base 1 "_law_ranks" f ["_law_order"] (spRanks K) := by
  refine F.ok sc_l_ranks (fun vs H Q E h => ?_) (fun cdv A outer s H vs Q E hr h => ?_)
  · obtain ⟨a, o, G, R, rfl, _⟩ := h
    rfl
  obtain ⟨a, o, G, R, rfl, sm, hx, S, q⟩ := h
  refine ⟨_, (pss_cons (ps_set (i := 1) sc_l_ranks.nd rfl (by first | exact Or.inl rfl | exact Or.inr rfl) pe_dnewK)
      (pss_cons (ps_for PassesOwn.never rfl (pi_range1 rfl T.z_range (pa_cons (pe_callB (r := cOr (cLenQ K) cLenS) call_lenA (by rfl) T.z_len (by decide +kernel) (pa_cons (pv 0) pa_nil)) pa_nil)) (pg_name (i := 2) sc_l_ranks.nd rfl (by first | exact Or.inl rfl | exact Or.inr rfl)) (pss_one (ps_for PassesOwn.never rfl (pi_tupK K (pe_ix (r := rIx K) ix_seq (pv 0) (pv 2) (fun _ _ => rfl))) (pg_name (i := 3) sc_l_ranks.nd rfl (by first | exact Or.inl rfl | exact Or.inr rfl)) (pss_one (ps_dput (Nat.lt_of_le_of_lt (Nat.add_le_add_left (by decide) _) hr.units) (pv 1) (pv 3) (pv 2) rfl)))))
      (pss_one (ps_ret (pv 1))))), ?_⟩
  obtain ⟨a', xs, e, hs, ha⟩ := dp_tupInv (ds := o.map dLv) hx
  cases e
  have hl : xs.length = o.length := by rw [dpall_len ha, List.length_map]
  have hln := sm.ln
  walk_at "go"
  refine r_dnew S fun d H S => ?_
  walk_at "go"
  refine q_lenT (by walk_at "st") ?_
  walk_at "go"
  refine r_for_rng (fun i σ Ps => ∃ u2 u3, σ = [some (.ref a), some (.ref d), u2, u3] ∧ Ps = pt d (.dK (encK (rkF 0 (o.take i)))) :: hp G :: R) S (by omega) (by omega) ⟨_, _, rfl, rfl⟩ ?_ ?_
  · rintro i σ Ps H hi ⟨u2, u3, rfl, rfl⟩ S
    have hi : i < xs.length := by omega
    obtain ⟨l, c, el, ec, hb⟩ := od_at ha (List.getElem?_eq_getElem hi)
    walk_at "go"
    refine q_ixT (v := .ref c) (by walk_at "st") (atI_nat (by rw [List.getElem?_eq_getElem hi, ec])) ?_
    have hlen : (o.take i).flatten.length + l.length ≤ 50 := by
      have e : o.flatten = (o.take (i + 1)).flatten ++ (o.drop (i + 1)).flatten := by rw [← List.flatten_append, List.take_append_drop]
      have := sm.fl
      rw [e, flat_at el, List.length_append, List.length_append] at this
      omega
    have S : Sep (pt d (.dK (encK (rkF 0 (o.take i) ++ (l.take 0).map fun x => (x, (i : Int))))) :: hp G :: R) H := by
      rw [List.take_zero, List.map_nil, List.append_nil]
      exact S
    refine r_for_tup (xs := l.map V.str) (fun j σ Ps => ∃ u3, σ = [some (.ref a), some (.ref d), some (.int i), u3] ∧ Ps = pt d (.dK (encK (rkF 0 (o.take i) ++ (l.take j).map fun x => (x, (i : Int))))) :: hp G :: R) S ⟨_, rfl, rfl⟩ (fun i σ Ps H _ ⟨_, _, e⟩ S => by subst e; exact hp_sqT S.tl hb) ?_ ?_
    · rintro j x σ Ps H hj ⟨u3, rfl, rfl⟩ S
      obtain ⟨p, hp', rfl⟩ := str_at hj
      have hj' := (List.getElem?_eq_some_iff.mp hp').1
      walk_at "go"
      refine r_dputK S (fun e m ee => ?_) ?_ fun H S => ?_
      · refine nd_at sm.nd el hp' ?_
        rw [← ee]
        have := List.mem_map_of_mem (f := Prod.fst) m
        rw [List.map_append, rkF_keys, List.map_map] at this
        rw [show l.take j = (l.take j).map (Prod.fst ∘ fun x => (x, (i : Int))) from (List.map_id _).symm]
        exact this
      · rw [List.length_append, rkF_len, List.length_map, List.length_take]
        omega
      · walk_at "go"
        refine ⟨_, ⟨_, rfl, ?_⟩, S⟩
        rw [List.take_add_one, hp', List.map_append, List.append_assoc]
        rfl
    · rintro σ Ps H ⟨u3, rfl, rfl⟩ S
      walk_at "go"
      refine ⟨_, ⟨_, _, rfl, ?_⟩, S⟩
      rw [List.length_map, List.take_length, rkF_take el]
  · rintro σ Ps H ⟨u2, u3, rfl, rfl⟩ S
    walk_at "go"
    rw [Int.toNat_natCast, hl, List.take_length] at S
    exact q d H S
theorem sc_l_order_of : FnScope N_l_order_of ["_law_ranks_here"] (defScope s_l_order_of) := ⟨rfl, rfl, rfl, by decide +kernel, rfl, by decide +kernel, by decide +kernel⟩
def spOrdOf (K : PySem.W.Frag) : Sp := fun vs H Q _ => ∃ (d : Addr) (kv : Rk) (ms : List Int) (G : Hp) (R : List SP), vs = [.ref d] ∧ kv.length ≤ 50 ∧ (kv.map Prod.fst).Nodup ∧ ms.Pairwise (· < ·) ∧ (∀ k, k ∈ ms ↔ k ∈ kv.map Prod.snd) ∧ Sep (pt d (.dK (encK kv)) :: hp G :: R) H ∧
  ∀ t G' H', Le G G' → Dp K G' (.ref t) (dOd (ordL kv ms)) → Sep (hp G' :: R) H' → Q (.ref t) H'
theorem fm_str {kv : Rk} {p : Str × Int → Bool} : ∀ l : Rk, (l.filterMap fun e => if p e = true then some e.1 else none) = (l.filter p).map Prod.fst := fm_ifmap
theorem nodup_len : ∀ {ms ns : List Int}, ms.Nodup → (∀ k ∈ ms, k ∈ ns) → ms.length ≤ ns.length
  | [], _, _, _ => Nat.zero_le _
  | x :: ms, ns, hd, hs => by
    obtain ⟨h1, h2⟩ := List.nodup_cons.mp hd
    have m := hs x List.mem_cons_self
    have := nodup_len (ns := ns.erase x) h2 fun k mk => (List.mem_erase_of_ne fun (e : k = x) => h1 (e ▸ mk)).mpr (hs k (List.mem_cons_of_mem _ mk))
    rw [List.length_erase_of_mem m] at this
    have := List.length_pos_of_mem m
    rw [List.length_cons]
    omega
theorem asc_len {ms : List Int} (h : ms.Pairwise (· < ·)) {ns : List Int} (hs : ∀ k ∈ ms, k ∈ ns) : ms.length ≤ ns.length := nodup_len (h.imp fun a => Int.ne_of_lt a) hs
theorem ok_l_order_of {f : Addr} (F : Dt K mg "_law_order_of" s_l_order_of ["_law_ranks_here"] f) (T : Tx K mg f_PASSED f_COMMON) : Df P w K mg base 1 "_law_order_of" f ["_law_ranks_here"] (spOrdOf K) := by
  refine F.ok sc_l_order_of (fun vs H Q E h => ?_) (fun cdv A outer s H vs Q E hr h => ?_)
  · obtain ⟨d, kv, ms, G, R, rfl, _⟩ := h
    rfl
  obtain ⟨d, kv, ms, G, R, rfl, hl, nd, hm, hmi, S, q⟩ := h
  have hml : ms.length ≤ 50 := by
    have := asc_len hm fun k m => (hmi k).mp m
    rw [List.length_map] at this
    omega
  refine ⟨_, (pss_cons (ps_set (i := 1) sc_l_order_of.nd rfl (by first | exact Or.inl rfl | exact Or.inr rfl) (pe_lst pa_nil))
      (pss_cons (ps_for PassesOwn.never rfl (pi_listK K (pe_callB (r := rSortA K w) (cr_sortA rfl hr.units) (by rfl) T.z_sorted (by decide +kernel) (pa_cons (pe_callTy (r := rSetL K w) (cr_setL rfl) (by rfl) T.z_set (by decide +kernel) (pa_cons (pe_lock (pe_lc (own := [("_law_point", 3)]) rfl sc_l_order_of.nd (pi_keys (pv 0)) (blkOk_by (own := [("_law_point", 3)]) (N := N_l_order_of) (sc := defScope s_l_order_of) (by decide +kernel)) (fun _ _ _ _ _ => (pg_name (i := 3) sc_l_order_of.nd rfl (by first | exact Or.inl rfl | exact Or.inr rfl))) (fun _ _ _ _ _ => pts_nil) (fun _ _ _ _ _ => (pe_dget (Nat.lt_of_le_of_lt (Nat.add_le_add_left (by decide) _) hr.units) (pv 0) (pv 3) (by first | rfl | trivial | exact fun _ _ => rfl))))) pa_nil)) pa_nil))) (pg_name (i := 2) sc_l_order_of.nd rfl (by first | exact Or.inl rfl | exact Or.inr rfl)) (pss_one (ps_expr (pe_bmK K PySem.F.plainAttrs_list PySem.F.slot_list_append PySem.F.type_list_append mt_append (pv 1) (pa_cons (pe_callTy (r := cTup K) call_tupA (by rfl) T.z_tuple (by decide +kernel) (pa_cons (pe_callB (r := rSortA K w) (cr_sortA rfl hr.units) (by rfl) T.z_sorted (by decide +kernel) (pa_cons (pe_lock (pe_lc (own := [("_law_point", 3)]) rfl sc_l_order_of.nd (pi_keys (pv 0)) (blkOk_by (own := [("_law_point", 3)]) (N := N_l_order_of) (sc := defScope s_l_order_of) (by decide +kernel)) (fun _ _ _ _ _ => (pg_name (i := 3) sc_l_order_of.nd rfl (by first | exact Or.inl rfl | exact Or.inr rfl))) (fun _ _ _ _ _ => (pts_one (pt_cmpR (r := rEqA K) (op_eqA hr.units) (pe_dget (Nat.lt_of_le_of_lt (Nat.add_le_add_left (by decide) _) hr.units) (pv 0) (pv 3) (by first | rfl | trivial | exact fun _ _ => rfl)) (pv 2) (nomark _)))) (fun _ _ _ _ _ => (pv 3)))) pa_nil)) pa_nil)) pa_nil)))))
      (pss_one (ps_ret (pe_callTy (r := cTup K) call_tupA (by rfl) T.z_tuple (by decide +kernel) (pa_cons (pv 1) pa_nil)))))), ?_⟩
  walk_at "go"
  obtain ⟨L, rfl⟩ : ∃ L, L = p := ⟨p, rfl⟩
  have S : Sep (pt d (.dK (encK kv)) :: hp G :: pt L (.lst []) :: R) H := S.s3 (A := pt d (.dK (encK kv))) (B := hp G) (C := pt L (.lst [])) (by walk_at "sel")
  refine r_lcD (K := K) S rfl (by omega) (fun e => some e.2) PyData.int (fun e he od => ?_) (fun D acc G1 H le1 hacc S => ?_)
  · intro D acc Gi x H N le hx hn S kY kN
    cases dp_strInv hx
    walk_at "go"
    refine ⟨rfl, ?_⟩
    walk_at "go"
    refine r_dgetK (.inr ⟨od, S.tl.tl.hd_at⟩) (rkGet_mem nd he) ?_
    exact kY _ _ Gi H Le.rfl rfl (.int _) S
  · rw [fm_map] at hacc
    cases dpall_intsInv hacc
    walk_at "go"
    refine r_setI S (by walk_at "sq") (by rw [List.length_map]; omega) fun s c H hc S => ?_
    rw [List.length_map] at hc
    walk_at "go"
    refine r_sortSet S.hd_at (by omega) hm hmi fun Z nZ => ?_
    have S := S.new (.lst (ms.map V.int)) nZ
    have S : Sep (pt L (.lst []) :: hp G1 :: pt Z (.lst (ms.map V.int)) :: pt d (.dK (encK kv)) :: R) _ := S.s4 (A := pt L (.lst [])) (B := hp G1) (C := pt Z (.lst (ms.map V.int))) (D := pt d (.dK (encK kv))) (by walk_at "sel")
    refine r_for_list (xs := ms.map V.int) (fun i σ Ps => ∃ u2 u3 acc2 Gi, σ = [some (.ref d), some (.ref L), u2, u3] ∧ Le G1 Gi ∧ acc2.length = i ∧ DpAll K Gi acc2 ((ordL kv (ms.take i)).map dLv) ∧ Ps = pt L (.lst acc2) :: hp Gi :: pt Z (.lst (ms.map V.int)) :: pt d (.dK (encK kv)) :: R) S ⟨_, _, [], G1, rfl, Le.rfl, rfl, .nil, rfl⟩ (fun i σ Ps H hi ⟨_, _, _, _, _, _, _, _, e⟩ S => by subst e; walk_at "sq") ?_ ?_
    · rintro i x σ Ps H hi ⟨u2, u3, acc2, Gi, rfl, le2, eacc, hacc2, rfl⟩ S
      obtain ⟨k, hk, rfl⟩ := int_at hi
      have hi' := (List.getElem?_eq_some_iff.mp hk).1
      walk_at "go"
      have S : Sep (pt d (.dK (encK kv)) :: hp Gi :: pt L (.lst acc2) :: pt Z (.lst (ms.map V.int)) :: R) H := S.s4 (A := pt d (.dK (encK kv))) (B := hp Gi) (C := pt L (.lst acc2)) (D := pt Z (.lst (ms.map V.int))) (by walk_at "sel")
      refine r_lcD (K := K) S rfl (by omega) (fun e => if decide (e.2 = k) = true then some e.1 else none) PyData.str (fun e he od => ?_) (fun D2 acc3 G2 H le3 hacc3 S => ?_)
      · intro D2 acc3 Gj x H N le hx hn S kY kN
        cases dp_strInv hx
        walk_at "go"
        refine ⟨rfl, ?_⟩
        walk_at "go"
        refine r_dgetK (.inr ⟨od, S.tl.tl.hd_at⟩) (rkGet_mem nd he) ?_
        walk_at "go"
        refine q_ite (fun h => ?_) (fun h => ?_)
        · walk_at "go"
          exact kY _ _ Gj H Le.rfl (by rw [decide_eq_true h]; rfl) hx S
        · exact kN (by rw [decide_eq_false h]; rfl) H S
      · rw [fm_str (kv := kv)] at hacc3
        walk_at "go"
        obtain ⟨G3, le4, hd, S⟩ := hp_lst S hacc3
        refine r_sortS (hp_le S) hd fun p np => ?_
        generalize hsl : sortS ((kv.filter fun e => decide (e.2 = k)).map Prod.fst) = sl
        have S := S.new (.lst (sl.map V.str)) np
        walk_at "go"
        refine r_tupOf S (by walk_at "sq") fun t H S => ?_
        have S2 : Sep (pt t (.tup (sl.map V.str)) :: hp G3 :: pt L (.lst acc2) :: pt Z (.lst (ms.map V.int)) :: pt d (.dK (encK kv)) :: R) H := S.s5 (A := pt t (.tup (sl.map V.str))) (B := hp G3) (C := pt L (.lst acc2)) (D := pt Z (.lst (ms.map V.int))) (E := pt d (.dK (encK kv))) (by walk_at "sel")
        obtain ⟨G4, le5, hd4, S⟩ := hp_tup (K := K) S2 (dpall_strs _)
        walk_at "go"
        refine ⟨_, ⟨_, _, _, G4, rfl, ((le2.tr le3).tr le4).tr le5, ?_, ?_, rfl⟩, S.s4 (A := pt L (.lst (acc2 ++ [.ref t]))) (B := hp G4) (C := pt Z (.lst (ms.map V.int))) (D := pt d (.dK (encK kv))) (by walk_at "sel")⟩
        · rw [List.length_append, eacc]
          rfl
        · have e : ordL kv (ms.take (i + 1)) = ordL kv (ms.take i) ++ [sl] := by
            unfold ordL
            rw [List.take_add_one, hk, List.map_append, ← hsl]
            rfl
          rw [e, List.map_append]
          exact dpall_snoc (DpAll.le ((le3.tr le4).tr le5) _ _ hacc2) hd4
    · rintro σ Ps H ⟨u2, u3, acc2, Gi, rfl, le2, eacc, hacc2, rfl⟩ S
      rw [List.length_map, List.take_length] at hacc2
      walk_at "go"
      refine r_tupOf S (by walk_at "sq") fun t H S => ?_
      have S2 : Sep (pt t (.tup acc2) :: hp Gi :: R) H := S.s2 (by walk_at "sel")
      obtain ⟨G4, le5, hd4, S⟩ := hp_tup S2 hacc2
      exact q t G4 H ((le1.tr le2).tr le5) hd4 S
theorem sc_l_sign_of : FnScope N_l_sign_of ["_law_at_here", "_law_one", "_law_other"] (defScope s_l_sign_of) := ⟨rfl, rfl, rfl, by decide +kernel, rfl, by decide +kernel, by decide +kernel⟩
def sgI : Option Int → Option Int → Option Int
  | some i, some j => some (if i = j then 0 else if i < j then -1 else 1)
  | _, _ => none
def spSign (K : PySem.W.Frag) : Sp := fun vs H Q _ => ∃ (d : Addr) (kv : Rk) (p p2 : Str) (R : List SP), vs = [.ref d, .str p, .str p2] ∧ Sep (pt d (.dK (encK kv)) :: R) H ∧ ∀ H', Sep (pt d (.dK (encK kv)) :: R) H' → Q (vOptI (sgI (rkGet kv p) (rkGet kv p2))) H'
theorem ok_l_sign_of {f : Addr} (F : Dt K mg "_law_sign_of" s_l_sign_of ["_law_at_here", "_law_one", "_law_other"] f) (T : Tx K mg f_PASSED f_COMMON) : Df P w K mg base 1 "_law_sign_of" f ["_law_at_here", "_law_one", "_law_other"] (spSign K) := by
  refine F.ok sc_l_sign_of (fun vs H Q E h => ?_) (fun cdv A outer s H vs Q E hr h => ?_)
  · obtain ⟨d, kv, p, p2, R, rfl, _⟩ := h
    rfl
  obtain ⟨d, kv, p, p2, R, rfl, S, q⟩ := h
  refine ⟨_, (pss_cons (ps_if (PW.pt (pw_or (pt_cmp (pc_dnotin (Nat.lt_of_le_of_lt (Nat.add_le_add_left (by decide) _) hr.units) (pv 1) (pv 0))) (pw_or1 (pt_cmp (pc_dnotin (Nat.lt_of_le_of_lt (Nat.add_le_add_left (by decide) _) hr.units) (pv 2) (pv 0)))))) (pss_one (ps_ret pe_non)) pss_nil)
      (pss_cons (ps_set (i := 3) sc_l_sign_of.nd rfl (by first | exact Or.inl rfl | exact Or.inr rfl) (pe_callTy (r := cInt) call_int1 (by rfl) T.z_int (by decide +kernel) (pa_cons (pe_cmpR (r := rGtI) op_gt (pe_dget (Nat.lt_of_le_of_lt (Nat.add_le_add_left (by decide) _) hr.units) (pv 0) (pv 1) (by first | rfl | trivial | exact fun _ _ => rfl)) (pe_dget (Nat.lt_of_le_of_lt (Nat.add_le_add_left (by decide) _) hr.units) (pv 0) (pv 2) (by first | rfl | trivial | exact fun _ _ => rfl)) (nomark _)) pa_nil)))
      (pss_one (ps_ret (pe_op (r := rSubI) op_sub (pv 3) (pe_callTy (r := cInt) call_int1 (by rfl) T.z_int (by decide +kernel) (pa_cons (pe_cmpR (r := rLtI) op_lt (pe_dget (Nat.lt_of_le_of_lt (Nat.add_le_add_left (by decide) _) hr.units) (pv 0) (pv 1) (by first | rfl | trivial | exact fun _ _ => rfl)) (pe_dget (Nat.lt_of_le_of_lt (Nat.add_le_add_left (by decide) _) hr.units) (pv 0) (pv 2) (by first | rfl | trivial | exact fun _ _ => rfl)) (nomark _)) pa_nil))))))), ?_⟩
  walk_at "go"
  refine r_dnotinK (.inl S.hd_at) ?_
  walk_at "go"
  cases e1 : rkGet kv p with
  | none =>
    rw [e1] at q
    refine iteT ?_
    walk_at "go"
    exact q H S
  | some i =>
    rw [e1] at q
    refine iteF ?_
    walk_at "go"
    refine r_dnotinK (.inl S.hd_at) ?_
    walk_at "go"
    cases e2 : rkGet kv p2 with
    | none =>
      rw [e2] at q
      refine iteT ?_
      walk_at "go"
      exact q H S
    | some j =>
      rw [e2] at q
      refine iteF ?_
      walk_at "go"
      refine r_dgetK (.inl S.hd_at) e1 ?_
      walk_at "go"
      refine r_dgetK (.inl S.hd_at) e2 ?_
      walk_at "go"
      refine r_dgetK (.inl S.hd_at) e1 ?_
      walk_at "go"
      refine r_dgetK (.inl S.hd_at) e2 ?_
      walk_at "go"
      have := q H S
      have e : (if decide (i > j) = true then (1 : Int) else 0) - (if decide (i < j) = true then 1 else 0) = if i = j then 0 else if i < j then -1 else 1 := by
        by_cases h1 : i = j
        · subst h1; simp
        · by_cases h2 : i < j
          · simp [h1, h2]; omega
          · simp [h1, h2]; omega
      rw [e]
      exact this
end
end Pf

set_option Elab.async false
set_option linter.all false
set_option maxRecDepth 100000
set_option maxHeartbeats 8000000
namespace Pf
open PySem L2 Kt
set_option hygiene false
local macro_rules | `(tactic| walk_at "mem") => `(tactic| (with_reducible (repeat (first | exact Pick.hd | apply Pick.tl)); done))
local macro_rules | `(tactic| walk_at "rep") => `(tactic| (with_reducible (repeat (first | exact Repl.hd | apply Repl.tl)); done))
local macro_rules | `(tactic| walk_at "sel") => `(tactic| ((repeat (with_reducible apply Sel.cons; (focus walk_at "mem"))); (with_reducible apply Sel.nil); (with_reducible (repeat (first | exact Dr.all | apply Dr.skip)); done)))
local macro_rules | `(tactic| walk_at "at") => `(tactic| (refine' Sep.at_ (by assumption) ?kkpk; (case kkpk => walk_at "mem")))
local macro_rules | `(tactic| walk_at "sq") => `(tactic| first | assumption | (refine' Sep.sq (by assumption) ?kkpk; (case kkpk => walk_at "mem")))
local macro_rules | `(tactic| walk_at "st") => `(tactic| first | assumption | (refine' Sep.st (by assumption) ?kkpk; (case kkpk => walk_at "mem")))
local macro_rules | `(tactic| walk_at "lk") => `(tactic| (repeat (first | (with_reducible exact lk_eq) | exact rfl | refine (lk_ne (by decide +kernel)).trans ?_)))
local macro_rules | `(tactic| walk_at "pf") => `(tactic| (repeat (first | (with_reducible exact pf_nil) | (with_reducible exact pf_eq) | (apply pf_ne; (focus decide +kernel)))))
local macro_rules | `(tactic| walk_at "ty") => `(tactic| first | exact ty_int | (refine' ty_lst ?kkh; (case kkh => walk_at "at")))
local macro_rules | `(tactic| walk_at "k1") => `(tactic| with_reducible first
  | refine q_seq ?_ | refine q_set ?_ | refine q_asg ?_ | refine q_ret ?_ | refine q_drop ?_ | refine q_next ?_ | refine q_c ?_ | refine q_op ?_ | refine q_un ?_ | refine q_nil ?_ | refine q_cons ?_ | refine q_cb ?_
  | refine q_call ?_ | refine q_ifs ?_ | refine q_if ?_ | refine q_test ?_ | refine q_tb ?_ | refine q_bl ?_ | refine q_notT ?_ | refine q_andT ?_ | refine q_orT ?_ | refine q_andV ?_ | refine q_orV ?_ | refine q_notV ?_
  | refine q_addA ?_ | refine q_subI ?_ | refine q_ltI ?_ | refine q_leI ?_ | refine q_gtI ?_ | refine q_geI ?_ | refine q_eqI ?_ | refine q_neI ?_ | refine q_abs ?_ | refine q_int ?_ | refine q_intB ?_ | refine q_max ?_ | refine q_min ?_
  | refine q_ipAdd ?_ | refine q_ipSub ?_ | refine q_gsub ?_ | refine q_augs ?_ | refine q_lst ?_ | refine q_tup ?_ | refine q_blI ?_ | refine iteT ?_ | refine iteF ?_ | refine iteNT ?_ | refine iteNF ?_
  | refine r_prop ?_ | refine r_fld ?_ | refine r_sfld ?_ | refine r_meth ?_ | refine r_make ?_ | refine r_sl ?_ | refine r_nopart ?_ | refine r_part ?_ | refine r_parti ?_ | refine r_gsl ?_ | refine r_bm ?_ | refine r_bm0 ?_ | refine r_for ?_ | refine r_ilist ?_ | refine r_irng ?_
  | refine r_gname ?_ | refine r_gcons ?_ | refine r_gnil ?_ | refine r_par ?_ | refine r_parA ?_ | refine r_chain ?_ | refine r_isN ?_ | refine r_tlc ?_ | refine r_yes ?_ | refine r_makek ?_ | refine r_neg ?_)
local macro_rules | `(tactic| walk_at "k2") => `(tactic| first
  | ((with_reducible refine' q_var ?kke ?_); (case kke => rfl))
  | ((with_reducible refine' q_aug ?kke ?_); (case kke => rfl))
  | ((with_reducible refine' q_ixL ?kks ?kke ?_); (case kks => walk_at "sq"); (case kke => first | rfl | assumption))
  | ((with_reducible refine' q_ixT ?kks ?kke ?_); (case kks => walk_at "st"); (case kke => first | rfl | assumption))
  | ((with_reducible refine' q_ixLL ?kks ?kke ?_); (case kks => walk_at "sq"); (case kke => first | rfl | assumption))
  | ((with_reducible refine' q_lenL ?kks ?_); (case kks => walk_at "sq"))
  | ((with_reducible refine' q_mulI ?kkc ?_); (case kkc => first | exact .inl (by omega) | exact .inr (by omega)))
  | ((with_reducible refine' q_modI ?kkc ?_); (case kkc => omega))
  | ((with_reducible refine' q_divI ?kkc ?_); (case kkc => exact ⟨by omega, by omega⟩))
  | ((with_reducible refine' q_powI ?kkc ?_); (case kkc => exact ⟨by decide, by decide, by decide⟩))
  | ((with_reducible refine' r_kfld ?kkS ?kkp ?kkc ?kkn ?kkl ?_); (case kkS => assumption); (case kkp => walk_at "mem"); (case kkc => walk_at "cls"); (case kkn => walk_at "na"); (case kkl => walk_at "lk"))
  | ((with_reducible refine' r_kprop ?kkS ?kkp ?_); (case kkS => assumption); (case kkp => walk_at "mem"))
  | ((with_reducible refine' r_kmeth ?kkS ?kkp ?kkl ?_); (case kkS => assumption); (case kkp => walk_at "mem"); (case kkl => walk_at "lk"))
  | ((with_reducible refine' r_calll ?kks ?_); (case kks => rfl))
  | ((with_reducible refine' r_tyl ?kks ?_); (case kks => walk_at "sq"))
  | ((with_reducible refine' r_isi (k := true) ?kkt ?kke ?_); (case kkt => walk_at "ty"); (case kke => decide +kernel))
  | ((with_reducible refine' r_isi (k := false) ?kkt ?kke ?_); (case kkt => walk_at "ty"); (case kke => decide +kernel)))
local macro_rules | `(tactic| walk_at "k3") => `(tactic| first
  | ((with_reducible refine' q_setS ?kkS ?kkr ?kke ?_); (case kkS => assumption); (case kkr => walk_at "rep"); (case kke => rfl); intro H S)
  | ((with_reducible refine' r_kset ?kkS ?kkr ?kkc ?kkn ?kkl ?kke ?_); (case kkS => assumption); (case kkr => walk_at "rep"); (case kkc => walk_at "cls"); (case kkn => walk_at "na"); (case kkl => first | exact Nat.le_of_ble_eq_true rfl | assumption | omega | (simp; done) | (simp; omega)); (case kke => walk_at "pf"); intro H S)
  | ((with_reducible refine' q_new ?kkS ?kkl ?_); (case kkS => assumption); (case kkl => first | exact Nat.le_of_ble_eq_true rfl | assumption | omega | (simp; done) | (simp; omega)); intro p H S)
  | ((with_reducible refine' q_newT ?kkS ?kkl ?_); (case kkS => assumption); (case kkl => first | exact Nat.le_of_ble_eq_true rfl | assumption | omega | (simp; done) | (simp; omega)); intro p H S)
  | ((with_reducible refine' r_knew ?kkS ?_); (case kkS => assumption); intro x dx H S)
  | ((with_reducible refine' r_knewk ?kkS ?kkl1 ?kkl2 ?_); (case kkS => assumption); (case kkl1 => rfl); (case kkl2 => rfl); intro x dx H S)
  | ((with_reducible refine' r_ksl ?kkS ?kks ?_); (case kkS => assumption); (case kks => walk_at "sq"); intro p H S)
  | ((with_reducible refine' r_list ?kkS ?kks ?_); (case kkS => assumption); (case kks => walk_at "sq"); intro p H S)
  | ((with_reducible refine' r_cat ?kkS ?kks1 ?kks2 ?kkz ?_); (case kkS => assumption); (case kks1 => walk_at "at"); (case kks2 => walk_at "at"); (case kkz => first | omega | (simp; omega)); intro p H S)
  | ((with_reducible refine' r_append ?kkS ?kkr ?kkz ?_); (case kkS => assumption); (case kkr => walk_at "rep"); (case kkz => first | omega | (simp; omega)); intro H S)
  | ((with_reducible refine' r_reverse ?kkS ?kkr ?_); (case kkS => assumption); (case kkr => walk_at "rep"); intro H S)
  | ((with_reducible refine' r_clear ?kkS ?kkr ?_); (case kkS => assumption); (case kkr => walk_at "rep"); intro H S))
local macro_rules | `(tactic| walk_at "gn") => `(tactic| repeat (first | walk_at "k1" | walk_at "k2"))
local macro_rules | `(tactic| walk_at "go") => `(tactic| repeat (first | walk_at "k1" | walk_at "k2" | walk_at "k3"))

local macro_rules | `(tactic| walk_at "sq") => `(tactic| first | assumption | (refine' Sep.sq ?kkS ?kkpk; (case kkS => assumption); (case kkpk => walk_at "mem")) | (refine' hp_sqL ?kkS ?kkx; (case kkS => assumption); (case kkx => assumption)) | (refine' hp_sqL (Sep.tl ?kkS) ?kkx; (case kkS => assumption); (case kkx => assumption)) | (refine' hp_sqL (Sep.tl (Sep.tl ?kkS)) ?kkx; (case kkS => assumption); (case kkx => assumption)))
local macro_rules | `(tactic| walk_at "st") => `(tactic| first | assumption | (refine' Sep.st ?kkS ?kkpk; (case kkS => assumption); (case kkpk => walk_at "mem")) | (refine' hp_sqT ?kkS ?kkx; (case kkS => assumption); (case kkx => assumption)) | (refine' hp_sqT (Sep.tl ?kkS) ?kkx; (case kkS => assumption); (case kkx => assumption)) | (refine' hp_sqT (Sep.tl (Sep.tl ?kkS)) ?kkx; (case kkS => assumption); (case kkx => assumption)))
local macro_rules | `(tactic| walk_at "k1") => `(tactic| with_reducible first | refine r_ienumT ?_ | refine r_tru ?_ | refine r_itup ?_ | refine r_star ?_ | refine r_par3 ?_ | refine r_parA3 ?_ | refine r_dget ?_ | refine r_din ?_ | refine r_dnotin ?_ | refine r_dput ?_)

/-! ### the orders that are drawn -/
def names7 : List Str := ["a", "b", "c", "d", "+0", "+1", "ab"]
def signs3 : List Str := ["!", "=", "^"]
structure OrdOk (o : Od) : Prop where
  nd : o.flatten.Nodup
  fl : o.flatten.length ≤ 10
  ne : ∀ l ∈ o, l ≠ []
  asc : ∀ l ∈ o, Asc l
  sub : ∀ x ∈ o.flatten, x ∈ names7 ∨ x ∈ signs3
theorem flat_len : ∀ {o : Od}, (∀ l ∈ o, l ≠ []) → o.length ≤ o.flatten.length
  | [], _ => Nat.le_refl _
  | l :: o, h => by
    have := flat_len (o := o) fun x m => h x (List.mem_cons_of_mem _ m)
    have h1 := List.length_pos_iff.mpr (h l List.mem_cons_self)
    rw [List.flatten_cons, List.length_append, List.length_cons]
    omega
theorem lv_len : ∀ {o : Od} {l : Lv}, l ∈ o → l.length ≤ o.flatten.length
  | x :: o, l, h => by
    rw [List.flatten_cons, List.length_append]
    rcases List.mem_cons.mp h with rfl | m
    · omega
    · have := lv_len m; omega
theorem OrdOk.ln {o : Od} (h : OrdOk o) : o.length ≤ 10 := Nat.le_trans (flat_len h.ne) h.fl
theorem OrdOk.lv {o : Od} (h : OrdOk o) {l : Lv} (m : l ∈ o) : l.length ≤ 10 := Nat.le_trans (lv_len m) h.fl
theorem OrdOk.sm {o : Od} (h : OrdOk o) : SmO o := ⟨by have := h.ln; omega, h.nd, by have := h.fl; omega⟩
theorem OrdOk.wf {o : Od} (h : OrdOk o) : WfO o := ⟨by have := h.ln; omega, fun l m => by have := h.lv m; omega⟩
theorem nms_ok {x : Str} (h : x ∈ names7 ∨ x ∈ signs3) : PyData.strOk x = true := by
  have key : ∀ y ∈ names7 ++ signs3, PyData.strOk y = true := by decide +kernel
  exact key x (List.mem_append.mpr h)
theorem OrdOk.nms {o : Od} (h : OrdOk o) : Nms o.flatten := fun x m => nms_ok (h.sub x m)
structure OrdsOk (os : List Od) : Prop where
  ln : os.length ≤ 4
  each : ∀ o ∈ os, OrdOk o
  apart : ∀ p, p ∉ signs3 → Apart p os
structure OrInv (os : List Od) (rn : List Str) : Prop where
  each : ∀ o ∈ os, OrdOk o
  nd : rn.Nodup
  sub : ∀ x ∈ rn, x ∈ names7
  ln : rn.length ≤ 7
  dis : ∀ o ∈ os, ∀ p ∈ o.flatten, p ∉ signs3 → p ∉ rn
  apart : ∀ p, p ∉ signs3 → Apart p os
theorem asO_flat : ∀ lv : List (List Str), (asO lv).flatten.Perm lv.flatten
  | [] => .refl _
  | l :: lv => by
    have ih := asO_flat lv
    unfold asO at ih ⊢
    rw [List.filter_cons]
    cases l with
    | nil =>
      show (((lv.filter _).map sortS).flatten).Perm _
      exact ih
    | cons x l =>
      show ((sortS (x :: l) :: (lv.filter fun l => !l.isEmpty).map sortS).flatten).Perm _
      rw [List.flatten_cons, List.flatten_cons]
      exact (sort_perm _).append ih
theorem asO_ne {lv : List (List Str)} : ∀ l ∈ asO lv, l ≠ [] := fun l m e => by
  obtain ⟨y, hy, rfl⟩ := List.mem_map.mp m
  have := (List.mem_filter.mp hy).2
  have h2 := (sort_perm y).length_eq
  rw [e] at h2
  cases y with
  | nil => cases this
  | cons a y => cases h2
theorem asO_asc {lv : List (List Str)} : ∀ l ∈ asO lv, Asc l := fun l m => by
  obtain ⟨y, hy, rfl⟩ := List.mem_map.mp m
  exact asc_sort y
theorem dis73 : ∀ x ∈ names7, x ∉ signs3 := by decide
theorem nd3 : signs3.Nodup := by decide
theorem OrInv.add {os : List Od} {rn zs : List Str} {o : Od} {k : Nat} (h : OrInv os rn) (hz : zs.Sublist signs3) (hp : o.flatten.Perm (rn.take k ++ zs)) (ne : ∀ l ∈ o, l ≠ []) (asc : ∀ l ∈ o, Asc l) : OrInv (os ++ [o]) (rn.drop k) := by
  have hrn : rn.take k ++ rn.drop k = rn := List.take_append_drop ..
  have nd := h.nd
  rw [← hrn, List.nodup_append] at nd
  have memo : ∀ p, p ∈ o.flatten → p ∈ rn.take k ∨ p ∈ zs := fun p m => List.mem_append.mp (hp.mem_iff.mp m)
  have memo2 : ∀ p, p ∈ o.flatten → p ∉ signs3 → p ∈ rn.take k := fun p m n => (memo p m).resolve_right fun z => n (hz.subset z)
  have ok : OrdOk o := by
    refine ⟨hp.nodup_iff.mpr (List.nodup_append.mpr ⟨nd.1, hz.nodup nd3, fun x hx y hy e => ?_⟩), ?_, ne, asc, fun x m => ?_⟩
    · subst e
      exact dis73 x (h.sub x (List.mem_of_mem_take hx)) (hz.subset hy)
    · rw [hp.length_eq, List.length_append, List.length_take]
      have h1 := hz.length_le
      have h2 := h.ln
      have h3 : signs3.length = 3 := rfl
      omega
    · exact (memo x m).imp (fun z => h.sub x (List.mem_of_mem_take z)) fun z => hz.subset z
  refine ⟨fun x m => ?_, nd.2.1, fun x m => h.sub x (List.mem_of_mem_drop m), by rw [List.length_drop]; have := h.ln; omega, fun x m p mp np => ?_, fun p np => ?_⟩
  · rcases List.mem_append.mp m with m | m
    · exact h.each x m
    · rw [List.mem_singleton] at m; subst m; exact ok
  · rcases List.mem_append.mp m with m | m
    · exact fun z => h.dis x m p mp np (List.mem_of_mem_drop z)
    · rw [List.mem_singleton] at m; subst m
      exact fun z => nd.2.2 p (memo2 p mp np) p z rfl
  · unfold Kt.Apart
    rw [List.pairwise_append]
    refine ⟨h.apart p np, List.pairwise_singleton .., fun a ma b mb ⟨h1, h2⟩ => ?_⟩
    rw [List.mem_singleton] at mb; subst mb
    exact h.dis a ma p h1 np (List.mem_of_mem_take (memo2 p h2 np))
section
variable {P : Program} {w : World} {K : PySem.W.Frag} {mg : Str → Option Value} {base : Heap} {f_PASSED f_COMMON : Addr}
theorem sc_l_orders : FnScope N_l_orders ["_law_bag_here"] (defScope s_l_orders) := ⟨rfl, rfl, rfl, by decide +kernel, rfl, by decide +kernel, by decide +kernel⟩
def spOrders (K : PySem.W.Frag) : Sp := fun vs H Q _ => ∃ (b : Addr) (G : Hp) (R : List SP), vs = [.ref b] ∧ Sep (hp G :: bag b :: R) H ∧
  ∀ t os G' H', OrdsOk os → Le G G' → Dp K G' (.ref t) (dOds os) → Sep (hp G' :: bag b :: R) H' → Q (.ref t) H'
theorem ok_l_orders {f f1 f2 f3 f4 : Addr} (F : Dt K mg "_law_orders" s_l_orders ["_law_bag_here"] f) (T : Tx K mg f_PASSED f_COMMON) (D_l_take : Df P w K mg base 1 "_law_take" f1 ["_law_bag_here", "_law_many"] spTake) (D_l_mixed : Df P w K mg base 2 "_law_mixed" f2 ["_law_bag_here", "_law_things"] (spMixed K))
    (D_l_drawn_order : Df P w K mg base 3 "_law_drawn_order" f3 ["_law_bag_here", "_law_points"] (spDrawn K)) (D_l_as_order : Df P w K mg base 1 "_law_as_order" f4 ["_law_levels"] (spAsOrder K)) : Df P w K mg base 4 "_law_orders" f ["_law_bag_here"] (spOrders K) := by
  refine F.ok sc_l_orders (fun vs H Q E h => ?_) (fun cdv A outer s H vs Q E hr h => ?_)
  · obtain ⟨b, G, R, rfl, _⟩ := h
    rfl
  obtain ⟨b, G, R, rfl, S, q⟩ := h
  refine ⟨_, (pss_cons (ps_par3 (i := 1) (j := 2) (l := 3) rfl sc_l_orders.nd rfl rfl rfl (by decide) (by decide) (by decide) rfl rfl rfl (pa_cons (pe_df D_l_mixed (hr.mono (by decide)) (pa_cons (pv 0) (pa_cons (pe_lst (pa_cons pe_str (pa_cons pe_str (pa_cons pe_str (pa_cons pe_str (pa_cons pe_str (pa_cons pe_str (pa_cons pe_str pa_nil)))))))) pa_nil))) (pa_cons (pe_lst pa_nil) (pa_cons (pe_lst (pa_cons pe_str (pa_cons pe_str (pa_cons pe_str pa_nil)))) pa_nil))) rfl)
      (pss_cons (ps_while PassesOwn.never (PW.pt (pw_and (pt_cmpR (r := rNeA K) (op_neA hr.units) (pv 1) (pe_lst pa_nil) (nomark _)) (pw_and1 (pt_cmpR (r := rLtI) op_lt (pe_callB (r := cOr (cLenQ K) cLenS) call_lenA (by rfl) T.z_len (by decide +kernel) (pa_cons (pv 2) pa_nil)) pe_int (nomark _))))) (pss_cons (ps_set (i := 4) sc_l_orders.nd rfl (by first | exact Or.inl rfl | exact Or.inr rfl) (pe_df D_l_take (hr.mono (by decide)) (pa_cons (pv 0) (pa_cons pe_int pa_nil))))
      (pss_cons (ps_set (i := 5) sc_l_orders.nd rfl (by first | exact Or.inl rfl | exact Or.inr rfl) (pe_op (r := rAddA) op_addA (pe_slice (r := rSlL K) sl_list (pv 1) po_none (po_some (pv 4))) (pe_lc (own := [("_law_sign", 6)]) rfl sc_l_orders.nd (pi_listK K (pv 3)) (blkOk_by (own := [("_law_sign", 6)]) (N := N_l_orders) (sc := defScope s_l_orders) (by decide +kernel)) (fun _ _ _ _ _ => (pg_name (i := 6) sc_l_orders.nd rfl (by first | exact Or.inl rfl | exact Or.inr rfl))) (fun _ _ _ _ _ => (pts_one (pt_cmpR (r := rEqA K) (op_eqA hr.units) (pe_df D_l_take (hr.mono (by decide)) (pa_cons (pv 0) (pa_cons pe_int pa_nil))) pe_int (nomark _)))) (fun _ _ _ _ _ => (pv 6)))))
      (pss_cons (ps_set (i := 1) sc_l_orders.nd rfl (by first | exact Or.inl rfl | exact Or.inr rfl) (pe_slice (r := rSlL K) sl_list (pv 1) (po_some (pv 4)) po_none))
      (pss_one (ps_expr (pe_bmK K PySem.F.plainAttrs_list PySem.F.slot_list_append PySem.F.type_list_append mt_append (pv 2) (pa_cons (pe_df D_l_as_order (hr.mono (by decide)) (pa_cons (pe_df D_l_drawn_order (hr.mono (by decide)) (pa_cons (pv 0) (pa_cons (pv 5) pa_nil))) pa_nil)) pa_nil))))))))
      (pss_one (ps_ret (pv 2))))), ?_⟩
  walk_at "go"
  have S : Sep (pt p (.lst (names7.map V.str)) :: hp G :: bag b :: R) H := S
  obtain ⟨G1, le1, hd1, S⟩ := hp_lst (K := K) S (dpall_strs names7)
  refine ⟨b, p, names7, G1, _, rfl, by decide, hd1, S, fun nm rn0 G2 H hm le2 hd2 S => ?_⟩
  walk_at "go"
  rename_i F _ _
  obtain ⟨Sg, rfl⟩ : ∃ Sg, Sg = p := ⟨p, rfl⟩
  have S : Sep (pt Sg (.lst (signs3.map V.str)) :: pt F (.lst []) :: hp G2 :: bag b :: R) H := S
  have S : Sep (pt F (.lst []) :: hp G2 :: pt Sg (.lst (signs3.map V.str)) :: bag b :: R) H := S.s4 (A := pt F (.lst [])) (B := hp G2) (C := pt Sg (.lst (signs3.map V.str))) (D := bag b) (by walk_at "sel")
  refine r_while (fun m σ Ps => ∃ nm rn acc os Gi u4 u5 u6, σ = [some (.ref b), some (.ref nm), some (.ref F), some (.ref Sg), u4, u5, u6] ∧ m = 4 - os.length ∧ acc.length = os.length ∧ os.length ≤ 4 ∧ OrInv os rn ∧ Le G Gi ∧ LD K Gi nm (rn.map PyData.str) ∧ DpAll K Gi acc (os.map dOd) ∧ Ps = pt F (.lst acc) :: hp Gi :: pt Sg (.lst (signs3.map V.str)) :: bag b :: R) 4 S ⟨nm, rn0, [], [], G2, _, _, _, rfl, rfl, rfl, Nat.zero_le _, ⟨nofun, hm.nodup_iff.mpr (by decide), fun x m => hm.mem_iff.mp m, by rw [hm.length_eq]; decide, nofun, fun _ _ => .nil⟩, le1.tr le2, hd2, .nil, rfl⟩ ?_
  clear S hd2 le2 hm
  rintro m σ Ps H ⟨nm, rn, acc, os, Gi, u4, u5, u6, rfl, rfl, hac, hos, inv, le3, hdn, hda, rfl⟩ S
  walk_at "go"
  refine r_ne_nilL (hp_dp (S.s1 (A := hp Gi) (by walk_at "sel")) hdn.dp) (okd_ns (l := rn) fun x m => nms_ok (.inl (inv.sub x m))) (by decide) (by walk_at "sq") ?_
  have S := S.tl
  have ret : ∀ H', Sep (pt F (.lst acc) :: hp Gi :: pt Sg (.lst (signs3.map V.str)) :: bag b :: R) H' → Q (.ref F) H' := fun H' S => by
    obtain ⟨G', le, hd, S⟩ := hp_lst S hda
    exact q F os G' H' ⟨hos, inv.each, inv.apart⟩ (le3.tr le) hd (S.s2 (A := hp G') (B := bag b) (by walk_at "sel"))
  walk_at "go"
  cases rn with
  | nil =>
    refine iteF ?_
    walk_at "go"
    exact ret H S
  | cons z0 rn0 =>
  refine iteT ?_
  generalize hrn : z0 :: rn0 = rn at inv hdn
  walk_at "go"
  rw [hac]
  refine q_ite (fun hlt => ?_) (fun hlt => ?_)
  rotate_left
  · walk_at "go"
    exact ret H S
  clear ret
  refine wh_go ?_
  walk_at "go"
  refine ⟨b, 4, _, rfl, by decide, by decide, S.s1 (A := bag b) (by walk_at "sel"), fun v H hv0 hv1 S => ?_⟩
  obtain ⟨k, rfl⟩ := Int.eq_ofNat_of_zero_le hv0
  walk_at "go"
  refine r_pre (n := k) (S.s4 (A := hp Gi) (B := pt F (.lst acc)) (C := pt Sg (.lst (signs3.map V.str))) (D := bag b) (by walk_at "sel")) hdn.dp fun p1 G3 H le4 hd3 S => ?_
  walk_at "go"
  refine r_lc_list (xs := signs3.map V.str) (fun i acc2 Ps => ∃ zs : List Str, acc2 = zs.map V.str ∧ zs.Sublist (signs3.take i) ∧ Ps = hp G3 :: pt F (.lst acc) :: pt Sg (.lst (signs3.map V.str)) :: bag b :: R) S ⟨[], rfl, List.nil_sublist _, rfl⟩ (fun D i acc Ps H hi ⟨_, _, _, e⟩ S => by subst e; walk_at "sq") (by walk_at "sq") ?_ ?_
  · rintro D i x acc2 Ps H hi ⟨zs, rfl, hz, rfl⟩ S
    obtain ⟨z, hz', rfl⟩ := str_at hi
    walk_at "go"
    refine ⟨rfl, ?_⟩
    walk_at "go"
    refine ⟨b, 2, _, rfl, by decide, by decide, S.s1 (A := bag b) (by walk_at "sel"), fun v H hv0 hv1 S => ?_⟩
    have S : Sep (pt D (.lst (zs.map V.str)) :: hp G3 :: pt F (.lst acc) :: pt Sg (.lst (signs3.map V.str)) :: bag b :: R) H := S.s5 (A := pt D (.lst (zs.map V.str))) (B := hp G3) (C := pt F (.lst acc)) (D := pt Sg (.lst (signs3.map V.str))) (E := bag b) (by walk_at "sel")
    have hz2 := List.take_add_one (l := signs3) (i := i)
    rw [hz'] at hz2
    walk_at "go"
    refine q_ite (fun _ => ?_) (fun _ => ?_)
    · walk_at "go"
      refine cn_in S (by rw [List.length_map]; have := hz.length_le; rw [List.length_take] at this; have : signs3.length = 3 := rfl; omega) ⟨zs ++ [z], by simp, ?_, rfl⟩
      rw [hz2]
      exact hz.append (List.Sublist.refl _)
    · refine cn_out S ⟨zs, rfl, ?_, rfl⟩
      rw [hz2]
      exact hz.trans (List.sublist_append_left ..)
  · rintro D acc2 Ps H ⟨zs, rfl, hz, rfl⟩ S
    rw [List.length_map, List.take_length] at hz
    obtain ⟨G4, le5, hd4, S⟩ := hp_LD (K := K) S (dpall_strs zs)
    refine r_catD S (hd3.le le5) hd4 (by have := hz.length_le; have := inv.ln; simp; have : signs3.length = 3 := rfl; omega) fun pp G5 H le6 hd5 S => ?_
    rw [← List.map_take, ← List.map_append] at hd5
    walk_at "go"
    have hdn5 := hdn.le ((le4.tr le5).tr le6)
    refine r_suf (n := k) S hdn5.dp fun nm2 G6 H le7 hd6 S => ?_
    rw [← List.map_drop] at hd6
    walk_at "go"
    refine ⟨b, pp, rn.take k ++ zs, G6, _, rfl, by rw [List.length_append, List.length_take]; have := hz.length_le; have := inv.ln; have : signs3.length = 3 := rfl; omega, (hd5.le le7).dp, S.s2 (A := hp G6) (B := bag b) (by walk_at "sel"), fun t1 lv G7 H hpm hne le8 hd7 S => ?_⟩
    walk_at "go"
    have hpts : ∀ x ∈ rn.take k ++ zs, x ∈ names7 ∨ x ∈ signs3 := fun x m => (List.mem_append.mp m).imp (fun z => inv.sub x (List.mem_of_mem_take z)) fun z => hz.subset z
    have hll : lv.length ≤ 100 := by
      have h1 := flat_len hne
      rw [hpm.length_eq, List.length_append, List.length_take] at h1
      have := hz.length_le
      have := inv.ln
      have : signs3.length = 3 := rfl
      omega
    refine ⟨t1, lv, G7, _, rfl, hll, fun l m x mx => nms_ok (hpts x (hpm.mem_iff.mp (List.mem_flatten.mpr ⟨l, m, mx⟩))), hd7.dp, S, fun t2 G8 H le9 hd8 S => ?_⟩
    have S : Sep (pt F (.lst acc) :: hp G8 :: pt Sg (.lst (signs3.map V.str)) :: bag b :: R) H := S.s4 (A := pt F (.lst acc)) (B := hp G8) (C := pt Sg (.lst (signs3.map V.str))) (D := bag b) (by walk_at "sel")
    walk_at "go"
    refine wh_in (m' := 4 - (os ++ [asO lv]).length) (by rw [List.length_append, List.length_singleton]; omega) S ⟨nm2, rn.drop k, acc ++ [.ref t2], os ++ [asO lv], G8, _, _, _, rfl, rfl, by rw [List.length_append, List.length_append, hac]; rfl, by rw [List.length_append, List.length_singleton]; omega, inv.add hz ((asO_flat lv).trans hpm) asO_ne asO_asc, ?_, hd6.le (le8.tr le9), ?_, rfl⟩
    · exact (((((le3.tr le4).tr le5).tr le6).tr le7).tr le8).tr le9
    · rw [List.map_append]
      exact dpall_snoc (DpAll.le (((((le4.tr le5).tr le6).tr le7).tr le8).tr le9) _ _ hda) hd8
end
end Pf

set_option Elab.async false
set_option linter.all false
set_option maxRecDepth 100000
set_option maxHeartbeats 8000000
namespace Pf
open PySem L2 Kt
set_option hygiene false
local macro_rules | `(tactic| walk_at "mem") => `(tactic| (with_reducible (repeat (first | exact Pick.hd | apply Pick.tl)); done))
local macro_rules | `(tactic| walk_at "rep") => `(tactic| (with_reducible (repeat (first | exact Repl.hd | apply Repl.tl)); done))
local macro_rules | `(tactic| walk_at "sel") => `(tactic| ((repeat (with_reducible apply Sel.cons; (focus walk_at "mem"))); (with_reducible apply Sel.nil); (with_reducible (repeat (first | exact Dr.all | apply Dr.skip)); done)))
local macro_rules | `(tactic| walk_at "at") => `(tactic| (refine' Sep.at_ (by assumption) ?kkpk; (case kkpk => walk_at "mem")))
local macro_rules | `(tactic| walk_at "sq") => `(tactic| first | assumption | (refine' Sep.sq (by assumption) ?kkpk; (case kkpk => walk_at "mem")))
local macro_rules | `(tactic| walk_at "st") => `(tactic| first | assumption | (refine' Sep.st (by assumption) ?kkpk; (case kkpk => walk_at "mem")))
local macro_rules | `(tactic| walk_at "lk") => `(tactic| (repeat (first | (with_reducible exact lk_eq) | exact rfl | refine (lk_ne (by decide +kernel)).trans ?_)))
local macro_rules | `(tactic| walk_at "pf") => `(tactic| (repeat (first | (with_reducible exact pf_nil) | (with_reducible exact pf_eq) | (apply pf_ne; (focus decide +kernel)))))
local macro_rules | `(tactic| walk_at "ty") => `(tactic| first | exact ty_int | (refine' ty_lst ?kkh; (case kkh => walk_at "at")))
local macro_rules | `(tactic| walk_at "k1") => `(tactic| with_reducible first
  | refine q_seq ?_ | refine q_set ?_ | refine q_asg ?_ | refine q_ret ?_ | refine q_drop ?_ | refine q_next ?_ | refine q_c ?_ | refine q_op ?_ | refine q_un ?_ | refine q_nil ?_ | refine q_cons ?_ | refine q_cb ?_
  | refine q_call ?_ | refine q_ifs ?_ | refine q_if ?_ | refine q_test ?_ | refine q_tb ?_ | refine q_bl ?_ | refine q_notT ?_ | refine q_andT ?_ | refine q_orT ?_ | refine q_andV ?_ | refine q_orV ?_ | refine q_notV ?_
  | refine q_addA ?_ | refine q_subI ?_ | refine q_ltI ?_ | refine q_leI ?_ | refine q_gtI ?_ | refine q_geI ?_ | refine q_eqI ?_ | refine q_neI ?_ | refine q_abs ?_ | refine q_int ?_ | refine q_intB ?_ | refine q_max ?_ | refine q_min ?_
  | refine q_ipAdd ?_ | refine q_ipSub ?_ | refine q_gsub ?_ | refine q_augs ?_ | refine q_lst ?_ | refine q_tup ?_ | refine q_blI ?_ | refine iteT ?_ | refine iteF ?_ | refine iteNT ?_ | refine iteNF ?_
  | refine r_prop ?_ | refine r_fld ?_ | refine r_sfld ?_ | refine r_meth ?_ | refine r_make ?_ | refine r_sl ?_ | refine r_nopart ?_ | refine r_part ?_ | refine r_parti ?_ | refine r_gsl ?_ | refine r_bm ?_ | refine r_bm0 ?_ | refine r_for ?_ | refine r_ilist ?_ | refine r_irng ?_
  | refine r_gname ?_ | refine r_gcons ?_ | refine r_gnil ?_ | refine r_par ?_ | refine r_parA ?_ | refine r_chain ?_ | refine r_isN ?_ | refine r_tlc ?_ | refine r_yes ?_ | refine r_makek ?_ | refine r_neg ?_)
local macro_rules | `(tactic| walk_at "k2") => `(tactic| first
  | ((with_reducible refine' q_var ?kke ?_); (case kke => rfl))
  | ((with_reducible refine' q_aug ?kke ?_); (case kke => rfl))
  | ((with_reducible refine' q_ixL ?kks ?kke ?_); (case kks => walk_at "sq"); (case kke => first | rfl | assumption))
  | ((with_reducible refine' q_ixT ?kks ?kke ?_); (case kks => walk_at "st"); (case kke => first | rfl | assumption))
  | ((with_reducible refine' q_ixLL ?kks ?kke ?_); (case kks => walk_at "sq"); (case kke => first | rfl | assumption))
  | ((with_reducible refine' q_lenL ?kks ?_); (case kks => walk_at "sq"))
  | ((with_reducible refine' q_mulI ?kkc ?_); (case kkc => first | exact .inl (by omega) | exact .inr (by omega)))
  | ((with_reducible refine' q_modI ?kkc ?_); (case kkc => omega))
  | ((with_reducible refine' q_divI ?kkc ?_); (case kkc => exact ⟨by omega, by omega⟩))
  | ((with_reducible refine' q_powI ?kkc ?_); (case kkc => exact ⟨by decide, by decide, by decide⟩))
  | ((with_reducible refine' r_kfld ?kkS ?kkp ?kkc ?kkn ?kkl ?_); (case kkS => assumption); (case kkp => walk_at "mem"); (case kkc => walk_at "cls"); (case kkn => walk_at "na"); (case kkl => walk_at "lk"))
  | ((with_reducible refine' r_kprop ?kkS ?kkp ?_); (case kkS => assumption); (case kkp => walk_at "mem"))
  | ((with_reducible refine' r_kmeth ?kkS ?kkp ?kkl ?_); (case kkS => assumption); (case kkp => walk_at "mem"); (case kkl => walk_at "lk"))
  | ((with_reducible refine' r_calll ?kks ?_); (case kks => rfl))
  | ((with_reducible refine' r_tyl ?kks ?_); (case kks => walk_at "sq"))
  | ((with_reducible refine' r_isi (k := true) ?kkt ?kke ?_); (case kkt => walk_at "ty"); (case kke => decide +kernel))
  | ((with_reducible refine' r_isi (k := false) ?kkt ?kke ?_); (case kkt => walk_at "ty"); (case kke => decide +kernel)))
local macro_rules | `(tactic| walk_at "k3") => `(tactic| first
  | ((with_reducible refine' q_setS ?kkS ?kkr ?kke ?_); (case kkS => assumption); (case kkr => walk_at "rep"); (case kke => rfl); intro H S)
  | ((with_reducible refine' r_kset ?kkS ?kkr ?kkc ?kkn ?kkl ?kke ?_); (case kkS => assumption); (case kkr => walk_at "rep"); (case kkc => walk_at "cls"); (case kkn => walk_at "na"); (case kkl => first | exact Nat.le_of_ble_eq_true rfl | assumption | omega | (simp; done) | (simp; omega)); (case kke => walk_at "pf"); intro H S)
  | ((with_reducible refine' q_new ?kkS ?kkl ?_); (case kkS => assumption); (case kkl => first | exact Nat.le_of_ble_eq_true rfl | assumption | omega | (simp; done) | (simp; omega)); intro p H S)
  | ((with_reducible refine' q_newT ?kkS ?kkl ?_); (case kkS => assumption); (case kkl => first | exact Nat.le_of_ble_eq_true rfl | assumption | omega | (simp; done) | (simp; omega)); intro p H S)
  | ((with_reducible refine' r_knew ?kkS ?_); (case kkS => assumption); intro x dx H S)
  | ((with_reducible refine' r_knewk ?kkS ?kkl1 ?kkl2 ?_); (case kkS => assumption); (case kkl1 => rfl); (case kkl2 => rfl); intro x dx H S)
  | ((with_reducible refine' r_ksl ?kkS ?kks ?_); (case kkS => assumption); (case kks => walk_at "sq"); intro p H S)
  | ((with_reducible refine' r_list ?kkS ?kks ?_); (case kkS => assumption); (case kks => walk_at "sq"); intro p H S)
  | ((with_reducible refine' r_cat ?kkS ?kks1 ?kks2 ?kkz ?_); (case kkS => assumption); (case kks1 => walk_at "at"); (case kks2 => walk_at "at"); (case kkz => first | omega | (simp; omega)); intro p H S)
  | ((with_reducible refine' r_append ?kkS ?kkr ?kkz ?_); (case kkS => assumption); (case kkr => walk_at "rep"); (case kkz => first | omega | (simp; omega)); intro H S)
  | ((with_reducible refine' r_reverse ?kkS ?kkr ?_); (case kkS => assumption); (case kkr => walk_at "rep"); intro H S)
  | ((with_reducible refine' r_clear ?kkS ?kkr ?_); (case kkS => assumption); (case kkr => walk_at "rep"); intro H S))
local macro_rules | `(tactic| walk_at "gn") => `(tactic| repeat (first | walk_at "k1" | walk_at "k2"))
local macro_rules | `(tactic| walk_at "go") => `(tactic| repeat (first | walk_at "k1" | walk_at "k2" | walk_at "k3"))

local macro_rules | `(tactic| walk_at "sq") => `(tactic| first | assumption | (refine' Sep.sq ?kkS ?kkpk; (case kkS => assumption); (case kkpk => walk_at "mem")) | (refine' hp_sqL ?kkS ?kkx; (case kkS => assumption); (case kkx => assumption)) | (refine' hp_sqL (Sep.tl ?kkS) ?kkx; (case kkS => assumption); (case kkx => assumption)) | (refine' hp_sqL (Sep.tl (Sep.tl ?kkS)) ?kkx; (case kkS => assumption); (case kkx => assumption)))
local macro_rules | `(tactic| walk_at "st") => `(tactic| first | assumption | (refine' Sep.st ?kkS ?kkpk; (case kkS => assumption); (case kkpk => walk_at "mem")) | (refine' hp_sqT ?kkS ?kkx; (case kkS => assumption); (case kkx => assumption)) | (refine' hp_sqT (Sep.tl ?kkS) ?kkx; (case kkS => assumption); (case kkx => assumption)) | (refine' hp_sqT (Sep.tl (Sep.tl ?kkS)) ?kkx; (case kkS => assumption); (case kkx => assumption)))
local macro_rules | `(tactic| walk_at "k1") => `(tactic| with_reducible first | refine r_ienumT ?_ | refine r_tru ?_ | refine r_itup ?_ | refine r_star ?_ | refine r_par3 ?_ | refine r_parA3 ?_ | refine r_dget ?_ | refine r_din ?_ | refine r_dnotin ?_ | refine r_dput ?_)

section
variable {P : Program} {w : World} {K : PySem.W.Frag} {mg : Str → Option Value} {base : Heap} {f_PASSED f_COMMON : Addr}
theorem sc_l_at : FnScope N_l_at ["_law_shape", "_law_point"] (defScope s_l_at) := ⟨rfl, rfl, rfl, by decide +kernel, rfl, by decide +kernel, by decide +kernel⟩
theorem arrO_step {s : List Od} {i : Nat} {o : Od} (p : Str) (h : s[i]? = some o) : arrO (s.take (i + 1)) p = (arrO (s.take i) p).or (if (lvO o p).isSome = true then some i else none) := by
  have hi := (List.getElem?_eq_some_iff.mp h).1
  unfold arrO
  rw [List.take_add_one, h, List.findIdx?_append]
  have e : (s.take i).length = i := by rw [List.length_take]; omega
  cases (s.take i).findIdx? fun o => (lvO o p).isSome with
  | some k => simp
  | none =>
    simp only [Option.none_or, Option.toList_some, List.findIdx?_cons, List.findIdx?_nil, e]
    cases (lvO o p).isSome <;> simp
def spAt (K : PySem.W.Frag) : Sp := fun vs H Q _ => ∃ (a : Addr) (s : List Od) (p : Str) (G : Hp) (R : List SP), vs = [.ref a, .str p] ∧ s.length ≤ 100 ∧ (∀ o ∈ s, SmO o) ∧ Dp K G (.ref a) (dShp s) ∧ Sep (hp G :: R) H ∧ ∀ H', Sep (hp G :: R) H' → Q (vOpt (arrO s p)) H'
theorem ok_l_at {f f1 : Addr} (F : Dt K mg "_law_at" s_l_at ["_law_shape", "_law_point"] f) (T : Tx K mg f_PASSED f_COMMON) (D_l_ranks : Df P w K mg base 1 "_law_ranks" f1 ["_law_order"] (spRanks K)) : Df P w K mg base 2 "_law_at" f ["_law_shape", "_law_point"] (spAt K) := by
  refine F.ok sc_l_at (fun vs H Q E h => ?_) (fun cdv A outer s H vs Q E hr h => ?_)
  · obtain ⟨a, s, pn, G, R, rfl, _⟩ := h
    rfl
  obtain ⟨a, os, pn, G, R, rfl, hln, hsm, hx, S, q⟩ := h
  refine ⟨_, (pss_one (ps_ret (pe_ix (r := rIx K) ix_seq (pe_op (r := rAddA) op_addA (pe_lc (own := [("_law_at_here", 2)]) rfl sc_l_at.nd (pi_range1 rfl T.z_range (pa_cons (pe_callB (r := cOr (cLenQ K) cLenS) call_lenA (by rfl) T.z_len (by decide +kernel) (pa_cons (pv 0) pa_nil)) pa_nil)) (blkOk_by (own := [("_law_at_here", 2)]) (N := N_l_at) (sc := defScope s_l_at) (by decide +kernel)) (fun _ _ _ _ _ => (pg_name (i := 2) sc_l_at.nd rfl (by first | exact Or.inl rfl | exact Or.inr rfl))) (fun _ _ _ _ _ => (pts_one (pt_cmp (pc_din (Nat.lt_of_le_of_lt (Nat.add_le_add_left (by decide) _) hr.units) (pv 1) (pe_df D_l_ranks (hr.mono (by decide)) (pa_cons (pe_ix (r := rIx K) ix_seq (pv 0) (pv 2) (fun _ _ => rfl)) pa_nil)))))) (fun _ _ _ _ _ => (pv 2))) (pe_lst (pa_cons pe_non pa_nil))) pe_int (fun _ _ => rfl)))), ?_⟩
  obtain ⟨a', xs, e, hs, ha⟩ := dp_tupInv (ds := os.map dOd) hx
  cases e
  have hl : xs.length = os.length := by rw [dpall_len ha, List.length_map]
  walk_at "go"
  refine q_lenT (by walk_at "st") ?_
  walk_at "go"
  refine r_lc_rng (fun i acc Ps => acc.length ≤ i ∧ acc.head? = (arrO (os.take i) pn).map (fun k : Nat => V.int k) ∧ Ps = hp G :: R) S (by omega) (by omega) ⟨Nat.le_refl _, rfl, rfl⟩ ?_ ?_
  · rintro D i acc Ps H hi ⟨hac, hhd, rfl⟩ S
    have hi : i < xs.length := by omega
    obtain ⟨o, c, el, ec, hb⟩ := sh_at ha (List.getElem?_eq_getElem hi)
    have hst := arrO_step pn el
    walk_at "go"
    refine ⟨rfl, ?_⟩
    walk_at "go"
    refine q_ixT (v := .ref c) (SqT.le (hp_le S.tl) hs) (atI_nat (by rw [List.getElem?_eq_getElem hi, ec])) ?_
    walk_at "go"
    refine ⟨c, o, G, _, rfl, hsm o (List.mem_of_getElem? el), hb, S.swap, fun d H S => ?_⟩
    refine r_dinK (.inl S.hd_at) ?_
    have S : Sep (pt D (.lst acc) :: hp G :: R) H := S.s2 (A := pt D (.lst acc)) (B := hp G) (by walk_at "sel")
    rw [rkGet_0, opt_map_some]
    walk_at "go"
    refine q_iteB (fun h => ?_) (fun h => ?_)
    · walk_at "go"
      refine cn_in S (by omega) ⟨by rw [List.length_append]; simp; omega, ?_, rfl⟩
      rw [hst, h, if_pos rfl]
      cases e : arrO (os.take i) pn with
      | none =>
        rw [e] at hhd
        rw [List.head?_eq_none_iff.mp hhd]
        rfl
      | some k =>
        rw [e] at hhd
        rw [List.head?_append, hhd]
        rfl
    · refine cn_out S ⟨by omega, ?_, rfl⟩
      rw [hst, h, hhd]
      cases arrO (os.take i) pn <;> rfl
  · rintro D acc Ps H ⟨hac, hhd, rfl⟩ S
    rw [Int.toNat_natCast, hl] at hac hhd
    rw [List.take_length] at hhd
    walk_at "go"
    refine q_ixL (v := vOpt (arrO os pn)) (by walk_at "sq") ?_ (q H (S.s1 (A := hp G) (by walk_at "sel")))
    cases acc with
    | nil =>
      cases e : arrO os pn with
      | none => rfl
      | some k => rw [e] at hhd; cases hhd
    | cons x acc =>
      cases e : arrO os pn with
      | none => rw [e] at hhd; cases hhd
      | some k =>
        rw [e] at hhd
        cases hhd
        exact atI_nat (j := 0) rfl
theorem sc_l_kept : FnScope N_l_kept ["_law_order", "_law_names"] (defScope s_l_kept) := ⟨rfl, rfl, rfl, by decide +kernel, rfl, by decide +kernel, by decide +kernel⟩
def kpO (ns : List Str) (o : Od) : Od := if (onlyO (ns ++ passedS) o).isEmpty = true then [] else onlyO (ns ++ passedS ++ commonS) o
def signs5b : List Str := ["!", "+0", "+1", "=", "^"]
theorem kpO_eq (ns : List Str) (o : Od) : onlyO (ns ++ signs5b) o = onlyO (ns ++ passedS ++ commonS) o := onlyO_congr (fun x => by
  have h : signs5b.Perm (passedS ++ commonS) := by decide +kernel
  rw [List.append_assoc]
  exact (h.append_left ns).mem_iff) o
def spKeptL (K : PySem.W.Frag) : Sp := fun vs H Q _ => ∃ (a b : Addr) (o : Od) (ns : List Str) (G : Hp) (R : List SP), vs = [.ref a, .ref b] ∧ SmO o ∧ (∀ l ∈ o, Asc l) ∧ Nms o.flatten ∧ ns.length ≤ 100 ∧ Dp K G (.ref a) (dOd o) ∧ LD K G b (ns.map PyData.str) ∧ Sep (hp G :: R) H ∧
  ∀ t G' H', Le G G' → Dp K G' (.ref t) (dOd (kpO ns o)) → Sep (hp G' :: R) H' → Q (.ref t) H'
theorem rkF_nd {o : Od} (h : o.flatten.Nodup) : ((rkF 0 o).map Prod.fst).Nodup := by rw [rkF_keys]; exact h
theorem keys_filter (ps : List Str) : ∀ l : Rk, (l.filter fun e => decide (e.1 ∈ ps)).map Prod.fst = (l.map Prod.fst).filter fun x => decide (x ∈ ps)
  | [] => rfl
  | e :: l => by
    rw [List.filter_cons, List.map_cons, List.filter_cons, ← keys_filter ps l]
    by_cases h : e.1 ∈ ps <;> simp [h]
theorem ok_l_kept {f f1 f2 : Addr} (F : Dt K mg "_law_kept" s_l_kept ["_law_order", "_law_names"] f) (T : Tx K mg f_PASSED f_COMMON) (D_l_ranks : Df P w K mg base 1 "_law_ranks" f1 ["_law_order"] (spRanks K)) (D_l_order_of : Df P w K mg base 1 "_law_order_of" f2 ["_law_ranks_here"] (spOrdOf K)) : Df P w K mg base 2 "_law_kept" f ["_law_order", "_law_names"] (spKeptL K) := by
  refine F.ok sc_l_kept (fun vs H Q E h => ?_) (fun cdv A outer s H vs Q E hr h => ?_)
  · obtain ⟨a, b, o, ns, G, R, rfl, _⟩ := h
    rfl
  obtain ⟨a, b, o, ns, G, R, rfl, sm, asc, nms, hl, hx, hn, S, q⟩ := h
  refine ⟨_, (pss_cons (ps_asg (pe_tup (pa_cons (pe_df D_l_ranks (hr.mono (by decide)) (pa_cons (pv 0) pa_nil)) (pa_cons (pe_lst (pa_cons pe_str (pa_cons pe_str (pa_cons pe_str (pa_cons pe_str (pa_cons pe_str pa_nil)))))) pa_nil))) (pg_tupK K rfl (pgs_cons (pg_name (i := 2) sc_l_kept.nd rfl (by first | exact Or.inl rfl | exact Or.inr rfl)) (pgs_cons (pg_name (i := 3) sc_l_kept.nd rfl (by first | exact Or.inl rfl | exact Or.inr rfl)) pgs_nil))))
      (pss_cons (ps_if (pt_cmpR (r := rEqA K) (op_eqA hr.units) (pe_lock (pe_lc (own := [("_law_point", 4)]) rfl sc_l_kept.nd (pi_keys (pv 2)) (blkOk_by (own := [("_law_point", 4)]) (N := N_l_kept) (sc := defScope s_l_kept) (by decide +kernel)) (fun _ _ _ _ _ => (pg_name (i := 4) sc_l_kept.nd rfl (by first | exact Or.inl rfl | exact Or.inr rfl))) (fun _ _ _ _ _ => (pts_one (pt_cmpR (r := rIn K false) op_in_seq (pv 4) (pe_op (r := rAddA) op_addA (pv 1) (pe_lst (pa_cons pe_str (pa_cons pe_str pa_nil)))) (by rfl)))) (fun _ _ _ _ _ => (pv 4)))) (pe_lst pa_nil) (nomark _)) (pss_one (ps_ret (pe_tup pa_nil))) pss_nil)
      (pss_one (ps_ret (pe_df D_l_order_of (hr.mono (by decide)) (pa_cons (pe_callTy (r := rDictP K) (cr_dictP rfl) (by rfl) T.z_dict (by decide +kernel) (pa_cons (pe_lock (pe_lc (own := [("_law_point", 4)]) rfl sc_l_kept.nd (pi_keys (pv 2)) (blkOk_by (own := [("_law_point", 4)]) (N := N_l_kept) (sc := defScope s_l_kept) (by decide +kernel)) (fun _ _ _ _ _ => (pg_name (i := 4) sc_l_kept.nd rfl (by first | exact Or.inl rfl | exact Or.inr rfl))) (fun _ _ _ _ _ => (pts_one (pt_cmpR (r := rIn K false) op_in_seq (pv 4) (pe_op (r := rAddA) op_addA (pv 1) (pv 3)) (by rfl)))) (fun _ _ _ _ _ => (pe_tup (pa_cons (pv 4) (pa_cons (pe_dget (Nat.lt_of_le_of_lt (Nat.add_le_add_left (by decide) _) hr.units) (pv 2) (pv 4) (by first | rfl | trivial | exact fun _ _ => rfl)) pa_nil)))))) pa_nil)) pa_nil)))))), ?_⟩
  walk_at "go"
  refine ⟨a, o, G, R, rfl, sm, hx, S, fun d H S => ?_⟩
  walk_at "go"
  have hrl : (rkF 0 o).length ≤ 50 := by rw [rkF_len]; exact sm.fl
  have nd := rkF_nd sm.nd
  rename_i Sg _ _
  refine r_gtup (xs := [.ref d, .ref Sg]) (by walk_at "st") rfl ?_
  walk_at "go"
  have S : Sep (pt Sg (.lst (signs5b.map V.str)) :: pt d (.dK (encK (rkF 0 o))) :: hp G :: R) H := S.tl
  obtain ⟨G1, le1, hsg, S⟩ := hp_LD (K := K) (S.s3 (A := pt Sg (.lst (signs5b.map V.str))) (B := hp G) (C := pt d (.dK (encK (rkF 0 o)))) (by walk_at "sel")) (dpall_strs signs5b)
  have hn1 := hn.le le1
  refine r_lcD (K := K) S.swap rfl (by omega) (fun e => if decide (e.1 ∈ ns ++ passedS) = true then some e.1 else none) PyData.str (fun e he od => ?_) (fun D acc G2 H le2 hacc S => ?_)
  · intro D acc Gi x H N le hx hnn S kY kN
    cases dp_strInv hx
    walk_at "go"
    refine ⟨rfl, ?_⟩
    walk_at "go"
    have S : Sep (pt p (.lst (passedS.map V.str)) :: pt D (.lst acc) :: hp Gi :: pt d (.frz od (.dK (encK (rkF 0 o)))) :: R) H := S
    obtain ⟨G2, le2, hpp, S⟩ := hp_LD (K := K) (S.s4 (A := pt p (.lst (passedS.map V.str))) (B := hp Gi) (C := pt D (.lst acc)) (D := pt d (.frz od (.dK (encK (rkF 0 o))))) (by walk_at "sel")) (dpall_strs passedS)
    refine r_catD S (hn1.le (le.tr le2)) hpp (by simp; have : passedS.length = 2 := rfl; omega) fun pp G3 H le3 hd3 S => ?_
    rw [← List.map_append] at hd3
    refine r_in_strs (.inl (SqL.le (hp_le S) hd3.sq)) ?_
    have S : Sep (pt D (.lst acc) :: hp G3 :: pt d (.frz od (.dK (encK (rkF 0 o)))) :: R) H := S.s3 (A := pt D (.lst acc)) (B := hp G3) (C := pt d (.frz od (.dK (encK (rkF 0 o))))) (by walk_at "sel")
    walk_at "go"
    refine q_ite (fun h => ?_) (fun h => ?_)
    · walk_at "go"
      exact kY _ _ G3 H (le2.tr le3) (by rw [decide_eq_true h]; rfl) (.str _) S
    · have S : Sep (pt D (.lst acc) :: hp Gi :: pt d (.frz od (.dK (encK (rkF 0 o)))) :: R) H := S.cons_mono fun _ => Sep.hd_mono fun _ z => (le2.tr le3).tr z
      exact kN (by rw [decide_eq_false h]; rfl) H S
  · rw [fm_str (kv := []), keys_filter, rkF_keys] at hacc
    walk_at "go"
    rename_i S0
    obtain ⟨E0', rfl⟩ : ∃ z, z = p := ⟨p, rfl⟩
    obtain ⟨G3, le3, hd3, S⟩ := hp_lst (K := K) (S.s4 (A := pt D (.lst acc)) (B := hp G2) (C := pt d (.dK (encK (rkF 0 o)))) (D := pt E0' (.lst [])) (by walk_at "sel")) hacc
    have nf : Nms (o.flatten.filter fun x => decide (x ∈ ns ++ passedS)) := fun x m => nms x (List.mem_filter.mp m).1
    refine r_eq_nilL (hp_dp S hd3) (okd_ns nf) (by decide) (by walk_at "sq") ?_
    walk_at "go"
    rw [List.isEmpty_map, ← onlyO_empty]
    refine q_iteB (fun h => ?_) (fun h => ?_)
    · walk_at "go"
      obtain ⟨G4, le4, hd4, S⟩ := hp_tup (K := K) (S.s2 (A := pt p (.tup [])) (B := hp G3) (by walk_at "sel")) .nil
      have := q p G4 H (((le1.tr le2).tr le3).tr le4)
      unfold kpO at this
      rw [if_pos h] at this
      exact this hd4 (S.s1 (A := hp G4) (by walk_at "sel"))
    · unfold kpO at q
      rw [h] at q
      walk_at "go"
      have hn3 := hn1.le (le2.tr le3)
      refine r_lcD (K := K) (l := rkF 0 o) (R := R) (S.s2 (A := pt d (.dK (encK (rkF 0 o)))) (B := hp G3) (by walk_at "sel")) rfl (by omega) (fun e => if decide (e.1 ∈ ns ++ signs5b) = true then some e else none) dPr (fun e he od => ?_) (fun D acc G4 H le4 hacc S => ?_)
      · intro D acc Gi x H N le hx hnn S kY kN
        cases dp_strInv hx
        walk_at "go"
        refine ⟨rfl, ?_⟩
        walk_at "go"
        refine r_catD S.swap (hn3.le le) ((hsg.le (le2.tr le3)).le le) (by simp; have : signs5b.length = 5 := rfl; omega) fun pp G5 H le5 hd5 S => ?_
        rw [← List.map_append] at hd5
        refine r_in_strs (.inl (SqL.le (hp_le S) hd5.sq)) ?_
        walk_at "go"
        refine q_ite (fun h => ?_) (fun h => ?_)
        · walk_at "go"
          have S : Sep (pt d (.frz od (.dK (encK (rkF 0 o)))) :: hp G5 :: pt D (.lst acc) :: R) H := S.s3 (A := pt d (.frz od (.dK (encK (rkF 0 o))))) (B := hp G5) (C := pt D (.lst acc)) (by walk_at "sel")
          refine r_dgetK (.inr ⟨od, S.hd_at⟩) (rkGet_mem nd he) ?_
          walk_at "go"
          obtain ⟨G6, le6, hd6, S⟩ := hp_tup (K := K) (S.s4 (A := pt p (.tup [.str e.1, .int e.2])) (B := hp G5) (C := pt D (.lst acc)) (D := pt d (.frz od (.dK (encK (rkF 0 o))))) (by walk_at "sel")) (.cons (.str _) (.cons (.int _) .nil))
          exact kY _ _ G6 H (le5.tr le6) (by rw [decide_eq_true h]; rfl) hd6 S.swap
        · have S : Sep (pt D (.lst acc) :: hp Gi :: pt d (.frz od (.dK (encK (rkF 0 o)))) :: R) H := S.swap.cons_mono fun _ => Sep.hd_mono fun _ z => le5.tr z
          exact kN (by rw [decide_eq_false h]; rfl) H S
      · rw [fm_if] at hacc
        obtain ⟨G5, le5, hd5, S⟩ := hp_lst (K := K) (S.s2 (A := pt D (.lst acc)) (B := hp G4) (by walk_at "sel")) hacc
        walk_at "go"
        have hkv : ((rkF 0 o).filter fun e => decide (e.1 ∈ ns ++ signs5b)) = kvP (ns ++ signs5b) 0 o := rfl
        rw [hkv] at hd5
        have ndk : ((kvP (ns ++ signs5b) 0 o).map Prod.fst).Nodup := by
          rw [← hkv, keys_filter]
          exact nd.filter _
        refine r_dictP S hd5 ndk fun d2 H S => ?_
        walk_at "go"
        refine ⟨d2, kvP (ns ++ signs5b) 0 o, msO (ns ++ signs5b) 0 o, G5, _, rfl, ?_, ndk, msO_asc _ _ _, fun k => msO_mem _ k o 0, S, fun t G6 H le6 hd6 S => ?_⟩
        · have := List.length_filter_le (fun e : Str × Int => decide (e.1 ∈ ns ++ signs5b)) (rkF 0 o)
          rw [← hkv]
          omega
        · rw [ordL_only _ _ _ asc, kpO_eq] at hd6
          exact q t G6 H (((((le1.tr le2).tr le3).tr le4).tr le5).tr le6) hd6 (S.s1 (A := hp G6) (by walk_at "sel"))
end
end Pf

set_option Elab.async false
set_option linter.all false
set_option maxRecDepth 100000
set_option maxHeartbeats 8000000
namespace Pf
open PySem L2 Kt
set_option hygiene false
local macro_rules | `(tactic| walk_at "mem") => `(tactic| (with_reducible (repeat (first | exact Pick.hd | apply Pick.tl)); done))
local macro_rules | `(tactic| walk_at "rep") => `(tactic| (with_reducible (repeat (first | exact Repl.hd | apply Repl.tl)); done))
local macro_rules | `(tactic| walk_at "sel") => `(tactic| ((repeat (with_reducible apply Sel.cons; (focus walk_at "mem"))); (with_reducible apply Sel.nil); (with_reducible (repeat (first | exact Dr.all | apply Dr.skip)); done)))
local macro_rules | `(tactic| walk_at "at") => `(tactic| (refine' Sep.at_ (by assumption) ?kkpk; (case kkpk => walk_at "mem")))
local macro_rules | `(tactic| walk_at "sq") => `(tactic| first | assumption | (refine' Sep.sq (by assumption) ?kkpk; (case kkpk => walk_at "mem")))
local macro_rules | `(tactic| walk_at "st") => `(tactic| first | assumption | (refine' Sep.st (by assumption) ?kkpk; (case kkpk => walk_at "mem")))
local macro_rules | `(tactic| walk_at "lk") => `(tactic| (repeat (first | (with_reducible exact lk_eq) | exact rfl | refine (lk_ne (by decide +kernel)).trans ?_)))
local macro_rules | `(tactic| walk_at "pf") => `(tactic| (repeat (first | (with_reducible exact pf_nil) | (with_reducible exact pf_eq) | (apply pf_ne; (focus decide +kernel)))))
local macro_rules | `(tactic| walk_at "ty") => `(tactic| first | exact ty_int | (refine' ty_lst ?kkh; (case kkh => walk_at "at")))
local macro_rules | `(tactic| walk_at "k1") => `(tactic| with_reducible first
  | refine q_seq ?_ | refine q_set ?_ | refine q_asg ?_ | refine q_ret ?_ | refine q_drop ?_ | refine q_next ?_ | refine q_c ?_ | refine q_op ?_ | refine q_un ?_ | refine q_nil ?_ | refine q_cons ?_ | refine q_cb ?_
  | refine q_call ?_ | refine q_ifs ?_ | refine q_if ?_ | refine q_test ?_ | refine q_tb ?_ | refine q_bl ?_ | refine q_notT ?_ | refine q_andT ?_ | refine q_orT ?_ | refine q_andV ?_ | refine q_orV ?_ | refine q_notV ?_
  | refine q_addA ?_ | refine q_subI ?_ | refine q_ltI ?_ | refine q_leI ?_ | refine q_gtI ?_ | refine q_geI ?_ | refine q_eqI ?_ | refine q_neI ?_ | refine q_abs ?_ | refine q_int ?_ | refine q_intB ?_ | refine q_max ?_ | refine q_min ?_
  | refine q_ipAdd ?_ | refine q_ipSub ?_ | refine q_gsub ?_ | refine q_augs ?_ | refine q_lst ?_ | refine q_tup ?_ | refine q_blI ?_ | refine iteT ?_ | refine iteF ?_ | refine iteNT ?_ | refine iteNF ?_
  | refine r_prop ?_ | refine r_fld ?_ | refine r_sfld ?_ | refine r_meth ?_ | refine r_make ?_ | refine r_sl ?_ | refine r_nopart ?_ | refine r_part ?_ | refine r_parti ?_ | refine r_gsl ?_ | refine r_bm ?_ | refine r_bm0 ?_ | refine r_for ?_ | refine r_ilist ?_ | refine r_irng ?_
  | refine r_gname ?_ | refine r_gcons ?_ | refine r_gnil ?_ | refine r_par ?_ | refine r_parA ?_ | refine r_chain ?_ | refine r_isN ?_ | refine r_tlc ?_ | refine r_yes ?_ | refine r_makek ?_ | refine r_neg ?_)
local macro_rules | `(tactic| walk_at "k2") => `(tactic| first
  | ((with_reducible refine' q_var ?kke ?_); (case kke => rfl))
  | ((with_reducible refine' q_aug ?kke ?_); (case kke => rfl))
  | ((with_reducible refine' q_ixL ?kks ?kke ?_); (case kks => walk_at "sq"); (case kke => first | rfl | assumption))
  | ((with_reducible refine' q_ixT ?kks ?kke ?_); (case kks => walk_at "st"); (case kke => first | rfl | assumption))
  | ((with_reducible refine' q_ixLL ?kks ?kke ?_); (case kks => walk_at "sq"); (case kke => first | rfl | assumption))
  | ((with_reducible refine' q_lenL ?kks ?_); (case kks => walk_at "sq"))
  | ((with_reducible refine' q_mulI ?kkc ?_); (case kkc => first | exact .inl (by omega) | exact .inr (by omega)))
  | ((with_reducible refine' q_modI ?kkc ?_); (case kkc => omega))
  | ((with_reducible refine' q_divI ?kkc ?_); (case kkc => exact ⟨by omega, by omega⟩))
  | ((with_reducible refine' q_powI ?kkc ?_); (case kkc => exact ⟨by decide, by decide, by decide⟩))
  | ((with_reducible refine' r_kfld ?kkS ?kkp ?kkc ?kkn ?kkl ?_); (case kkS => assumption); (case kkp => walk_at "mem"); (case kkc => walk_at "cls"); (case kkn => walk_at "na"); (case kkl => walk_at "lk"))
  | ((with_reducible refine' r_kprop ?kkS ?kkp ?_); (case kkS => assumption); (case kkp => walk_at "mem"))
  | ((with_reducible refine' r_kmeth ?kkS ?kkp ?kkl ?_); (case kkS => assumption); (case kkp => walk_at "mem"); (case kkl => walk_at "lk"))
  | ((with_reducible refine' r_calll ?kks ?_); (case kks => rfl))
  | ((with_reducible refine' r_tyl ?kks ?_); (case kks => walk_at "sq"))
  | ((with_reducible refine' r_isi (k := true) ?kkt ?kke ?_); (case kkt => walk_at "ty"); (case kke => decide +kernel))
  | ((with_reducible refine' r_isi (k := false) ?kkt ?kke ?_); (case kkt => walk_at "ty"); (case kke => decide +kernel)))
local macro_rules | `(tactic| walk_at "k3") => `(tactic| first
  | ((with_reducible refine' q_setS ?kkS ?kkr ?kke ?_); (case kkS => assumption); (case kkr => walk_at "rep"); (case kke => rfl); intro H S)
  | ((with_reducible refine' r_kset ?kkS ?kkr ?kkc ?kkn ?kkl ?kke ?_); (case kkS => assumption); (case kkr => walk_at "rep"); (case kkc => walk_at "cls"); (case kkn => walk_at "na"); (case kkl => first | exact Nat.le_of_ble_eq_true rfl | assumption | omega | (simp; done) | (simp; omega)); (case kke => walk_at "pf"); intro H S)
  | ((with_reducible refine' q_new ?kkS ?kkl ?_); (case kkS => assumption); (case kkl => first | exact Nat.le_of_ble_eq_true rfl | assumption | omega | (simp; done) | (simp; omega)); intro p H S)
  | ((with_reducible refine' q_newT ?kkS ?kkl ?_); (case kkS => assumption); (case kkl => first | exact Nat.le_of_ble_eq_true rfl | assumption | omega | (simp; done) | (simp; omega)); intro p H S)
  | ((with_reducible refine' r_knew ?kkS ?_); (case kkS => assumption); intro x dx H S)
  | ((with_reducible refine' r_knewk ?kkS ?kkl1 ?kkl2 ?_); (case kkS => assumption); (case kkl1 => rfl); (case kkl2 => rfl); intro x dx H S)
  | ((with_reducible refine' r_ksl ?kkS ?kks ?_); (case kkS => assumption); (case kks => walk_at "sq"); intro p H S)
  | ((with_reducible refine' r_list ?kkS ?kks ?_); (case kkS => assumption); (case kks => walk_at "sq"); intro p H S)
  | ((with_reducible refine' r_cat ?kkS ?kks1 ?kks2 ?kkz ?_); (case kkS => assumption); (case kks1 => walk_at "at"); (case kks2 => walk_at "at"); (case kkz => first | omega | (simp; omega)); intro p H S)
  | ((with_reducible refine' r_append ?kkS ?kkr ?kkz ?_); (case kkS => assumption); (case kkr => walk_at "rep"); (case kkz => first | omega | (simp; omega)); intro H S)
  | ((with_reducible refine' r_reverse ?kkS ?kkr ?_); (case kkS => assumption); (case kkr => walk_at "rep"); intro H S)
  | ((with_reducible refine' r_clear ?kkS ?kkr ?_); (case kkS => assumption); (case kkr => walk_at "rep"); intro H S))
local macro_rules | `(tactic| walk_at "gn") => `(tactic| repeat (first | walk_at "k1" | walk_at "k2"))
local macro_rules | `(tactic| walk_at "go") => `(tactic| repeat (first | walk_at "k1" | walk_at "k2" | walk_at "k3"))

local macro_rules | `(tactic| walk_at "sq") => `(tactic| first | assumption | (refine' Sep.sq ?kkS ?kkpk; (case kkS => assumption); (case kkpk => walk_at "mem")) | (refine' hp_sqL ?kkS ?kkx; (case kkS => assumption); (case kkx => assumption)) | (refine' hp_sqL (Sep.tl ?kkS) ?kkx; (case kkS => assumption); (case kkx => assumption)) | (refine' hp_sqL (Sep.tl (Sep.tl ?kkS)) ?kkx; (case kkS => assumption); (case kkx => assumption)))
local macro_rules | `(tactic| walk_at "st") => `(tactic| first | assumption | (refine' Sep.st ?kkS ?kkpk; (case kkS => assumption); (case kkpk => walk_at "mem")) | (refine' hp_sqT ?kkS ?kkx; (case kkS => assumption); (case kkx => assumption)) | (refine' hp_sqT (Sep.tl ?kkS) ?kkx; (case kkS => assumption); (case kkx => assumption)) | (refine' hp_sqT (Sep.tl (Sep.tl ?kkS)) ?kkx; (case kkS => assumption); (case kkx => assumption)))
local macro_rules | `(tactic| walk_at "k1") => `(tactic| with_reducible first | refine r_ienumT ?_ | refine r_tru ?_ | refine r_itup ?_ | refine r_star ?_ | refine r_par3 ?_ | refine r_parA3 ?_ | refine r_dget ?_ | refine r_din ?_ | refine r_dnotin ?_ | refine r_dput ?_)

def signs5 : List Str := ["=", "!", "^", "+0", "+1"]
def dTrip (s : List Od) (p q : Str) : PyData := .tuple [dOpt (arrO s p), .bool (stO s p q).isSome, dOptI (stO s p q)]
def dTold (s : List Od) (ns : List Str) : PyData := .list [dShp s, .list (ns.flatMap fun p => ns.map (dTrip s p)), dShp (keptP s (ns.drop 1)), .list (signs5.map fun p => dOpt (arrO s p))]
structure NsOk (ns : List Str) : Prop where
  ln : ns.length ≤ 4
  nms : Nms ns
  no : ∀ p ∈ ns, p ∉ signs3
theorem fm_len {α β γ : Type} (g : α → β → γ) (ms : List β) : ∀ l : List α, (l.flatMap fun p => ms.map (g p)).length = l.length * ms.length
  | [] => by simp
  | x :: l => by
    rw [List.flatMap_cons, List.length_append, fm_len g ms l, List.length_map, List.length_cons, Nat.succ_mul, Nat.add_comm]
theorem fm_take {α β : Type} {f : α → List β} {l : List α} {i : Nat} {x : α} (h : l[i]? = some x) : (l.take (i + 1)).flatMap f = (l.take i).flatMap f ++ f x := by
  rw [List.take_add_one, h, List.flatMap_append]
  simp
theorem OrdsOk.shp {os : List Od} (h : OrdsOk os) : OrdsOk (shpO os) := ⟨by
  have h1 := (shpO_perm os).length_eq
  have h2 := List.length_filter_le (fun o : Od => !o.isEmpty) os
  have := h.ln
  omega, fun o m => h.each o (shpO_mem.mp m).1, fun p n => shpO_apart (h.apart p n)⟩
theorem OrdsOk.wf {os : List Od} (h : OrdsOk os) : WfS os := ⟨by have := h.ln; omega, fun o m => (h.each o m).wf⟩
section
variable {P : Program} {w : World} {K : PySem.W.Frag} {mg : Str → Option Value} {base : Heap} {f_PASSED f_COMMON : Addr}
theorem sc_l_told : FnScope N_l_told ["_law_orders_here", "_law_names"] (defScope s_l_told) := ⟨rfl, rfl, rfl, by decide +kernel, rfl, by decide +kernel, by decide +kernel⟩
def spTold (K : PySem.W.Frag) : Sp := fun vs H Q _ => ∃ (a b : Addr) (os : List Od) (ns : List Str) (G : Hp) (R : List SP), vs = [.ref a, .ref b] ∧ OrdsOk os ∧ NsOk ns ∧ Dp K G (.ref a) (dOds os) ∧ LD K G b (ns.map PyData.str) ∧ Sep (hp G :: R) H ∧
  ∀ t G' H', Le G G' → Dp K G' (.ref t) (dTold (shpO os) ns) → Sep (hp G' :: R) H' → Q (.ref t) H'
theorem ok_l_told {f f1 f2 f3 f4 f5 : Addr} (F : Dt K mg "_law_told" s_l_told ["_law_orders_here", "_law_names"] f) (T : Tx K mg f_PASSED f_COMMON) (D_shape_of : Df P w K mg base 1 "shape_of" f1 ["orders"] (spShape K)) (D_array_of : Df P w K mg base 2 "array_of" f2 ["shape", "point"] (spArr K))
    (D_share : Df P w K mg base 4 "share" f3 ["shape", "one", "other"] (spShare K)) (D_stands : Df P w K mg base 3 "stands" f4 ["shape", "one", "other"] (spSt K)) (D_kept_points : Df P w K mg base 3 "kept_points" f5 ["shape", "names"] (spKept K)) : Df P w K mg base 5 "_law_told" f ["_law_orders_here", "_law_names"] (spTold K) := by
  refine F.ok sc_l_told (fun vs H Q E h => ?_) (fun cdv A outer s H vs Q E hr h => ?_)
  · obtain ⟨a, b, os, ns, G, R, rfl, _⟩ := h
    rfl
  obtain ⟨a, b, os, ns, G, R, rfl, ok, nok, hx, hb, S, q⟩ := h
  refine ⟨_, (pss_cons (ps_asg (pe_tup (pa_cons (pe_df D_shape_of (hr.mono (by decide)) (pa_cons (pv 0) pa_nil)) (pa_cons (pe_lst pa_nil) pa_nil))) (pg_tupK K rfl (pgs_cons (pg_name (i := 2) sc_l_told.nd rfl (by first | exact Or.inl rfl | exact Or.inr rfl)) (pgs_cons (pg_name (i := 3) sc_l_told.nd rfl (by first | exact Or.inl rfl | exact Or.inr rfl)) pgs_nil))))
      (pss_cons (ps_for PassesOwn.never rfl (pi_listK K (pv 1)) (pg_name (i := 4) sc_l_told.nd rfl (by first | exact Or.inl rfl | exact Or.inr rfl)) (pss_one (ps_set (i := 3) sc_l_told.nd rfl (by first | exact Or.inl rfl | exact Or.inr rfl) (pe_op (r := rAddA) op_addA (pv 3) (pe_lc (own := [("_law_other", 8)]) rfl sc_l_told.nd (pi_listK K (pv 1)) (blkOk_by (own := [("_law_other", 8)]) (N := N_l_told) (sc := defScope s_l_told) (by decide +kernel)) (fun _ _ _ _ _ => (pg_name (i := 8) sc_l_told.nd rfl (by first | exact Or.inl rfl | exact Or.inr rfl))) (fun _ _ _ _ _ => pts_nil) (fun _ _ _ _ _ => (pe_tup (pa_cons (pe_df D_array_of (hr.mono (by decide)) (pa_cons (pv 2) (pa_cons (pv 4) pa_nil))) (pa_cons (pe_df D_share (hr.mono (by decide)) (pa_cons (pv 2) (pa_cons (pv 4) (pa_cons (pv 8) pa_nil)))) (pa_cons (pe_df D_stands (hr.mono (by decide)) (pa_cons (pv 2) (pa_cons (pv 4) (pa_cons (pv 8) pa_nil)))) pa_nil))))))))))
      (pss_cons (ps_setLc (i := 5) (own := [("_law_sign", 9)]) rfl sc_l_told.nd rfl rfl (sw_true rfl rfl rfl (by decide +kernel)) (pi_tupK K (pe_tup (pa_cons pe_str (pa_cons pe_str (pa_cons pe_str (pa_cons pe_str (pa_cons pe_str pa_nil))))))) (blkOk_by (own := [("_law_sign", 9)]) (N := N_l_told) (sc := defScope s_l_told) (by decide +kernel)) (fun _ _ _ _ _ => (pg_name (i := 9) sc_l_told.nd rfl (by first | exact Or.inl rfl | exact Or.inr rfl))) (fun _ _ _ _ _ => pts_nil) (fun _ _ _ _ _ => (pe_df D_array_of (hr.mono (by decide)) (pa_cons (pv 2) (pa_cons (pv 9) pa_nil)))))
      (pss_cons (ps_set (i := 6) sc_l_told.nd rfl (by first | exact Or.inl rfl | exact Or.inr rfl) (pe_slice (r := rSlL K) sl_list (pv 1) (po_some pe_int) po_none))
      (pss_cons (ps_set (i := 7) sc_l_told.nd rfl (by first | exact Or.inl rfl | exact Or.inr rfl) (pe_lst (pa_cons (pv 2) (pa_cons (pv 3) (pa_cons (pe_df D_kept_points (hr.mono (by decide)) (pa_cons (pv 2) (pa_cons (pv 6) pa_nil))) (pa_cons (pv 5) pa_nil))))))
      (pss_one (ps_ret (pe_ifExp (pt_cmpR (r := rEqA K) (op_eqA hr.units) (pv 6) (pe_slice (r := rSlL K) sl_list (pv 1) (po_some pe_int) po_none) (nomark _)) (pv 7) pe_non)))))))), ?_⟩
  walk_at "go"
  refine ⟨a, os, G, R, rfl, by have := ok.ln; omega, hx, S, fun sh G1 H le1 hsh S => ?_⟩
  have okS := ok.shp
  generalize shpO os = s at hsh okS q
  walk_at "go"
  rename_i Fd _ _
  refine r_gtup (xs := [.ref sh, .ref Fd]) (by walk_at "st") rfl ?_
  walk_at "go"
  obtain ⟨G2, le2, hf0, S⟩ := hp_LD (K := K) S.tl .nil
  refine r_for_list (xs := ns.map V.str) (fun i σ Ps => ∃ fd Gi u4 u5 u6 u7 u8 u9, σ = [some (.ref a), some (.ref b), some (.ref sh), some (.ref fd), u4, u5, u6, u7, u8, u9] ∧ Le G2 Gi ∧ LD K Gi fd ((ns.take i).flatMap fun p => ns.map (dTrip s p)) ∧ Ps = hp Gi :: R) S ⟨Fd, G2, _, _, _, _, _, _, rfl, Le.rfl, hf0, rfl⟩ (fun i σ Ps H hi ⟨_, _, _, _, _, _, _, _, _, le, _, e⟩ S => by subst e; exact hp_sqL S (hb.le ((le1.tr le2).tr le)).sq) ?_ ?_
  · rintro i x σ Ps H hi ⟨fd, Gi, u4, u5, u6, u7, u8, u9, rfl, le3, hfd, rfl⟩ S
    obtain ⟨p1, hp1, rfl⟩ := str_at hi
    have hi' := (List.getElem?_eq_some_iff.mp hp1).1
    have hsh3 := Dp.le (le2.tr le3) _ _ hsh
    walk_at "go"
    refine r_lcL (l := ns) (enc := PyData.str) S (hb.le ((le1.tr le2).tr le3)).dp (by have := nok.ln; omega) (fun p2 => some p2) (dTrip s p1) (fun p2 m => ?_) (fun D acc G4 H le4 hacc S => ?_)
    · intro D acc Gj y H N le5 hy hn S kY kN
      cases dp_strInv hy
      have hsh5 := Dp.le le5 _ _ hsh3
      walk_at "go"
      refine ⟨rfl, ?_⟩
      walk_at "go"
      refine ⟨sh, s, p1, Gj, _, rfl, hsh5, S.swap, fun H S => ?_⟩
      walk_at "go"
      refine ⟨sh, s, p1, p2, Gj, _, rfl, hsh5, S, fun H S => ?_⟩
      walk_at "go"
      refine ⟨sh, s, p1, p2, Gj, _, rfl, hsh5, S, fun H S => ?_⟩
      walk_at "go"
      obtain ⟨G6, le6, hd6, S⟩ := hp_tup (K := K) S (.cons (dp_opt _) (.cons (.bl _) (.cons (dp_optI _) .nil)))
      exact kY _ _ G6 H le6 rfl hd6 S.swap
    · have e : (ns.filterMap fun p2 => some p2) = ns := by rw [fm_map]; exact List.map_id _
      rw [e] at hacc
      obtain ⟨G5, le5, hd5, S⟩ := hp_LD (K := K) S hacc
      refine r_catD S (hfd.le (le4.tr le5)) hd5 (by
        rw [fm_len, List.length_map, List.length_take]
        have := nok.ln
        have : min i ns.length * ns.length ≤ 4 * 4 := Nat.mul_le_mul (by omega) this
        omega) fun pp G6 H le6 hd6 S => ?_
      walk_at "go"
      refine ⟨_, ⟨pp, G6, _, _, _, _, _, _, rfl, ((le3.tr le4).tr le5).tr le6, ?_, rfl⟩, S⟩
      rw [fm_take hp1]
      exact hd6
  · rintro σ Ps H ⟨fd, Gi, u4, u5, u6, u7, u8, u9, rfl, le3, hfd, rfl⟩ S
    rw [List.length_map, List.take_length] at hfd
    have hsh3 := Dp.le (le2.tr le3) _ _ hsh
    have hb3 := hb.le ((le1.tr le2).tr le3)
    walk_at "go"
    have S : Sep (pt p (.tup (signs5.map V.str)) :: hp Gi :: R) H := S
    obtain ⟨G4, le4, hd4, S⟩ := hp_tup (K := K) S (dpall_strs signs5)
    have hsh4 := Dp.le le4 _ _ hsh3
    refine r_lcT (l := signs5) (enc := PyData.str) S hd4 (by decide) (fun p2 => some p2) (fun p => dOpt (arrO s p)) (fun p2 m => ?_) (fun D acc G5 H le5 hacc S => ?_)
    · intro D acc Gj y H N le5 hy hn S kY kN
      cases dp_strInv hy
      walk_at "go"
      refine ⟨rfl, ?_⟩
      walk_at "go"
      refine ⟨sh, s, p2, Gj, _, rfl, Dp.le le5 _ _ hsh4, S.swap, fun H S => ?_⟩
      walk_at "go"
      exact kY _ _ Gj H Le.rfl rfl (dp_opt _) S.swap
    · have e : (signs5.filterMap fun p2 => some p2) = signs5 := rfl
      rw [e] at hacc
      obtain ⟨G6, le6, hd6, S⟩ := hp_lst (K := K) S hacc
      walk_at "go"
      have hb6 := hb3.le ((le4.tr le5).tr le6)
      refine r_suf (n := 1) S hb6.dp fun sm G7 H le7 hd7 S => ?_
      rw [← List.map_drop] at hd7
      walk_at "go"
      have hsh7 := Dp.le ((le5.tr le6).tr le7) _ _ hsh4
      refine ⟨sh, sm, s, ns.drop 1, G7, R, rfl, okS.wf, by rw [List.length_drop]; have := nok.ln; omega, hsh7, hd7.dp, S, fun kt G8 H le8 hd8 S => ?_⟩
      walk_at "go"
      have leA : Le Gi G8 := (((le4.tr le5).tr le6).tr le7).tr le8
      obtain ⟨G9, le9, hd9, S⟩ := hp_lst (K := K) S (ds := [dShp s, .list (ns.flatMap fun p => ns.map (dTrip s p)), dShp (keptP s (ns.drop 1)), .list (signs5.map fun p => dOpt (arrO s p))]) (.cons (Dp.le le8 _ _ hsh7) (.cons (hfd.le leA).dp (.cons hd8 (.cons (Dp.le (le7.tr le8) _ _ hd6) .nil))))
      refine r_suf (n := 1) S (hb6.le ((le7.tr le8).tr le9)).dp fun s2 G10 H le10 hd10 S => ?_
      rw [← List.map_drop] at hd10
      refine r_eq_same (hp_dp S (hd7.le ((le8.tr le9).tr le10)).dp) (hp_dp S hd10.dp) (okd_ns fun x m => nok.nms x (List.mem_of_mem_drop m)) (by decide) ?_
      walk_at "go"
      exact q _ G10 H ((((le1.tr le2).tr le3).tr leA).tr (le9.tr le10)) (Dp.le le10 _ _ hd9) S
end
end Pf

set_option Elab.async false
set_option linter.all false
set_option maxRecDepth 100000
set_option maxHeartbeats 8000000
namespace Pf
open PySem L2 Kt
set_option hygiene false
local macro_rules | `(tactic| walk_at "mem") => `(tactic| (with_reducible (repeat (first | exact Pick.hd | apply Pick.tl)); done))
local macro_rules | `(tactic| walk_at "rep") => `(tactic| (with_reducible (repeat (first | exact Repl.hd | apply Repl.tl)); done))
local macro_rules | `(tactic| walk_at "sel") => `(tactic| ((repeat (with_reducible apply Sel.cons; (focus walk_at "mem"))); (with_reducible apply Sel.nil); (with_reducible (repeat (first | exact Dr.all | apply Dr.skip)); done)))
local macro_rules | `(tactic| walk_at "at") => `(tactic| (refine' Sep.at_ (by assumption) ?kkpk; (case kkpk => walk_at "mem")))
local macro_rules | `(tactic| walk_at "sq") => `(tactic| first | assumption | (refine' Sep.sq (by assumption) ?kkpk; (case kkpk => walk_at "mem")))
local macro_rules | `(tactic| walk_at "st") => `(tactic| first | assumption | (refine' Sep.st (by assumption) ?kkpk; (case kkpk => walk_at "mem")))
local macro_rules | `(tactic| walk_at "lk") => `(tactic| (repeat (first | (with_reducible exact lk_eq) | exact rfl | refine (lk_ne (by decide +kernel)).trans ?_)))
local macro_rules | `(tactic| walk_at "pf") => `(tactic| (repeat (first | (with_reducible exact pf_nil) | (with_reducible exact pf_eq) | (apply pf_ne; (focus decide +kernel)))))
local macro_rules | `(tactic| walk_at "ty") => `(tactic| first | exact ty_int | (refine' ty_lst ?kkh; (case kkh => walk_at "at")))
local macro_rules | `(tactic| walk_at "k1") => `(tactic| with_reducible first
  | refine q_seq ?_ | refine q_set ?_ | refine q_asg ?_ | refine q_ret ?_ | refine q_drop ?_ | refine q_next ?_ | refine q_c ?_ | refine q_op ?_ | refine q_un ?_ | refine q_nil ?_ | refine q_cons ?_ | refine q_cb ?_
  | refine q_call ?_ | refine q_ifs ?_ | refine q_if ?_ | refine q_test ?_ | refine q_tb ?_ | refine q_bl ?_ | refine q_notT ?_ | refine q_andT ?_ | refine q_orT ?_ | refine q_andV ?_ | refine q_orV ?_ | refine q_notV ?_
  | refine q_addA ?_ | refine q_subI ?_ | refine q_ltI ?_ | refine q_leI ?_ | refine q_gtI ?_ | refine q_geI ?_ | refine q_eqI ?_ | refine q_neI ?_ | refine q_abs ?_ | refine q_int ?_ | refine q_intB ?_ | refine q_max ?_ | refine q_min ?_
  | refine q_ipAdd ?_ | refine q_ipSub ?_ | refine q_gsub ?_ | refine q_augs ?_ | refine q_lst ?_ | refine q_tup ?_ | refine q_blI ?_ | refine iteT ?_ | refine iteF ?_ | refine iteNT ?_ | refine iteNF ?_
  | refine r_prop ?_ | refine r_fld ?_ | refine r_sfld ?_ | refine r_meth ?_ | refine r_make ?_ | refine r_sl ?_ | refine r_nopart ?_ | refine r_part ?_ | refine r_parti ?_ | refine r_gsl ?_ | refine r_bm ?_ | refine r_bm0 ?_ | refine r_for ?_ | refine r_ilist ?_ | refine r_irng ?_
  | refine r_gname ?_ | refine r_gcons ?_ | refine r_gnil ?_ | refine r_par ?_ | refine r_parA ?_ | refine r_chain ?_ | refine r_isN ?_ | refine r_tlc ?_ | refine r_yes ?_ | refine r_makek ?_ | refine r_neg ?_)
local macro_rules | `(tactic| walk_at "k2") => `(tactic| first
  | ((with_reducible refine' q_var ?kke ?_); (case kke => rfl))
  | ((with_reducible refine' q_aug ?kke ?_); (case kke => rfl))
  | ((with_reducible refine' q_ixL ?kks ?kke ?_); (case kks => walk_at "sq"); (case kke => first | rfl | assumption))
  | ((with_reducible refine' q_ixT ?kks ?kke ?_); (case kks => walk_at "st"); (case kke => first | rfl | assumption))
  | ((with_reducible refine' q_ixLL ?kks ?kke ?_); (case kks => walk_at "sq"); (case kke => first | rfl | assumption))
  | ((with_reducible refine' q_lenL ?kks ?_); (case kks => walk_at "sq"))
  | ((with_reducible refine' q_mulI ?kkc ?_); (case kkc => first | exact .inl (by omega) | exact .inr (by omega)))
  | ((with_reducible refine' q_modI ?kkc ?_); (case kkc => omega))
  | ((with_reducible refine' q_divI ?kkc ?_); (case kkc => exact ⟨by omega, by omega⟩))
  | ((with_reducible refine' q_powI ?kkc ?_); (case kkc => exact ⟨by decide, by decide, by decide⟩))
  | ((with_reducible refine' r_kfld ?kkS ?kkp ?kkc ?kkn ?kkl ?_); (case kkS => assumption); (case kkp => walk_at "mem"); (case kkc => walk_at "cls"); (case kkn => walk_at "na"); (case kkl => walk_at "lk"))
  | ((with_reducible refine' r_kprop ?kkS ?kkp ?_); (case kkS => assumption); (case kkp => walk_at "mem"))
  | ((with_reducible refine' r_kmeth ?kkS ?kkp ?kkl ?_); (case kkS => assumption); (case kkp => walk_at "mem"); (case kkl => walk_at "lk"))
  | ((with_reducible refine' r_calll ?kks ?_); (case kks => rfl))
  | ((with_reducible refine' r_tyl ?kks ?_); (case kks => walk_at "sq"))
  | ((with_reducible refine' r_isi (k := true) ?kkt ?kke ?_); (case kkt => walk_at "ty"); (case kke => decide +kernel))
  | ((with_reducible refine' r_isi (k := false) ?kkt ?kke ?_); (case kkt => walk_at "ty"); (case kke => decide +kernel)))
local macro_rules | `(tactic| walk_at "k3") => `(tactic| first
  | ((with_reducible refine' q_setS ?kkS ?kkr ?kke ?_); (case kkS => assumption); (case kkr => walk_at "rep"); (case kke => rfl); intro H S)
  | ((with_reducible refine' r_kset ?kkS ?kkr ?kkc ?kkn ?kkl ?kke ?_); (case kkS => assumption); (case kkr => walk_at "rep"); (case kkc => walk_at "cls"); (case kkn => walk_at "na"); (case kkl => first | exact Nat.le_of_ble_eq_true rfl | assumption | omega | (simp; done) | (simp; omega)); (case kke => walk_at "pf"); intro H S)
  | ((with_reducible refine' q_new ?kkS ?kkl ?_); (case kkS => assumption); (case kkl => first | exact Nat.le_of_ble_eq_true rfl | assumption | omega | (simp; done) | (simp; omega)); intro p H S)
  | ((with_reducible refine' q_newT ?kkS ?kkl ?_); (case kkS => assumption); (case kkl => first | exact Nat.le_of_ble_eq_true rfl | assumption | omega | (simp; done) | (simp; omega)); intro p H S)
  | ((with_reducible refine' r_knew ?kkS ?_); (case kkS => assumption); intro x dx H S)
  | ((with_reducible refine' r_knewk ?kkS ?kkl1 ?kkl2 ?_); (case kkS => assumption); (case kkl1 => rfl); (case kkl2 => rfl); intro x dx H S)
  | ((with_reducible refine' r_ksl ?kkS ?kks ?_); (case kkS => assumption); (case kks => walk_at "sq"); intro p H S)
  | ((with_reducible refine' r_list ?kkS ?kks ?_); (case kkS => assumption); (case kks => walk_at "sq"); intro p H S)
  | ((with_reducible refine' r_cat ?kkS ?kks1 ?kks2 ?kkz ?_); (case kkS => assumption); (case kks1 => walk_at "at"); (case kks2 => walk_at "at"); (case kkz => first | omega | (simp; omega)); intro p H S)
  | ((with_reducible refine' r_append ?kkS ?kkr ?kkz ?_); (case kkS => assumption); (case kkr => walk_at "rep"); (case kkz => first | omega | (simp; omega)); intro H S)
  | ((with_reducible refine' r_reverse ?kkS ?kkr ?_); (case kkS => assumption); (case kkr => walk_at "rep"); intro H S)
  | ((with_reducible refine' r_clear ?kkS ?kkr ?_); (case kkS => assumption); (case kkr => walk_at "rep"); intro H S))
local macro_rules | `(tactic| walk_at "gn") => `(tactic| repeat (first | walk_at "k1" | walk_at "k2"))
local macro_rules | `(tactic| walk_at "go") => `(tactic| repeat (first | walk_at "k1" | walk_at "k2" | walk_at "k3"))

local macro_rules | `(tactic| walk_at "sq") => `(tactic| first | assumption | (refine' Sep.sq ?kkS ?kkpk; (case kkS => assumption); (case kkpk => walk_at "mem")) | (refine' hp_sqL ?kkS ?kkx; (case kkS => assumption); (case kkx => assumption)) | (refine' hp_sqL (Sep.tl ?kkS) ?kkx; (case kkS => assumption); (case kkx => assumption)) | (refine' hp_sqL (Sep.tl (Sep.tl ?kkS)) ?kkx; (case kkS => assumption); (case kkx => assumption)))
local macro_rules | `(tactic| walk_at "st") => `(tactic| first | assumption | (refine' Sep.st ?kkS ?kkpk; (case kkS => assumption); (case kkpk => walk_at "mem")) | (refine' hp_sqT ?kkS ?kkx; (case kkS => assumption); (case kkx => assumption)) | (refine' hp_sqT (Sep.tl ?kkS) ?kkx; (case kkS => assumption); (case kkx => assumption)) | (refine' hp_sqT (Sep.tl (Sep.tl ?kkS)) ?kkx; (case kkS => assumption); (case kkx => assumption)))
local macro_rules | `(tactic| walk_at "k1") => `(tactic| with_reducible first | refine r_ienumT ?_ | refine r_tru ?_ | refine r_itup ?_ | refine r_star ?_ | refine r_par3 ?_ | refine r_parA3 ?_ | refine r_dget ?_ | refine r_din ?_ | refine r_dnotin ?_ | refine r_dput ?_)

theorem kept_eq (ns : List Str) : ∀ s : List Od, (s.filter fun o => !(kpO ns o).isEmpty).map (kpO ns) = ((s.filter fun o => !(onlyO (ns ++ passedS) o).isEmpty).map (onlyO (ns ++ passedS ++ commonS))).filter fun o => !o.isEmpty
  | [] => rfl
  | o :: s => by
    have ih := kept_eq ns s
    rw [List.filter_cons, List.filter_cons]
    by_cases h : (onlyO (ns ++ passedS) o).isEmpty = true
    · have e : kpO ns o = [] := by unfold kpO; rw [if_pos h]
      rw [e, h]
      exact ih
    · have e : kpO ns o = onlyO (ns ++ passedS ++ commonS) o := by unfold kpO; rw [if_neg h]
      have h' : (onlyO (ns ++ passedS) o).isEmpty = false := by simpa using h
      rw [e, h']
      show _ = List.filter _ (onlyO (ns ++ passedS ++ commonS) o :: _)
      rw [List.filter_cons, ← ih]
      cases (onlyO (ns ++ passedS ++ commonS) o).isEmpty
      · simp [e]
      · rfl
theorem keptP_eq (s : List Od) (ns : List Str) : keptP s ns = ((s.filter fun o => !(kpO ns o).isEmpty).map (kpO ns)).mergeSort leOd := by
  unfold keptP shpO
  rw [kept_eq]
theorem sg_cmp (o : Od) (p q : Str) : sgI (rkGet (rkF 0 o) p) (rkGet (rkF 0 o) q) = cmpO o p q := by
  rw [rkGet_0, rkGet_0]
  unfold cmpO
  cases lvO o p with
  | none => rfl
  | some i =>
    cases lvO o q with
    | none => rfl
    | some j =>
      show some (if (i : Int) = j then (0 : Int) else if (i : Int) < j then -1 else 1) = some (if i = j then 0 else if i < j then -1 else 1)
      congr 1
      by_cases h : i = j
      · subst h; simp
      · rw [if_neg h, if_neg (by omega)]
        by_cases h2 : i < j
        · rw [if_pos h2, if_pos (by omega)]
        · rw [if_neg h2, if_neg (by omega)]
theorem kp_nms {o : Od} {ns : List Str} (h : OrdOk o) : Nms (kpO ns o).flatten := fun x m => by
  unfold kpO at m
  split at m
  · cases m
  · rw [onlyO_flat] at m
    exact h.nms x (List.mem_filter.mp m).1
section
variable {P : Program} {w : World} {K : PySem.W.Frag} {mg : Str → Option Value} {base : Heap} {f_PASSED f_COMMON : Addr}
theorem sc_l_reckon : FnScope N_l_reckon ["_law_orders_here", "_law_names"] (defScope s_l_reckon) := ⟨rfl, rfl, rfl, by decide +kernel, rfl, by decide +kernel, by decide +kernel⟩
theorem ok_l_reckon {f f1 f2 f3 f4 : Addr} (F : Dt K mg "_law_reckon" s_l_reckon ["_law_orders_here", "_law_names"] f) (T : Tx K mg f_PASSED f_COMMON) (D_l_at : Df P w K mg base 2 "_law_at" f1 ["_law_shape", "_law_point"] (spAt K)) (D_l_ranks : Df P w K mg base 1 "_law_ranks" f2 ["_law_order"] (spRanks K))
    (D_l_sign_of : Df P w K mg base 1 "_law_sign_of" f3 ["_law_at_here", "_law_one", "_law_other"] (spSign K)) (D_l_kept : Df P w K mg base 2 "_law_kept" f4 ["_law_order", "_law_names"] (spKeptL K)) : Df P w K mg base 3 "_law_reckon" f ["_law_orders_here", "_law_names"] (spTold K) := by
  refine F.ok sc_l_reckon (fun vs H Q E h => ?_) (fun cdv A outer s H vs Q E hr h => ?_)
  · obtain ⟨a, b, os, ns, G, R, rfl, _⟩ := h
    rfl
  obtain ⟨a, b, os, ns, G, R, rfl, ok, nok, hx, hb, S, q⟩ := h
  refine ⟨_, (pss_cons (ps_set (i := 2) sc_l_reckon.nd rfl (by first | exact Or.inl rfl | exact Or.inr rfl) (pe_callTy (r := cTup K) call_tupA (by rfl) T.z_tuple (by decide +kernel) (pa_cons (pe_callB (r := rSortA K w) (cr_sortA rfl hr.units) (by rfl) T.z_sorted (by decide +kernel) (pa_cons (pe_lc (own := [("_law_order", 10)]) rfl sc_l_reckon.nd (pi_listK K (pv 0)) (blkOk_by (own := [("_law_order", 10)]) (N := N_l_reckon) (sc := defScope s_l_reckon) (by decide +kernel)) (fun _ _ _ _ _ => (pg_name (i := 10) sc_l_reckon.nd rfl (by first | exact Or.inl rfl | exact Or.inr rfl))) (fun _ _ _ _ _ => (pts_one (pt_cmpR (r := rNeA K) (op_neA hr.units) (pv 10) (pe_tup pa_nil) (nomark _)))) (fun _ _ _ _ _ => (pv 10))) pa_nil)) pa_nil)))
      (pss_cons (ps_set (i := 3) sc_l_reckon.nd rfl (by first | exact Or.inl rfl | exact Or.inr rfl) (pe_lst pa_nil))
      (pss_cons (ps_for PassesOwn.never rfl (pi_listK K (pv 1)) (pg_name (i := 4) sc_l_reckon.nd rfl (by first | exact Or.inl rfl | exact Or.inr rfl)) (pss_one (ps_for PassesOwn.never rfl (pi_listK K (pv 1)) (pg_name (i := 5) sc_l_reckon.nd rfl (by first | exact Or.inl rfl | exact Or.inr rfl)) (pss_cons (ps_par3 (i := 6) (j := 7) (l := 8) rfl sc_l_reckon.nd rfl rfl rfl (by decide) (by decide) (by decide) rfl rfl rfl (pa_cons (pe_df D_l_at (hr.mono (by decide)) (pa_cons (pv 2) (pa_cons (pv 4) pa_nil))) (pa_cons (pe_df D_l_at (hr.mono (by decide)) (pa_cons (pv 2) (pa_cons (pv 5) pa_nil))) (pa_cons pe_non pa_nil))) rfl)
      (pss_cons (ps_if (PW.pt (pw_and (pt_cmpR (r := rNotN) op_notN (pv 6) pe_non (nomark _)) (pw_and1 (pt_cmpR (r := rEqA K) (op_eqA hr.units) (pv 6) (pv 7) (nomark _))))) (pss_one (ps_set (i := 8) sc_l_reckon.nd rfl (by first | exact Or.inl rfl | exact Or.inr rfl) (pe_df D_l_sign_of (hr.mono (by decide)) (pa_cons (pe_df D_l_ranks (hr.mono (by decide)) (pa_cons (pe_ix (r := rIx K) ix_seq (pv 2) (pv 6) (fun _ _ => rfl)) pa_nil)) (pa_cons (pv 4) (pa_cons (pv 5) pa_nil)))))) pss_nil)
      (pss_one (ps_expr (pe_bmK K PySem.F.plainAttrs_list PySem.F.slot_list_append PySem.F.type_list_append mt_append (pv 3) (pa_cons (pe_tup (pa_cons (pv 6) (pa_cons (pe_and (pe_cmpR (r := rNotN) op_notN (pv 6) pe_non (nomark _)) (pe_one (pe_cmpR (r := rEqA K) (op_eqA hr.units) (pv 6) (pv 7) (nomark _)))) (pa_cons (pv 8) pa_nil)))) pa_nil)))))))))
      (pss_cons (ps_set (i := 9) sc_l_reckon.nd rfl (by first | exact Or.inl rfl | exact Or.inr rfl) (pe_callTy (r := cTup K) call_tupA (by rfl) T.z_tuple (by decide +kernel) (pa_cons (pe_callB (r := rSortA K w) (cr_sortA rfl hr.units) (by rfl) T.z_sorted (by decide +kernel) (pa_cons (pe_lc (own := [("_law_order", 10)]) rfl sc_l_reckon.nd (pi_tupK K (pv 2)) (blkOk_by (own := [("_law_order", 10)]) (N := N_l_reckon) (sc := defScope s_l_reckon) (by decide +kernel)) (fun _ _ _ _ _ => (pg_name (i := 10) sc_l_reckon.nd rfl (by first | exact Or.inl rfl | exact Or.inr rfl))) (fun _ _ _ _ _ => (pts_one (pt_cmpR (r := rNeA K) (op_neA hr.units) (pe_df D_l_kept (hr.mono (by decide)) (pa_cons (pv 10) (pa_cons (pe_slice (r := rSlL K) sl_list (pv 1) (po_some pe_int) po_none) pa_nil))) (pe_tup pa_nil) (nomark _)))) (fun _ _ _ _ _ => (pe_df D_l_kept (hr.mono (by decide)) (pa_cons (pv 10) (pa_cons (pe_slice (r := rSlL K) sl_list (pv 1) (po_some pe_int) po_none) pa_nil))))) pa_nil)) pa_nil)))
      (pss_one (ps_ret (pe_lst (pa_cons (pv 2) (pa_cons (pv 3) (pa_cons (pv 9) (pa_cons (pe_lc (own := [("_law_sign", 8)]) rfl sc_l_reckon.nd (pi_tupK K (pe_tup (pa_cons pe_str (pa_cons pe_str (pa_cons pe_str (pa_cons pe_str (pa_cons pe_str pa_nil))))))) (blkOk_by (own := [("_law_sign", 8)]) (N := N_l_reckon) (sc := defScope s_l_reckon) (by decide +kernel)) (fun _ _ _ _ _ => (pg_name (i := 8) sc_l_reckon.nd rfl (by first | exact Or.inl rfl | exact Or.inr rfl))) (fun _ _ _ _ _ => pts_nil) (fun _ _ _ _ _ => (pe_df D_l_at (hr.mono (by decide)) (pa_cons (pv 2) (pa_cons (pv 8) pa_nil))))) pa_nil))))))))))), ?_⟩
  walk_at "go"
  refine r_lcL (l := os) (enc := dOd) S hx (by have := ok.ln; omega) (fun l => if (!l.isEmpty) = true then some l else none) dOd (fun l hl => ?_) (fun D acc G1 H le1 hacc S => ?_)
  · intro D acc Gi x H N le hx hn S kY kN
    obtain ⟨c, ys, rfl, hc, hy⟩ := dp_tupInv (ds := l.map dLv) hx
    walk_at "go"
    refine ⟨rfl, ?_⟩
    walk_at "go"
    have S : Sep (hp Gi :: pt p (.tup []) :: pt D (.lst acc) :: R) H := S.s3 (A := hp Gi) (B := pt p (.tup [])) (C := pt D (.lst acc)) (by walk_at "sel")
    refine r_ne_nilT (hp_dp S hx) (okd_od (ok.each l hl).nms) (by decide) (by walk_at "st") ?_
    have S : Sep (pt D (.lst acc) :: hp Gi :: R) H := S.s2 (A := pt D (.lst acc)) (B := hp Gi) (by walk_at "sel")
    walk_at "go"
    cases l with
    | nil =>
      refine iteF ?_
      exact kN rfl H S
    | cons z l =>
      refine iteT ?_
      walk_at "go"
      exact kY _ _ Gi H Le.rfl rfl hx S
  walk_at "go"
  rw [fm_if] at hacc
  obtain ⟨G2, le2, hd, S⟩ := hp_lst S hacc
  refine r_sortOd (hp_le S) hd (fun o m => ?_) fun p out np ho => ?_
  · have := (List.mem_filter.mp m).2
    intro e
    rw [e] at this
    cases this
  have S := S.new (.lst out) np
  walk_at "go"
  refine r_tupOf S (by walk_at "sq") fun sh H S => ?_
  have S2 : Sep (pt sh (.tup out) :: hp G2 :: R) H := S.s2 (by walk_at "sel")
  obtain ⟨G3, le3, hsh, S⟩ := hp_tup S2 ho
  have leA := (le1.tr le2).tr le3
  clear hacc hd S2 le1 le2 le3
  have okS := ok.shp
  have hsh : Dp K G3 (.ref sh) (dShp (shpO os)) := hsh
  generalize shpO os = s at hsh okS q
  have hb := hb.le leA
  obtain ⟨a3, xs, e, hs, ha⟩ := dp_tupInv (ds := s.map dOd) hsh
  cases e
  have hl : xs.length = s.length := by rw [dpall_len ha, List.length_map]
  walk_at "go"
  rename_i S0
  obtain ⟨Fd, rfl⟩ : ∃ z, z = p := ⟨p, rfl⟩
  have nl := nok.ln
  refine r_for_list (xs := ns.map V.str) (fun i σ Ps => ∃ acc Gi u4 u5 u6 u7 u8 u9 u10, σ = [some (.ref a), some (.ref b), some (.ref sh), some (.ref Fd), u4, u5, u6, u7, u8, u9, u10] ∧ Le G3 Gi ∧ DpAll K Gi acc ((ns.take i).flatMap fun p => ns.map (dTrip s p)) ∧ Ps = pt Fd (.lst acc) :: hp Gi :: R) S ⟨[], G3, _, _, _, _, _, _, _, rfl, Le.rfl, .nil, rfl⟩ (fun i σ Ps H hi ⟨_, _, _, _, _, _, _, _, _, _, le, _, e⟩ S => by subst e; exact hp_sqL S.tl (hb.le le).sq) ?_ ?_
  · rintro i x σ Ps H hi ⟨acc, Gi, u4, u5, u6, u7, u8, u9, u10, rfl, le3, hac, rfl⟩ S
    obtain ⟨p1, hp1, rfl⟩ := str_at hi
    have hi' := (List.getElem?_eq_some_iff.mp hp1).1
    have aln : acc.length ≤ 16 := by
      rw [dpall_len hac, fm_len, List.length_take]
      have : min i ns.length * ns.length ≤ 4 * 4 := Nat.mul_le_mul (by omega) nl
      omega
    walk_at "go"
    refine r_for_list (xs := ns.map V.str) (fun j σ Ps => ∃ acc Gi u5 u6 u7 u8 u9 u10, σ = [some (.ref a), some (.ref b), some (.ref sh), some (.ref Fd), some (.str p1), u5, u6, u7, u8, u9, u10] ∧ Le G3 Gi ∧ DpAll K Gi acc (((ns.take i).flatMap fun p => ns.map (dTrip s p)) ++ (ns.take j).map (dTrip s p1)) ∧ Ps = pt Fd (.lst acc) :: hp Gi :: R) S ⟨acc, Gi, _, _, _, _, _, _, rfl, le3, by rw [List.take_zero, List.map_nil, List.append_nil]; exact hac, rfl⟩ (fun i σ Ps H hi ⟨_, _, _, _, _, _, _, _, _, le, _, e⟩ S => by subst e; exact hp_sqL S.tl (hb.le le).sq) ?_ ?_
    · clear hac le3 aln S acc Gi
      rintro j y σ Ps H hj ⟨acc, Gi, u5, u6, u7, u8, u9, u10, rfl, le3, hac, rfl⟩ S
      obtain ⟨p2, hp2, rfl⟩ := str_at hj
      have aln : acc.length ≤ 20 := by
        rw [dpall_len hac, List.length_append, fm_len, List.length_take, List.length_map, List.length_take]
        have : min i ns.length * ns.length ≤ 4 * 4 := Nat.mul_le_mul (by omega) nl
        omega
      have hsh3 := Dp.le le3 _ _ hsh
      have a1 := okS.apart p1 (nok.no p1 (List.mem_of_getElem? hp1))
      have a2 := okS.apart p2 (nok.no p2 (List.mem_of_getElem? hp2))
      have hst := stO_arr a1 a2
      walk_at "go"
      refine ⟨sh, s, p1, Gi, _, rfl, by have := okS.ln; omega, fun o m => (okS.each o m).sm, hsh3, S.swap, fun H S => ?_⟩
      walk_at "go"
      refine ⟨sh, s, p2, Gi, _, rfl, by have := okS.ln; omega, fun o m => (okS.each o m).sm, hsh3, S, fun H S => ?_⟩
      have fin : ∀ {H v1 v2 v3 p} {σ : L2.St}, Sep (pt p (.tup [v1, v2, v3]) :: pt Fd (.lst (acc ++ [.ref p])) :: hp Gi :: R) H → Dp K Gi v1 (dOpt (arrO s p1)) → Dp K Gi v2 (.bool (stO s p1 p2).isSome) → Dp K Gi v3 (dOptI (stO s p1 p2)) → (∃ u5 u6 u7 u8 u9 u10, σ = [some (.ref a), some (.ref b), some (.ref sh), some (.ref Fd), some (.str p1), u5, u6, u7, u8, u9, u10]) →
          Nx (fun j σ Ps => ∃ acc Gi u5 u6 u7 u8 u9 u10, σ = [some (.ref a), some (.ref b), some (.ref sh), some (.ref Fd), some (.str p1), u5, u6, u7, u8, u9, u10] ∧ Le G3 Gi ∧ DpAll K Gi acc (((ns.take i).flatMap fun p => ns.map (dTrip s p)) ++ (ns.take j).map (dTrip s p1)) ∧ Ps = pt Fd (.lst acc) :: hp Gi :: R) (j + 1) σ H := by
        rintro H v1 v2 v3 p σ S d1 d2 d3 ⟨u5, u6, u7, u8, u9, u10, rfl⟩
        obtain ⟨G6, le6, hd6, S⟩ := hp_tup (K := K) (S.s3 (A := pt p (.tup [v1, v2, v3])) (B := hp Gi) (C := pt Fd (.lst (acc ++ [.ref p]))) (by walk_at "sel")) (.cons d1 (.cons d2 (.cons d3 .nil)))
        refine ⟨_, ⟨acc ++ [.ref p], G6, _, _, _, _, _, _, rfl, le3.tr le6, ?_, rfl⟩, S.swap⟩
        rw [List.take_add_one, hp2, List.map_append, ← List.append_assoc]
        exact dpall_snoc (DpAll.le le6 _ _ hac) hd6
      have S : Sep (pt Fd (.lst acc) :: hp Gi :: R) H := S.swap
      walk_at "go"
      cases e1 : arrO s p1 with
      | none =>
        rw [e1] at hst fin
        have hst : stO s p1 p2 = none := hst
        rw [hst] at fin
        simp only [vOpt]
        refine r_notN ?_
        walk_at "go"
        refine iteNDN rfl ?_
        walk_at "go"
        refine r_notN ?_
        walk_at "go"
        refine iteNDN rfl ?_
        walk_at "go"
        exact fin S .non (.bl _) .non ⟨_, _, _, _, _, _, rfl⟩
      | some i1 =>
        rw [e1] at hst fin
        simp only [vOpt]
        refine r_notN ?_
        walk_at "go"
        refine iteND (fun h => nomatch h) ?_
        walk_at "go"
        cases e2 : arrO s p2 with
        | none =>
          rw [e2] at hst
          have hst : stO s p1 p2 = none := hst
          rw [hst] at fin
          simp only [vOpt]
          refine .inl ⟨rfl, ?_⟩
          walk_at "go"
          refine iteDN (fun h => nomatch h) ?_
          walk_at "go"
          refine r_notN ?_
          walk_at "go"
          refine iteND (fun h => nomatch h) ?_
          walk_at "go"
          refine .inl ⟨rfl, ?_⟩
          walk_at "go"
          exact fin S (.int _) (by have e : decide (V.int (i1 : Int) = V.non) = false := decide_eq_false nofun
                                   rw [e]
                                   exact .bl _) .non ⟨_, _, _, _, _, _, rfl⟩
        | some i2 =>
          rw [e2] at hst
          simp only [vOpt]
          walk_at "go"
          refine q_ite (fun he => ?_) (fun he => ?_)
          · have he : i1 = i2 := by omega
            subst he
            have hst : stO s p1 p2 = if i1 = i1 then cmpO (s.getD i1 []) p1 p2 else none := hst
            rw [if_pos rfl] at hst
            obtain ⟨o, ho, _⟩ := arrO_some e1
            obtain ⟨d, hd, hxd⟩ := dpall_atD ha (d := dOd o) (by rw [List.getElem?_map, ho]; rfl)
            obtain ⟨oa, oys, rfl, _, _⟩ := dp_tupInv (ds := o.map dLv) hxd
            have eg : s.getD i1 [] = o := by rw [List.getD_eq_getElem?_getD, ho]; rfl
            rw [eg] at hst
            walk_at "go"
            refine q_ixT (v := .ref oa) (SqT.le (hp_le S.tl) (SqT.le le3 hs)) (atI_nat hd) ?_
            walk_at "go"
            refine ⟨oa, o, Gi, _, rfl, (okS.each o (List.mem_of_getElem? ho)).sm, Dp.le le3 _ _ hxd, S.swap, fun dd H S => ?_⟩
            walk_at "go"
            refine ⟨dd, rkF 0 o, p1, p2, _, rfl, S, fun H S => ?_⟩
            have hss := stO_isSome a1 a2
            rw [e1, e2] at hss
            have hss : (stO s p1 p2).isSome = true := by rw [hss]; simp
            rw [hss] at fin
            rw [sg_cmp, ← hst]
            have S : Sep (pt Fd (.lst acc) :: hp Gi :: R) H := S.s2 (A := pt Fd (.lst acc)) (B := hp Gi) (by walk_at "sel")
            walk_at "go"
            refine r_notN ?_
            walk_at "go"
            refine iteND (fun h => nomatch h) ?_
            walk_at "go"
            exact fin S (.int _) (by rw [decide_eq_true rfl]; exact .bl _) (dp_optI _) ⟨_, _, _, _, _, _, rfl⟩
          · have hne : ¬ i1 = i2 := fun e => he (by rw [e])
            have hst : stO s p1 p2 = if i1 = i2 then cmpO (s.getD i1 []) p1 p2 else none := hst
            rw [if_neg hne] at hst
            rw [hst] at fin
            walk_at "go"
            refine r_notN ?_
            walk_at "go"
            refine iteND (fun h => nomatch h) ?_
            walk_at "go"
            exact fin S (.int _) (by rw [decide_eq_false he]; exact .bl _) .non ⟨_, _, _, _, _, _, rfl⟩
    · rintro σ Ps H ⟨acc, Gi, u5, u6, u7, u8, u9, u10, rfl, le3, hac, rfl⟩ S
      rw [List.length_map, List.take_length, ← fm_take (f := fun p => ns.map (dTrip s p)) hp1] at hac
      walk_at "go"
      exact ⟨_, ⟨acc, Gi, _, _, _, _, _, _, _, rfl, le3, hac, rfl⟩, S⟩
  · rintro σ Ps H ⟨acc, Gi, u4, u5, u6, u7, u8, u9, u10, rfl, le3, hac, rfl⟩ S
    rw [List.length_map, List.take_length] at hac
    have hsh3 := Dp.le le3 _ _ hsh
    have hb3 := hb.le le3
    walk_at "go"
    have S : Sep (hp Gi :: pt Fd (.lst acc) :: R) H := S.swap
    have hnd : (ns.drop 1).length ≤ 100 := by rw [List.length_drop]; omega
    refine r_lcT (l := s) (enc := dOd) S hsh3 (by have := okS.ln; omega) (fun o => if (!(kpO (ns.drop 1) o).isEmpty) = true then some (kpO (ns.drop 1) o) else none) dOd (fun o m => ?_) (fun D acc2 G4 H le4 hacc S => ?_)
    · intro D acc2 Gj y H N le5 hy hn S kY kN
      obtain ⟨oa, oys, rfl, _, _⟩ := dp_tupInv (ds := o.map dLv) hy
      have oo := okS.each o m
      walk_at "go"
      refine ⟨rfl, ?_⟩
      walk_at "go"
      refine r_suf (n := 1) S.swap (hb3.le le5).dp fun sm G6 H le6 hd6 S => ?_
      rw [← List.map_drop] at hd6
      walk_at "go"
      refine ⟨oa, sm, o, ns.drop 1, G6, _, rfl, oo.sm, oo.asc, oo.nms, hnd, Dp.le le6 _ _ hy, hd6, S, fun t G7 H le7 hd7 S => ?_⟩
      walk_at "go"
      have S : Sep (hp G7 :: pt p (.tup []) :: pt D (.lst acc2) :: pt Fd (.lst acc) :: R) H := S.s4 (A := hp G7) (B := pt p (.tup [])) (C := pt D (.lst acc2)) (D := pt Fd (.lst acc)) (by walk_at "sel")
      refine r_ne_nilT (hp_dp S hd7) (okd_od (kp_nms oo)) (by decide) (by walk_at "st") ?_
      have S : Sep (hp G7 :: pt D (.lst acc2) :: pt Fd (.lst acc) :: R) H := S.s3 (A := hp G7) (B := pt D (.lst acc2)) (C := pt Fd (.lst acc)) (by walk_at "sel")
      rw [List.isEmpty_map]
      walk_at "go"
      refine q_iteB (fun h => ?_) (fun h => ?_)
      · walk_at "go"
        refine r_suf (n := 1) S (hb3.le ((le5.tr le6).tr le7)).dp fun sm G8 H le8 hd8 S => ?_
        rw [← List.map_drop] at hd8
        walk_at "go"
        refine ⟨oa, sm, o, ns.drop 1, G8, _, rfl, oo.sm, oo.asc, oo.nms, hnd, Dp.le ((le6.tr le7).tr le8) _ _ hy, hd8, S, fun t G9 H le9 hd9 S => ?_⟩
        exact kY _ _ G9 H (((le6.tr le7).tr le8).tr le9) (by rw [if_pos h]; rfl) hd9 S.swap
      · exact kN (by rw [if_neg (by rw [h]; decide)]; rfl) H (S.hd_mono fun _ z => (le6.tr le7).tr z).swap
    rw [fm_ifmap] at hacc
    obtain ⟨G5, le5, hd5, S⟩ := hp_lst (K := K) S hacc
    refine r_sortOd (hp_le S) hd5 (fun o m => ?_) fun p out np ho => ?_
    · obtain ⟨o2, m2, rfl⟩ := List.mem_map.mp m
      have := (List.mem_filter.mp m2).2
      intro e
      rw [e] at this
      cases this
    have S := S.new (.lst out) np
    walk_at "go"
    refine r_tupOf S (by walk_at "sq") fun kt H S => ?_
    obtain ⟨G6, le6, hd6, S⟩ := hp_tup (K := K) (R := pt Fd (.lst acc) :: R) (S.s3 (A := pt kt (.tup out)) (B := hp G5) (C := pt Fd (.lst acc)) (by walk_at "sel")) ho
    have hd6 : Dp K G6 (.ref kt) (dShp (keptP s (ns.drop 1))) := by
      rw [keptP_eq]
      exact hd6
    have leB := (le4.tr le5).tr le6
    walk_at "go"
    have S : Sep (pt p (.tup (signs5.map V.str)) :: hp G6 :: pt Fd (.lst acc) :: R) H := S
    obtain ⟨G7, le7, hd7, S⟩ := hp_tup (K := K) S (dpall_strs signs5)
    have hsh7 := Dp.le (leB.tr le7) _ _ hsh3
    refine r_lcT (l := signs5) (enc := PyData.str) S hd7 (by decide) (fun p2 => some p2) (fun p => dOpt (arrO s p)) (fun p2 m => ?_) (fun D acc3 G8 H le8 hacc3 S => ?_)
    · intro D acc3 Gj y H N le9 hy hn S kY kN
      cases dp_strInv hy
      walk_at "go"
      refine ⟨rfl, ?_⟩
      walk_at "go"
      refine ⟨sh, s, p2, Gj, _, rfl, by have := okS.ln; omega, fun o m => (okS.each o m).sm, Dp.le le9 _ _ hsh7, S.swap, fun H S => ?_⟩
      walk_at "go"
      exact kY _ _ Gj H Le.rfl rfl (dp_opt _) S.swap
    · have e : (signs5.filterMap fun p2 => some p2) = signs5 := rfl
      rw [e] at hacc3
      obtain ⟨G9, le9, hd9, S⟩ := hp_lst (K := K) S hacc3
      obtain ⟨G10, le10, hd10, S⟩ := hp_lst (K := K) S.swap (DpAll.le (((leB.tr le7).tr le8).tr le9) _ _ hac)
      walk_at "go"
      obtain ⟨G11, le11, hd11, S⟩ := hp_lst (K := K) S (ds := [dShp s, .list (ns.flatMap fun p => ns.map (dTrip s p)), dShp (keptP s (ns.drop 1)), .list (signs5.map fun p => dOpt (arrO s p))]) (.cons (Dp.le ((le8.tr le9).tr le10) _ _ hsh7) (.cons hd10 (.cons (Dp.le (((le7.tr le8).tr le9).tr le10) _ _ hd6) (.cons (Dp.le le10 _ _ hd9) .nil))))
      exact q _ G11 H ((leA.tr le3).tr ((((leB.tr le7).tr le8).tr le9).tr (le10.tr le11))) hd11 S
end
end Pf

set_option Elab.async false
set_option linter.all false
set_option maxRecDepth 100000
set_option maxHeartbeats 8000000
namespace Pf
open PySem L2 Kt
set_option hygiene false
local macro_rules | `(tactic| walk_at "mem") => `(tactic| (with_reducible (repeat (first | exact Pick.hd | apply Pick.tl)); done))
local macro_rules | `(tactic| walk_at "rep") => `(tactic| (with_reducible (repeat (first | exact Repl.hd | apply Repl.tl)); done))
local macro_rules | `(tactic| walk_at "sel") => `(tactic| ((repeat (with_reducible apply Sel.cons; (focus walk_at "mem"))); (with_reducible apply Sel.nil); (with_reducible (repeat (first | exact Dr.all | apply Dr.skip)); done)))
local macro_rules | `(tactic| walk_at "at") => `(tactic| (refine' Sep.at_ (by assumption) ?kkpk; (case kkpk => walk_at "mem")))
local macro_rules | `(tactic| walk_at "sq") => `(tactic| first | assumption | (refine' Sep.sq (by assumption) ?kkpk; (case kkpk => walk_at "mem")))
local macro_rules | `(tactic| walk_at "st") => `(tactic| first | assumption | (refine' Sep.st (by assumption) ?kkpk; (case kkpk => walk_at "mem")))
local macro_rules | `(tactic| walk_at "lk") => `(tactic| (repeat (first | (with_reducible exact lk_eq) | exact rfl | refine (lk_ne (by decide +kernel)).trans ?_)))
local macro_rules | `(tactic| walk_at "pf") => `(tactic| (repeat (first | (with_reducible exact pf_nil) | (with_reducible exact pf_eq) | (apply pf_ne; (focus decide +kernel)))))
local macro_rules | `(tactic| walk_at "ty") => `(tactic| first | exact ty_int | (refine' ty_lst ?kkh; (case kkh => walk_at "at")))
local macro_rules | `(tactic| walk_at "k1") => `(tactic| with_reducible first
  | refine q_seq ?_ | refine q_set ?_ | refine q_asg ?_ | refine q_ret ?_ | refine q_drop ?_ | refine q_next ?_ | refine q_c ?_ | refine q_op ?_ | refine q_un ?_ | refine q_nil ?_ | refine q_cons ?_ | refine q_cb ?_
  | refine q_call ?_ | refine q_ifs ?_ | refine q_if ?_ | refine q_test ?_ | refine q_tb ?_ | refine q_bl ?_ | refine q_notT ?_ | refine q_andT ?_ | refine q_orT ?_ | refine q_andV ?_ | refine q_orV ?_ | refine q_notV ?_
  | refine q_addA ?_ | refine q_subI ?_ | refine q_ltI ?_ | refine q_leI ?_ | refine q_gtI ?_ | refine q_geI ?_ | refine q_eqI ?_ | refine q_neI ?_ | refine q_abs ?_ | refine q_int ?_ | refine q_intB ?_ | refine q_max ?_ | refine q_min ?_
  | refine q_ipAdd ?_ | refine q_ipSub ?_ | refine q_gsub ?_ | refine q_augs ?_ | refine q_lst ?_ | refine q_tup ?_ | refine q_blI ?_ | refine iteT ?_ | refine iteF ?_ | refine iteNT ?_ | refine iteNF ?_
  | refine r_prop ?_ | refine r_fld ?_ | refine r_sfld ?_ | refine r_meth ?_ | refine r_make ?_ | refine r_sl ?_ | refine r_nopart ?_ | refine r_part ?_ | refine r_parti ?_ | refine r_gsl ?_ | refine r_bm ?_ | refine r_bm0 ?_ | refine r_for ?_ | refine r_ilist ?_ | refine r_irng ?_
  | refine r_gname ?_ | refine r_gcons ?_ | refine r_gnil ?_ | refine r_par ?_ | refine r_parA ?_ | refine r_chain ?_ | refine r_isN ?_ | refine r_tlc ?_ | refine r_yes ?_ | refine r_makek ?_ | refine r_neg ?_)
local macro_rules | `(tactic| walk_at "k2") => `(tactic| first
  | ((with_reducible refine' q_var ?kke ?_); (case kke => rfl))
  | ((with_reducible refine' q_aug ?kke ?_); (case kke => rfl))
  | ((with_reducible refine' q_ixL ?kks ?kke ?_); (case kks => walk_at "sq"); (case kke => first | rfl | assumption))
  | ((with_reducible refine' q_ixT ?kks ?kke ?_); (case kks => walk_at "st"); (case kke => first | rfl | assumption))
  | ((with_reducible refine' q_ixLL ?kks ?kke ?_); (case kks => walk_at "sq"); (case kke => first | rfl | assumption))
  | ((with_reducible refine' q_lenL ?kks ?_); (case kks => walk_at "sq"))
  | ((with_reducible refine' q_mulI ?kkc ?_); (case kkc => first | exact .inl (by omega) | exact .inr (by omega)))
  | ((with_reducible refine' q_modI ?kkc ?_); (case kkc => omega))
  | ((with_reducible refine' q_divI ?kkc ?_); (case kkc => exact ⟨by omega, by omega⟩))
  | ((with_reducible refine' q_powI ?kkc ?_); (case kkc => exact ⟨by decide, by decide, by decide⟩))
  | ((with_reducible refine' r_kfld ?kkS ?kkp ?kkc ?kkn ?kkl ?_); (case kkS => assumption); (case kkp => walk_at "mem"); (case kkc => walk_at "cls"); (case kkn => walk_at "na"); (case kkl => walk_at "lk"))
  | ((with_reducible refine' r_kprop ?kkS ?kkp ?_); (case kkS => assumption); (case kkp => walk_at "mem"))
  | ((with_reducible refine' r_kmeth ?kkS ?kkp ?kkl ?_); (case kkS => assumption); (case kkp => walk_at "mem"); (case kkl => walk_at "lk"))
  | ((with_reducible refine' r_calll ?kks ?_); (case kks => rfl))
  | ((with_reducible refine' r_tyl ?kks ?_); (case kks => walk_at "sq"))
  | ((with_reducible refine' r_isi (k := true) ?kkt ?kke ?_); (case kkt => walk_at "ty"); (case kke => decide +kernel))
  | ((with_reducible refine' r_isi (k := false) ?kkt ?kke ?_); (case kkt => walk_at "ty"); (case kke => decide +kernel)))
local macro_rules | `(tactic| walk_at "k3") => `(tactic| first
  | ((with_reducible refine' q_setS ?kkS ?kkr ?kke ?_); (case kkS => assumption); (case kkr => walk_at "rep"); (case kke => rfl); intro H S)
  | ((with_reducible refine' r_kset ?kkS ?kkr ?kkc ?kkn ?kkl ?kke ?_); (case kkS => assumption); (case kkr => walk_at "rep"); (case kkc => walk_at "cls"); (case kkn => walk_at "na"); (case kkl => first | exact Nat.le_of_ble_eq_true rfl | assumption | omega | (simp; done) | (simp; omega)); (case kke => walk_at "pf"); intro H S)
  | ((with_reducible refine' q_new ?kkS ?kkl ?_); (case kkS => assumption); (case kkl => first | exact Nat.le_of_ble_eq_true rfl | assumption | omega | (simp; done) | (simp; omega)); intro p H S)
  | ((with_reducible refine' q_newT ?kkS ?kkl ?_); (case kkS => assumption); (case kkl => first | exact Nat.le_of_ble_eq_true rfl | assumption | omega | (simp; done) | (simp; omega)); intro p H S)
  | ((with_reducible refine' r_knew ?kkS ?_); (case kkS => assumption); intro x dx H S)
  | ((with_reducible refine' r_knewk ?kkS ?kkl1 ?kkl2 ?_); (case kkS => assumption); (case kkl1 => rfl); (case kkl2 => rfl); intro x dx H S)
  | ((with_reducible refine' r_ksl ?kkS ?kks ?_); (case kkS => assumption); (case kks => walk_at "sq"); intro p H S)
  | ((with_reducible refine' r_list ?kkS ?kks ?_); (case kkS => assumption); (case kks => walk_at "sq"); intro p H S)
  | ((with_reducible refine' r_cat ?kkS ?kks1 ?kks2 ?kkz ?_); (case kkS => assumption); (case kks1 => walk_at "at"); (case kks2 => walk_at "at"); (case kkz => first | omega | (simp; omega)); intro p H S)
  | ((with_reducible refine' r_append ?kkS ?kkr ?kkz ?_); (case kkS => assumption); (case kkr => walk_at "rep"); (case kkz => first | omega | (simp; omega)); intro H S)
  | ((with_reducible refine' r_reverse ?kkS ?kkr ?_); (case kkS => assumption); (case kkr => walk_at "rep"); intro H S)
  | ((with_reducible refine' r_clear ?kkS ?kkr ?_); (case kkS => assumption); (case kkr => walk_at "rep"); intro H S))
local macro_rules | `(tactic| walk_at "gn") => `(tactic| repeat (first | walk_at "k1" | walk_at "k2"))
local macro_rules | `(tactic| walk_at "go") => `(tactic| repeat (first | walk_at "k1" | walk_at "k2" | walk_at "k3"))

local macro_rules | `(tactic| walk_at "sq") => `(tactic| first | assumption | (refine' Sep.sq ?kkS ?kkpk; (case kkS => assumption); (case kkpk => walk_at "mem")) | (refine' hp_sqL ?kkS ?kkx; (case kkS => assumption); (case kkx => assumption)) | (refine' hp_sqL (Sep.tl ?kkS) ?kkx; (case kkS => assumption); (case kkx => assumption)) | (refine' hp_sqL (Sep.tl (Sep.tl ?kkS)) ?kkx; (case kkS => assumption); (case kkx => assumption)))
local macro_rules | `(tactic| walk_at "st") => `(tactic| first | assumption | (refine' Sep.st ?kkS ?kkpk; (case kkS => assumption); (case kkpk => walk_at "mem")) | (refine' hp_sqT ?kkS ?kkx; (case kkS => assumption); (case kkx => assumption)) | (refine' hp_sqT (Sep.tl ?kkS) ?kkx; (case kkS => assumption); (case kkx => assumption)) | (refine' hp_sqT (Sep.tl (Sep.tl ?kkS)) ?kkx; (case kkS => assumption); (case kkx => assumption)))
local macro_rules | `(tactic| walk_at "k1") => `(tactic| with_reducible first | refine r_ienumT ?_ | refine r_tru ?_ | refine r_itup ?_ | refine r_star ?_ | refine r_par3 ?_ | refine r_parA3 ?_ | refine r_dget ?_ | refine r_din ?_ | refine r_dnotin ?_ | refine r_dput ?_)

section
variable {P : Program} {w : World} {K : PySem.W.Frag} {mg : Str → Option Value} {base : Heap} {f_PASSED f_COMMON : Addr}
/-! ### two things that are equal, and shown alike -/
def spAlike (K : PySem.W.Frag) : Sp := fun vs H Q _ => ∃ (a b : Addr) (d : PyData), vs = [.ref a, .ref b] ∧ Dp K H (.ref a) d ∧ Dp K H (.ref b) d ∧ Okd 60 d ∧ d.showable = true ∧ d.hasDict = false ∧ d.shown.length ≤ sizeLine ∧ Q (.bl true) H
theorem sc_l_alike : FnScope N_l_alike ["_law_found", "_law_due"] (defScope s_l_alike) := ⟨rfl, rfl, rfl, by decide +kernel, rfl, by decide +kernel, by decide +kernel⟩
theorem ok_l_alike {f : Addr} (F : Dt K mg "_law_alike" s_l_alike ["_law_found", "_law_due"] f) (T : Tx K mg f_PASSED f_COMMON) : Dg P w K mg base 1 "_law_alike" f ["_law_found", "_law_due"] (spAlike K) := by
  refine F.okG sc_l_alike (fun vs H Q E h => ?_) (fun cdv A outer s H vs Q E hg hr h => ?_)
  · obtain ⟨a, b, d, rfl, _⟩ := h
    rfl
  obtain ⟨a, b, d, rfl, h1, h2, ok, hs, hn, hz, q⟩ := h
  refine ⟨_, (pss_one (ps_ret (pe_and (pe_cmpR (r := rEqA K) (op_eqA hr.units) (pv 0) (pv 1) (nomark _)) (pe_one (pe_cmpR (r := rEqA K) (op_eqA hr.units) (pe_callB (r := cRepr K) (call_reprA hg hr.units) (by rfl) T.z_repr (by decide +kernel) (pa_cons (pv 0) pa_nil)) (pe_callB (r := cRepr K) (call_reprA hg hr.units) (by rfl) T.z_repr (by decide +kernel) (pa_cons (pv 1) pa_nil)) (nomark _)))))), ?_⟩
  walk_at "go"
  refine r_eq_same h1 h2 ok (by decide) ?_
  walk_at "go"
  refine ⟨a, d, rfl, h1, hs, hn, ok.2, hz, ?_⟩
  walk_at "go"
  refine ⟨b, d, rfl, h2, hs, hn, ok.2, hz, ?_⟩
  refine .inl ⟨rfl, ?_⟩
  rw [decide_eq_true (rfl : V.str d.shown = V.str d.shown)]
  exact q
end

/-! ### what is shown is short -/
def namesA : List Str := names7 ++ signs3 ++ (["z"] : List Str)
theorem sh_name {k : Nat} {x : Str} (h : x ∈ namesA) : Sh k 10 (.str x) := by
  have key : ∀ y ∈ namesA, (PyData.strOk y && PyData.showable (.str y) && PyData.leavesShort 64 (.str y) && decide (PyData.weight (.str y) ≤ 10)) = true := by decide +kernel
  have := key x h
  simp only [Bool.and_eq_true, decide_eq_true_eq] at this
  obtain ⟨⟨⟨h1, h2⟩, h3⟩, h4⟩ := this
  exact ⟨okd_str h1, h2, h3, h4⟩
theorem sub_names {x : Str} (h : x ∈ names7 ∨ x ∈ signs3) : x ∈ namesA := List.mem_append_left _ (List.mem_append.mpr h)
theorem sh_up {k W W' : Nat} {d : PyData} (h : Sh k W d) (hW : W ≤ W') : Sh k W' d := h.up (Nat.le_refl _) hW
theorem sh_ln {k W n : Nat} {ds : List PyData} (h : ∀ d ∈ ds, Sh k W d) (hl : ds.length ≤ n) : Sh (k + 1) (n * (W + 1)) (.list ds) := sh_up (sh_list h) (Nat.mul_le_mul_right _ hl)
theorem sh_tn {k W n : Nat} {ds : List PyData} (h : ∀ d ∈ ds, Sh k W d) (hl : ds.length ≤ n) : Sh (k + 1) (n * (W + 1)) (.tuple ds) := sh_up (sh_tuple h) (Nat.mul_le_mul_right _ hl)
theorem sh_od {o : Od} (h : OrdOk o) : Sh 2 1110 (dOd o) := by
  refine sh_tn (n := 10) (W := 110) (fun d m => ?_) (by rw [List.length_map]; exact h.ln)
  obtain ⟨l, ml, rfl⟩ := List.mem_map.mp m
  refine sh_tn (n := 10) (W := 10) (fun d m => ?_) (by rw [List.length_map]; exact h.lv ml)
  obtain ⟨x, mx, rfl⟩ := List.mem_map.mp m
  exact sh_name (sub_names (h.sub x (List.mem_flatten.mpr ⟨l, ml, mx⟩)))
theorem sh_shp {s : List Od} (h : ∀ o ∈ s, OrdOk o) (hl : s.length ≤ 4) : Sh 3 4444 (dShp s) := by
  refine sh_tn (n := 4) (W := 1110) (fun d m => ?_) (by rw [List.length_map]; exact hl)
  obtain ⟨o, mo, rfl⟩ := List.mem_map.mp m
  exact sh_od (h o mo)
theorem sh_ods {s : List Od} (h : ∀ o ∈ s, OrdOk o) (hl : s.length ≤ 4) : Sh 3 4444 (dOds s) := by
  refine sh_ln (n := 4) (W := 1110) (fun d m => ?_) (by rw [List.length_map]; exact hl)
  obtain ⟨o, mo, rfl⟩ := List.mem_map.mp m
  exact sh_od (h o mo)
theorem only_ok {o : Od} (qs : List Str) (h : OrdOk o) : OrdOk (onlyO qs o) := by
  refine ⟨?_, ?_, fun l m => onlyO_ne m, fun l m => ?_, fun x m => ?_⟩
  · rw [onlyO_flat]; exact h.nd.filter _
  · rw [onlyO_flat]
    have := List.length_filter_le (fun x : Str => decide (x ∈ qs)) o.flatten
    have := h.fl
    omega
  · obtain ⟨y, hy, rfl⟩ := List.mem_map.mp (List.mem_filter.mp m).1
    exact asc_filter _ (h.asc y hy)
  · rw [onlyO_flat] at m
    exact h.sub x (List.mem_filter.mp m).1
theorem sh_kept {s : List Od} {ns : List Str} (h : OrdsOk s) : Sh 3 4444 (dShp (keptP s ns)) := by
  refine sh_shp (fun o m => ?_) ?_
  · obtain ⟨y, hy, rfl⟩ := List.mem_map.mp (shpO_mem.mp m).1
    exact only_ok _ (h.each y (List.mem_filter.mp hy).1)
  · unfold keptP
    rw [(shpO_perm _).length_eq]
    refine Nat.le_trans (List.length_filter_le _ _) ?_
    rw [List.length_map]
    exact Nat.le_trans (List.length_filter_le _ _) h.ln
theorem sh_opt {k : Nat} {s : List Od} {p : Str} (hl : s.length ≤ 4) : Sh k 200 (dOpt (arrO s p)) := by
  cases e : arrO s p with
  | none => exact sh_up sh_non (by decide)
  | some i =>
    obtain ⟨o, ho, _⟩ := arrO_some e
    have := (List.getElem?_eq_some_iff.mp ho).1
    exact sh_int (Nat.lt_of_lt_of_le (m := 4) (by show (i : Int).natAbs < 4; omega) (by decide))
theorem stO_le {s : List Od} {p q : Str} {z : Int} (h : stO s p q = some z) : z.natAbs ≤ 1 := by
  obtain ⟨o, _, ho⟩ := List.exists_of_findSome?_eq_some h
  unfold cmpO at ho
  split at ho
  · have ho := Option.some.inj ho
    split at ho
    · omega
    · split at ho <;> omega
  · cases ho
theorem sh_sg {k : Nat} {s : List Od} {p q : Str} : Sh k 200 (dOptI (stO s p q)) := by
  cases e : stO s p q with
  | none => exact sh_up sh_non (by decide)
  | some i => exact sh_int (Nat.lt_of_le_of_lt (stO_le e) (by decide))
theorem sh_told {s : List Od} {ns : List Str} (h : OrdsOk s) (hn : ns.length ≤ 4) : Sh 4 38660 (dTold s ns) := by
  refine sh_ln (n := 4) (W := 9664) (fun d m => ?_) (Nat.le_refl _)
  simp only [List.mem_cons, List.not_mem_nil, or_false] at m
  rcases m with rfl | rfl | rfl | rfl
  · exact sh_up (sh_shp h.each h.ln) (by decide)
  · refine Sh.up (k := 2) (sh_ln (k := 1) (n := 16) (W := 603) (fun d m => ?_) ?_) (by decide) (Nat.le_refl _)
    · obtain ⟨p, _, m⟩ := List.mem_flatMap.mp m
      obtain ⟨q, _, rfl⟩ := List.mem_map.mp m
      refine sh_tn (k := 0) (n := 3) (W := 200) (fun d m => ?_) (Nat.le_refl _)
      simp only [List.mem_cons, List.not_mem_nil, or_false] at m
      rcases m with rfl | rfl | rfl
      · exact sh_opt h.ln
      · exact sh_up (sh_bl _) (by decide)
      · exact sh_sg
    · rw [fm_len]
      exact Nat.mul_le_mul hn hn
  · exact sh_up (sh_kept h) (by decide)
  · refine Sh.up (k := 1) (W := 1005) (sh_ln (k := 0) (n := 5) (W := 200) (fun d m => ?_) (Nat.le_refl _)) (by decide) (by decide)
    obtain ⟨p, _, rfl⟩ := List.mem_map.mp m
    exact sh_opt h.ln
theorem sh_seen {oss : List (List Od)} {ns : List Str} (h : ∀ os ∈ oss, OrdsOk os) (hl : oss.length ≤ 2) (hn : ns.length ≤ 4) (hN : ∀ x ∈ ns, x ∈ namesA) : Sh 5 17782 (.list [.list (oss.map dOds), dNs ns]) := by
  refine sh_ln (k := 4) (n := 2) (W := 8890) (fun d m => ?_) (Nat.le_refl _)
  simp only [List.mem_cons, List.not_mem_nil, or_false] at m
  rcases m with rfl | rfl
  · refine sh_ln (k := 3) (n := 2) (W := 4444) (fun d m => ?_) (by rw [List.length_map]; exact hl)
    obtain ⟨os, mo, rfl⟩ := List.mem_map.mp m
    exact sh_ods (h os mo).each (h os mo).ln
  · refine Sh.up (k := 1) (W := 44) (sh_ln (k := 0) (n := 4) (W := 10) (fun d m => ?_) (by rw [List.length_map]; exact hn)) (by decide) (by decide)
    obtain ⟨x, mx, rfl⟩ := List.mem_map.mp m
    exact sh_name (hN x mx)
section
variable {P : Program} {w : World} {K : PySem.W.Frag} {mg : Str → Option Value} {base : Heap} {f_PASSED f_COMMON : Addr}
def spLaw (K : PySem.W.Frag) : Sp := fun vs H Q _ => ∃ (a : Addr) (ns : List Int), vs = [.ref a] ∧ SqL K H a (ns.map V.int) ∧ ns.length ≤ 63 ∧ ∀ H', Q (.bl true) H'
def names6 : List Str := ["a", "b", "c", "d", "ab", "z"]
theorem sc_law : FnScope N_law ["_law_script"] (defScope s_law) := ⟨rfl, rfl, rfl, by decide +kernel, rfl, by decide +kernel, by decide +kernel⟩
theorem ok_law {f f1 f2 f3 f4 f5 f6 : Addr} {fd : FuncData} (F : Fun K "law" "law" s_law f fd) (T : Tx K mg f_PASSED f_COMMON) (D_l_bag : Df P w K mg base 1 "_law_bag" f2 ["_law_script"] (spBag K)) (D_l_mixed : Df P w K mg base 2 "_law_mixed" f1 ["_law_bag_here", "_law_things"] (spMixed K)) (D_l_orders : Df P w K mg base 4 "_law_orders" f3 ["_law_bag_here"] (spOrders K))
    (D_l_reckon : Df P w K mg base 3 "_law_reckon" f4 ["_law_orders_here", "_law_names"] (spTold K)) (D_l_told : Df P w K mg base 5 "_law_told" f5 ["_law_orders_here", "_law_names"] (spTold K)) (D_l_alike : Dg P w K mg base 1 "_law_alike" f6 ["_law_found", "_law_due"] (spAlike K)) : FnG P w K mg base 8 f fd ["_law_script"] (spLaw K) := by
  refine fnG_ok F sc_law (fun vs H Q E h => ?_) (fun cdv A outer s H vs Q E hg hr h => ?_)
  · obtain ⟨a, ns, rfl, _⟩ := h
    rfl
  obtain ⟨a, ns, rfl, hq, hl, q⟩ := h
  refine ⟨_, (pss_cons (ps_set (i := 1) sc_law.nd rfl (by first | exact Or.inl rfl | exact Or.inr rfl) (pe_df D_l_bag (hr.mono (by decide)) (pa_cons (pv 0) pa_nil)))
      (pss_cons (ps_for PassesOwn.never rfl (pi_range1 rfl T.z_range (pa_cons pe_int pa_nil)) (pg_name (i := 2) sc_law.nd rfl (by first | exact Or.inl rfl | exact Or.inr rfl)) (pss_cons (ps_asg (pe_tup (pa_cons (pe_lc (own := [("_law_k", 7)]) rfl sc_law.nd (pi_range1 rfl T.z_range (pa_cons pe_int pa_nil)) (blkOk_by (own := [("_law_k", 7)]) (N := N_law) (sc := defScope s_law) (by decide +kernel)) (fun _ _ _ _ _ => (pg_name (i := 7) sc_law.nd rfl (by first | exact Or.inl rfl | exact Or.inr rfl))) (fun _ _ _ _ _ => pts_nil) (fun _ _ _ _ _ => (pe_df D_l_orders (hr.mono (by decide)) (pa_cons (pv 1) pa_nil)))) (pa_cons (pe_slice (r := rSlL K) sl_list (pe_df D_l_mixed (hr.mono (by decide)) (pa_cons (pv 1) (pa_cons (pe_lst (pa_cons pe_str (pa_cons pe_str (pa_cons pe_str (pa_cons pe_str (pa_cons pe_str (pa_cons pe_str pa_nil))))))) pa_nil))) po_none (po_some pe_int)) pa_nil))) (pg_tupK K rfl (pgs_cons (pg_name (i := 3) sc_law.nd rfl (by first | exact Or.inl rfl | exact Or.inr rfl)) (pgs_cons (pg_name (i := 4) sc_law.nd rfl (by first | exact Or.inl rfl | exact Or.inr rfl)) pgs_nil))))
      (pss_cons (ps_par (i := 5) (j := 6) rfl sc_law.nd rfl rfl (by decide) rfl rfl (pa_cons (pe_lc (own := [("_law_orders_here", 8)]) rfl sc_law.nd (pi_listK K (pv 3)) (blkOk_by (own := [("_law_orders_here", 8)]) (N := N_law) (sc := defScope s_law) (by decide +kernel)) (fun _ _ _ _ _ => (pg_name (i := 8) sc_law.nd rfl (by first | exact Or.inl rfl | exact Or.inr rfl))) (fun _ _ _ _ _ => pts_nil) (fun _ _ _ _ _ => (pe_df D_l_reckon (hr.mono (by decide)) (pa_cons (pv 8) (pa_cons (pv 4) pa_nil))))) (pa_cons (pe_callB (r := cRepr K) (call_reprA hg hr.units) (by rfl) T.z_repr (by decide +kernel) (pa_cons (pe_lst (pa_cons (pv 3) (pa_cons (pv 4) pa_nil))) pa_nil)) pa_nil)) rfl)
      (pss_one (ps_for PassesOwn.never rfl (pi_tupK K (pe_tup (pa_cons pe_int (pa_cons pe_int (pa_cons pe_int (pa_cons pe_int pa_nil)))))) (pg_name (i := 7) sc_law.nd rfl (by first | exact Or.inl rfl | exact Or.inr rfl)) (pss_one (ps_if (PW.pt (pw_or (pt_not (pt_val (pe_dg D_l_alike hg (hr.mono (by decide)) (pa_cons (pe_df D_l_told (hr.mono (by decide)) (pa_cons (pe_ix (r := rIx K) ix_seq (pv 3) (pv 7) (fun _ _ => rfl)) (pa_cons (pv 4) pa_nil))) (pa_cons (pe_ix (r := rIx K) ix_seq (pv 5) (pv 7) (fun _ _ => rfl)) pa_nil))))) (pw_or1 (pt_cmpR (r := rNeA K) (op_neA hr.units) (pe_callB (r := cRepr K) (call_reprA hg hr.units) (by rfl) T.z_repr (by decide +kernel) (pa_cons (pe_lst (pa_cons (pv 3) (pa_cons (pv 4) pa_nil))) pa_nil)) (pv 6) (nomark _))))) (pss_one (ps_ret pe_bl)) pss_nil)))))))
      (pss_one (ps_ret pe_bl)))), ?_⟩
  have S0 : Sep [] H := trivial
  walk_at "go"
  refine ⟨a, ns, [], rfl, hq, hl, S0, fun b H S => ?_⟩
  clear S0
  have S := hp_nil S
  walk_at "go"
  refine r_for_rng (fun i σ Ps => ∃ u2 u3 u4 u5 u6 u7 u8 G R, σ = [some (.ref a), some (.ref b), u2, u3, u4, u5, u6, u7, u8] ∧ Ps = hp G :: bag b :: R) S (by decide) (by decide) ⟨_, _, _, _, _, _, _, _, _, rfl, rfl⟩ ?_ ?_
  · rintro i σ Ps H hi ⟨u2, u3, u4, u5, u6, u7, u8, G, R, rfl, rfl⟩ S
    walk_at "go"
    refine r_lc_rng (fun i acc Ps => ∃ oss Gi, acc.length = i ∧ oss.length = i ∧ (∀ os ∈ oss, OrdsOk os) ∧ Le G Gi ∧ DpAll K Gi acc (oss.map dOds) ∧ Ps = hp Gi :: bag b :: R) S (by decide) (by decide) ⟨[], G, rfl, rfl, nofun, Le.rfl, .nil, rfl⟩ ?_ ?_
    · rintro D i acc Ps H hi ⟨oss, Gi, hac, hos, hok, le, hd, rfl⟩ S
      have hi : i < 2 := hi
      walk_at "go"
      refine ⟨rfl, ?_⟩
      walk_at "go"
      refine ⟨b, Gi, _, rfl, S.s2 (A := hp Gi) (B := bag b) (by walk_at "sel"), fun t os G2 H ok le2 hd2 S => ?_⟩
      refine cn_in (Ps := hp G2 :: bag b :: R) (S.s3 (A := pt D (.lst acc)) (B := hp G2) (C := bag b) (by walk_at "sel")) (by omega) ⟨oss ++ [os], G2, by rw [List.length_append, hac]; rfl, by rw [List.length_append, hos]; rfl, fun x m => ?_, le.tr le2, ?_, rfl⟩
      · rcases List.mem_append.mp m with m | m
        · exact hok x m
        · rw [List.mem_singleton] at m; subst m; exact ok
      · rw [List.map_append]
        exact dpall_snoc (DpAll.le le2 _ _ hd) hd2
    · rintro D acc Ps H ⟨oss, Gi, hac, hos, hok, le, hd, rfl⟩ S
      have hos : oss.length = 2 := hos
      obtain ⟨G2, le2, hsv, S⟩ := hp_LD (K := K) S hd
      walk_at "go"
      have S : Sep (pt p (.lst (names6.map V.str)) :: hp G2 :: bag b :: R) H := S
      obtain ⟨G3, le3, hd3, S⟩ := hp_lst (K := K) S (dpall_strs names6)
      refine ⟨b, p, names6, G3, _, rfl, by decide, hd3, S, fun nm rn0 G4 H hm le4 hd4 S => ?_⟩
      walk_at "go"
      refine r_pre (n := 4) S hd4.dp fun nn G5 H le5 hn S => ?_
      rw [← List.map_take] at hn
      have h6 : ∀ x ∈ rn0.take 4, x ∈ names6 := fun x m => hm.mem_iff.mp (List.mem_of_mem_take m)
      have hN : ∀ x ∈ rn0.take 4, x ∈ namesA := fun x m => (show ∀ y ∈ names6, y ∈ namesA by decide +kernel) x (h6 x m)
      have nok : NsOk (rn0.take 4) := ⟨by rw [List.length_take]; omega, fun x m => (show ∀ y ∈ names6, PyData.strOk y = true by decide +kernel) x (h6 x m), fun x m => (show ∀ y ∈ names6, y ∉ signs3 by decide) x (h6 x m)⟩
      generalize rn0.take 4 = ms at hn nok hN
      clear h6 hm hd4
      walk_at "go"
      refine r_gtup (xs := [.ref D, .ref nn]) (by walk_at "st") rfl ?_
      walk_at "go"
      have S := S.tl
      have hsv5 := hsv.le ((le3.tr le4).tr le5)
      obtain ⟨svs, esv, dsv⟩ := id hsv5
      refine r_lcL (l := oss) (enc := dOds) S hsv5.dp (by omega) (fun os => some (shpO os)) (fun s => dTold s ms) (fun os mo => ?_) (fun D2 acc2 G6 H le6 hacc2 S => ?_)
      · intro D2 acc2 Gj y H N le7 hy hnn S kY kN
        obtain ⟨oa, oys, rfl, _, _⟩ := dp_lstInv (ds := os.map dOd) hy
        walk_at "go"
        refine ⟨rfl, ?_⟩
        walk_at "go"
        refine ⟨oa, nn, os, ms, Gj, _, rfl, hok os mo, nok, hy, hn.le le7, S.swap, fun t G8 H le8 hd8 S => ?_⟩
        exact kY _ _ G8 H le8 rfl hd8 S.swap
      · obtain ⟨G7, le7, hdu, S⟩ := hp_LD (K := K) S hacc2
        rw [fm_map, List.map_map] at hdu
        obtain ⟨dvs, edv, ddv⟩ := id hdu
        walk_at "go"
        obtain ⟨G8, le8, hd8, S⟩ := hp_lst (K := K) S (ds := [.list (oss.map dOds), dNs ms]) (.cons (hsv5.le (le6.tr le7)).dp (.cons (hn.le (le6.tr le7)).dp .nil))
        have hsh := sh_seen hok (by omega) nok.ln hN
        refine ⟨_, _, rfl, hp_dp S hd8, hsh.sh, hsh.nd, Nat.le_trans hsh.ok.2 (by decide), hsh.fits (by decide), ?_⟩
        generalize hsw : (PyData.list [.list (oss.map dOds), dNs ms]).shown = shw
        walk_at "go"
        obtain ⟨tp, rfl⟩ : ∃ z, z = p := ⟨p, rfl⟩
        refine r_for_tup (xs := [.int 0, .int 1, .int 0, .int 1]) (fun j σ Ps => ∃ u7 u8 Gi, σ = [some (.ref a), some (.ref b), some (.int i), some (.ref D), some (.ref nn), some (.ref D2), some (.str shw), u7, u8] ∧ Le G8 Gi ∧ Ps = pt tp (.tup [.int 0, .int 1, .int 0, .int 1]) :: hp Gi :: bag b :: R) S ⟨_, _, _, rfl, Le.rfl, rfl⟩ (fun i σ Ps H hi ⟨_, _, _, _, _, e⟩ S => by subst e; walk_at "st") ?_ ?_
        · rintro j x σ Ps H hx ⟨u7, u8, Gi, rfl, le9, rfl⟩ S
          obtain ⟨k, hk, rfl⟩ : ∃ k : Nat, k < 2 ∧ V.int k = x := by
            have m := List.mem_of_getElem? hx
            simp only [List.mem_cons, List.not_mem_nil, or_false] at m
            rcases m with rfl | rfl | rfl | rfl
            · exact ⟨0, by decide, rfl⟩
            · exact ⟨1, by decide, rfl⟩
            · exact ⟨0, by decide, rfl⟩
            · exact ⟨1, by decide, rfl⟩
          obtain ⟨os, hos1⟩ : ∃ os, oss[k]? = some os := ⟨oss[k], List.getElem?_eq_getElem (by omega)⟩
          obtain ⟨x1, hx1, hd1⟩ := dpall_atD dsv (d := dOds os) (by rw [List.getElem?_map, hos1]; rfl)
          obtain ⟨x2, hx2, hd2⟩ := dpall_atD ddv (d := dTold (shpO os) ms) (by rw [List.getElem?_map, hos1]; rfl)
          obtain ⟨oa, _, rfl, _, _⟩ := dp_lstInv (ds := os.map dOd) hd1
          obtain ⟨ob, _, rfl, _, _⟩ := dp_lstInv hd2
          have hoo := hok os (List.mem_of_getElem? hos1)
          have S : Sep (hp Gi :: pt tp (.tup [.int 0, .int 1, .int 0, .int 1]) :: bag b :: R) H := S.swap
          have leC := ((le6.tr le7).tr le8).tr le9
          walk_at "go"
          refine q_ixL (v := .ref oa) (SqL.of (hp_le S _ _ (leC _ _ esv))) (atI_nat hx1) ?_
          walk_at "go"
          refine ⟨oa, nn, os, ms, Gi, _, rfl, hoo, nok, Dp.le leC _ _ hd1, hn.le leC, S, fun t G10 H le10 hd10 S => ?_⟩
          walk_at "go"
          refine q_ixL (v := .ref ob) (SqL.of (hp_le S _ _ (((le8.tr le9).tr le10) _ _ edv))) (atI_nat hx2) ?_
          walk_at "go"
          have hst := sh_told hoo.shp nok.ln
          refine ⟨t, ob, _, rfl, hp_dp S hd10, hp_dp S (Dp.le ((le8.tr le9).tr le10) _ _ hd2), ⟨hst.ok.1, Nat.le_trans hst.ok.2 (by decide)⟩, hst.sh, hst.nd, hst.fits (by decide), ?_⟩
          walk_at "go"
          obtain ⟨G11, le11, hd11, S⟩ := hp_lst (K := K) S (ds := [.list (oss.map dOds), dNs ms]) (.cons (hsv5.le (leC.tr le10)).dp (.cons (hn.le (leC.tr le10)).dp .nil))
          refine ⟨_, _, rfl, hp_dp S hd11, hsh.sh, hsh.nd, Nat.le_trans hsh.ok.2 (by decide), hsh.fits (by decide), ?_⟩
          rw [hsw]
          walk_at "go"
          refine .inl ⟨rfl, ?_⟩
          walk_at "go"
          refine iteNDN rfl ?_
          walk_at "go"
          exact ⟨_, ⟨_, _, G11, rfl, (le9.tr le10).tr le11, rfl⟩, S.swap⟩
        · rintro σ Ps H ⟨u7, u8, Gi, rfl, le9, rfl⟩ S
          exact ⟨_, ⟨_, _, _, _, _, _, _, Gi, R, rfl, rfl⟩, S.tl⟩
  · rintro σ Ps H ⟨u2, u3, u4, u5, u6, u7, u8, G, R, rfl, rfl⟩ S
    walk_at "go"
    exact q _
end
end Pf

set_option Elab.async false
set_option linter.all false
set_option maxRecDepth 100000
set_option maxHeartbeats 8000000
namespace Pf
open PySem L2 Kt
theorem vals_app {vs ws : List V} {us zs : List Value} (r1 : Vals vs us) (r2 : Vals ws zs) : Vals (vs ++ ws) (us ++ zs) := by
  induction r1 with
  | nil => exact r2
  | cons h _ ih => exact .cons h ih
theorem all_mk {l : PySem.W.OpenLaw} {w : World} {K : PySem.W.Frag} {h : Heap} {mg : Str → Option Value} {fa : Addr} (X : K.In h) (G : h.Ns mainGlobals mg) (hfa : mg "law" = some (.ref fa))
    {f_level_of f_compare f_without_empty f_only f_shape_of f_array_of f_stands f_share f_kept_points f_l_bag f_l_take f_l_alike f_l_mixed f_l_drawn_order f_l_as_order f_l_ranks f_l_order_of f_l_sign_of f_l_orders f_l_at f_l_kept f_l_reckon f_l_told f_law f_PASSED f_COMMON : Addr} {od1 an1 od2 an2 od3 an3 od4 an4 od5 an5 od6 an6 od7 an7 od8 an8 od9 an9 od10 an10 od11 an11 od12 an12 od13 an13 od14 an14 od15 an15 od16 an16 od17 an17 od18 an18 od19 an19 od20 an20 od21 an21 od22 an22 od23 an23 od24 an24 od_PASSED od_COMMON : Option Addr} {sl1 sl2 sl3 sl4 sl5 sl6 sl7 sl8 sl9 sl10 sl11 sl12 sl13 sl14 sl15 sl16 sl17 sl18 sl19 sl20 sl21 sl22 sl23 sl24 sl_PASSED sl_COMMON : Array (Option Value)} {oc1 kV1 dc1 pm1 cd1 ct1 oc2 kV2 dc2 pm2 cd2 ct2 oc3 kV3 dc3 pm3 cd3 ct3 oc4 kV4 dc4 pm4 cd4 ct4 oc5 kV5 dc5 pm5 cd5 ct5 oc6 kV6 dc6 pm6 cd6 ct6 oc7 kV7 dc7 pm7 cd7 ct7 oc8 kV8 dc8 pm8 cd8 ct8 oc9 kV9 dc9 pm9 cd9 ct9 oc10 kV10 dc10 pm10 cd10 ct10 oc11 kV11 dc11 pm11 cd11 ct11 oc12 kV12 dc12 pm12 cd12 ct12 oc13 kV13 dc13 pm13 cd13 ct13 oc14 kV14 dc14 pm14 cd14 ct14 oc15 kV15 dc15 pm15 cd15 ct15 oc16 kV16 dc16 pm16 cd16 ct16 oc17 kV17 dc17 pm17 cd17 ct17 oc18 kV18 dc18 pm18 cd18 ct18 oc19 kV19 dc19 pm19 cd19 ct19 oc20 kV20 dc20 pm20 cd20 ct20 oc21 kV21 dc21 pm21 cd21 ct21 oc22 kV22 dc22 pm22 cd22 ct22 oc23 kV23 dc23 pm23 cd23 ct23 oc24 kV24 dc24 pm24 cd24 ct24 : Value}
    {tk_PASSED_0 tk_PASSED_1 nn_PASSED tk_COMMON_0 tk_COMMON_1 tk_COMMON_2 nn_COMMON : Nat}
    (a_level_of : PySem.W.nsIn K mainGlobals "level_of" = some (some (.ref f_level_of)))
    (l1 : K.lookup f_level_of = some ⟨oc1, od1, .func (PySem.W.fnOf "level_of" "level_of" (defArgs s_level_of) (defBody s_level_of) (defScope s_level_of) .none kV1 dc1 pm1 an1 cd1 ct1), sl1⟩)
    (c1 : PySem.W.codeIn K cd1 "level_of" = true)
    (k1 : PySem.W.keepIn K (.ref f_level_of) = true)
    (a_compare : PySem.W.nsIn K mainGlobals "compare" = some (some (.ref f_compare)))
    (l2 : K.lookup f_compare = some ⟨oc2, od2, .func (PySem.W.fnOf "compare" "compare" (defArgs s_compare) (defBody s_compare) (defScope s_compare) .none kV2 dc2 pm2 an2 cd2 ct2), sl2⟩)
    (c2 : PySem.W.codeIn K cd2 "compare" = true)
    (k2 : PySem.W.keepIn K (.ref f_compare) = true)
    (a_without_empty : PySem.W.nsIn K mainGlobals "_without_empty" = some (some (.ref f_without_empty)))
    (l3 : K.lookup f_without_empty = some ⟨oc3, od3, .func (PySem.W.fnOf "_without_empty" "_without_empty" (defArgs s_without_empty) (defBody s_without_empty) (defScope s_without_empty) .none kV3 dc3 pm3 an3 cd3 ct3), sl3⟩)
    (c3 : PySem.W.codeIn K cd3 "_without_empty" = true)
    (k3 : PySem.W.keepIn K (.ref f_without_empty) = true)
    (a_only : PySem.W.nsIn K mainGlobals "only" = some (some (.ref f_only)))
    (l4 : K.lookup f_only = some ⟨oc4, od4, .func (PySem.W.fnOf "only" "only" (defArgs s_only) (defBody s_only) (defScope s_only) .none kV4 dc4 pm4 an4 cd4 ct4), sl4⟩)
    (c4 : PySem.W.codeIn K cd4 "only" = true)
    (k4 : PySem.W.keepIn K (.ref f_only) = true)
    (a_shape_of : PySem.W.nsIn K mainGlobals "shape_of" = some (some (.ref f_shape_of)))
    (l5 : K.lookup f_shape_of = some ⟨oc5, od5, .func (PySem.W.fnOf "shape_of" "shape_of" (defArgs s_shape_of) (defBody s_shape_of) (defScope s_shape_of) .none kV5 dc5 pm5 an5 cd5 ct5), sl5⟩)
    (c5 : PySem.W.codeIn K cd5 "shape_of" = true)
    (k5 : PySem.W.keepIn K (.ref f_shape_of) = true)
    (a_array_of : PySem.W.nsIn K mainGlobals "array_of" = some (some (.ref f_array_of)))
    (l6 : K.lookup f_array_of = some ⟨oc6, od6, .func (PySem.W.fnOf "array_of" "array_of" (defArgs s_array_of) (defBody s_array_of) (defScope s_array_of) .none kV6 dc6 pm6 an6 cd6 ct6), sl6⟩)
    (c6 : PySem.W.codeIn K cd6 "array_of" = true)
    (k6 : PySem.W.keepIn K (.ref f_array_of) = true)
    (a_stands : PySem.W.nsIn K mainGlobals "stands" = some (some (.ref f_stands)))
    (l7 : K.lookup f_stands = some ⟨oc7, od7, .func (PySem.W.fnOf "stands" "stands" (defArgs s_stands) (defBody s_stands) (defScope s_stands) .none kV7 dc7 pm7 an7 cd7 ct7), sl7⟩)
    (c7 : PySem.W.codeIn K cd7 "stands" = true)
    (k7 : PySem.W.keepIn K (.ref f_stands) = true)
    (a_share : PySem.W.nsIn K mainGlobals "share" = some (some (.ref f_share)))
    (l8 : K.lookup f_share = some ⟨oc8, od8, .func (PySem.W.fnOf "share" "share" (defArgs s_share) (defBody s_share) (defScope s_share) .none kV8 dc8 pm8 an8 cd8 ct8), sl8⟩)
    (c8 : PySem.W.codeIn K cd8 "share" = true)
    (k8 : PySem.W.keepIn K (.ref f_share) = true)
    (a_kept_points : PySem.W.nsIn K mainGlobals "kept_points" = some (some (.ref f_kept_points)))
    (l9 : K.lookup f_kept_points = some ⟨oc9, od9, .func (PySem.W.fnOf "kept_points" "kept_points" (defArgs s_kept_points) (defBody s_kept_points) (defScope s_kept_points) .none kV9 dc9 pm9 an9 cd9 ct9), sl9⟩)
    (c9 : PySem.W.codeIn K cd9 "kept_points" = true)
    (k9 : PySem.W.keepIn K (.ref f_kept_points) = true)
    (a_l_bag : PySem.W.nsIn K mainGlobals "_law_bag" = some (some (.ref f_l_bag)))
    (l10 : K.lookup f_l_bag = some ⟨oc10, od10, .func (PySem.W.fnOf "_law_bag" "_law_bag" (defArgs s_l_bag) (defBody s_l_bag) (defScope s_l_bag) .none kV10 dc10 pm10 an10 cd10 ct10), sl10⟩)
    (c10 : PySem.W.codeIn K cd10 "_law_bag" = true)
    (k10 : PySem.W.keepIn K (.ref f_l_bag) = true)
    (a_l_take : PySem.W.nsIn K mainGlobals "_law_take" = some (some (.ref f_l_take)))
    (l11 : K.lookup f_l_take = some ⟨oc11, od11, .func (PySem.W.fnOf "_law_take" "_law_take" (defArgs s_l_take) (defBody s_l_take) (defScope s_l_take) .none kV11 dc11 pm11 an11 cd11 ct11), sl11⟩)
    (c11 : PySem.W.codeIn K cd11 "_law_take" = true)
    (k11 : PySem.W.keepIn K (.ref f_l_take) = true)
    (a_l_alike : PySem.W.nsIn K mainGlobals "_law_alike" = some (some (.ref f_l_alike)))
    (l12 : K.lookup f_l_alike = some ⟨oc12, od12, .func (PySem.W.fnOf "_law_alike" "_law_alike" (defArgs s_l_alike) (defBody s_l_alike) (defScope s_l_alike) .none kV12 dc12 pm12 an12 cd12 ct12), sl12⟩)
    (c12 : PySem.W.codeIn K cd12 "_law_alike" = true)
    (k12 : PySem.W.keepIn K (.ref f_l_alike) = true)
    (a_l_mixed : PySem.W.nsIn K mainGlobals "_law_mixed" = some (some (.ref f_l_mixed)))
    (l13 : K.lookup f_l_mixed = some ⟨oc13, od13, .func (PySem.W.fnOf "_law_mixed" "_law_mixed" (defArgs s_l_mixed) (defBody s_l_mixed) (defScope s_l_mixed) .none kV13 dc13 pm13 an13 cd13 ct13), sl13⟩)
    (c13 : PySem.W.codeIn K cd13 "_law_mixed" = true)
    (k13 : PySem.W.keepIn K (.ref f_l_mixed) = true)
    (a_l_drawn_order : PySem.W.nsIn K mainGlobals "_law_drawn_order" = some (some (.ref f_l_drawn_order)))
    (l14 : K.lookup f_l_drawn_order = some ⟨oc14, od14, .func (PySem.W.fnOf "_law_drawn_order" "_law_drawn_order" (defArgs s_l_drawn_order) (defBody s_l_drawn_order) (defScope s_l_drawn_order) .none kV14 dc14 pm14 an14 cd14 ct14), sl14⟩)
    (c14 : PySem.W.codeIn K cd14 "_law_drawn_order" = true)
    (k14 : PySem.W.keepIn K (.ref f_l_drawn_order) = true)
    (a_l_as_order : PySem.W.nsIn K mainGlobals "_law_as_order" = some (some (.ref f_l_as_order)))
    (l15 : K.lookup f_l_as_order = some ⟨oc15, od15, .func (PySem.W.fnOf "_law_as_order" "_law_as_order" (defArgs s_l_as_order) (defBody s_l_as_order) (defScope s_l_as_order) .none kV15 dc15 pm15 an15 cd15 ct15), sl15⟩)
    (c15 : PySem.W.codeIn K cd15 "_law_as_order" = true)
    (k15 : PySem.W.keepIn K (.ref f_l_as_order) = true)
    (a_l_ranks : PySem.W.nsIn K mainGlobals "_law_ranks" = some (some (.ref f_l_ranks)))
    (l16 : K.lookup f_l_ranks = some ⟨oc16, od16, .func (PySem.W.fnOf "_law_ranks" "_law_ranks" (defArgs s_l_ranks) (defBody s_l_ranks) (defScope s_l_ranks) .none kV16 dc16 pm16 an16 cd16 ct16), sl16⟩)
    (c16 : PySem.W.codeIn K cd16 "_law_ranks" = true)
    (k16 : PySem.W.keepIn K (.ref f_l_ranks) = true)
    (a_l_order_of : PySem.W.nsIn K mainGlobals "_law_order_of" = some (some (.ref f_l_order_of)))
    (l17 : K.lookup f_l_order_of = some ⟨oc17, od17, .func (PySem.W.fnOf "_law_order_of" "_law_order_of" (defArgs s_l_order_of) (defBody s_l_order_of) (defScope s_l_order_of) .none kV17 dc17 pm17 an17 cd17 ct17), sl17⟩)
    (c17 : PySem.W.codeIn K cd17 "_law_order_of" = true)
    (k17 : PySem.W.keepIn K (.ref f_l_order_of) = true)
    (a_l_sign_of : PySem.W.nsIn K mainGlobals "_law_sign_of" = some (some (.ref f_l_sign_of)))
    (l18 : K.lookup f_l_sign_of = some ⟨oc18, od18, .func (PySem.W.fnOf "_law_sign_of" "_law_sign_of" (defArgs s_l_sign_of) (defBody s_l_sign_of) (defScope s_l_sign_of) .none kV18 dc18 pm18 an18 cd18 ct18), sl18⟩)
    (c18 : PySem.W.codeIn K cd18 "_law_sign_of" = true)
    (k18 : PySem.W.keepIn K (.ref f_l_sign_of) = true)
    (a_l_orders : PySem.W.nsIn K mainGlobals "_law_orders" = some (some (.ref f_l_orders)))
    (l19 : K.lookup f_l_orders = some ⟨oc19, od19, .func (PySem.W.fnOf "_law_orders" "_law_orders" (defArgs s_l_orders) (defBody s_l_orders) (defScope s_l_orders) .none kV19 dc19 pm19 an19 cd19 ct19), sl19⟩)
    (c19 : PySem.W.codeIn K cd19 "_law_orders" = true)
    (k19 : PySem.W.keepIn K (.ref f_l_orders) = true)
    (a_l_at : PySem.W.nsIn K mainGlobals "_law_at" = some (some (.ref f_l_at)))
    (l20 : K.lookup f_l_at = some ⟨oc20, od20, .func (PySem.W.fnOf "_law_at" "_law_at" (defArgs s_l_at) (defBody s_l_at) (defScope s_l_at) .none kV20 dc20 pm20 an20 cd20 ct20), sl20⟩)
    (c20 : PySem.W.codeIn K cd20 "_law_at" = true)
    (k20 : PySem.W.keepIn K (.ref f_l_at) = true)
    (a_l_kept : PySem.W.nsIn K mainGlobals "_law_kept" = some (some (.ref f_l_kept)))
    (l21 : K.lookup f_l_kept = some ⟨oc21, od21, .func (PySem.W.fnOf "_law_kept" "_law_kept" (defArgs s_l_kept) (defBody s_l_kept) (defScope s_l_kept) .none kV21 dc21 pm21 an21 cd21 ct21), sl21⟩)
    (c21 : PySem.W.codeIn K cd21 "_law_kept" = true)
    (k21 : PySem.W.keepIn K (.ref f_l_kept) = true)
    (a_l_reckon : PySem.W.nsIn K mainGlobals "_law_reckon" = some (some (.ref f_l_reckon)))
    (l22 : K.lookup f_l_reckon = some ⟨oc22, od22, .func (PySem.W.fnOf "_law_reckon" "_law_reckon" (defArgs s_l_reckon) (defBody s_l_reckon) (defScope s_l_reckon) .none kV22 dc22 pm22 an22 cd22 ct22), sl22⟩)
    (c22 : PySem.W.codeIn K cd22 "_law_reckon" = true)
    (k22 : PySem.W.keepIn K (.ref f_l_reckon) = true)
    (a_l_told : PySem.W.nsIn K mainGlobals "_law_told" = some (some (.ref f_l_told)))
    (l23 : K.lookup f_l_told = some ⟨oc23, od23, .func (PySem.W.fnOf "_law_told" "_law_told" (defArgs s_l_told) (defBody s_l_told) (defScope s_l_told) .none kV23 dc23 pm23 an23 cd23 ct23), sl23⟩)
    (c23 : PySem.W.codeIn K cd23 "_law_told" = true)
    (k23 : PySem.W.keepIn K (.ref f_l_told) = true)
    (a_law : PySem.W.nsIn K mainGlobals "law" = some (some (.ref f_law)))
    (l24 : K.lookup f_law = some ⟨oc24, od24, .func (PySem.W.fnOf "law" "law" (defArgs s_law) (defBody s_law) (defScope s_law) .none kV24 dc24 pm24 an24 cd24 ct24), sl24⟩)
    (c24 : PySem.W.codeIn K cd24 "law" = true)
    (k24 : PySem.W.keepIn K (.ref f_law) = true)
    (a_PASSED : PySem.W.nsIn K mainGlobals "PASSED" = some (some (.ref f_PASSED)))
    (lk_PASSED : K.lookup f_PASSED = some ⟨.type "tuple", od_PASSED, .seq #[.str "+0" tk_PASSED_0, .str "+1" tk_PASSED_1] nn_PASSED, sl_PASSED⟩)
    (a_COMMON : PySem.W.nsIn K mainGlobals "COMMON" = some (some (.ref f_COMMON)))
    (lk_COMMON : K.lookup f_COMMON = some ⟨.type "tuple", od_COMMON, .seq #[.str "=" tk_COMMON_0, .str "^" tk_COMMON_1, .str "!" tk_COMMON_2] nn_COMMON, sl_COMMON⟩)
    (z_enumerate : PySem.W.nsIn K mainGlobals "enumerate" = some none)
    (z_tuple : PySem.W.nsIn K mainGlobals "tuple" = some none)
    (z_sorted : PySem.W.nsIn K mainGlobals "sorted" = some none)
    (z_len : PySem.W.nsIn K mainGlobals "len" = some none)
    (z_int : PySem.W.nsIn K mainGlobals "int" = some none)
    (z_abs : PySem.W.nsIn K mainGlobals "abs" = some none)
    (z_set : PySem.W.nsIn K mainGlobals "set" = some none)
    (z_dict : PySem.W.nsIn K mainGlobals "dict" = some none)
    (z_range : PySem.W.nsIn K mainGlobals "range" = some none)
    (z_repr : PySem.W.nsIn K mainGlobals "repr" = some none) :
    ∃ fd : FuncData, (∀ (s : Shared) (v : Value), BindsTo s fd ⟨[v], []⟩ [("_law_script", v)]) ∧ ∀ base : Heap, K.In base → base.Ns mainGlobals mg → FnG l.prog w K mg base 8 fa fd ["_law_script"] (spLaw K) := by
    have e := hfa.symm.trans (PySem.W.mg_of X G a_law)
    cases e
    have T : Txt K mg f_PASSED f_COMMON := ⟨PySem.W.mg_none_of X G z_enumerate, PySem.W.mg_none_of X G z_tuple, PySem.W.mg_none_of X G z_sorted, PySem.W.mg_none_of X G z_len, PySem.W.mg_none_of X G z_int, PySem.W.mg_none_of X G z_abs, PySem.W.mg_none_of X G z_set, PySem.W.mg_none_of X G z_dict, PySem.W.mg_none_of X G z_range, PySem.W.mg_none_of X G z_repr, PySem.W.mg_of X G a_PASSED, PySem.W.mg_of X G a_COMMON⟩
    have F1 := fun_mk (st := s_level_of) l1 c1 k1
    have b1 := F1.binds (ps := ["order", "point"]) fun _ _ _ _ _ _ us hl => match us, hl with | [_, _], _ => rfl
    have Y_level_of : Dt K mg "level_of" s_level_of ["order", "point"] f_level_of := ⟨⟨_, F1, b1⟩, PySem.W.mg_of X G a_level_of⟩
    have F2 := fun_mk (st := s_compare) l2 c2 k2
    have b2 := F2.binds (ps := ["order", "one", "other"]) fun _ _ _ _ _ _ us hl => match us, hl with | [_, _, _], _ => rfl
    have Y_compare : Dt K mg "compare" s_compare ["order", "one", "other"] f_compare := ⟨⟨_, F2, b2⟩, PySem.W.mg_of X G a_compare⟩
    have F3 := fun_mk (st := s_without_empty) l3 c3 k3
    have b3 := F3.binds (ps := ["levels"]) fun _ _ _ _ _ _ us hl => match us, hl with | [_], _ => rfl
    have Y_without_empty : Dt K mg "_without_empty" s_without_empty ["levels"] f_without_empty := ⟨⟨_, F3, b3⟩, PySem.W.mg_of X G a_without_empty⟩
    have F4 := fun_mk (st := s_only) l4 c4 k4
    have b4 := F4.binds (ps := ["order", "points"]) fun _ _ _ _ _ _ us hl => match us, hl with | [_, _], _ => rfl
    have Y_only : Dt K mg "only" s_only ["order", "points"] f_only := ⟨⟨_, F4, b4⟩, PySem.W.mg_of X G a_only⟩
    have F5 := fun_mk (st := s_shape_of) l5 c5 k5
    have b5 := F5.binds (ps := ["orders"]) fun _ _ _ _ _ _ us hl => match us, hl with | [_], _ => rfl
    have Y_shape_of : Dt K mg "shape_of" s_shape_of ["orders"] f_shape_of := ⟨⟨_, F5, b5⟩, PySem.W.mg_of X G a_shape_of⟩
    have F6 := fun_mk (st := s_array_of) l6 c6 k6
    have b6 := F6.binds (ps := ["shape", "point"]) fun _ _ _ _ _ _ us hl => match us, hl with | [_, _], _ => rfl
    have Y_array_of : Dt K mg "array_of" s_array_of ["shape", "point"] f_array_of := ⟨⟨_, F6, b6⟩, PySem.W.mg_of X G a_array_of⟩
    have F7 := fun_mk (st := s_stands) l7 c7 k7
    have b7 := F7.binds (ps := ["shape", "one", "other"]) fun _ _ _ _ _ _ us hl => match us, hl with | [_, _, _], _ => rfl
    have Y_stands : Dt K mg "stands" s_stands ["shape", "one", "other"] f_stands := ⟨⟨_, F7, b7⟩, PySem.W.mg_of X G a_stands⟩
    have F8 := fun_mk (st := s_share) l8 c8 k8
    have b8 := F8.binds (ps := ["shape", "one", "other"]) fun _ _ _ _ _ _ us hl => match us, hl with | [_, _, _], _ => rfl
    have Y_share : Dt K mg "share" s_share ["shape", "one", "other"] f_share := ⟨⟨_, F8, b8⟩, PySem.W.mg_of X G a_share⟩
    have F9 := fun_mk (st := s_kept_points) l9 c9 k9
    have b9 := F9.binds (ps := ["shape", "names"]) fun _ _ _ _ _ _ us hl => match us, hl with | [_, _], _ => rfl
    have Y_kept_points : Dt K mg "kept_points" s_kept_points ["shape", "names"] f_kept_points := ⟨⟨_, F9, b9⟩, PySem.W.mg_of X G a_kept_points⟩
    have F10 := fun_mk (st := s_l_bag) l10 c10 k10
    have b10 := F10.binds (ps := ["_law_script"]) fun _ _ _ _ _ _ us hl => match us, hl with | [_], _ => rfl
    have Y_l_bag : Dt K mg "_law_bag" s_l_bag ["_law_script"] f_l_bag := ⟨⟨_, F10, b10⟩, PySem.W.mg_of X G a_l_bag⟩
    have F11 := fun_mk (st := s_l_take) l11 c11 k11
    have b11 := F11.binds (ps := ["_law_bag_here", "_law_many"]) fun _ _ _ _ _ _ us hl => match us, hl with | [_, _], _ => rfl
    have Y_l_take : Dt K mg "_law_take" s_l_take ["_law_bag_here", "_law_many"] f_l_take := ⟨⟨_, F11, b11⟩, PySem.W.mg_of X G a_l_take⟩
    have F12 := fun_mk (st := s_l_alike) l12 c12 k12
    have b12 := F12.binds (ps := ["_law_found", "_law_due"]) fun _ _ _ _ _ _ us hl => match us, hl with | [_, _], _ => rfl
    have Y_l_alike : Dt K mg "_law_alike" s_l_alike ["_law_found", "_law_due"] f_l_alike := ⟨⟨_, F12, b12⟩, PySem.W.mg_of X G a_l_alike⟩
    have F13 := fun_mk (st := s_l_mixed) l13 c13 k13
    have b13 := F13.binds (ps := ["_law_bag_here", "_law_things"]) fun _ _ _ _ _ _ us hl => match us, hl with | [_, _], _ => rfl
    have Y_l_mixed : Dt K mg "_law_mixed" s_l_mixed ["_law_bag_here", "_law_things"] f_l_mixed := ⟨⟨_, F13, b13⟩, PySem.W.mg_of X G a_l_mixed⟩
    have F14 := fun_mk (st := s_l_drawn_order) l14 c14 k14
    have b14 := F14.binds (ps := ["_law_bag_here", "_law_points"]) fun _ _ _ _ _ _ us hl => match us, hl with | [_, _], _ => rfl
    have Y_l_drawn_order : Dt K mg "_law_drawn_order" s_l_drawn_order ["_law_bag_here", "_law_points"] f_l_drawn_order := ⟨⟨_, F14, b14⟩, PySem.W.mg_of X G a_l_drawn_order⟩
    have F15 := fun_mk (st := s_l_as_order) l15 c15 k15
    have b15 := F15.binds (ps := ["_law_levels"]) fun _ _ _ _ _ _ us hl => match us, hl with | [_], _ => rfl
    have Y_l_as_order : Dt K mg "_law_as_order" s_l_as_order ["_law_levels"] f_l_as_order := ⟨⟨_, F15, b15⟩, PySem.W.mg_of X G a_l_as_order⟩
    have F16 := fun_mk (st := s_l_ranks) l16 c16 k16
    have b16 := F16.binds (ps := ["_law_order"]) fun _ _ _ _ _ _ us hl => match us, hl with | [_], _ => rfl
    have Y_l_ranks : Dt K mg "_law_ranks" s_l_ranks ["_law_order"] f_l_ranks := ⟨⟨_, F16, b16⟩, PySem.W.mg_of X G a_l_ranks⟩
    have F17 := fun_mk (st := s_l_order_of) l17 c17 k17
    have b17 := F17.binds (ps := ["_law_ranks_here"]) fun _ _ _ _ _ _ us hl => match us, hl with | [_], _ => rfl
    have Y_l_order_of : Dt K mg "_law_order_of" s_l_order_of ["_law_ranks_here"] f_l_order_of := ⟨⟨_, F17, b17⟩, PySem.W.mg_of X G a_l_order_of⟩
    have F18 := fun_mk (st := s_l_sign_of) l18 c18 k18
    have b18 := F18.binds (ps := ["_law_at_here", "_law_one", "_law_other"]) fun _ _ _ _ _ _ us hl => match us, hl with | [_, _, _], _ => rfl
    have Y_l_sign_of : Dt K mg "_law_sign_of" s_l_sign_of ["_law_at_here", "_law_one", "_law_other"] f_l_sign_of := ⟨⟨_, F18, b18⟩, PySem.W.mg_of X G a_l_sign_of⟩
    have F19 := fun_mk (st := s_l_orders) l19 c19 k19
    have b19 := F19.binds (ps := ["_law_bag_here"]) fun _ _ _ _ _ _ us hl => match us, hl with | [_], _ => rfl
    have Y_l_orders : Dt K mg "_law_orders" s_l_orders ["_law_bag_here"] f_l_orders := ⟨⟨_, F19, b19⟩, PySem.W.mg_of X G a_l_orders⟩
    have F20 := fun_mk (st := s_l_at) l20 c20 k20
    have b20 := F20.binds (ps := ["_law_shape", "_law_point"]) fun _ _ _ _ _ _ us hl => match us, hl with | [_, _], _ => rfl
    have Y_l_at : Dt K mg "_law_at" s_l_at ["_law_shape", "_law_point"] f_l_at := ⟨⟨_, F20, b20⟩, PySem.W.mg_of X G a_l_at⟩
    have F21 := fun_mk (st := s_l_kept) l21 c21 k21
    have b21 := F21.binds (ps := ["_law_order", "_law_names"]) fun _ _ _ _ _ _ us hl => match us, hl with | [_, _], _ => rfl
    have Y_l_kept : Dt K mg "_law_kept" s_l_kept ["_law_order", "_law_names"] f_l_kept := ⟨⟨_, F21, b21⟩, PySem.W.mg_of X G a_l_kept⟩
    have F22 := fun_mk (st := s_l_reckon) l22 c22 k22
    have b22 := F22.binds (ps := ["_law_orders_here", "_law_names"]) fun _ _ _ _ _ _ us hl => match us, hl with | [_, _], _ => rfl
    have Y_l_reckon : Dt K mg "_law_reckon" s_l_reckon ["_law_orders_here", "_law_names"] f_l_reckon := ⟨⟨_, F22, b22⟩, PySem.W.mg_of X G a_l_reckon⟩
    have F23 := fun_mk (st := s_l_told) l23 c23 k23
    have b23 := F23.binds (ps := ["_law_orders_here", "_law_names"]) fun _ _ _ _ _ _ us hl => match us, hl with | [_, _], _ => rfl
    have Y_l_told : Dt K mg "_law_told" s_l_told ["_law_orders_here", "_law_names"] f_l_told := ⟨⟨_, F23, b23⟩, PySem.W.mg_of X G a_l_told⟩
    have F24 := fun_mk (st := s_law) l24 c24 k24
    have b24 := F24.binds (ps := ["_law_script"]) fun _ _ _ _ _ _ us hl => match us, hl with | [_], _ => rfl
    have hT_PASSED : SqT K (fun _ => none) f_PASSED [.str "+0", .str "+1"] := .inr ⟨_, _, _, lk_PASSED, rfl, rfl, (by show 2 ≤ sizeLine; decide), .cons ⟨_, rfl⟩ (.cons ⟨_, rfl⟩ (.nil))⟩
    have hT_COMMON : SqT K (fun _ => none) f_COMMON [.str "=", .str "^", .str "!"] := .inr ⟨_, _, _, lk_COMMON, rfl, rfl, (by show 3 ≤ sizeLine; decide), .cons ⟨_, rfl⟩ (.cons ⟨_, rfl⟩ (.cons ⟨_, rfl⟩ (.nil)))⟩
    refine ⟨PySem.W.fnOf "law" "law" (defArgs s_law) (defBody s_law) (defScope s_law) .none kV24 dc24 pm24 an24 cd24 ct24, fun s v => .of_eq rfl, fun base _ _ => ?_⟩
    have D_level_of := ok_level_of (P := l.prog) (w := w) (base := base) Y_level_of T
    have D_compare := ok_compare Y_compare T D_level_of
    have D_without_empty := ok_without_empty (P := l.prog) (w := w) (base := base) Y_without_empty T
    have D_only := ok_only Y_only T D_without_empty
    have D_shape_of := ok_shape_of (P := l.prog) (w := w) (base := base) Y_shape_of T
    have D_array_of := ok_array_of Y_array_of T D_level_of
    have D_stands := ok_stands Y_stands T D_compare
    have D_share := ok_share Y_share T D_stands
    have D_kept_points := ok_kept_points Y_kept_points T hT_PASSED hT_COMMON D_only D_shape_of
    have D_l_take := ok_l_take (P := l.prog) (w := w) (base := base) Y_l_take T
    have D_l_bag := ok_l_bag (P := l.prog) (w := w) (base := base) Y_l_bag T
    have D_l_alike := ok_l_alike (P := l.prog) (w := w) (base := base) Y_l_alike T
    have D_l_mixed := ok_l_mixed Y_l_mixed T D_l_take
    have D_l_drawn_order := ok_l_drawn_order Y_l_drawn_order T D_l_take D_l_mixed
    have D_l_as_order := ok_l_as_order (P := l.prog) (w := w) (base := base) Y_l_as_order T
    have D_l_ranks := ok_l_ranks (P := l.prog) (w := w) (base := base) Y_l_ranks T
    have D_l_order_of := ok_l_order_of (P := l.prog) (w := w) (base := base) Y_l_order_of T
    have D_l_sign_of := ok_l_sign_of (P := l.prog) (w := w) (base := base) Y_l_sign_of T
    have D_l_orders := ok_l_orders Y_l_orders T D_l_take D_l_mixed D_l_drawn_order D_l_as_order
    have D_l_at := ok_l_at Y_l_at T D_l_ranks
    have D_l_kept := ok_l_kept Y_l_kept T D_l_ranks D_l_order_of
    have D_l_reckon := ok_l_reckon Y_l_reckon T D_l_at D_l_ranks D_l_sign_of D_l_kept
    have D_l_told := ok_l_told Y_l_told T D_shape_of D_array_of D_share D_stands D_kept_points
    exact ok_law F24 T D_l_bag D_l_mixed D_l_orders D_l_reckon D_l_told D_l_alike
theorem walk {l : PySem.W.OpenLaw} {q : Program} {loose : List Str} {XP : (Str → Option Value) → Heap → Prop} {YP : World → Heap → Prop} {d : DefRec} {K : Params → PySem.W.Frag} (hn : l.most = some 63) (hdf : d.params.defaults = [])
    (hY : ∀ (w : World) (h : Heap), YP w h → (K w.params).In h)
    (F : ∀ (w : World) (mg : Str → Option Value) (fa : Addr) (h : Heap), (K w.params).In h → h.Ns mainGlobals mg → mg d.name = some (.ref fa) →
      ∃ fd : FuncData, (∀ (s : Shared) (u : Value), BindsTo s fd ⟨[u], []⟩ [("_law_script", u)]) ∧ ∀ base : Heap, (K w.params).In base → base.Ns mainGlobals mg → FnG l.prog w (K w.params) mg base 8 fa fd ["_law_script"] (spLaw (K w.params))) :
    PySem.W.WalkO q loose XP YP l.row.toRowW d [] (fun f vs => PySem.call f vs) :=
  walk_G (n := 63) (k := 8) (x := "_law_script") (sp := fun w => spLaw (K w.params)) hn (by decide) hdf ⟨rfl, by decide, by decide⟩ hY F (fun _ H a ns hl _ _ hS => ⟨a, ns, rfl, hS, hl, fun _ => rfl⟩)
end Pf

open PySem PySem.W PyProof.Rows in
set_option maxRecDepth 100000 in
set_option maxHeartbeats 0 in
theorem PySem.Challenge.cw_sparetails_k53_shapes_told_holds : PySem.Challenge.rw_sparetails_k53_shapes_told.Holds := by
  w_on; o_law; k_head; (case hw => w_witness2)
  k_fill
  refine Pf.walk (l := PySem.Challenge.rw_sparetails_k53_shapes_told) rfl rfl (fun w h Y => PySem.W.kIn_of Y) ?F
  case F =>
    intro w mg fa h KX G hmg
    refine' Pf.all_mk KX G hmg ?a_level_of ?l1 ?c1 ?k1 ?a_compare ?l2 ?c2 ?k2 ?a_without_empty ?l3 ?c3 ?k3 ?a_only ?l4 ?c4 ?k4 ?a_shape_of ?l5 ?c5 ?k5 ?a_array_of ?l6 ?c6 ?k6 ?a_stands ?l7 ?c7 ?k7 ?a_share ?l8 ?c8 ?k8 ?a_kept_points ?l9 ?c9 ?k9 ?a_l_bag ?l10 ?c10 ?k10 ?a_l_take ?l11 ?c11 ?k11 ?a_l_alike ?l12 ?c12 ?k12 ?a_l_mixed ?l13 ?c13 ?k13 ?a_l_drawn_order ?l14 ?c14 ?k14 ?a_l_as_order ?l15 ?c15 ?k15 ?a_l_ranks ?l16 ?c16 ?k16 ?a_l_order_of ?l17 ?c17 ?k17 ?a_l_sign_of ?l18 ?c18 ?k18 ?a_l_orders ?l19 ?c19 ?k19 ?a_l_at ?l20 ?c20 ?k20 ?a_l_kept ?l21 ?c21 ?k21 ?a_l_reckon ?l22 ?c22 ?k22 ?a_l_told ?l23 ?c23 ?k23 ?a_law ?l24 ?c24 ?k24 ?a_PASSED ?lk_PASSED ?a_COMMON ?lk_COMMON ?z_enumerate ?z_tuple ?z_sorted ?z_len ?z_int ?z_abs ?z_set ?z_dict ?z_range ?z_repr
    (case a_level_of => k_is)
    (case l1 => k_is)
    (case c1 => k_is)
    (case k1 => k_is)
    (case a_compare => k_is)
    (case l2 => k_is)
    (case c2 => k_is)
    (case k2 => k_is)
    (case a_without_empty => k_is)
    (case l3 => k_is)
    (case c3 => k_is)
    (case k3 => k_is)
    (case a_only => k_is)
    (case l4 => k_is)
    (case c4 => k_is)
    (case k4 => k_is)
    (case a_shape_of => k_is)
    (case l5 => k_is)
    (case c5 => k_is)
    (case k5 => k_is)
    (case a_array_of => k_is)
    (case l6 => k_is)
    (case c6 => k_is)
    (case k6 => k_is)
    (case a_stands => k_is)
    (case l7 => k_is)
    (case c7 => k_is)
    (case k7 => k_is)
    (case a_share => k_is)
    (case l8 => k_is)
    (case c8 => k_is)
    (case k8 => k_is)
    (case a_kept_points => k_is)
    (case l9 => k_is)
    (case c9 => k_is)
    (case k9 => k_is)
    (case a_l_bag => k_is)
    (case l10 => k_is)
    (case c10 => k_is)
    (case k10 => k_is)
    (case a_l_take => k_is)
    (case l11 => k_is)
    (case c11 => k_is)
    (case k11 => k_is)
    (case a_l_alike => k_is)
    (case l12 => k_is)
    (case c12 => k_is)
    (case k12 => k_is)
    (case a_l_mixed => k_is)
    (case l13 => k_is)
    (case c13 => k_is)
    (case k13 => k_is)
    (case a_l_drawn_order => k_is)
    (case l14 => k_is)
    (case c14 => k_is)
    (case k14 => k_is)
    (case a_l_as_order => k_is)
    (case l15 => k_is)
    (case c15 => k_is)
    (case k15 => k_is)
    (case a_l_ranks => k_is)
    (case l16 => k_is)
    (case c16 => k_is)
    (case k16 => k_is)
    (case a_l_order_of => k_is)
    (case l17 => k_is)
    (case c17 => k_is)
    (case k17 => k_is)
    (case a_l_sign_of => k_is)
    (case l18 => k_is)
    (case c18 => k_is)
    (case k18 => k_is)
    (case a_l_orders => k_is)
    (case l19 => k_is)
    (case c19 => k_is)
    (case k19 => k_is)
    (case a_l_at => k_is)
    (case l20 => k_is)
    (case c20 => k_is)
    (case k20 => k_is)
    (case a_l_kept => k_is)
    (case l21 => k_is)
    (case c21 => k_is)
    (case k21 => k_is)
    (case a_l_reckon => k_is)
    (case l22 => k_is)
    (case c22 => k_is)
    (case k22 => k_is)
    (case a_l_told => k_is)
    (case l23 => k_is)
    (case c23 => k_is)
    (case k23 => k_is)
    (case a_law => k_is)
    (case l24 => k_is)
    (case c24 => k_is)
    (case k24 => k_is)
    (case a_PASSED => k_is)
    (case lk_PASSED => k_is)
    (case a_COMMON => k_is)
    (case lk_COMMON => k_is)
    (case z_enumerate => k_is)
    (case z_tuple => k_is)
    (case z_sorted => k_is)
    (case z_len => k_is)
    (case z_int => k_is)
    (case z_abs => k_is)
    (case z_set => k_is)
    (case z_dict => k_is)
    (case z_range => k_is)
    (case z_repr => k_is)


