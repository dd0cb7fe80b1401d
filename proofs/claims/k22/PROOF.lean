import PyProof.Rows.All
import Wide.All
import OpenK.AllK
import Wide.FinOn
import HandS.Base
import HandS.Call
import HandS.List
import HandS.Comp
import HandS.Ends
import HandS.Words
import HandS.ForMost
import HandS.Style
import HandS.NoneIn
import HandS.IsInst
import HandS.Wide
import HandS.More
import HandS.Codes
import HandS.SlotsOwn
import HandS.Property
import HandS.MakeKwOnly
import HandS.CallLocal
import HandS.EndBits
import PyProof.ReprLen
import HandS.OwnEq
import HandS.Zip
import KE.KIsAll
import KE.KExcIs
import HandS.Exc
import HandS.ExcOwn
import HandS.TryOnly
import HandS.WordsExc
import PySem.Challenge.RW_sparetails_k22_rules
set_option Elab.async false
set_option linter.all false
set_option maxRecDepth 100000
namespace Kt
open PySem L2
/-! ### what is known of the heap, part by part -/
abbrev SP := Hp → Prop
def Le (G H : Hp) : Prop := ∀ a o, G a = some o → H a = some o
def sub (H G : Hp) : Hp := fun a => if (G a).isSome = true then none else H a
def Sep : List SP → Hp → Prop
  | [], _ => True
  | P :: Ps, H => ∃ G, Le G H ∧ P G ∧ Sep Ps (sub H G)
def pt (a : Addr) (o : HO) : SP := fun G => G a = some o
theorem sub_of {H G : Hp} {a : Addr} (h : G a = none) : sub H G a = H a := by
  unfold sub; rw [h]; rfl
theorem sub_in {H G : Hp} {a : Addr} {o : HO} (h : G a = some o) : sub H G a = none := by
  unfold sub; rw [h]; rfl
theorem sub_some {H G : Hp} {a : Addr} {o : HO} (h : sub H G a = some o) : G a = none ∧ H a = some o := by
  cases e : G a with
  | none => rw [sub_of e] at h; exact ⟨rfl, h⟩
  | some u => rw [sub_in e] at h; cases h
theorem Sep.mono : ∀ {Ps : List SP} {H H' : Hp}, Le H H' → Sep Ps H → Sep Ps H'
  | [], _, _, _, _ => trivial
  | P :: Ps, H, H', l, ⟨G, h1, h2, h3⟩ => ⟨G, fun a o e => l a o (h1 a o e), h2, Sep.mono (fun a o e => by
      obtain ⟨e1, e2⟩ := sub_some e
      rw [sub_of e1]; exact l a o e2) h3⟩
theorem Sep.tl {P : SP} {Ps : List SP} {H : Hp} : Sep (P :: Ps) H → Sep Ps H := fun ⟨G, _, _, h⟩ => h.mono fun a o e => (sub_some e).2
theorem Sep.swap {P Q : SP} {Ps : List SP} {H : Hp} : Sep (P :: Q :: Ps) H → Sep (Q :: P :: Ps) H := fun ⟨G1, l1, p1, G2, l2, p2, h⟩ => by
  have d : ∀ a o, G1 a = some o → G2 a = none := fun a o e => by
    cases e2 : G2 a with
    | none => rfl
    | some u => have := l2 a u e2; rw [sub_in e] at this; cases this
  refine ⟨G2, fun a o e => (sub_some (l2 a o e)).2, p2, G1, fun a o e => ?_, p1, h.mono fun a o e => ?_⟩
  · rw [sub_of (d a o e)]; exact l1 a o e
  · obtain ⟨e1, e2⟩ := sub_some e
    obtain ⟨e3, e4⟩ := sub_some e2
    rw [sub_of e3, sub_of e1]; exact e4
theorem Sep.cons_mono {P : SP} {Ps Qs : List SP} {H : Hp} (f : ∀ H', Sep Ps H' → Sep Qs H') : Sep (P :: Ps) H → Sep (P :: Qs) H := fun ⟨G, h1, h2, h3⟩ => ⟨G, h1, h2, f _ h3⟩
theorem Sep.hd_mono {P Q : SP} {Ps : List SP} {H : Hp} (f : ∀ G, P G → Q G) : Sep (P :: Ps) H → Sep (Q :: Ps) H := fun ⟨G, h1, h2, h3⟩ => ⟨G, h1, f _ h2, h3⟩
/-- one part to the front -/
inductive Pick (A : SP) : List SP → List SP → Prop where
  | hd {Ps : List SP} : Pick A (A :: Ps) Ps
  | tl {P : SP} {Ps Qs : List SP} : Pick A Ps Qs → Pick A (P :: Ps) (P :: Qs)
theorem Pick.go {A : SP} {Ps Qs : List SP} (p : Pick A Ps Qs) : ∀ {H : Hp}, Sep Ps H → Sep (A :: Qs) H := by
  induction p with
  | hd => exact fun h => h
  | tl _ ih => exact fun h => (h.cons_mono fun _ => ih).swap
theorem Pick.back {A : SP} {Ps Qs : List SP} (p : Pick A Ps Qs) : ∀ {H : Hp}, Sep (A :: Qs) H → Sep Ps H := by
  induction p with
  | hd => exact fun h => h
  | tl _ ih => exact fun h => h.swap.cons_mono fun _ => ih
inductive Dr : List SP → List SP → Prop where
  | all {Ps : List SP} : Dr Ps Ps
  | skip {P : SP} {Ps Qs : List SP} : Dr Ps Qs → Dr (P :: Ps) Qs
theorem Dr.go {Ps Qs : List SP} (p : Dr Ps Qs) : ∀ {H : Hp}, Sep Ps H → Sep Qs H := by
  induction p with
  | all => exact fun h => h
  | skip _ ih => exact fun h => ih h.tl
inductive Sel : List SP → List SP → List SP → Prop where
  | nil {Ps Qs : List SP} : Dr Ps Qs → Sel [] Ps Qs
  | cons {A : SP} {As Ps Qs Rs : List SP} : Pick A Ps Qs → Sel As Qs Rs → Sel (A :: As) Ps Rs
theorem Sel.go {As Ps Rs : List SP} (p : Sel As Ps Rs) : ∀ {H : Hp}, Sep Ps H → Sep (As ++ Rs) H := by
  induction p with
  | nil d => exact fun h => d.go h
  | cons p _ ih => exact fun h => (p.go h).cons_mono fun _ => ih
theorem Sep.sel {As Ps Rs : List SP} {H : Hp} (h : Sep Ps H) (p : Sel As Ps Rs) : Sep (As ++ Rs) H := p.go h
theorem Sep.s1 {A : SP} {Ps Rs : List SP} {H : Hp} (h : Sep Ps H) (p : Sel [A] Ps Rs) : Sep (A :: Rs) H := h.sel p
theorem Sep.s2 {A B : SP} {Ps Rs : List SP} {H : Hp} (h : Sep Ps H) (p : Sel [A, B] Ps Rs) : Sep (A :: B :: Rs) H := h.sel p
theorem Sep.s3 {A B C : SP} {Ps Rs : List SP} {H : Hp} (h : Sep Ps H) (p : Sel [A, B, C] Ps Rs) : Sep (A :: B :: C :: Rs) H := h.sel p
theorem Sep.s4 {A B C D : SP} {Ps Rs : List SP} {H : Hp} (h : Sep Ps H) (p : Sel [A, B, C, D] Ps Rs) : Sep (A :: B :: C :: D :: Rs) H := h.sel p
theorem Sep.s5 {A B C D E : SP} {Ps Rs : List SP} {H : Hp} (h : Sep Ps H) (p : Sel [A, B, C, D, E] Ps Rs) : Sep (A :: B :: C :: D :: E :: Rs) H := h.sel p
theorem Sep.s6 {A B C D E F : SP} {Ps Rs : List SP} {H : Hp} (h : Sep Ps H) (p : Sel [A, B, C, D, E, F] Ps Rs) : Sep (A :: B :: C :: D :: E :: F :: Rs) H := h.sel p
theorem Sep.s7 {A B C D E F G : SP} {Ps Rs : List SP} {H : Hp} (h : Sep Ps H) (p : Sel [A, B, C, D, E, F, G] Ps Rs) : Sep (A :: B :: C :: D :: E :: F :: G :: Rs) H := h.sel p
theorem Sep.s8 {A B C D E F G I : SP} {Ps Rs : List SP} {H : Hp} (h : Sep Ps H) (p : Sel [A, B, C, D, E, F, G, I] Ps Rs) : Sep (A :: B :: C :: D :: E :: F :: G :: I :: Rs) H := h.sel p
theorem Sep.pk {A : SP} {Ps Qs : List SP} {H : Hp} (h : Sep Ps H) (p : Pick A Ps Qs) : Sep (A :: Qs) H := p.go h
/-- one part looked up, put otherwise -/
inductive Repl (a : Addr) (o o' : HO) : List SP → List SP → Prop where
  | hd {Ps : List SP} : Repl a o o' (pt a o :: Ps) (pt a o' :: Ps)
  | tl {P : SP} {Ps Qs : List SP} : Repl a o o' Ps Qs → Repl a o o' (P :: Ps) (P :: Qs)
theorem Repl.pick {a : Addr} {o o' : HO} {Ps Qs : List SP} (r : Repl a o o' Ps Qs) : ∃ Rs, Pick (pt a o) Ps Rs ∧ Pick (pt a o') Qs Rs := by
  induction r with
  | hd => exact ⟨_, .hd, .hd⟩
  | tl _ ih => obtain ⟨Rs, h1, h2⟩ := ih; exact ⟨_, .tl h1, .tl h2⟩
theorem Sep.hd_at {a : Addr} {o : HO} {Ps : List SP} {H : Hp} : Sep (pt a o :: Ps) H → H a = some o := fun ⟨_, l, h, _⟩ => l a o h
theorem Sep.at_ {a : Addr} {o : HO} {Ps Qs : List SP} {H : Hp} (h : Sep Ps H) (p : Pick (pt a o) Ps Qs) : H a = some o := (p.go h).hd_at
theorem Sep.hd_set {a : Addr} {o : HO} {Ps : List SP} {H : Hp} (o' : HO) : Sep (pt a o :: Ps) H → Sep (pt a o' :: Ps) (upd H a o') := fun ⟨G, l, h, s⟩ => by
  have h' : G a = some o := h
  refine ⟨upd G a o', fun b u e => ?_, upd_same, s.mono fun b u e => ?_⟩
  · by_cases hb : b = a
    · subst hb; rw [upd_same] at e ⊢; exact e
    · rw [upd_ne hb] at e ⊢; exact l b u e
  · obtain ⟨e1, e2⟩ := sub_some e
    have hb : b ≠ a := fun q => by rw [q, h'] at e1; cases e1
    rw [sub_of (by rw [upd_ne hb]; exact e1), upd_ne hb]; exact e2
theorem Sep.set {a : Addr} {o o' : HO} {Ps Qs : List SP} {H : Hp} (h : Sep Ps H) (r : Repl a o o' Ps Qs) : Sep Qs (upd H a o') := by
  obtain ⟨Rs, h1, h2⟩ := r.pick
  exact h2.back ((h1.go h).hd_set o')
theorem Sep.new {p : Addr} {Ps : List SP} {H : Hp} (o : HO) (h : Sep Ps H) (n : H p = none) : Sep (pt p o :: Ps) (upd H p o) := by
  refine ⟨fun b => if b = p then some o else none, fun b u e => ?_, if_pos rfl, h.mono fun b u e => ?_⟩
  · by_cases hb : b = p
    · subst hb; rw [upd_same]; simpa using e
    · simp [hb] at e
  · have hb : b ≠ p := fun q => by rw [q, n] at e; cases e
    rw [sub_of (by simp [hb]), upd_ne hb]; exact e
/-- several parts as one -/
theorem Sep.flat : ∀ {As Rs : List SP} {H : Hp}, Sep (Sep As :: Rs) H → Sep (As ++ Rs) H
  | [], Rs, H, h => h.tl
  | A :: As, Rs, H, ⟨G, l, ⟨G1, l1, a, t⟩, r⟩ => by
    refine ⟨G1, fun b o e => l b o (l1 b o e), a, Sep.flat ⟨sub G G1, fun b o e => ?_, t, r.mono fun b o e => ?_⟩⟩
    · obtain ⟨e1, e2⟩ := sub_some e
      rw [sub_of e1]; exact l b o e2
    · obtain ⟨e1, e2⟩ := sub_some e
      have g1 : G1 b = none := by
        cases q : G1 b with
        | none => rfl
        | some u => have := l1 b u q; rw [e1] at this; cases this
      have g2 : sub G G1 b = none := by rw [sub_of g1]; exact e1
      rw [sub_of g2, sub_of g1]; exact e2
theorem Sep.unflat : ∀ {As Rs : List SP} {H : Hp}, Sep (As ++ Rs) H → Sep (Sep As :: Rs) H
  | [], Rs, H, h => ⟨fun _ => none, fun _ _ (e : (none : Option HO) = some _) => (Option.noConfusion rfl (heq_of_eq e)), trivial, Sep.mono (H := H) (fun a o e => by rw [sub_of rfl]; exact e) h⟩
  | A :: As, Rs, H, ⟨G1, l1, a, t⟩ => by
    obtain ⟨G2, l2, b, r⟩ := Sep.unflat (As := As) (Rs := Rs) t
    have d : ∀ x o, G2 x = some o → G1 x = none := fun x o e => (sub_some (l2 x o e)).1
    refine ⟨fun x => if (G1 x).isSome = true then G1 x else G2 x, fun x o e => ?_, ⟨G1, fun x o e => ?_, a, b.mono fun x o e => ?_⟩, r.mono fun x o e => ?_⟩
    · cases q : G1 x with
      | none => simp only [q] at e; exact (sub_some (l2 x o (by simpa using e))).2
      | some u => simp only [q] at e; rw [← e]; exact l1 x u q
    · simp [e]
    · have g := d x o e
      rw [sub_of g]; simp [g, e]
    · obtain ⟨e1, e2⟩ := sub_some e
      obtain ⟨e3, e4⟩ := sub_some e2
      rw [sub_of (by simp [e3, e1])]; exact e4
theorem Sep.ex {α : Type} {P : α → SP} {Ps : List SP} {H : Hp} : Sep ((fun G => ∃ x, P x G) :: Ps) H → ∃ x, Sep (P x :: Ps) H := fun ⟨G, l, ⟨x, h⟩, t⟩ => ⟨x, G, l, h, t⟩
theorem Sep.ex_in {α : Type} {P : α → SP} {Ps : List SP} {H : Hp} (x : α) : Sep (P x :: Ps) H → Sep ((fun G => ∃ x, P x G) :: Ps) H := fun ⟨G, l, h, t⟩ => ⟨G, l, ⟨x, h⟩, t⟩
theorem Sep.pure {p : Prop} {P : SP} {Ps : List SP} {H : Hp} : Sep ((fun G => p ∧ P G) :: Ps) H → p ∧ Sep (P :: Ps) H := fun ⟨G, l, ⟨x, h⟩, t⟩ => ⟨x, G, l, h, t⟩
theorem Sep.pure_in {p : Prop} {P : SP} {Ps : List SP} {H : Hp} (x : p) : Sep (P :: Ps) H → Sep ((fun G => p ∧ P G) :: Ps) H := fun ⟨G, l, h, t⟩ => ⟨G, l, ⟨x, h⟩, t⟩
/-- two known objects stand apart -/
theorem Sep.ne {a b : Addr} {o u : HO} {Ps : List SP} {H : Hp} : Sep (pt a o :: pt b u :: Ps) H → a ≠ b := fun ⟨G, l, h, G2, l2, h2, _⟩ e => by
  subst e
  have q := l2 a u h2
  rw [sub_in (show G a = some o from h)] at q
  cases q
/-- what is kept beside -/
theorem Sep.le_nil {H : Hp} : Sep [] H := trivial
end Kt

set_option Elab.async false
set_option linter.all false
set_option maxRecDepth 100000
namespace Kt
open PySem L2 PyProof.Rows
/-! ### defs of the text by name -/
/-- the def x of the top stands at f -/
structure Dt (K : PySem.W.Frag) (mg : Str → Option Value) (x : Str) (st : Stmt) (ps : List Str) (f : Addr) : Prop where
  fn : ∃ fd, Fun K x x st f fd ∧ Binds K fd ps []
  at_ : mg x = some (.ref f)
structure Df (P : Program) (w : World) (K : PySem.W.Frag) (mg : Str → Option Value) (base : Heap) (k : Nat) (x : Str) (f : Addr) (ps : List Str) (sp : Sp) : Prop where
  fn : ∃ fd, FnOk P w K mg base CX0 k f fd ps sp ∧ Binds K fd ps []
  at_ : mg x = some (.ref f)
  kp : PySem.W.keepIn K (.ref f) = true
section
variable {P : Program} {w : World} {K : PySem.W.Frag} {mg : Str → Option Value} {base : Heap}
theorem Dt.ok {x : Str} {st : Stmt} {f : Addr} {N ps : List Str} {k : Nat} {sp : Sp} (T : Dt K mg x st ps f) (S : FnScope N ps (defScope st)) (len : ∀ vs H Q E, sp vs H Q E → vs.length = ps.length)
    (hbody : ∀ (cdv : Value) (A : Around) (outer : List Env) (s : Shared) (H : Hp) (vs : List V) (Q : VK) (E : XK), Room k (A.deeper (envOfC x (defScope st) s.heap.objs.size f cdv)) → sp vs H Q E →
      ∃ t, PSs (cxOf CX0 P w K mg base N x (defScope st) f cdv A outer s H E).nox (defBody st) t ∧ t { nx := fun _ H' => Q .non H', rt := Q } (start N vs) H) : Df P w K mg base (k + 1) x f ps sp := by
  obtain ⟨fd, F, b⟩ := T.fn
  exact ⟨⟨fd, F.ok S len hbody, b⟩, T.at_, F.kp⟩
end
section
variable {X : Cx} {k : Nat} {x : Str} {f : Addr} {ps : List Str} {sp : Sp} {e : Expr} {es : List Expr} {t : TA} {p pos : Pos}
theorem pe_df (D : Df X.prog X.w X.K X.mg X.base k x f ps sp) (hr : Room k X.A) (ha : PA X (e :: es) t) (hg : Gl X x := by rfl) (hd : (x == ("__debug__" : Str)) = false := by decide)
    (he : starEach (e :: es) X.env = (false, eval e X.env) :: starEach es X.env := by rfl) (hpl : (backTo pos (starEach es X.env)).any (·.1) = false := by rfl) : PE X (.Call (.Name x p) (e :: es) [] pos) (tCall sp [] E0 t) := by
  obtain ⟨fd, F, b⟩ := D.fn
  exact pe_call F hr hg D.at_ D.kp b .nil pass0 ha hd he hpl
theorem pe_df0 (D : Df X.prog X.w X.K X.mg X.base k x f [] sp) (hr : Room k X.A) (hg : Gl X x := by rfl) (hd : (x == ("__debug__" : Str)) = false := by decide) : PE X (.Call (.Name x p) [] [] pos) (tCall sp [] E0 tNil) := by
  obtain ⟨fd, F, b⟩ := D.fn
  exact pe_call0 F hr hg D.at_ D.kp b .nil pass0 hd
end
/-! ### xs[i] as it is read ahead of xs[i] op= .. -/
section
variable {X : Cx}
theorem get_list : PGet X (rIxL X.K) := by
  intro pins s σ H x y v u Q I rx ry h
  obtain ⟨p, xs, i, z, rfl, rfl, hq, he, q⟩ := h
  cases rx
  obtain ⟨t, rfl⟩ := ry
  obtain ⟨its, r, pl, hz⟩ := I.list hq
  obtain ⟨j, h1, h2, h3, h4, h5⟩ := atI_get he
  obtain ⟨w, ew, rw'⟩ := r.get h2
  have hl := r.length
  have hn := line63
  have fin : EP X pins σ Q w s := ⟨z, H, I, rw', q⟩
  by_cases h0 : 0 ≤ i
  · have hj : i.toNat = j := by
      rw [seqIndex_of h0 h5] at h1
      exact Option.some.inj h1
    exact wpAny_getItem_list pl.isList h0 (by omega) (by rw [hj]; simpa using ew) fin
  · have hj : (i + (its.toArray.size : Int)).toNat = j := by
      rw [seqIndex_neg (by omega) h4] at h1
      rw [List.size_toArray, ← hl]
      exact Option.some.inj h1
    exact wpAny_getItem_list_neg pl.isList (by omega) (by rw [List.size_toArray] <;> omega) (by omega) (by rw [hj]; simpa using ew) fin
/-! ### operators that serve several kinds -/
def rOr (r r' : R2) : R2 := fun x y H Q => r x y H Q ∨ r' x y H Q
theorem op_or {f : Value → Value → Sem Value} {r r' : R2} (h : OpR X f r) (h' : OpR X f r') : OpR X f (rOr r r') := OpR.or h h'
def rAddI : R2 := rI0 fun i j => .int (i + j)
def rSubI : R2 := rI0 fun i j => .int (i - j)
def rStrA : R2 := fun x y H Q => ∃ i j, x = .str i ∧ y = .str j ∧ i.length + j.length ≤ sizeLine ∧ Q (.str (i ++ j)) H
def rAddA : R2 := rOr rAddI (rOr rCat rStrA)
theorem op_addA : OpR X (binaryOp .Add) rAddA := op_or op_add (op_or op_cat op_add_str)
def rMulI : R2 := rI CMul fun i j => .int (i * j)
def rMulA : R2 := rOr rMulI rRep
theorem op_mulA : OpR X (binaryOp .Mult) rMulA := op_or op_mul op_rep
def rModI : R2 := rI (fun _ j => 0 < j) fun i j => .int (i % j)
def rDivI : R2 := rI CDiv fun i j => .int (i / j)
def rPowI : R2 := rI CPow fun i j => .int (i ^ j.toNat)
def rEqA (K : PySem.W.Frag) : R2 := rOr rEq (rEqD K)
def rNeA (K : PySem.W.Frag) : R2 := rOr rNe (rNeD K)
theorem op_eqA (hu : X.A.units + 64 < cLine) : OpR X (compareOp .Eq) (rEqA X.K) := op_or op_eq (op_eqD hu)
theorem op_neA (hu : X.A.units + 64 < cLine) : OpR X (compareOp .NotEq) (rNeA X.K) := op_or op_ne (op_neD hu)
def rLtI : R2 := rI0 fun i j => .bl (decide (i < j))
def rLeI : R2 := rI0 fun i j => .bl (decide (i ≤ j))
def rGtI : R2 := rI0 fun i j => .bl (decide (j < i))
def rGeI : R2 := rI0 fun i j => .bl (decide (j ≤ i))
def rIsN : R2 := fun x y H Q => y = .non ∧ Q (.bl (decide (x = .non))) H
def rNotN : R2 := fun x y H Q => y = .non ∧ Q (.bl (!decide (x = .non))) H
def cAbs : List V → Hp → VK → Prop := fun xs H Q => ∃ i, xs = [.int i] ∧ Q (.int (if i < 0 then -i else i)) H
def cInt : List V → Hp → VK → Prop := fun xs H Q => (∃ i, xs = [.int i] ∧ Q (.int i) H) ∨ ∃ k, xs = [.bl k] ∧ Q (.int (if k then 1 else 0)) H
def cMax2 : List V → Hp → VK → Prop := fun xs H Q => ∃ i j, xs = [.int i, .int j] ∧ Q (.int (if j > i then j else i)) H
def cMin2 : List V → Hp → VK → Prop := fun xs H Q => ∃ i j, xs = [.int i, .int j] ∧ Q (.int (if j < i then j else i)) H
def cLenQ (K : PySem.W.Frag) : List V → Hp → VK → Prop := fun xs H Q => ∃ p ys, xs = [.ref p] ∧ (SqL K H p ys ∨ SqT K H p ys) ∧ Q (.int ys.length) H
def cLenS : List V → Hp → VK → Prop := fun xs H Q => ∃ z, xs = [.str z] ∧ z.length ≤ sizeLine ∧ Q (.int z.length) H
def cOr (r r' : List V → Hp → VK → Prop) : List V → Hp → VK → Prop := fun xs H Q => r xs H Q ∨ r' xs H Q
def cList (K : PySem.W.Frag) : List V → Hp → VK → Prop := fun xs H Q => ∃ p ys, xs = [.ref p] ∧ (SqL K H p ys ∨ SqT K H p ys) ∧ ∀ l, H l = none → Q (.ref l) (upd H l (.lst ys))
theorem call_lenA : CallR X (.builtin "len") (cOr (cLenQ X.K) cLenS) := CallR.or call_len_seq call_len_str
theorem call_absA : CallR X (.builtin "abs") cAbs := call_abs
theorem call_intA : CallR X (.type "int") cInt := call_int1
theorem call_listA : CallR X (.type "list") (cList X.K) := call_list_of
end
/-! ### readings, step by step -/
section
variable {K : PySem.W.Frag} {σ : L2.St} {H : Hp} {D : Ends} {Q : VK} {QA : List V → Hp → Prop} {QT : Bool → Hp → Prop} {i : Nat} {v x y : V} {ta tb te : TE} {t u : TS} {tt tu : TT} {tr : TA} {r r' : R2} {g : TG} {n m : Int} {b c : Bool} {Ps Qs : List SP} {a : Addr} {o : HO} {xs ys : List V}
theorem q_seq (h : t { D with nx := u D } σ H) : tSeq t u D σ H := h
theorem q_set (h : te σ H fun x H1 => D.nx (σ.set i (some x)) H1) : tAsg te (gName i) D σ H := h
theorem q_asg (h : te σ H fun x H1 => g x σ H1 D.nx) : tAsg te g D σ H := h
theorem q_ret (h : te σ H D.rt) : tRet te D σ H := h
theorem q_drop (h : te σ H fun _ H1 => D.nx σ H1) : tDrop te D σ H := h
theorem q_next (h : D.nx σ H) : tNext D σ H := h
theorem q_var (e : σ[i]? = some (some v)) (h : Q v H) : tVar i σ H Q := ⟨v, e, h⟩
theorem q_c (h : Q v H) : tC v σ H Q := h
theorem q_op (h : ta σ H fun x H1 => tb σ H1 fun y H2 => r x y H2 Q) : tOp r ta tb σ H Q := h
theorem q_un {f : V → Hp → VK → Prop} (h : ta σ H fun x H1 => f x H1 Q) : tUn f ta σ H Q := h
theorem q_nil (h : QA [] H) : tNil σ H QA := h
theorem q_cons (h : te σ H fun x H1 => tr σ H1 fun xs H2 => QA (x :: xs) H2) : tCons te tr σ H QA := h
theorem q_cb {f : List V → Hp → VK → Prop} (h : tr σ H fun vs H1 => f vs H1 Q) : tCB f tr σ H Q := h
theorem q_call {sp : Sp} {E : XK} (h : tr σ H fun vs H1 => sp vs H1 Q E) : tCall sp [] E tr σ H Q := by
  have e : ∀ vs : List V, vs ++ [] = vs := List.append_nil
  unfold tCall
  simp only [e]
  exact h
theorem q_ifs (h : tt σ H fun b H1 => if b = true then t D σ H1 else u D σ H1) : tIfS tt t u D σ H := h
theorem q_if (h : tt σ H fun c H1 => if c = true then ta σ H1 Q else tb σ H1 Q) : tIf tt ta tb σ H Q := h
theorem q_test (h : te σ H fun x H' => ∃ k, x = .bl k ∧ QT k H') : tTest te σ H QT := h
theorem q_tb (h : te σ H fun x H' => ∃ k, x = .bl k ∧ QT k H') : tB te σ H QT := h
theorem q_bl (h : QT b H) : ∃ k, V.bl b = .bl k ∧ QT k H := ⟨b, rfl, h⟩
theorem q_notT (h : tt σ H fun c H1 => QT (!c) H1) : tNot tt σ H QT := h
theorem q_andT (h : tt σ H fun c H1 => if c = true then tu σ H1 QT else QT false H1) : tAnd tt tu σ H QT := h
theorem q_orT (h : tt σ H fun c H1 => if c = true then QT true H1 else tu σ H1 QT) : tOr tt tu σ H QT := h
theorem q_andV (h : ta σ H fun x H1 => ∃ c, x = .bl c ∧ if c = true then tb σ H1 Q else Q (.bl false) H1) : tAndV ta tb σ H Q := h
theorem q_orV (h : ta σ H fun x H1 => ∃ c, x = .bl c ∧ if c = true then Q (.bl true) H1 else tb σ H1 Q) : tOrV ta tb σ H Q := h
theorem q_notV (h : ta σ H fun x H1 => ∃ c, x = .bl c ∧ Q (.bl (!c)) H1) : tNotV ta σ H Q := h
theorem q_blI {p : Bool → Prop} (h : p b) : ∃ c, V.bl b = .bl c ∧ p c := ⟨b, rfl, h⟩
theorem q_orL (h : r x y H Q) : rOr r r' x y H Q := .inl h
theorem q_orR (h : r' x y H Q) : rOr r r' x y H Q := .inr h
theorem q_rI0 {f : Int → Int → V} (h : Q (f n m) H) : rI0 f (.int n) (.int m) H Q := ⟨n, m, rfl, rfl, h⟩
theorem q_addI (h : Q (.int (n + m)) H) : rAddI (.int n) (.int m) H Q := ⟨n, m, rfl, rfl, h⟩
theorem q_addA (h : Q (.int (n + m)) H) : rAddA (.int n) (.int m) H Q := .inl ⟨n, m, rfl, rfl, h⟩
theorem q_subI (h : Q (.int (n - m)) H) : rSubI (.int n) (.int m) H Q := ⟨n, m, rfl, rfl, h⟩
theorem q_ltI (h : Q (.bl (decide (n < m))) H) : rLtI (.int n) (.int m) H Q := ⟨n, m, rfl, rfl, h⟩
theorem q_leI (h : Q (.bl (decide (n ≤ m))) H) : rLeI (.int n) (.int m) H Q := ⟨n, m, rfl, rfl, h⟩
theorem q_gtI (h : Q (.bl (decide (m < n))) H) : rGtI (.int n) (.int m) H Q := ⟨n, m, rfl, rfl, h⟩
theorem q_geI (h : Q (.bl (decide (m ≤ n))) H) : rGeI (.int n) (.int m) H Q := ⟨n, m, rfl, rfl, h⟩
theorem q_eqI (h : Q (.bl (decide (n = m))) H) : rEqA K (.int n) (.int m) H Q := .inl ⟨rfl, by have e : decide (V.int n = V.int m) = decide (n = m) := decide_eq_decide.mpr ⟨V.int.inj, congrArg _⟩; rw [e]; exact h⟩
theorem q_neI (h : Q (.bl (!decide (n = m))) H) : rNeA K (.int n) (.int m) H Q := .inl ⟨rfl, by have e : decide (V.int n = V.int m) = decide (n = m) := decide_eq_decide.mpr ⟨V.int.inj, congrArg _⟩; rw [e]; exact h⟩
theorem q_mulI (hc : CMul n m) (h : Q (.int (n * m)) H) : rMulA (.int n) (.int m) H Q := .inl ⟨n, m, rfl, rfl, hc, h⟩
theorem q_modI (hc : 0 < m) (h : Q (.int (n % m)) H) : rModI (.int n) (.int m) H Q := ⟨n, m, rfl, rfl, hc, h⟩
theorem q_divI (hc : CDiv n m) (h : Q (.int (n / m)) H) : rDivI (.int n) (.int m) H Q := ⟨n, m, rfl, rfl, hc, h⟩
theorem q_powI (hc : CPow n m) (h : Q (.int (n ^ m.toNat)) H) : rPowI (.int n) (.int m) H Q := ⟨n, m, rfl, rfl, hc, h⟩
theorem q_abs (h : Q (.int (if n < 0 then -n else n)) H) : cAbs [.int n] H Q := ⟨n, rfl, h⟩
theorem q_int (h : Q (.int n) H) : cInt [.int n] H Q := .inl ⟨n, rfl, h⟩
theorem q_intB (h : Q (.int (if b then 1 else 0)) H) : cInt [.bl b] H Q := .inr ⟨b, rfl, h⟩
theorem q_max (h : Q (.int (if m > n then m else n)) H) : cMax2 [.int n, .int m] H Q := ⟨n, m, rfl, h⟩
theorem q_min (h : Q (.int (if m < n then m else n)) H) : cMin2 [.int n, .int m] H Q := ⟨n, m, rfl, h⟩
theorem q_lenL (s : SqL K H a xs) (h : Q (.int (xs.length : Int)) H) : cOr (cLenQ K) cLenS [.ref a] H Q := .inl ⟨a, xs, rfl, .inl s, h⟩
theorem q_lenT (s : SqT K H a xs) (h : Q (.int (xs.length : Int)) H) : cOr (cLenQ K) cLenS [.ref a] H Q := .inl ⟨a, xs, rfl, .inr s, h⟩
theorem q_lenS {z : Str} (s : z.length ≤ sizeLine) (h : Q (.int (z.length : Int)) H) : cOr (cLenQ K) cLenS [.str z] H Q := .inr ⟨z, rfl, s, h⟩
theorem q_ixL (s : SqL K H a xs) (e : atI xs n = some v) (h : Q v H) : rIx K (.ref a) (.int n) H Q := .inl ⟨a, xs, n, v, rfl, rfl, s, e, h⟩
theorem q_ixT (s : SqT K H a xs) (e : atI xs n = some v) (h : Q v H) : rIx K (.ref a) (.int n) H Q := .inr (.inl ⟨a, xs, n, v, rfl, rfl, s, e, h⟩)
theorem q_ixLL (s : SqL K H a xs) (e : atI xs n = some v) (h : Q v H) : rIxL K (.ref a) (.int n) H Q := ⟨a, xs, n, v, rfl, rfl, s, e, h⟩
theorem q_setL {QH : Hp → Prop} {k : Nat} (s : H a = some (.lst xs)) (e : ixN xs.length n = some k) (h : QH (upd H a (.lst (xs.set k v)))) : rSetL (.ref a) (.int n) v H QH := ⟨a, xs, n, k, rfl, rfl, s, e, h⟩
theorem q_ipAdd (h : Q (.int (n + m)) H) : ipI (fun i j => i + j) (.int n) (.int m) H Q := ⟨n, m, rfl, rfl, h⟩
theorem q_ipSub (h : Q (.int (n - m)) H) : ipI (fun i j => i - j) (.int n) (.int m) H Q := ⟨n, m, rfl, rfl, h⟩
theorem q_gsub {to ti : TE} {ts : TSet} {QG : L2.St → Hp → Prop} (h : to σ H fun o H1 => ti σ H1 fun i H2 => ts o i v H2 fun H3 => QG σ H3) : gSub to ti ts v σ H QG := h
theorem q_augs {to ti : TE} {tget : V → V → Hp → VK → Prop} {tip : TIp} {tset : TSet} (h : to σ H fun o H1 => ti σ H1 fun i H2 => tget o i H2 fun x H3 => te σ H3 fun y H4 => tip x y H4 fun z H5 => tset o i z H5 fun H6 => D.nx σ H6) :
    tAugS to ti te tget tip tset D σ H := h
theorem q_aug {ti : TIp} (e : σ[i]? = some (some x)) (h : te σ H fun y H1 => ti x y H1 fun z H2 => D.nx (σ.set i (some z)) H2) : tAug i te ti D σ H := ⟨x, e, h⟩
def kLst (Q : VK) : List V → Hp → Prop := fun xs H1 => xs.length ≤ sizeLine ∧ ∀ p, H1 p = none → Q (.ref p) (upd H1 p (.lst xs))
def kTup (Q : VK) : List V → Hp → Prop := fun xs H1 => xs.length ≤ sizeLine ∧ ∀ p, H1 p = none → Q (.ref p) (upd H1 p (.tup xs))
theorem q_lst (h : tr σ H (kLst Q)) : tLst tr σ H Q := h
theorem q_tup (h : tr σ H (kTup Q)) : tTup tr σ H Q := h
/-- a new object, known from then on -/
theorem q_new (S : Sep Ps H) (hl : xs.length ≤ 1000) (h : ∀ p H', Sep (pt p (.lst xs) :: Ps) H' → Q (.ref p) H') : kLst Q xs H := ⟨Nat.le_trans hl (by decide), fun p np => h p _ (S.new _ np)⟩
theorem q_newT (S : Sep Ps H) (hl : xs.length ≤ 1000) (h : ∀ p H', Sep (pt p (.tup xs) :: Ps) H' → Q (.ref p) H') : kTup Q xs H := ⟨Nat.le_trans hl (by decide), fun p np => h p _ (S.new _ np)⟩
theorem Sep.sq (S : Sep Ps H) (p : Pick (pt a (.lst xs)) Ps Qs) : SqL K H a xs := SqL.of (S.at_ p)
theorem Sep.st (S : Sep Ps H) (p : Pick (pt a (.tup xs)) Ps Qs) : SqT K H a xs := SqT.of (S.at_ p)
theorem q_fld {C dx : Addr} {fs : List (Str × V)} {f : Str} (h : ta σ H fun x H1 => ∃ a C dx fs v, x = .ref a ∧ H1 a = some (.ins C dx fs) ∧ Cls K C ∧ NoAttr K C f ∧ fs.lookup f = some v ∧ Q v H1) : tFld K ta f σ H Q := h
theorem q_fldA {C dx : Addr} {fs : List (Str × V)} {f : Str} (s : H a = some (.ins C dx fs)) (c : Cls K C) (na : NoAttr K C f) (l : fs.lookup f = some v) (h : Q v H) :
    ∃ a' C dx fs v, V.ref a = .ref a' ∧ H a' = some (.ins C dx fs) ∧ Cls K C ∧ NoAttr K C f ∧ fs.lookup f = some v ∧ Q v H := ⟨a, C, dx, fs, v, rfl, s, c, na, l, h⟩
theorem q_ite {p A B : Prop} [Decidable p] (h1 : p → A) (h2 : ¬ p → B) : if decide p = true then A else B := by
  by_cases h : p
  · rw [decide_eq_true h]; exact iteT (h1 h)
  · rw [decide_eq_false h]; exact iteF (h2 h)
theorem q_iteN {p A B : Prop} [Decidable p] (h1 : ¬ p → A) (h2 : p → B) : if (!decide p) = true then A else B := by
  by_cases h : p
  · rw [decide_eq_true h]; exact iteF (h2 h)
  · rw [decide_eq_false h]; exact iteT (h1 h)
theorem q_iteB {b : Bool} {A B : Prop} (h1 : b = true → A) (h2 : b = false → B) : if b = true then A else B := by
  cases b
  · exact iteF (h2 rfl)
  · exact iteT (h1 rfl)
theorem iteNT {A B : Prop} (h : B) : if (!true) = true then A else B := iteF h
theorem iteNF {A B : Prop} (h : A) : if (!false) = true then A else B := iteT h
theorem q_cut {Mid : L2.St → Hp → Prop} (h : t { D with nx := Mid } σ H) (k : ∀ σ' H', Mid σ' H' → u D σ' H') : C8.tCut t u D σ H := ⟨Mid, h, k⟩
theorem q_setS {QH : Hp → Prop} {k : Nat} (S : Sep Ps H) (r : Repl a (.lst xs) (.lst (xs.set k v)) Ps Qs) (e : ixN xs.length n = some k) (h : ∀ H', Sep Qs H' → QH H') : rSetL (.ref a) (.int n) v H QH :=
  ⟨a, xs, n, k, rfl, rfl, by obtain ⟨Rs, p, _⟩ := r.pick; exact S.at_ p, e, h _ (S.set r)⟩
theorem at_i {α : Type} {xs : List α} (h0 : 0 ≤ n) (h1 : n < xs.length) : ∃ w, atI xs n = some w ∧ w ∈ xs := by
  obtain ⟨j, rfl⟩ := Int.eq_ofNat_of_zero_le h0
  have hj : j < xs.length := by omega
  exact ⟨xs[j], atI_nat (List.getElem?_eq_getElem hj), List.getElem_mem hj⟩
end
end Kt

set_option Elab.async false
set_option linter.all false
set_option maxRecDepth 100000
namespace Kt
open PySem L2 PyProof.Rows
/-! ### classes and their methods by name -/
structure Mt (K : PySem.W.Frag) (C : Addr) (m qual : Str) (st : Stmt) (ps : List Str) (f : Addr) : Prop where
  fn : ∃ fd, Fun K m qual st f fd ∧ Binds K fd ps []
  at_ : Meth K C m f
structure Mf (P : Program) (w : World) (K : PySem.W.Frag) (mg : Str → Option Value) (base : Heap) (k : Nat) (C : Addr) (m : Str) (ps : List Str) (sp : Sp) : Prop where
  fn : ∃ f fd, FnOk P w K mg base CX0 k f fd ps sp ∧ Binds K fd ps [] ∧ Meth K C m f
  cls : Cls K C
structure Ct (K : PySem.W.Frag) (mg : Str → Option Value) (x : Str) (C f : Addr) : Prop where
  at_ : mg x = some (.ref C)
  mkr : Mk K C f
/-- a class that may be called: its __init__'s promise -/
structure Cf (P : Program) (w : World) (K : PySem.W.Frag) (mg : Str → Option Value) (base : Heap) (k : Nat) (x : Str) (C : Addr) (ps : List Str) (sp : Sp) : Prop where
  fn : ∃ f fd, FnOk P w K mg base CX0 k f fd ps sp ∧ Binds K fd ps [] ∧ Mk K C f
  at_ : mg x = some (.ref C)
section
variable {P : Program} {w : World} {K : PySem.W.Frag} {mg : Str → Option Value} {base : Heap}
theorem Mt.ok {C : Addr} {x qual : Str} {st : Stmt} {f : Addr} {N ps : List Str} {k : Nat} {sp : Sp} (T : Mt K C x qual st ps f) (c : Cls K C) (S : FnScope N ps (defScope st)) (len : ∀ vs H Q E, sp vs H Q E → vs.length = ps.length)
    (hbody : ∀ (cdv : Value) (A : Around) (outer : List Env) (s : Shared) (H : Hp) (vs : List V) (Q : VK) (E : XK), Room k (A.deeper (envOfC qual (defScope st) s.heap.objs.size f cdv)) → sp vs H Q E →
      ∃ t, PSs (cxOf CX0 P w K mg base N qual (defScope st) f cdv A outer s H E).nox (defBody st) t ∧ t { nx := fun _ H' => Q .non H', rt := Q } (start N vs) H) : Mf P w K mg base (k + 1) C x ps sp := by
  obtain ⟨fd, F, b⟩ := T.fn
  exact ⟨⟨f, fd, F.ok S len hbody, b, T.at_⟩, c⟩
theorem Mf.cf {C f : Addr} {x : Str} {ps : List Str} {k : Nat} {sp : Sp} (M : Mf P w K mg base k C "__init__" ps sp) (T : Ct K mg x C f) : Cf P w K mg base k x C ps sp := by
  obtain ⟨g, fd, F, b, m⟩ := M.fn
  have e : g = f := by
    have h1 := m.at_
    rw [T.mkr.init] at h1
    cases h1
    rfl
  subst e
  exact ⟨⟨g, fd, F, b, T.mkr⟩, T.at_⟩
end
section
variable {X : Cx} {k : Nat} {x m : Str} {C : Addr} {ps : List Str} {sp : Sp} {o e : Expr} {es : List Expr} {to : TE} {t : TA} {p pos apos : Pos}
theorem pe_mf {pl : Sem Bool} (M : Mf X.prog X.w X.K X.mg X.base k C m ps sp) (hr : Room k X.A) (ho : PE X o to) (ha : PA X (e :: es) t)
    (hst : starEach (e :: es) X.env = (false, eval e X.env) :: starEach es X.env := by rfl) (hpl : (backTo pos (starEach es X.env)).any (·.1) = false := by rfl)
    (ht : eval (.Call (.Attribute o m apos) (e :: es) [] pos) X.env = (do
      let ov ← eval o X.env
      standAt apos.atName
      let (f, first) ← holding [ov] (getMethod ov m pl)
      callWith pos f first (backTo pos (starEach (e :: es) X.env)) (backToKw pos (keywordEach [] X.env))) := by rfl) : PE X (.Call (.Attribute o m apos) (e :: es) [] pos) (tMeth C m sp [] E0 to t) := by
  obtain ⟨f, fd, F, b, hm⟩ := M.fn
  exact pe_meth ho M.cls hm F hr b .nil pass0 ha hst hpl ht
theorem pe_mf0 {pl : Sem Bool} (M : Mf X.prog X.w X.K X.mg X.base k C m ps sp) (hr : Room k X.A) (ho : PE X o to)
    (ht : eval (.Call (.Attribute o m apos) [] [] pos) X.env = (do
      let ov ← eval o X.env
      standAt apos.atName
      let (f, first) ← holding [ov] (getMethod ov m pl)
      callWith pos f first [] []) := by rfl) : PE X (.Call (.Attribute o m apos) [] [] pos) (tMeth C m sp [] E0 to tNil) := by
  obtain ⟨f, fd, F, b, hm⟩ := M.fn
  exact pe_meth0 ho M.cls hm F hr b .nil pass0 ht
theorem pe_cf (M : Cf X.prog X.w X.K X.mg X.base k x C ps sp) (hr : Room (k + 1) X.A) (ha : PA X (e :: es) t) (hg : Gl X x := by rfl) (hd : (x == ("__debug__" : Str)) = false := by decide)
    (he : starEach (e :: es) X.env = (false, eval e X.env) :: starEach es X.env := by rfl) (hpl : (backTo pos (starEach es X.env)).any (·.1) = false := by rfl) : PE X (.Call (.Name x p) (e :: es) [] pos) (tMake C sp [] E0 t) := by
  obtain ⟨f, fd, F, b, M'⟩ := M.fn
  exact pe_make M' F hr hg M.at_ b .nil pass0 ha hd he hpl
end
/-! ### own operators of instances -/
section
variable {X : Cx} {k : Nat} {C : Addr} {ps : List Str} {sp : Sp}
theorem ins_at {pins : List (Addr × Obj)} {σ : L2.St} {H : Hp} {s : Shared} {a dx : Addr} {fs : List (Str × V)} (I : Inv X pins σ H s) (h : H a = some (.ins C dx fs)) : ∃ ox od, PySem.W.InstAt s.heap a ox C od := by
  obtain ⟨mA, O, _⟩ := ins_get I.hok h
  obtain ⟨od, J, _⟩ := O.look
  exact ⟨_, _, J⟩
/-- o[i] = v by an own __setitem__ -/
def rSetOwn (C : Addr) (sp : Sp) : TSet := fun o i v H Q => ∃ a dx fs, o = .ref a ∧ H a = some (.ins C dx fs) ∧ sp [.ref a, i, v] H (fun _ H' => Q H') E0
theorem set_own (M : Mf X.prog X.w X.K X.mg X.base k C "__setitem__" ps sp) (hr : Room k X.A) (hq : PySem.W.noSeq X.K C = true) : PSet X (rSetOwn C sp) := by
  intro pins s σ H o i v ov iv u Q I ro ri rv h
  obtain ⟨a, dx, fs, rfl, ha, q⟩ := h
  cases (show ov = Value.ref a from ro)
  obtain ⟨f, fd, F, b, hm⟩ := M.fn
  obtain ⟨ox, od, J⟩ := ins_at I ha
  obtain ⟨m, hF⟩ := I.fr
  refine PySem.W.ksp_setItem hF I.ok.mod.kin J hq hm.at_ hm.fn ?_
  exact wpAny_mono (run_fn (us := [.ref a, iv, u]) (vs := [.ref a, i, v]) F hr b .nil pass0 I (.cons rfl (.cons ri (.cons rv .nil))) (by rw [List.append_nil]; exact q)) (fun z s' ⟨y, H', I', r', q'⟩ => ⟨H', I', q'⟩) fun _ _ z => z
/-- x += y by an own __iadd__ -/
def rInpOwn (C : Addr) (sp : Sp) : TIp := fun x y H Q => ∃ a dx fs, x = .ref a ∧ H a = some (.ins C dx fs) ∧ sp [.ref a, y] H Q E0
theorem ip_own (M : Mf X.prog X.w X.K X.mg X.base k C "__iadd__" ps sp) (hr : Room k X.A) (hc : PySem.W.selfFirst X.K C = true) : PIp X .Add (rInpOwn C sp) := by
  intro pins s σ H x y v u Q I rx ry h
  obtain ⟨a, dx, fs, rfl, ha, q⟩ := h
  cases (show v = Value.ref a from rx)
  obtain ⟨f, fd, F, b, hm⟩ := M.fn
  obtain ⟨ox, od, J⟩ := ins_at I ha
  obtain ⟨m, hF⟩ := I.fr
  refine PySem.W.ksp_inplace (op := .Add) hF I.ok.mod.kin J hc hm.at_ hm.fn ?_
  exact wpAny_mono (run_fn (us := [.ref a, u]) (vs := [.ref a, y]) F hr b .nil pass0 I (.cons rfl (.cons ry .nil)) (by rw [List.append_nil]; exact q)) (fun z s' ⟨y', H', I', r', q'⟩ => SlX.cmpback r' ⟨y', H', I', r', q'⟩) fun _ _ z => z
end
/-! ### xs[a:c] = ys -/
section
variable {X : Cx} {o e : Expr} {lo hi : Option Expr} {to te : TE} {tl th : TO} {p2 pos tpos : Pos}
/-- the bounds of a slice that may reach beyond the end -/
theorem bounds_clip (a c n : Nat) (h : a ≤ n) : sliceBounds (some (a : Int)) (some (c : Int)) none n = ((a : Int), ((min c n : Nat) : Int), 1) := by
  have p1 : ¬ ((a : Int) < 0) := by omega
  have p2 : ¬ ((c : Int) < 0) := by omega
  simp only [sliceBounds, Option.getD_none, p1, p2, if_false, show (1 : Int) > 0 from by decide, if_true]
  refine Prod.ext ?_ (Prod.ext ?_ rfl)
  · show max 0 (min (a : Int) (n : Int)) = a; omega
  · show max 0 (min (c : Int) (n : Int)) = ((min c n : Nat) : Int); omega
theorem setItem_clip {prog : Program} {w : World} {A : Around} {E : Value → Shared → Prop} {s : Shared} {l b sl : Addr} {u v : List Value} {n n2 : Nat} {vl vu : Value} {a c : Nat} {Q : Unit → Shared → Prop}
    (e : s.heap.get? l = some { cls := .type "list", data := .seq u.toArray n }) (e2 : s.heap.get? b = some { cls := .type "list", data := .seq v.toArray n2 }) (hne : l ≠ b) (hs : s.heap.IsSliceOf sl vl vu .none)
    (pl : IsPart vl (some (a : Int))) (pu : IsPart vu (some (c : Int))) (ha : a ≤ u.length) (hac : a ≤ c) (hz : u.length + v.length ≤ sizeLine)
    (h : Q () { s with heap := s.heap.update l (Obj.mapSeq fun xs => xs.extract 0 a ++ v.toArray ++ xs.extract (min c u.length) xs.size) }) : wpAny (model prog w) A (setItem (.ref l) (.ref sl) (.ref b)) Q E s := by
  have lst : s.heap.IsList l u.toArray ∧ s.heap.IsList b v.toArray := ⟨PySem.IsL.isList e, PySem.IsL.isList e2⟩
  obtain ⟨os, g1, g2, g3⟩ := hs
  have ty : s.TypeIs (.ref sl) "slice" := ⟨os, g1, g2⟩
  have apart : Builtin.List.listSameRef (.ref l) (.ref b) = false := beq_eq_false_iff_ne.mpr hne
  have top : (max (a : Int) ((min c u.length : Nat) : Int)).toNat = min c u.length := by omega
  have fit : u.toArray.size + v.toArray.size ≤ sizeLine := by simpa using hz
  have out : ((fun xs : Array Value => xs.extract 0 a ++ v.toArray ++ xs.extract (min c u.length) xs.size) u.toArray).size ≤ sizeLine + 1 := by simp; omega
  have bd : sliceBounds (some (a : Int)) (some (c : Int)) none u.toArray.size = ((a : Int), ((min c u.length : Nat) : Int), 1) := by simpa using bounds_clip a c u.length ha
  unfold setItem
  refine wpAny_holding (wpAny_bind (wpAny_sequenceKey lst.1.typeIs (by decide) (wpAny_bind ?_)))
  refine wpAny_callSpecial?_slot (name := Str.ofString "__setitem__") lst.1.typeIs slot_list_setitem (wpAny_call_entry slot_list_setitem lst.1.typeIs entry_list_setitem ?_ (args_list_setitem _ _ _))
  show wpAny _ _ (Builtin.List.listSubscript? (Value.ref sl) >>= _) _ _ _
  unfold Builtin.List.listSubscript?
  refine wpAny_bind (wpAny_bind (wpAny_specialOf ty slice_no_index ?_))
  rw [if_pos (by rfl)]
  refine wpAny_pure (wpAny_bind (wpAny_typeOf ty ?_))
  rw [if_neg (by decide), listSliceParts_eq]
  refine wpAny_bind (wpAny_bind (wpAny_field g1 g3 (x := .none) rfl (wpAny_bind (wpAny_listPart IsPart.none ?_))))
  rw [if_neg (show ¬ ((rawPart none == rawInt 0) = true) from Bool.false_ne_true)]
  refine wpAny_bind (wpAny_field g1 g3 (x := vl) rfl (wpAny_bind (wpAny_listPart pl (wpAny_bind (wpAny_field g1 g3 (x := vu) rfl (wpAny_bind (wpAny_listPart pu (wpAny_pure ?_))))))))
  dsimp only
  rw [if_neg (by rw [apart]; exact Bool.false_ne_true)]
  refine wpAny_bind (m := Builtin.List.listAllItems (Value.ref b) _) ?_
  unfold Builtin.List.listAllItems
  refine wpAny_bind (wpAny_typeOf lst.2.typeIs (PySem.W.KFB.if_so (by decide) ?_))
  unfold Builtin.List.listItems
  refine wpAny_bind (wpAny_seqItems e2 rfl (wpAny_pure (wpAny_bind (wpAny_bind (wpAny_seqItems e rfl (wpAny_pure ?_))))))
  have si := sliceIndices_raw (some (a : Int)) (some (c : Int)) none u.toArray.size (by simp)
  rw [bd] at si
  refine wpAny_bind (wpAny_of_eq si ?_)
  dsimp only
  rw [if_pos (by decide)]
  refine wpAny_bind (wpAny_rule (PySem.W.KFB.if_not (notLongL fit) ?_))
  have key : wpAny (model prog w) A.in1 (updateSeq l fun xs => xs.extract 0 (a : Int).toNat ++ v.toArray ++ xs.extract (max (a : Int) ((min c u.length : Nat) : Int)).toNat xs.size) (fun _ s' => s' = { s with heap := s.heap.update l (Obj.mapSeq fun xs => xs.extract 0 a ++ v.toArray ++ xs.extract (min c u.length) xs.size) }) (fun _ _ => False) s := by
    rw [top, Int.toNat_natCast]
    exact wpAny_updateSeq (hz := Nat.le_trans (Nat.le_add_right _ _) fit) (_hz' := out) e rfl rfl
  refine wpAny_bind (wpAny_mono key (fun _ s' es => ?_) fun _ _ z => z.elim)
  subst es
  exact wpAny_bind (wpAny_letGo (wpAny_pure ⟨.none, rfl, wpAny_pure h⟩))
/-- o[lo:hi] = v: the list that is written, and another one -/
def gSl (to : TE) (tl th : TO) : TG := fun v σ H Q => to σ H fun x H1 => tl σ H1 fun lo H2 => th σ H2 fun hi H3 => ∃ (l b : Addr) (xs ys : List V) (a c : Nat), x = .ref l ∧ v = .ref b ∧ lo = some (a : Int) ∧ hi = some (c : Int) ∧
  H3 l = some (.lst xs) ∧ H3 b = some (.lst ys) ∧ l ≠ b ∧ a ≤ xs.length ∧ a ≤ c ∧ xs.length + ys.length ≤ sizeLine ∧ Q σ (upd H3 l (.lst (xs.take a ++ ys ++ xs.drop c)))
theorem pg_slice (ho : PE X o to) (hl : PO X lo tl) (hu : PO X hi th)
    (ha : ∀ v, assign (.Subscript o (.Slice lo hi none p2) tpos) X.env v = (do
      let ov ← holding [v] (eval o X.env)
      let iv ← holding [v, ov] (eval (.Slice lo hi none p2) X.env)
      standAt tpos
      holding [v, ov, iv] (setItem ov iv v)
      release [iv, v, ov] []) := by intro _; rfl) : PG X (.Subscript o (.Slice lo hi none p2) tpos) (gSl to tl th) := by
  refine ⟨fun pins s σ H v u Q I r h => ?_⟩
  rw [ha]
  refine wpAny_bind (wpAny_holding (thn (ho.run pins s σ H _ I h) fun ov s1 ⟨x, H1, I1, r1, q1⟩ => ?_))
  refine wpAny_bind (wpAny_holding (wpAny_Slice (thn (hl.run pins s1 σ H1 _ I1 q1) fun vl s2 ⟨z1, H2, I2, pl, q2⟩ => thn (hu.run pins s2 σ H2 _ I2 q2) fun vu s3 ⟨z2, H3, I3, pu, q3⟩ => ?_)))
  obtain ⟨l, b, xs, ys, a, c, rfl, rfl, rfl, rfl, hL, hB, hne, h1, h2, hz, q⟩ := q3
  cases (show ov = Value.ref l from r1)
  cases (show u = Value.ref b from r)
  rw [evalPart_none]
  have I4 : Inv X pins σ H3 { s3 with heap := s3.heap.push { cls := .type "slice", data := .fields #[vl, vu, .none] } } := I3.kept (t' := s3.toks) fun _ _ z => Heap.get?_push_of_some _ z
  refine wpAny_pure ?_
  obtain ⟨z, u1, n1, r1', hl1, e1⟩ := I4.lstM hL
  obtain ⟨z2, u2, n2, r2', hl2, e2⟩ := I4.lstM hB
  refine wpAny_bind (wpAny_standAt (wpAny_bind (wpAny_holding (setItem_clip e1 e2 hne (Heap.IsSliceOf.new ..) pl pu (by omega) h2 (by omega) (wpAny_release ⟨σ, _, ?_, q⟩)))))
  refine I4.lset (its' := u1.take a ++ u2 ++ u1.drop (min c u1.length)) (t' := s3.toks) hL e1 (splice_eq u1 u2 a _) ?_ ?_
  · have e3 : xs.drop c = xs.drop (min c u1.length) := by
      by_cases hc : c ≤ u1.length
      · rw [Nat.min_eq_left hc]
      · rw [Nat.min_eq_right (by omega), List.drop_eq_nil_of_le (by omega), List.drop_eq_nil_of_le (by omega)]
    rw [e3]
    exact Vals.append (Vals.append (r1'.take _) r2') (r1'.drop _)
  · rw [List.length_append, List.length_append, List.length_take, List.length_drop]
    omega
end
end Kt

set_option Elab.async false
set_option linter.all false
set_option maxRecDepth 100000
namespace Kt
open PySem L2 PyProof.Rows
/-! ### fields as written lists -/
theorem lk_eq {f : Str} {v : V} {r : List (Str × V)} : List.lookup f ((f, v) :: r) = some v := by simp
theorem lk_ne {f g : Str} {v : V} {r : List (Str × V)} (h : f ≠ g) : List.lookup f ((g, v) :: r) = List.lookup f r := by
  have e : (f == g) = false := beq_eq_false_iff_ne.mpr h
  simp [List.lookup_cons, e]
theorem pf_nil {f : Str} {v : V} : putF f v [] = [(f, v)] := rfl
theorem pf_eq {f : Str} {v x : V} {r : List (Str × V)} : putF f v ((f, x) :: r) = (f, v) :: r := if_pos rfl
theorem pf_ne {f g : Str} {v x : V} {r r' : List (Str × V)} (h : g ≠ f) (e : putF f v r = r') : putF f v ((g, x) :: r) = (g, x) :: r' := by
  rw [← e]
  exact if_neg h
section
variable {X : Cx} {e o value : Expr} {ta tv : TE} {f : Str} {pos pos' : Pos}
theorem pe_fldK (K : PySem.W.Frag) (he : PE X e ta) (hK : X.K = K := by rfl) (hb : attributeBase e f X.env (eval e X.env) = eval e X.env := by rfl) : PE X (.Attribute e f pos) (tFld K ta f) := hK ▸ pe_fld he hb
theorem ps_fldK (K : PySem.W.Frag) (ha : PE X o ta) (hv : PE X value tv) (hK : X.K = K := by rfl) (hs : swapsWith value (some (.Attribute o f pos')) pos.line X.env = pure false := by rfl) : PS X (.Assign [.Attribute o f pos'] value pos) (sFld K ta tv f) := hK ▸ ps_fld ha hv hs
theorem pi_listK (K : PySem.W.Frag) {tg l : Expr} {tl : TE} (hl : PE X l tl) (hK : X.K = K := by rfl) : PI X tg l (iList K tl) := hK ▸ pi_list hl
theorem pi_tupK (K : PySem.W.Frag) {tg l : Expr} {tl : TE} (hl : PE X l tl) (hK : X.K = K := by rfl) : PI X tg l (iTup K tl) := hK ▸ pi_tup hl
theorem pg_tupK (K : PySem.W.Frag) {es : List Expr} {k n : Nat} {t : TGs} (hc : X.calm = true) (h : PGs X es t) (hK : X.K = K := by rfl) (hn : (assignEach es X.env).length = n := by rfl) (hst : (assignEach es X.env).findIdx? (·.1) = none := by rfl) : PG X (.Tuple es k pos) (gTup K n t) := hK ▸ pg_tup hc h hn hst
theorem pg_unlK (K : PySem.W.Frag) {es : List Expr} {k n : Nat} {t : TGs} (hc : X.calm = true) (h : PGs X es t) (hK : X.K = K := by rfl) (hn : (assignEach es X.env).length = n := by rfl) (hst : (assignEach es X.env).findIdx? (·.1) = none := by rfl) : PG X (.Tuple es k pos) (gUnl K n t) := hK ▸ pg_unl hc h hn hst
theorem pe_bmK (K : PySem.W.Frag) {es : List Expr} {to : TE} {t : TA} {name : Str} {apos cpos : Pos} {T id : String} {r : V → List V → Hp → VK → Prop} (pa : PlainAttrs T) (slot : Slot T name id) (hty : typeOf (.builtin id) = pure (.type "method_descriptor")) (hm : MtR X id r) (ho : PE X o to) (ha : PA X (e :: es) t) (hK : X.K = K := by rfl)
    (hbase : attributeBase o name X.env (eval o X.env) = eval o X.env := by rfl)
    (hfew : ((backTo cpos (starEach (e :: es) X.env)).all (fun x => !x.1) && (backToKw cpos (keywordEach [] X.env)).all (fun x => x.1.isSome)
      && decide ((e :: es).length + ([] : List Keyword).length + (if ([] : List Keyword).isEmpty then 0 else 1) < 30)) = true := by rfl)
    (hline : (apos.endLine == cpos.line) = true := by rfl) (hs : starEach (e :: es) X.env = (false, eval e X.env) :: starEach es X.env := by rfl) (hplain : (backTo cpos (starEach es X.env)).any (·.1) = false := by rfl) :
    PE X (.Call (.Attribute o name apos) (e :: es) [] cpos) (tBM K T r to t) := hK ▸ pe_bm pa slot hty hm ho ha hbase hfew hline hs hplain
theorem pe_bm0K (K : PySem.W.Frag) {to : TE} {name : Str} {apos cpos : Pos} {T id : String} {r : V → List V → Hp → VK → Prop} (pa : PlainAttrs T) (slot : Slot T name id) (hty : typeOf (.builtin id) = pure (.type "method_descriptor")) (hm : MtR X id r) (ho : PE X o to) (hK : X.K = K := by rfl)
    (hbase : attributeBase o name X.env (eval o X.env) = eval o X.env := by rfl) (hline : (apos.endLine == cpos.line) = true := by rfl) : PE X (.Call (.Attribute o name apos) [] [] cpos) (tBM0 K T r to) := hK ▸ pe_bm0 pa slot hty hm ho hbase hline
end
section
variable {K : PySem.W.Frag} {σ : L2.St} {H : Hp} {D : Ends} {Q : VK} {QA : List V → Hp → Prop} {QT : Bool → Hp → Prop} {QG : L2.St → Hp → Prop} {i : Nat} {v x y : V} {ta tb te : TE} {t u : TS} {tr : TA} {g : TG} {n m : Int} {b c : Bool} {Ps Qs : List SP} {a : Addr} {o : HO} {xs ys : List V} {C dx : Addr} {fs fs' : List (Str × V)} {f : Str} {sp : Sp}
def kFld (K : PySem.W.Frag) (f : Str) (Q : VK) : V → Hp → Prop := fun x H1 => ∃ a C dx fs v, x = .ref a ∧ H1 a = some (.ins C dx fs) ∧ Cls K C ∧ NoAttr K C f ∧ fs.lookup f = some v ∧ Q v H1
theorem r_fld (h : ta σ H (kFld K f Q)) : tFld K ta f σ H Q := h
theorem r_kfld (S : Sep Ps H) (p : Pick (pt a (.ins C dx fs)) Ps Qs) (c : Cls K C) (na : NoAttr K C f) (l : fs.lookup f = some v) (h : Q v H) : kFld K f Q (.ref a) H := ⟨a, C, dx, fs, v, rfl, S.at_ p, c, na, l, h⟩
def kSet (K : PySem.W.Frag) (f : Str) (y : V) (Q : Hp → Prop) : V → Hp → Prop := fun x H2 => ∃ a C dx fs, x = .ref a ∧ H2 a = some (.ins C dx fs) ∧ Cls K C ∧ NoAttr K C f ∧ fs.length < 1000 ∧ Q (upd H2 a (.ins C dx (putF f y fs)))
theorem r_sfld (h : tb σ H fun y H1 => ta σ H1 (kSet K f y (D.nx σ))) : sFld K ta tb f D σ H := h
theorem r_kset {QH : Hp → Prop} (S : Sep Ps H) (r : Repl a (.ins C dx fs) (.ins C dx fs') Ps Qs) (c : Cls K C) (na : NoAttr K C f) (hl : fs.length < 1000) (e : putF f y fs = fs') (h : ∀ H', Sep Qs H' → QH H') : kSet K f y QH (.ref a) H :=
  ⟨a, C, dx, fs, rfl, by obtain ⟨Rs, p, _⟩ := r.pick; exact S.at_ p, c, na, hl, by rw [e]; exact h _ (S.set r)⟩
def kMeth (C : Addr) (m : Str) (sp : Sp) (t : TA) (σ : L2.St) (Q : VK) : V → Hp → Prop := fun x H1 => ∃ a dx fs, x = .ref a ∧ H1 a = some (.ins C dx fs) ∧ fs.lookup m = none ∧ t σ H1 fun vs H2 => sp (x :: vs) H2 Q E0
theorem r_meth {m : Str} (h : ta σ H (kMeth C m sp tr σ Q)) : tMeth C m sp [] E0 ta tr σ H Q := by
  unfold tMeth
  simp only [List.append_nil]
  exact h
theorem r_kmeth {m : Str} (S : Sep Ps H) (p : Pick (pt a (.ins C dx fs)) Ps Qs) (l : fs.lookup m = none) (h : tr σ H fun vs H2 => sp (.ref a :: vs) H2 Q E0) : kMeth C m sp tr σ Q (.ref a) H := ⟨a, dx, fs, rfl, S.at_ p, l, h⟩
def kNew (C : Addr) (sp : Sp) (Q : VK) : List V → Hp → Prop := fun vs H1 => ∀ x dx, H1 x = none → H1 dx = none → dx ≠ x → sp (.ref x :: vs) (upd (upd H1 dx (.own x)) x (.ins C dx [])) (fun v H2 => v = .non ∧ Q (.ref x) H2) E0
theorem r_make (h : tr σ H (kNew C sp Q)) : tMake C sp [] E0 tr σ H Q := by
  unfold tMake
  simp only [List.append_nil]
  exact h
theorem Sep.made {Ps : List SP} {H : Hp} {x dx C : Addr} (S : Sep Ps H) (h1 : H x = none) (h2 : H dx = none) (ne : dx ≠ x) : Sep (pt x (.ins C dx []) :: Ps) (upd (upd H dx (.own x)) x (.ins C dx [])) :=
  Sep.new _ ((S.new _ h2).tl) (by rw [upd_ne (Ne.symm ne)]; exact h1)
theorem r_knew {vs : List V} (S : Sep Ps H) (h : ∀ x dx H', Sep (pt x (.ins C dx []) :: Ps) H' → sp (.ref x :: vs) H' (fun v H2 => v = .non ∧ Q (.ref x) H2) E0) : kNew C sp Q vs H := fun x dx h1 h2 ne => h x dx _ (S.made h1 h2 ne)
/-- slices of lists -/
def kSl (K : PySem.W.Frag) (Q : VK) : V → Option Int → Option Int → Hp → Prop := fun x lo hi H => rSlL K x lo hi H Q
theorem r_sl {tl th : TO} (h : te σ H fun x H1 => tl σ H1 fun l H2 => th σ H2 fun u H3 => kSl K Q x l u H3) : tSl (rSlL K) te tl th σ H Q := h
theorem r_nopart {QO : Option Int → Hp → Prop} (h : QO none H) : tNoPart σ H QO := h
def kPart (QO : Option Int → Hp → Prop) : V → Hp → Prop := fun x H1 => ∃ i, x = .int i ∧ QO (some i) H1
theorem r_part {QO : Option Int → Hp → Prop} (h : te σ H (kPart QO)) : tPart te σ H QO := h
theorem r_parti {QO : Option Int → Hp → Prop} (h : QO (some n) H) : kPart QO (.int n) H := ⟨n, rfl, h⟩
theorem r_ksl {lo hi : Option Int} (S : Sep Ps H) (s : SqL K H a xs) (h : ∀ p H', Sep (pt p (.lst (cutV xs lo hi)) :: Ps) H' → Q (.ref p) H') : kSl K Q (.ref a) lo hi H := ⟨a, xs, rfl, s, fun p np => h p _ (S.new _ np)⟩
theorem r_gsl {to : TE} {tl th : TO} (h : to σ H fun x H1 => tl σ H1 fun lo H2 => th σ H2 fun hi H3 => ∃ (l b : Addr) (xs ys : List V) (a c : Nat), x = .ref l ∧ v = .ref b ∧ lo = some (a : Int) ∧ hi = some (c : Int) ∧
  H3 l = some (.lst xs) ∧ H3 b = some (.lst ys) ∧ l ≠ b ∧ a ≤ xs.length ∧ a ≤ c ∧ xs.length + ys.length ≤ sizeLine ∧ QG σ (upd H3 l (.lst (xs.take a ++ ys ++ xs.drop c)))) : gSl to tl th v σ H QG := h
/-- list(xs) -/
theorem r_list (S : Sep Ps H) (s : SqL K H a xs) (h : ∀ p H', Sep (pt p (.lst xs) :: Ps) H' → Q (.ref p) H') : cList K [.ref a] H Q := ⟨a, xs, rfl, .inl s, fun p np => h p _ (S.new _ np)⟩
/-- xs + ys -/
theorem r_cat {q : Addr} (S : Sep Ps H) (s1 : H a = some (.lst xs)) (s2 : H q = some (.lst ys)) (hz : xs.length + ys.length ≤ 100000) (h : ∀ p H', Sep (pt p (.lst (xs ++ ys)) :: Ps) H' → Q (.ref p) H') : rAddA (.ref a) (.ref q) H Q :=
  .inr (.inl ⟨a, q, xs, ys, rfl, rfl, s1, s2, Nat.le_trans hz (by decide), fun p np => h p _ (S.new _ np)⟩)
/-- methods of lists -/
theorem r_bm {T : String} {r : V → List V → Hp → VK → Prop} {to : TE} (h : to σ H fun x H1 => tyV K T x H1 ∧ tr σ H1 fun xs H2 => r x xs H2 Q) : tBM K T r to tr σ H Q := h
theorem r_bm0 {T : String} {r : V → List V → Hp → VK → Prop} {to : TE} (h : to σ H fun x H1 => tyV K T x H1 ∧ r x [] H1 Q) : tBM0 K T r to σ H Q := h
theorem r_tyl {p : Prop} (s : SqL K H a xs) (h : p) : tyV K "list" (.ref a) H ∧ p := ⟨.inl ⟨rfl, xs, s⟩, h⟩
theorem r_append (S : Sep Ps H) (r : Repl a (.lst xs) (.lst (xs ++ [y])) Ps Qs) (hz : xs.length < 100000) (h : ∀ H', Sep Qs H' → Q .non H') : rAppend (.ref a) [y] H Q :=
  ⟨a, xs, y, rfl, rfl, by obtain ⟨Rs, p, _⟩ := r.pick; exact S.at_ p, Nat.lt_of_lt_of_le hz (by decide), h _ (S.set r)⟩
theorem r_reverse (S : Sep Ps H) (r : Repl a (.lst xs) (.lst xs.reverse) Ps Qs) (h : ∀ H', Sep Qs H' → Q .non H') : rReverse (.ref a) [] H Q :=
  ⟨a, xs, rfl, rfl, by obtain ⟨Rs, p, _⟩ := r.pick; exact S.at_ p, h _ (S.set r)⟩
theorem r_clear (S : Sep Ps H) (r : Repl a (.lst xs) (.lst []) Ps Qs) (h : ∀ H', Sep Qs H' → Q .non H') : rClear (.ref a) [] H Q :=
  ⟨a, xs, rfl, rfl, by obtain ⟨Rs, p, _⟩ := r.pick; exact S.at_ p, h _ (S.set r)⟩
/-- isinstance -/
theorem r_isi {T B : String} {k : Bool} (ty : TyX K H x (.type T)) (e : kitB T B = some k) (h : Q (.bl k) H) : rIsi K [x, .ty B] H Q := ⟨x, .ty B, _, _, k, rfl, .ty B, ty, kit_ty e, h⟩
theorem ty_int : TyX K H (.int n) (.type "int") := .base (.int n)
theorem ty_lst (h : H a = some (.lst xs)) : TyX K H (.ref a) (.type "list") := .base (.lst h)
theorem r_all {bs : List Bool} (s : SqL K H a (bs.map V.bl)) (h : Q (.bl (bs.all id)) H) : rAll K [.ref a] H Q := ⟨a, bs, rfl, s, h⟩
/-- loops -/
theorem r_for {wi : TI} (h : wi σ H fun J H1 => ∃ W : Nat → Nat → L2.St → Hp → Prop, (∃ m, W 0 m σ H1) ∧ ∀ i m σ H, W i m σ H →
  (J.stop i H ∧ D.nx σ H) ∨ (J.go i H ∧ ∃ N : L2.St → Hp → Prop, (∀ σ' H', N σ' H' → ∃ m', m' < m ∧ W (i + 1) m' σ' H') ∧ ∀ x H', J.yld i H x H' → g x σ H' fun σ2 H2 => t { D with nx := N, ct := N, bk := D.nx } σ2 H2)) : tFor wi g t D σ H := h
theorem r_ilist {R : It → Hp → Prop} {tl : TE} (h : tl σ H fun x H1 => ∃ a, x = .ref a ∧ (∃ xs, SqL K H1 a xs) ∧ R (Itl K a) H1) : iList K tl σ H R := h
theorem r_irng {R : It → Hp → Prop} (h : tr σ H fun vs H1 => ∃ j : Int, vs = [.int j] ∧ -(2 ^ 62) ≤ j ∧ j < 2 ^ 62 ∧ R (Itr 0 j.toNat) H1) : iRng1 tr σ H R := h
theorem r_irngA {R : It → Hp → Prop} (h1 : -(2 ^ 62) ≤ n) (h2 : n < 2 ^ 62) (h : R (Itr 0 n.toNat) H) : ∃ j : Int, [V.int n] = [.int j] ∧ -(2 ^ 62) ≤ j ∧ j < 2 ^ 62 ∧ R (Itr 0 j.toNat) H := ⟨n, rfl, h1, h2, h⟩
theorem r_gname {i : Nat} (h : QG (σ.set i (some v)) H) : gName i v σ H QG := h
/-- targets -/
theorem r_gunl {k : Nat} {tg : TGs} (s : SqL K H a xs) (l : xs.length = k) (h : tg xs σ H QG) : gUnl K k tg (.ref a) σ H QG := ⟨a, xs, rfl, s, l, h⟩
theorem r_gtup {k : Nat} {tg : TGs} (s : SqT K H a xs) (l : xs.length = k) (h : tg xs σ H QG) : gTup K k tg (.ref a) σ H QG := ⟨a, xs, rfl, s, l, h⟩
theorem r_gcons {tu : TGs} (h : g v σ H fun σ' H' => tu xs σ' H' QG) : gCons g tu (v :: xs) σ H QG := ⟨v, xs, rfl, h⟩
theorem r_gnil (h : QG σ H) : gNil [] σ H QG := ⟨rfl, h⟩
theorem r_par {i j : Nat} (h : tr σ H fun vs H1 => ∃ v w, vs = [v, w] ∧ D.nx ((σ.set i (some v)).set j (some w)) H1) : tPar i j tr D σ H := h
theorem r_parA {i j : Nat} {p : L2.St → Hp → Prop} (h : p ((σ.set i (some x)).set j (some y)) H) : ∃ v w, [x, y] = [v, w] ∧ p ((σ.set i (some v)).set j (some w)) H := ⟨x, y, rfl, h⟩
theorem r_chain {r r' : R2} {tc : TE} (h : ta σ H fun x H1 => tb σ H1 fun y H2 => r x y H2 fun z H3 => ∃ k, z = .bl k ∧ (if k = true then tc σ H3 fun w' H4 => r' y w' H4 Q else Q (.bl false) H3)) : tChain r r' ta tb tc σ H Q := h
theorem r_isN (h : Q (.bl (decide (x = .non))) H) : Kt.rIsN x .non H Q := ⟨rfl, h⟩
end
/-! ### a class whose __init__ has one keyword-only parameter -/
structure Mtk (K : PySem.W.Frag) (C : Addr) (qual : Str) (st : Stmt) (ps : List Str) (n : Nat) (ks : List Str) (gV : List V → List V → List V) (f : Addr) : Prop where
  fn : ∃ (fd : FuncData) (kws : List (Str × V)) (g : List Value → List Value → List Value), FunD K "__init__" qual (defArgs st) (defBody st) (defScope st) [] kws f fd ∧ KBn K fd ps (n + 1) ks g gV
  mkr : Mk K C f
structure Cfk (P : Program) (w : World) (K : PySem.W.Frag) (mg : Str → Option Value) (base : Heap) (k : Nat) (x : Str) (C : Addr) (ps : List Str) (n : Nat) (ks : List Str) (gV : List V → List V → List V) (sp : Sp) : Prop where
  fn : ∃ (f : Addr) (fd : FuncData) (g : List Value → List Value → List Value), FnOk P w K mg base CX0 k f fd ps sp ∧ KBn K fd ps (n + 1) ks g gV ∧ Mk K C f
  at_ : mg x = some (.ref C)
theorem Mtk.ok {P : Program} {w : World} {K : PySem.W.Frag} {mg : Str → Option Value} {base : Heap} {x : Str} {C : Addr} {qual : Str} {st : Stmt} {f : Addr} {N ps ks : List Str} {k n : Nat} {gV : List V → List V → List V} {sp : Sp} (T : Mtk K C qual st ps n ks gV f) (hx : mg x = some (.ref C)) (S : FnScope N ps (defScope st)) (len : ∀ vs H Q E, sp vs H Q E → vs.length = ps.length)
    (hbody : ∀ (cdv : Value) (A : Around) (outer : List Env) (s : Shared) (H : Hp) (vs : List V) (Q : VK) (E : XK), Room k (A.deeper (envOfC qual (defScope st) s.heap.objs.size f cdv)) → sp vs H Q E →
      ∃ t, PSs (cxOf CX0 P w K mg base N qual (defScope st) f cdv A outer s H E).nox (defBody st) t ∧ t { nx := fun _ H' => Q .non H', rt := Q } (start N vs) H) : Cfk P w K mg base (k + 1) x C ps n ks gV sp := by
  obtain ⟨fd, kws, g, F, b⟩ := T.fn
  refine ⟨⟨f, fd, g, F.ok S len fun cdv A outer s H vs Q E hr h => ?_, b, T.mkr⟩, hx⟩
  obtain ⟨t, ht, q⟩ := hbody cdv A outer s H vs Q E hr h
  exact ⟨t, ht.nox, q⟩
section
variable {X : Cx} {k n : Nat} {x : Str} {C : Addr} {ps ks : List Str} {gV : List V → List V → List V} {sp : Sp} {e : Expr} {es : List Expr} {kws : List Keyword} {t tk : TA} {p pos : Pos}
theorem pe_cfk (M : Cfk X.prog X.w X.K X.mg X.base k x C ps n ks gV sp) (hr : Room (k + 1) X.A) (ha : PA X (e :: es) t) (hkw : PK X kws tk) (hg : Gl X x := by rfl)
    (hall : (backToKw pos (keywordEach kws X.env)).all (·.1.isSome) = true := by rfl) (hks : (backToKw pos (keywordEach kws X.env)).filterMap (·.1) = ks := by rfl) (hd : (x == ("__debug__" : Str)) = false := by decide)
    (he : starEach (e :: es) X.env = (false, eval e X.env) :: starEach es X.env := by rfl) (hpl : ((backTo pos (starEach (e :: es) X.env)).any (·.1) || (backToKw pos (keywordEach kws X.env)).any (·.1.isNone)) = false := by rfl) :
    PE X (.Call (.Name x p) (e :: es) kws pos) (tMakeK C n ks.length sp gV E0 t tk) := by
  obtain ⟨f, fd, g, F, b, M'⟩ := M.fn
  exact pe_makeK M' F hr hg M.at_ b pass0 ha hkw hall hks hd he hpl
end
section
variable {K : PySem.W.Frag} {σ : L2.St} {H : Hp} {Q : VK} {t tk : TA} {C : Addr} {sp : Sp} {gV : List V → List V → List V} {n m : Nat} {Ps : List SP} {vs zs : List V}
def kNewK (C : Addr) (n m : Nat) (sp : Sp) (gV : List V → List V → List V) (Q : VK) (vs zs : List V) : Hp → Prop := fun H2 => vs.length = n ∧ zs.length = m ∧ ∀ x dx, H2 x = none → H2 dx = none → dx ≠ x → sp (gV (.ref x :: vs) zs) (upd (upd H2 dx (.own x)) x (.ins C dx [])) (fun v H3 => v = .non ∧ Q (.ref x) H3) E0
theorem r_makek (h : t σ H fun vs H1 => tk σ H1 fun zs H2 => kNewK C n m sp gV Q vs zs H2) : tMakeK C n m sp gV E0 t tk σ H Q := h
theorem r_knewk (S : Sep Ps H) (l1 : vs.length = n) (l2 : zs.length = m) (h : ∀ x dx H', Sep (pt x (.ins C dx []) :: Ps) H' → sp (gV (.ref x :: vs) zs) H' (fun v H2 => v = .non ∧ Q (.ref x) H2) E0) : kNewK C n m sp gV Q vs zs H := ⟨l1, l2, fun x dx h1 h2 ne => h x dx _ (S.made h1 h2 ne)⟩
end
/-! ### a local name that holds a def -/
section
variable {X : Cx} {k i : Nat} {x y : Str} {f : Addr} {ps : List Str} {sp : Sp} {e : Expr} {es : List Expr} {t : TA} {p pos : Pos}
theorem pe_dfL (D : Df X.prog X.w X.K X.mg X.base k y f ps sp) (hr : Room k X.A) (ha : PA X (e :: es) t) (hN : X.N[i]? = some x := by rfl) (hv : Vis X.env.scope x := by first | exact Or.inl rfl | exact Or.inr (Or.inl rfl) | exact Or.inr (Or.inr rfl))
    (hdb : (x == ("__debug__" : Str)) = false := by decide) (hcd : (x == ("__classdict__" : Str)) = false := by decide)
    (he : starEach (e :: es) X.env = (false, eval e X.env) :: starEach es X.env := by rfl) (hpl : (backTo pos (starEach es X.env)).any (·.1) = false := by rfl) : PE X (.Call (.Name x p) (e :: es) [] pos) (tCallL i f sp [] E0 t) := by
  obtain ⟨fd, F, b⟩ := D.fn
  exact pe_callL F hr hN hv D.kp b .nil pass0 ha hdb hcd he hpl
theorem r_calll {σ : L2.St} {H : Hp} {Q : VK} (hs : σ[i]? = some (some (.ref f))) (h : t σ H fun vs H1 => sp vs H1 Q E0) : tCallL i f sp [] E0 t σ H Q := by
  unfold tCallL
  simp only [List.append_nil]
  exact ⟨hs, h⟩
end
end Kt

set_option Elab.async false
set_option linter.all false
set_option maxRecDepth 100000
namespace Kt
open PySem L2 PyProof.Rows
section
variable {K : PySem.W.Frag} {σ : L2.St} {H : Hp} {D : Ends} {Q : VK} {a : Addr} {xs : List V} {Ps : List SP} {g : TG} {tb : TS} {tt : TT} {te : TE} {vs : List Nat} {n : Int}
/-- the turns of a loop, by a word over the slots and the known parts -/
abbrev LW := Nat → L2.St → List SP → Prop
def Nx (J : LW) (i : Nat) : L2.St → Hp → Prop := fun σ H => ∃ Ps, J i σ Ps ∧ Sep Ps H
theorem nx_in {J : LW} {i : Nat} (S : Sep Ps H) (j : J i σ Ps) : Nx J i σ H := ⟨Ps, j, S⟩
abbrev ForW (J : It) (g : TG) (tb : TS) (D : Ends) (σ : L2.St) (H1 : Hp) : Prop := ∃ W : Nat → Nat → L2.St → Hp → Prop, (∃ m, W 0 m σ H1) ∧ ∀ i m σ H, W i m σ H →
  (J.stop i H ∧ D.nx σ H) ∨ (J.go i H ∧ ∃ N : L2.St → Hp → Prop, (∀ σ' H', N σ' H' → ∃ m', m' < m ∧ W (i + 1) m' σ' H') ∧ ∀ x H', J.yld i H x H' → g x σ H' fun σ2 H2 => tb { D with nx := N, ct := N, bk := D.nx } σ2 H2)
theorem r_for_list (J : LW) (S : Sep Ps H) (h0 : J 0 σ Ps) (hl : ∀ i σ Ps H, i ≤ xs.length → J i σ Ps → Sep Ps H → SqL K H a xs)
    (hs : ∀ i x σ Ps H, xs[i]? = some x → J i σ Ps → Sep Ps H → g x σ H fun σ2 H2 => tb { D with nx := Nx J (i + 1), ct := Nx J (i + 1), bk := D.nx } σ2 H2) (hd : ∀ σ Ps H, J xs.length σ Ps → Sep Ps H → D.nx σ H) :
    ∃ a', V.ref a = .ref a' ∧ (∃ xs, SqL K H a' xs) ∧ ForW (Itl K a') g tb D σ H :=
  ⟨a, rfl, ⟨xs, hl 0 σ Ps H (Nat.zero_le _) h0 S⟩, for_list (K := K) (a := a) (xs := xs) (Nx J) ⟨Ps, h0, S⟩ (fun i σ H hi ⟨Ps, j, S⟩ => hl i σ Ps H hi j S) (fun i x σ H hi ⟨Ps, j, S⟩ => hs i x σ Ps H hi j S) fun σ H ⟨Ps, j, S⟩ => hd σ Ps H j S⟩
theorem r_for_tup (J : LW) (S : Sep Ps H) (h0 : J 0 σ Ps) (hl : ∀ i σ Ps H, i ≤ xs.length → J i σ Ps → Sep Ps H → SqT K H a xs)
    (hs : ∀ i x σ Ps H, xs[i]? = some x → J i σ Ps → Sep Ps H → g x σ H fun σ2 H2 => tb { D with nx := Nx J (i + 1), ct := Nx J (i + 1), bk := D.nx } σ2 H2) (hd : ∀ σ Ps H, J xs.length σ Ps → Sep Ps H → D.nx σ H) :
    ∃ a', V.ref a = .ref a' ∧ (∃ xs, SqT K H a' xs) ∧ ForW (Itt K a') g tb D σ H :=
  ⟨a, rfl, ⟨xs, hl 0 σ Ps H (Nat.zero_le _) h0 S⟩, for_tup (K := K) (a := a) (xs := xs) (Nx J) ⟨Ps, h0, S⟩ (fun i σ H hi ⟨Ps, j, S⟩ => hl i σ Ps H hi j S) (fun i x σ H hi ⟨Ps, j, S⟩ => hs i x σ Ps H hi j S) fun σ H ⟨Ps, j, S⟩ => hd σ Ps H j S⟩
/-- over range(n) -/
theorem r_for_rng (J : LW) (S : Sep Ps H) (h1 : -(2 ^ 62) ≤ n) (h2 : n < 2 ^ 62) (h0 : J 0 σ Ps)
    (hs : ∀ (i : Nat) σ Ps H, i < n.toNat → J i σ Ps → Sep Ps H → g (.int (i : Int)) σ H fun σ2 H2 => tb { D with nx := Nx J (i + 1), ct := Nx J (i + 1), bk := D.nx } σ2 H2) (hd : ∀ σ Ps H, J n.toNat σ Ps → Sep Ps H → D.nx σ H) :
    ∃ j : Int, [V.int n] = [.int j] ∧ -(2 ^ 62) ≤ j ∧ j < 2 ^ 62 ∧ ForW (Itr 0 j.toNat) g tb D σ H :=
  ⟨n, rfl, h1, h2, for_range (Nx J) ⟨Ps, h0, S⟩ (fun i σ H hi ⟨Ps, j, S⟩ => by rw [Int.zero_add]; exact hs i σ Ps H hi j S) fun σ H ⟨Ps, j, S⟩ => hd σ Ps H j S⟩
/-! ### comprehensions: J by the turn, what is made, the known parts -/
abbrev CW := Nat → List V → List SP → Prop
abbrev LcW (Jt : It) (g : TG) (tt : TT) (te : TE) (vs : List Nat) (Q : VK) (σ : L2.St) (H1 : Hp) : Prop := ∀ D, H1 D = none → ∃ W : Nat → Nat → Hp → Prop, (∃ m, W 0 m (upd H1 D (.lst []))) ∧ ∀ i m H, W i m H →
  (Jt.stop i H ∧ Q (.ref D) H) ∨ (Jt.go i H ∧ ∃ Nx : Hp → Prop, (∀ H', Nx H' → ∃ m', m' < m ∧ W (i + 1) m' H') ∧ ∀ x H', Jt.yld i H x H' → g x (wipe σ vs) H' fun σ2 H2 => wipe σ2 vs = wipe σ vs ∧ tt σ2 H2 fun b H3 =>
    if b = true then te σ2 H3 fun y H4 => ∃ acc, H4 D = some (.lst acc) ∧ acc.length < sizeLine ∧ Nx (upd H4 D (.lst (acc ++ [y]))) else Nx H3)
def CN (J : CW) (D : Addr) (i : Nat) : Hp → Prop := fun H => ∃ acc Ps, J i acc Ps ∧ Sep (pt D (.lst acc) :: Ps) H
/-- an item is made: the new list holds one more -/
theorem cn_in {J : CW} {D : Addr} {i : Nat} {acc : List V} {y : V} (S : Sep (pt D (.lst acc) :: Ps) H) (hl : acc.length < 100000) (j : J i (acc ++ [y]) Ps) : ∃ acc, H D = some (.lst acc) ∧ acc.length < sizeLine ∧ CN J D i (upd H D (.lst (acc ++ [y]))) :=
  ⟨acc, S.hd_at, Nat.lt_of_lt_of_le hl (by decide), acc ++ [y], Ps, j, S.hd_set _⟩
theorem cn_out {J : CW} {D : Addr} {i : Nat} {acc : List V} (S : Sep (pt D (.lst acc) :: Ps) H) (j : J i acc Ps) : CN J D i H := ⟨acc, Ps, j, S⟩
theorem r_lc (h : ∀ (wi : TI), wi = wi → True) : True := trivial
theorem r_tlc {wi : TI} (h : wi σ H fun Jt H1 => LcW Jt g tt te vs Q σ H1) : tLc wi g tt te vs σ H Q := h
theorem r_lc_list (J : CW) (S : Sep Ps H) (h0 : J 0 [] Ps) (hl : ∀ D i acc Ps H, i ≤ xs.length → J i acc Ps → Sep (pt D (.lst acc) :: Ps) H → SqL K H a xs) (hl0 : SqL K H a xs)
    (hs : ∀ D i x acc Ps H, xs[i]? = some x → J i acc Ps → Sep (pt D (.lst acc) :: Ps) H → g x (wipe σ vs) H fun σ2 H2 => wipe σ2 vs = wipe σ vs ∧ tt σ2 H2 fun b H3 =>
      if b = true then te σ2 H3 fun y H4 => ∃ acc, H4 D = some (.lst acc) ∧ acc.length < sizeLine ∧ CN J D (i + 1) (upd H4 D (.lst (acc ++ [y]))) else CN J D (i + 1) H3)
    (hd : ∀ D acc Ps H, J xs.length acc Ps → Sep (pt D (.lst acc) :: Ps) H → Q (.ref D) H) : ∃ a', V.ref a = .ref a' ∧ (∃ xs, SqL K H a' xs) ∧ LcW (Itl K a') g tt te vs Q σ H :=
  ⟨a, rfl, ⟨xs, hl0⟩, fun D nD => lc_list (K := K) (a := a) (xs := xs) (CN J D) ⟨[], Ps, h0, S.new _ nD⟩ (fun i H hi ⟨acc, Ps, j, S⟩ => hl D i acc Ps H hi j S) (fun i x H hi ⟨acc, Ps, j, S⟩ => hs D i x acc Ps H hi j S) fun H ⟨acc, Ps, j, S⟩ => hd D acc Ps H j S⟩
theorem r_lc_rng (J : CW) (S : Sep Ps H) (h1 : -(2 ^ 62) ≤ n) (h2 : n < 2 ^ 62) (h0 : J 0 [] Ps)
    (hs : ∀ D (i : Nat) acc Ps H, i < n.toNat → J i acc Ps → Sep (pt D (.lst acc) :: Ps) H → g (.int (i : Int)) (wipe σ vs) H fun σ2 H2 => wipe σ2 vs = wipe σ vs ∧ tt σ2 H2 fun b H3 =>
      if b = true then te σ2 H3 fun y H4 => ∃ acc, H4 D = some (.lst acc) ∧ acc.length < sizeLine ∧ CN J D (i + 1) (upd H4 D (.lst (acc ++ [y]))) else CN J D (i + 1) H3)
    (hd : ∀ D acc Ps H, J n.toNat acc Ps → Sep (pt D (.lst acc) :: Ps) H → Q (.ref D) H) : ∃ j : Int, [V.int n] = [.int j] ∧ -(2 ^ 62) ≤ j ∧ j < 2 ^ 62 ∧ LcW (Itr 0 j.toNat) g tt te vs Q σ H :=
  ⟨n, rfl, h1, h2, fun D nD => lc_range (CN J D) ⟨[], Ps, h0, S.new _ nD⟩ (fun i H hi ⟨acc, Ps, j, S⟩ => by rw [Int.zero_add]; exact hs D i acc Ps H hi j S) fun H ⟨acc, Ps, j, S⟩ => hd D acc Ps H j S⟩
theorem r_yes {QT : Bool → Hp → Prop} (h : QT true H) : tYes σ H QT := h
end
end Kt

set_option Elab.async false
set_option linter.all false
set_option maxRecDepth 100000
namespace Kt
open PySem L2 PyProof.Rows
/-! ### data: equal things are equal -/
def Okd (k : Nat) (d : PyData) : Prop := d.canLay0 = true ∧ d.depth ≤ k
theorem okd_int {k : Nat} (i : Int) : Okd k (.int i) := ⟨rfl, Nat.zero_le _⟩
theorem okd_bl {k : Nat} (b : Bool) : Okd k (.bool b) := ⟨rfl, Nat.zero_le _⟩
theorem okd_non {k : Nat} : Okd k .none := ⟨rfl, Nat.zero_le _⟩
theorem okd_all {k : Nat} : ∀ {ds : List PyData}, (∀ d ∈ ds, Okd k d) → PyData.canLayAll0 ds = true ∧ PyData.depthAll ds ≤ k
  | [], _ => ⟨rfl, Nat.zero_le _⟩
  | d :: ds, h => by
    obtain ⟨h1, h2⟩ := okd_all (ds := ds) fun x m => h x (List.mem_cons_of_mem _ m)
    obtain ⟨g1, g2⟩ := h d List.mem_cons_self
    refine ⟨?_, ?_⟩
    · rw [PyData.canLayAll0, g1, h1] <;> rfl
    · rw [PyData.depthAll]; exact Nat.max_le.mpr ⟨g2, h2⟩
theorem okd_list {k : Nat} {ds : List PyData} (h : ∀ d ∈ ds, Okd k d) : Okd (k + 1) (.list ds) := by
  obtain ⟨h1, h2⟩ := okd_all h
  refine ⟨?_, ?_⟩
  · rw [PyData.canLay0]; exact h1
  · rw [PyData.depth]; omega
theorem okd_tuple {k : Nat} {ds : List PyData} (h : ∀ d ∈ ds, Okd k d) : Okd (k + 1) (.tuple ds) := by
  obtain ⟨h1, h2⟩ := okd_all h
  refine ⟨?_, ?_⟩
  · rw [PyData.canLay0]; exact h1
  · rw [PyData.depth]; omega
theorem Okd.shaped {k : Nat} {d : PyData} (h : Okd k d) (hk : k ≤ 64) : SeqAt.shaped d = true := by
  unfold SeqAt.shaped
  rw [h.1, decide_eq_true (Nat.le_trans h.2 hk)]
  rfl
def dInts (ns : List Int) : PyData := .list (ns.map PyData.int)
theorem okd_ints (k : Nat) (ns : List Int) : Okd (k + 1) (dInts ns) := okd_list fun d m => by
  obtain ⟨i, _, rfl⟩ := List.mem_map.mp m
  exact okd_int i
section
variable {K : PySem.W.Frag} {H : Hp} {Q : VK} {x y : V} {a : Addr} {k : Nat} {d : PyData} {n : Int}
theorem dpall_ints : ∀ ns : List Int, DpAll K H (ns.map V.int) (ns.map PyData.int)
  | [] => .nil
  | n :: ns => .cons (.int n) (dpall_ints ns)
theorem dp_ints {ns : List Int} (s : SqL K H a (ns.map V.int)) : Dp K H (.ref a) (dInts ns) := .lst s (dpall_ints ns)
theorem r_eq_same (h1 : Dp K H x d) (h2 : Dp K H y d) (o : Okd k d) (hk : k ≤ 64) (q : Q (.bl true) H) : rEqA K x y H Q := .inr ⟨d, d, h1, h2, o.shaped hk, o.shaped hk, by rw [SeqAt.eqv_refl d o.1]; exact q⟩
theorem r_ne_same (h1 : Dp K H x d) (h2 : Dp K H y d) (o : Okd k d) (hk : k ≤ 64) (q : Q (.bl false) H) : rNeA K x y H Q := .inr ⟨d, d, h1, h2, o.shaped hk, o.shaped hk, by rw [SeqAt.eqv_refl d o.1]; exact q⟩
theorem r_neg (h : Q (.int (-n)) H) : rU (fun i => .int (-i)) (.int n) H Q := ⟨n, rfl, h⟩
end
end Kt

set_option Elab.async false
set_option linter.all false
set_option maxRecDepth 100000
namespace Kt
open PySem L2 PyProof.Rows
/-! ### many lists as one part -/
def big (l : List (Addr × List V)) : SP := Sep (l.map fun p => pt p.1 (.lst p.2))
theorem big_nil {R : List SP} {H : Hp} (S : Sep R H) : Sep (big [] :: R) H := Sep.unflat (As := []) S
theorem pick_mid {A : SP} {Qs : List SP} : ∀ Ps : List SP, Pick A (Ps ++ A :: Qs) (Ps ++ Qs)
  | [] => .hd
  | P :: Ps => .tl (pick_mid Ps)
theorem big_add {l : List (Addr × List V)} {p : Addr} {xs : List V} {R : List SP} {H : Hp} (S : Sep (pt p (.lst xs) :: big l :: R) H) : Sep (big (l ++ [(p, xs)]) :: R) H := by
  have S1 : Sep (pt p (.lst xs) :: ((l.map fun p => pt p.1 (.lst p.2)) ++ R)) H := S.cons_mono fun _ => Sep.flat
  have S2 : Sep ((l.map fun p => pt p.1 (.lst p.2)) ++ pt p (.lst xs) :: R) H := (pick_mid _).back S1
  refine Sep.unflat (As := (l ++ [(p, xs)]).map fun p => pt p.1 (.lst p.2)) ?_
  rw [List.map_append, List.append_assoc]
  exact S2
theorem sep_mem {R : List SP} {H : Hp} : ∀ {l : List (Addr × List V)} {p : Addr} {xs : List V}, Sep ((l.map fun p => pt p.1 (.lst p.2)) ++ R) H → (p, xs) ∈ l → H p = some (.lst xs)
  | [], _, _, _, h => by simp at h
  | q :: l, p, xs, S, h => by
    rcases List.mem_cons.mp h with e | h
    · subst e
      exact Sep.hd_at (Ps := (l.map fun p => pt p.1 (.lst p.2)) ++ R) S
    · exact sep_mem (Sep.tl (Ps := (l.map fun p => pt p.1 (.lst p.2)) ++ R) S) h
theorem big_get {l : List (Addr × List V)} {p : Addr} {xs : List V} {R : List SP} {H : Hp} (S : Sep (big l :: R) H) (h : (p, xs) ∈ l) : H p = some (.lst xs) := sep_mem S.flat h
theorem big_open {l : List (Addr × List V)} {R : List SP} {H : Hp} (S : Sep (big l :: R) H) : Sep ((l.map fun p => pt p.1 (.lst p.2)) ++ R) H := S.flat
section
variable {K : PySem.W.Frag} {H : Hp} {Q : VK} {x y : V} {a : Addr} {xs : List V} {Ps Qs : List SP}
theorem dpall_of {α : Type} (f : α → V) (g : α → PyData) : ∀ {l : List α}, (∀ z ∈ l, Dp K H (f z) (g z)) → DpAll K H (l.map f) (l.map g)
  | [], _ => .nil
  | z :: l, h => .cons (h z List.mem_cons_self) (dpall_of f g fun z m => h z (List.mem_cons_of_mem _ m))
theorem dpall_app : ∀ {xs ys : List V} {ds es : List PyData}, DpAll K H xs ds → DpAll K H ys es → DpAll K H (xs ++ ys) (ds ++ es)
  | _, _, _, _, .nil, h => h
  | _, _, _, _, .cons h t, h2 => .cons h (dpall_app t h2)
theorem r_insert0 (S : Sep Ps H) (r : Repl a (.lst xs) (.lst (y :: xs)) Ps Qs) (hz : xs.length < 100000) (h : ∀ H', Sep Qs H' → Q .non H') : ∃ (l : Addr) (zs : List V) (i : Int) (y' : V), V.ref a = .ref l ∧ [V.int 0, y] = [.int i, y'] ∧ H l = some (.lst zs) ∧ zs.length < sizeLine ∧ 0 ≤ i ∧ i < 2 ^ 63 ∧
    Q .non (upd H l (.lst (zs.take i.toNat ++ y' :: zs.drop i.toNat))) :=
  ⟨a, xs, 0, y, rfl, rfl, by obtain ⟨Rs, p, _⟩ := r.pick; exact S.at_ p, Nat.lt_of_lt_of_le hz (by decide), by decide, by decide, h _ (S.set r)⟩
end
end Kt

set_option Elab.async false
set_option linter.all false
set_option maxRecDepth 100000
namespace Kt
open PySem PySem.Spec PySem.W L2 PyProof.Rows
/-! ### an instance that is called: its class's own __call__ -/
theorem fn_found {K : Frag} {f : Addr} {h : Heap} (X : K.In h) (e : fnIn K f = true) : ∃ (o : Obj) (fd : FuncData), h.get? f = some o ∧ o.data = .func fd := by
  unfold fnIn at e
  split at e
  · rename_i q
    exact ⟨_, _, X _ _ q, rfl⟩
  · cases e
theorem callee_inst {prog : Program} {w : World} {A : Around} {K : Frag} {a C f : Addr} {dx : Addr} {od : Option Obj} {s : Shared} {R : Result → Shared → Prop} {rest : List Value} {kw : List (Str × Value)} {of_ : Obj} {fd : FuncData}
    (X : K.In s.heap) (J : PySem.W.InstAt s.heap a (PySem.W.instObj C dx) C od) (hs : findIn K (.ref C) "__call__" = some (some (.ref f))) (hf : isFn K (.ref f) = true) (hl : s.heap.get? f = some of_) (hd : of_.data = .func fd)
    (h : codeAny (model prog w) A (.call (.ref f) ⟨.ref a :: rest, kw⟩) R s) : codeAny (model prog w) A (.call (.ref a) ⟨rest, kw⟩) R s := by
  have sp : Looks (model prog w) s.heap (specialOf (.ref a) "__call__") (some (.ref f)) := J.type.andThen (looks_findIn X hs)
  have bd : Looks (model prog w) s.heap (bindSpecial (.ref f) (.ref a)) (.ref f, [.ref a]) := bind_fn X _ (beq_iff_eq.mp hf)
  refine codeAny_of_tree ?_
  show wpAny _ _ (callAny (.ref a) _) _ _ _
  refine nd_load J.at_ ?_
  show wpAny _ _ (callAny.viaDunder (.ref a) _) _ _ _
  unfold callAny.viaDunder
  refine wpAny_bind (sp.here ?_)
  refine wpAny_bind (bd.here ?_)
  have pc : Looks (model prog w) s.heap (callAny.plainCallee (.ref f)) true := (Looks.ld (part := none) hl).andThen (by rw [hd]; exact .now)
  refine wpAny_bind (pc.here ?_)
  exact wpAny_pure (a := Fin.again (.call (.ref f) ⟨.ref a :: rest, kw⟩)) (And.intro rfl h)
theorem keeper_inst {M : Model} {a C dx : Addr} {h : Heap} (e : h.get? a = some (PySem.W.instObj C dx)) : Looks M h (keeperOf (.ref a)) Keeper.caller := (Looks.ld (part := none) e).andThen .now
theorem callWith_inst {M : Model} {A : Around} {E : Value → Shared → Prop} {s : Shared} {pos : Pos} {f : Value} {args : List (Bool × Sem Value)} {Q : Value → Shared → Prop} {P : Heap → Prop} (hplain : (args.any (·.1) || ([] : List (Option Str × Sem Value)).any (·.1.isNone)) = false)
    (hk : ∀ h, P h → Looks M h (keeperOf f) Keeper.caller) (h : wpAny M A (evalArgs f true args []) (fun x s1 => P s1.heap ∧ wpAny M A (call f ([] ++ x.pos) x.kw) Q E s1) E s) : wpAny M A (callWith pos f [] args []) Q E s := by
  unfold callWith
  refine wpAny_bind (wpAny_holding (wpAny_mono h (fun x s1 h1 => wpAny_bind (wpAny_standAt ?_)) fun _ _ z => z))
  simp only [hplain]
  refine wpAny_bind ((hk _ h1.1).here ?_)
  dsimp only
  exact wpAny_bind (wpAny_mono (wpAny_operate' h1.2) (fun r s2 hr => wpAny_bind (wpAny_holding (wpAny_point (wpAny_pure hr)))) fun _ _ z => z)
section
variable {X : Cx} {k i : Nat} {x : Str} {C : Addr} {ps : List Str} {sp : Sp} {e : Expr} {es : List Expr} {t : TA} {p pos : Pos}
/-- x(e, ..), the local x holds an instance of C -/
def tCallI (i : Nat) (C : Addr) (sp : Sp) (t : TA) : TE := fun σ H Q => ∃ a, σ[i]? = some (some (.ref a)) ∧ t σ H fun vs H1 => ∃ dx fs, H1 a = some (.ins C dx fs) ∧ sp (.ref a :: vs) H1 Q E0
theorem pe_mfL (M : Mf X.prog X.w X.K X.mg X.base k C "__call__" ps sp) (hfn : ∀ f, findIn X.K (.ref C) "__call__" = some (some (.ref f)) → fnIn X.K f = true) (hr : Room k X.A) (ha : PA X (e :: es) t) (hN : X.N[i]? = some x := by rfl) (hv : Vis X.env.scope x := by first | exact Or.inl rfl | exact Or.inr (Or.inl rfl) | exact Or.inr (Or.inr rfl))
    (hdb : (x == ("__debug__" : Str)) = false := by decide) (hcd : (x == ("__classdict__" : Str)) = false := by decide) (he : starEach (e :: es) X.env = (false, eval e X.env) :: starEach es X.env := by rfl) (hpl : (backTo pos (starEach es X.env)).any (·.1) = false := by rfl) :
    PE X (.Call (.Name x p) (e :: es) [] pos) (tCallI i C sp t) := by
  obtain ⟨f, fd, F, b, hm⟩ := M.fn
  refine ⟨fun pins s σ H Q I h => ?_⟩
  obtain ⟨a, hs, ht⟩ := h
  refine wpAny_Call_Name_kw (thn ((pe_var (pos := p) hN hv hdb hcd).run pins s σ H (fun v H1 => v = .ref a ∧ H1 = H) I ⟨.ref a, hs, rfl, rfl⟩) fun u s1 ⟨v, H1, I1, r1, q1⟩ => ?_)
  obtain ⟨rfl, rfl⟩ := q1
  cases r1
  have h2 : wpAny (model X.prog X.w) X.A (spliced (backTo pos (starEach (e :: es) X.env))) (fun vs s2 => (∃ dx, s2.heap.get? a = some (PySem.W.instObj C dx)) ∧ wpAny (model X.prog X.w) X.A (call (.ref a) ([] ++ vs)) (EP X pins σ Q) X.xe s2) X.xe s1 :=
    thn (ha.run pos pins s1 σ _ _ I1 ht) fun us s2 ⟨vs, H2, I2, r, dx, fs, hH, q⟩ => by
      obtain ⟨mA, O, _⟩ := ins_get I2.hok hH
      refine ⟨⟨dx, O.obj⟩, ?_⟩
      obtain ⟨od, J, _⟩ := O.look
      obtain ⟨of_, fd2, hl, hd2⟩ := fn_found I2.kIn (hfn f hm.at_)
      have rr : Vals (V.ref a :: vs) (Value.ref a :: us) := .cons rfl r
      have ln : (Value.ref a :: us).length = ps.length := by rw [← rr.length]; exact F.len _ _ _ _ q
      have bd := b s2 (.ref a :: us) I2.kIn (by rw [List.append_nil]; exact ln)
      rw [List.append_nil] at bd
      refine wpAny_call (callee_inst I2.kIn J hm.at_ hm.fn hl hd2 (codeAny_mono (F.run X.A X.stack s2 H2 ⟨.ref a :: us, []⟩ (.ref a :: us) (.ref a :: vs) Q E0 hr I2.env0 bd rr q) fun r s' hq => ?_))
      cases r with
      | error z => exact pass0 pins σ H2 s2 z s' I2 hq
      | ok fl => cases fl with
        | ret u => exact I2.after hq
        | _ => exact False.elim hq
  rw [he] at h2 ⊢
  exact callWith_inst (P := fun h => ∃ dx, h.get? a = some (PySem.W.instObj C dx)) (by show ((false || (backTo pos (starEach es X.env)).any (·.1)) || false) = false; rw [hpl]; rfl) (fun h ⟨dx, q⟩ => keeper_inst q) (Calls.evalArgs_plain h2)
/-- an expression read in one of two ways -/
def tEr (t t' : TE) : TE := fun σ H Q => t σ H Q ∨ t' σ H Q
theorem pe_er {e : Expr} {t t' : TE} (h : PE X e t) (h' : PE X e t') : PE X e (tEr t t') := ⟨fun pins s σ H Q I q => q.elim (h.run pins s σ H Q I) (h'.run pins s σ H Q I)⟩
end
end Kt

set_option Elab.async false
set_option linter.all false
set_option maxRecDepth 100000
namespace Kt
open PySem L2 PyProof.Rows
/-! ### properties by name -/
structure Pt (K : PySem.W.Frag) (C : Addr) (m qual : Str) (st : Stmt) (g : Addr) : Prop where
  fn : ∃ fd, Fun K m qual st g fd ∧ Binds K fd ["self"] []
  at_ : ∃ p, PropOf K C m p g
structure Pf (P : Program) (w : World) (K : PySem.W.Frag) (mg : Str → Option Value) (base : Heap) (k : Nat) (C : Addr) (m : Str) (sp : Sp) : Prop where
  fn : ∃ p g fd, FnOk P w K mg base CX0 k g fd ["self"] sp ∧ Binds K fd ["self"] [] ∧ PropOf K C m p g
  cls : Cls K C
theorem Pt.ok {P : Program} {w : World} {K : PySem.W.Frag} {mg : Str → Option Value} {base : Heap} {C : Addr} {x qual : Str} {st : Stmt} {f : Addr} {N : List Str} {k : Nat} {sp : Sp} (T : Pt K C x qual st f) (c : Cls K C) (S : FnScope N ["self"] (defScope st)) (len : ∀ vs H Q E, sp vs H Q E → vs.length = 1)
    (hbody : ∀ (cdv : Value) (A : Around) (outer : List Env) (s : Shared) (H : Hp) (vs : List V) (Q : VK) (E : XK), Room k (A.deeper (envOfC qual (defScope st) s.heap.objs.size f cdv)) → sp vs H Q E →
      ∃ t, PSs (cxOf CX0 P w K mg base N qual (defScope st) f cdv A outer s H E).nox (defBody st) t ∧ t { nx := fun _ H' => Q .non H', rt := Q } (start N vs) H) : Pf P w K mg base (k + 1) C x sp := by
  obtain ⟨fd, F, b⟩ := T.fn
  obtain ⟨p, hp⟩ := T.at_
  exact ⟨⟨p, f, fd, F.ok S len hbody, b, hp⟩, c⟩
theorem pe_pr {X : Cx} {k : Nat} {C : Addr} {f : Str} {sp : Sp} {e : Expr} {pos : Pos} {ta : TE} (M : Pf X.prog X.w X.K X.mg X.base k C f sp) (hr : Room (k + 1) X.A) (he : PE X e ta) (hab : attributeBase e f X.env (eval e X.env) = eval e X.env := by rfl) : PE X (.Attribute e f pos) (tProp C sp [] E0 ta) := by
  obtain ⟨p, g, fd, F, b, hp⟩ := M.fn
  exact pe_prop he M.cls hp F hr b .nil pass0 hab
section
variable {σ : L2.St} {H : Hp} {Q : VK} {C a dx : Addr} {sp : Sp} {ta : TE} {fs : List (Str × V)} {Ps Qs : List SP}
def kProp (C : Addr) (sp : Sp) (Q : VK) : V → Hp → Prop := fun x H1 => ∃ a dx fs, x = .ref a ∧ H1 a = some (.ins C dx fs) ∧ sp [.ref a] H1 Q E0
theorem r_prop (h : ta σ H (kProp C sp Q)) : tProp C sp [] E0 ta σ H Q := h
theorem r_kprop (S : Sep Ps H) (p : Pick (pt a (.ins C dx fs)) Ps Qs) (h : sp [.ref a] H Q E0) : kProp C sp Q (.ref a) H := ⟨a, dx, fs, rfl, S.at_ p, h⟩
end
end Kt

set_option Elab.async false
set_option linter.all false
set_option maxRecDepth 100000
namespace Kt
open PySem PySem.Spec L2 PyProof.Rows
/-! ### promises of defs that are called where no guard stands: what repr of a list asks -/
structure FnG (P : Program) (w : World) (K : PySem.W.Frag) (mg : Str → Option Value) (base : Heap) (k : Nat) (f : Addr) (fd : FuncData) (ps : List Str) (sp : Sp) : Prop where
  len : ∀ vs H Q E, sp vs H Q E → vs.length = ps.length
  run : ∀ (A : Around) (outer : List Env) (s : Shared) (H : Hp) (args : Args) (us : List Value) (vs : List V) (Q : VK) (E : XK), A.guards = some [] → Room k A → Env0 P w K mg base A outer s H → BindsTo s fd args (ps.zip us) → Vals vs us → sp vs H Q E → codeAny (model P w) A (.call (.ref f) args) (CR CX0 outer P w H s Q E) s
section
variable {P : Program} {w : World} {K : PySem.W.Frag} {mg : Str → Option Value} {base : Heap}
theorem fnG_ok {x qual : Str} {st : Stmt} {f : Addr} {fd : FuncData} {N ps : List Str} {k : Nat} {sp : Sp} (F : Fun K x qual st f fd) (S : FnScope N ps (defScope st)) (len : ∀ vs H Q E, sp vs H Q E → vs.length = ps.length)
    (hbody : ∀ (cdv : Value) (A : Around) (outer : List Env) (s : Shared) (H : Hp) (vs : List V) (Q : VK) (E : XK), A.guards = some [] → Room k (A.deeper (envOfC qual (defScope st) s.heap.objs.size f cdv)) → sp vs H Q E →
      ∃ t, PSs (cxOf CX0 P w K mg base N qual (defScope st) f cdv A outer s H E).nox (defBody st) t ∧ t { nx := fun _ H' => Q .non H', rt := Q } (start N vs) H) : FnG P w K mg base (k + 1) f fd ps sp := by
  obtain ⟨oc, od, kV, doc, pm, an, cdv, ct, osl, rfl, lk, hcd⟩ := F.ex
  refine ⟨len, fun A outer s H args us vs Q E hg hr e0 hb r hsp => ?_⟩
  have KX : K.In s.heap := e0.mod.kin.keeps fun b o e => (e0.bs b o e).1
  have lim := e0.mod.nolimit.keeps (h' := s.heap) fun b o e => (e0.bs b o e).1
  have hl : vs.length = ps.length := len vs H Q E hsp
  have kinds : ∀ y ∈ ps.zip us, (defScope st).names.lookup y.1 = some .local ∨ ((defScope st).names.lookup y.1 = some .cell ∧ ((cellsFrom (s.heap.objs.size + 1) (defScope st).names []).lookup y.1).isSome = true) := by
    rintro ⟨n, v⟩ hy
    exact (S.par n (List.of_mem_zip hy).1).imp id fun q => ⟨q, PySem.W.cellsFrom_some _ _ _ (.inl q)⟩
  refine codeAny_call_function hr.depth (KX _ _ lk) rfl S.co S.gen rfl (PySem.W.codeRec_of KX hcd) (hb _ _ _ _ (wpAny_newFunctionEnv_cells S.kind kinds fun env he s1 x => ?_))
  cases he
  refine ⟨lim.keeps x.toInCall.keep, codeAny_func ?_⟩
  obtain ⟨t, ht, hq⟩ := hbody cdv A outer s H vs Q E hg (hr.deeper _) hsp
  refine wpAny_mono (ht.nox.run [] s1 (start N vs) H _ (inv_start S hr.hd e0 hl r x) hq) (fun fl s' hs => ?_) fun _ _ z => z
  rcases fl with u | _ | _ | _
  all_goals first
    | exact (let ⟨v, σ', H', J, rv, q⟩ := hs; ⟨v, H', J.os, J.bare, J.base, J.hok, rv, q⟩)
    | exact (let ⟨σ', H', J, q⟩ := hs; ⟨V.non, H', J.os, J.bare, J.base, J.hok, rfl, q⟩)
    | exact (let ⟨_, _, _, q⟩ := hs; q.elim)
end
/-! ### a def of the text that is called where no guard stands -/
structure Dg (P : Program) (w : World) (K : PySem.W.Frag) (mg : Str → Option Value) (base : Heap) (k : Nat) (x : Str) (f : Addr) (ps : List Str) (sp : Sp) : Prop where
  fn : ∃ fd, FnG P w K mg base k f fd ps sp ∧ Binds K fd ps []
  at_ : mg x = some (.ref f)
  kp : PySem.W.keepIn K (.ref f) = true
theorem Dt.okG {P : Program} {w : World} {K : PySem.W.Frag} {mg : Str → Option Value} {base : Heap} {x : Str} {st : Stmt} {f : Addr} {N ps : List Str} {k : Nat} {sp : Sp} (T : Dt K mg x st ps f) (S : FnScope N ps (defScope st)) (len : ∀ vs H Q E, sp vs H Q E → vs.length = ps.length)
    (hbody : ∀ (cdv : Value) (A : Around) (outer : List Env) (s : Shared) (H : Hp) (vs : List V) (Q : VK) (E : XK), A.guards = some [] → Room k (A.deeper (envOfC x (defScope st) s.heap.objs.size f cdv)) → sp vs H Q E →
      ∃ t, PSs (cxOf CX0 P w K mg base N x (defScope st) f cdv A outer s H E).nox (defBody st) t ∧ t { nx := fun _ H' => Q .non H', rt := Q } (start N vs) H) : Dg P w K mg base (k + 1) x f ps sp := by
  obtain ⟨fd, F, b⟩ := T.fn
  exact ⟨⟨fd, fnG_ok F S len hbody, b⟩, T.at_, F.kp⟩
section
variable {X : Cx} {k : Nat} {x : Str} {f : Addr} {fd : FuncData} {ps : List Str} {sp : Sp} {e : Expr} {es : List Expr} {t : TA} {p pos : Pos}
theorem run_fnG {pins : List (Addr × Obj)} {σ : L2.St} {H : Hp} {s : Shared} {Q : VK} {us : List Value} {vs : List V} (F : FnG X.prog X.w X.K X.mg X.base k f fd ps sp) (hg : X.A.guards = some []) (hr : Room k X.A) (hb : Binds X.K fd ps []) (I : Inv X pins σ H s) (r : Vals vs us) (h : sp vs H Q E0) :
    wpAny (model X.prog X.w) X.A (call (.ref f) us) (EP X pins σ Q) X.xe s := by
  have ln : us.length = ps.length := r.length.symm.trans (F.len _ _ _ _ h)
  have bd := hb s us I.kIn (by rw [List.append_nil]; exact ln)
  rw [List.append_nil] at bd
  refine wpAny_call (codeAny_mono (F.run X.A X.stack s H ⟨us, []⟩ us vs Q E0 hg hr I.env0 bd r h) fun z s' hq => ?_)
  rcases z with z | u | _ | _ | _ <;> first | exact I.after hq | exact pass0 pins σ H s z s' I hq | exact hq.elim
theorem pe_dg (D : Dg X.prog X.w X.K X.mg X.base k x f ps sp) (hg : X.A.guards = some []) (hr : Room k X.A) (ha : PA X (e :: es) t) (hgl : Gl X x := by rfl) (hd : (x == ("__debug__" : Str)) = false := by decide)
    (he : starEach (e :: es) X.env = (false, eval e X.env) :: starEach es X.env := by rfl) (hpl : (backTo pos (starEach es X.env)).any (·.1) = false := by rfl) : PE X (.Call (.Name x p) (e :: es) [] pos) (tCall sp [] E0 t) := by
  obtain ⟨fd, F, b⟩ := D.fn
  refine ⟨fun pins s σ H Q I h => wpAny_Call_Name_kw (ld_glob I hgl D.at_ ?_ hd)⟩
  refine PySem.W.callWith_K (h₀ := X.base) I.ok.mod.kin D.kp (thn (ha.run pos pins s σ H _ I h) fun us s1 ⟨vs, H1, I1, r, q⟩ => ⟨I1.kIn, run_fnG F hg hr b I1 r ?_⟩) he hpl
  have q2 : sp (vs ++ []) H1 Q E0 := q
  rw [List.append_nil] at q2
  exact q2
/-! ### repr of lists and tuples -/
def cRepr (K : PySem.W.Frag) : List V → Hp → VK → Prop := fun xs H Q => ∃ a d, xs = [.ref a] ∧ Dp K H (.ref a) d ∧ d.showable = true ∧ d.hasDict = false ∧ d.depth ≤ 60 ∧ d.shown.length ≤ sizeLine ∧ Q (.str d.shown) H
theorem call_reprA (hg : X.A.guards = some []) (hu : X.A.units + 64 < cLine) : CallR X (.builtin "repr") (cRepr X.K) := by
  intro pins s σ H xs us Q I r h
  obtain ⟨a, d, rfl, hD, hs, hn, hp, hz, q⟩ := h
  obtain ⟨u, rfl, r1⟩ := vals1 r
  cases r1
  obtain ⟨as, rd⟩ := Dp.reads I d _ _ hD rfl
  exact repr_of_reads' rd hs (fun z => by rw [hn] at z; cases z) hg (by omega) (fun _ _ e => e) (fun h' u tk hk => ⟨.str d.shown, H, I.kept hk, ⟨u, rfl⟩, q⟩) hz
end
/-! ### the law itself: it is called where no guard stands -/
section
variable {P : Program} {w : World} {K : PySem.W.Frag} {mg mb : Str → Option Value} {k : Nat} {fa a : Addr} {fd : FuncData} {x : Str} {sp : Sp} {s1 : Shared} {vs : List Value} {ns : List Int}
/-- from a heap in which the script alone may be tracked -/
theorem law_from (KX : K.In s1.heap) (hns : s1.heap.Ns mainGlobals mg) (hb : s1.heap.Ns builtinsNs mb) (hbb : ∀ x : Str, x ≠ "__name__" → mb x = bootBuiltins x) (hlim : s1.heap.NoLimit) (hg : s1.gens = #[])
    (ha : s1.heap.get? a = some { cls := .type "list", data := .seq vs.toArray }) (hr : Room k callerA) (F : ∀ base : Heap, K.In base → base.Ns mainGlobals mg → FnG P w K mg base k fa fd [x] sp) (hbind : ∀ (s : Shared) (u : Value), BindsTo s fd ⟨[u], []⟩ [(x, u)])
    (H : Hp) (hO : Only H) (hq : sp [.ref a] H (fun v _ => v = .bl true) E0) (hok : HOk P w H s1.heap) (hA : ∀ b, H b ≠ none → b = a) (hK : H a ≠ none → K.lookup a = none) :
    codeAny (model P w) callerA (.call (.ref fa) ⟨[.ref a], []⟩) (fun r s' => r = .ok (.ret (.bool true)) ∧ OldK s1.heap s'.heap ∧ s'.os = s1.os ∧ AllBare s'.gens) s1 := by
  have free : ∀ b, b ≠ a → H b = none := fun b nb => by
    cases q : H b with
    | none => rfl
    | some u => exact absurd (hA b (by rw [q]; nofun)) nb
  have dictFree : ∀ {b : Addr} {m : Str → Option Value}, s1.heap.Ns b m → (hidT s1.heap H).Ns b m := by
    rintro b m ⟨o, es, ep, e, d, r⟩
    refine ⟨o, es, ep, hidT_get e (free b ?_), d, r⟩
    rintro rfl
    rw [ha] at e
    cases e
    cases d
  have hKb : K.In (hidT s1.heap H) := fun b o e => hidT_get (KX b o e) (by
    cases q : H b with
    | none => rfl
    | some u =>
      cases hA b (by rw [q]; nofun)
      rw [hK (by rw [q]; nofun)] at e
      cases e)
  obtain ⟨mc, lim1, lim2⟩ := hlim
  have hM : Mod K mg (hidT s1.heap H) := ⟨hKb, dictFree hns, ⟨mb, dictFree hb, hbb⟩, ⟨mc, dictFree lim1, lim2⟩⟩
  have e0 : Env0 P w K mg (hidT s1.heap H) callerA [] s1 H := ⟨rfl, hM, fun b o e => of_hidT e, Nat.le_of_eq (hidT_size _ _), trivial, fun b hb => (List.not_mem_nil (show b ∈ ([] : List Addr) from hb)).elim, hok, .of_eq hg⟩
  refine codeAny_mono ((F _ hKb (dictFree hns)).run callerA [] s1 H ⟨[.ref a], []⟩ [.ref a] [.ref a] _ _ rfl hr e0 (hbind s1 (.ref a)) (.cons rfl .nil) hq) fun r s' h => ?_
  cases r with
  | error e => exact False.elim h
  | ok fl => cases fl with
    | ret u =>
      obtain ⟨v, H', os, bare, un, hok', r', q'⟩ := h
      cases (show v = .bl true from q')
      cases (show u = Value.bool true from r')
      refine ⟨rfl, OldK.of_keep fun b o e => ?_, os, bare⟩
      rcases hO b with z | ⟨ob, xs, z⟩
      · exact un.keep b o e z (fun q => (List.not_mem_nil (show b ∈ ([] : List Addr) from q)).elim) (by simp)
      · obtain ⟨e1, _⟩ := hok b _ z
        obtain ⟨e2, _⟩ := hok' b _ (un.frzs b ob _ z)
        rw [e] at e1
        cases e1
        exact e2
    | _ => exact False.elim h
theorem law_callG (KX : K.In s1.heap) (hns : s1.heap.Ns mainGlobals mg) (hb : s1.heap.Ns builtinsNs mb) (hbb : ∀ x : Str, x ≠ "__name__" → mb x = bootBuiltins x) (hlim : s1.heap.NoLimit) (hg : s1.gens = #[])
    (ha : s1.heap.get? a = some { cls := .type "list", data := .seq vs.toArray }) (hi : IntsAre vs ns) (hl : ns.length ≤ sizeLine) (hr : Room k callerA) (F : ∀ base : Heap, K.In base → base.Ns mainGlobals mg → FnG P w K mg base k fa fd [x] sp)
    (hbind : ∀ (s : Shared) (u : Value), BindsTo s fd ⟨[u], []⟩ [(x, u)]) (hsp : ∀ H : Hp, Only H → SqL K H a (ns.map V.int) → sp [.ref a] H (fun v _ => v = .bl true) E0) :
    codeAny (model P w) callerA (.call (.ref fa) ⟨[.ref a], []⟩) (fun r s' => r = .ok (.ret (.bool true)) ∧ OldK s1.heap s'.heap ∧ s'.os = s1.os ∧ AllBare s'.gens) s1 := by
  have core := law_from (P := P) (w := w) (sp := sp) KX hns hb hbb hlim hg ha hr F hbind
  have lenV := hi.length
  have rv := vals_ints hi
  cases hk : K.lookup a with
  | some o =>
    have e := ha.symm.trans (KX a o hk)
    cases e
    have hO : Only (fun _ => none) := fun _ => .inl rfl
    exact core _ hO (hsp _ hO (.inr ⟨_, vs.toArray, _, hk, rfl, rfl, rfl, by rw [List.size_toArray, lenV]; exact hl, by simpa using rv⟩)) (fun b u z => nomatch (show (none : Option HO) = some u from z)) (fun b z => absurd rfl z) (fun z => absurd rfl z)
  | none =>
    have at_ : (fun b => if b = a then some (HO.frz { cls := .type "list", data := .seq vs.toArray } (.lst (ns.map V.int))) else none : Hp) a = some (HO.frz { cls := .type "list", data := .seq vs.toArray } (.lst (ns.map V.int))) := if_pos rfl
    have off : ∀ b, b ≠ a → (fun b => if b = a then some (HO.frz { cls := .type "list", data := .seq vs.toArray } (.lst (ns.map V.int))) else none : Hp) b = none := fun b nb => if_neg nb
    generalize (fun b => if b = a then some (HO.frz { cls := .type "list", data := .seq vs.toArray } (.lst (ns.map V.int))) else none : Hp) = H at at_ off
    have hO : Only H := fun b => (Decidable.em (b = a)).elim (fun e => .inr ⟨_, _, e ▸ at_⟩) fun e => .inl (off b e)
    refine core H hO (hsp H hO (.inl (.inr ⟨_, at_⟩))) (fun b u z => ?_) (fun b z => Decidable.byContradiction fun e => z (off b e)) fun _ => hk
    obtain rfl : b = a := Decidable.byContradiction fun e => nomatch (off b e).symm.trans z
    cases at_.symm.trans z
    exact ⟨ha, by rw [List.length_map]; exact hl, vs, _, rv, ha⟩
end
theorem walk_G {l : PySem.W.OpenLaw} {n k : Nat} {q : Program} {loose : List Str} {XP : (Str → Option Value) → Heap → Prop} {YP : World → Heap → Prop} {d : DefRec} {K : Params → PySem.W.Frag} {sp : World → Sp} {x : Str} (hn : l.most = some n) (hn2 : n ≤ sizeLine) (hdf : d.params.defaults = []) (hr : Room k callerA)
    (hY : ∀ (w : World) (h : Heap), YP w h → (K w.params).In h) (F : ∀ (w : World) (mg : Str → Option Value) (fa : Addr) (h : Heap), (K w.params).In h → h.Ns mainGlobals mg → mg d.name = some (.ref fa) →
      ∃ fd : FuncData, (∀ (s : Shared) (u : Value), BindsTo s fd ⟨[u], []⟩ [(x, u)]) ∧ ∀ base : Heap, (K w.params).In base → base.Ns mainGlobals mg → FnG l.prog w (K w.params) mg base k fa fd [x] (sp w))
    (hsp : ∀ (w : World) (H : Hp) (a : Addr) (ns : List Int), ns.length ≤ n → (∀ z ∈ ns, Builtin.Int.intBits z ≤ 1048576) → Only H → SqL (K w.params) H a (ns.map V.int) → sp w [.ref a] H (fun v _ => v = .bl true) E0) : PySem.W.WalkO q loose XP YP l.row.toRowW d [] (fun f vs => PySem.call f vs) := by
  refine Att.attach_callB hn hdf fun w s0 s1 mg mb fa o pm cd doc a vs ns G Y ho hd hcd hmg hobj hints hlen hbits hg => ?_
  obtain ⟨fd, hb, hF⟩ := F w mg fa _ (hY w _ Y) G.T.g hmg
  exact law_callG (hY w _ Y) G.T.g G.T.b G.T.builtins G.T.nolimit hg hobj hints (Nat.le_trans hlen hn2) hr hF hb fun H hO hS => hsp w H a ns hlen hbits hO hS
end Kt

set_option Elab.async false
set_option linter.all false
set_option maxRecDepth 100000
namespace Kt
open PySem PySem.Spec L2 PyProof.Rows
/-! ### instances of a class without an own __eq__: == is being the same -/
section
variable {M : Model} {prog : Program} {w : World} {A : Around} {E : Value → Shared → Prop} {s : Shared} {K : PySem.W.Frag} {x y C dx dy : Addr} {od od2 : Option Obj}
theorem isSame_inst {R : Bool → Shared → Prop} (hx : s.heap.get? x = some (PySem.W.instObj C dx)) (hy : s.heap.get? y = some (PySem.W.instObj C dy)) (h : R (decide (x = y)) s) : wpAny M A (isSame (.ref x) (.ref y)) R E s := by
  unfold isSame
  by_cases e : x = y
  · subst e
    rw [decide_eq_true rfl] at h
    refine wpAny_ite_split (fun _ => wpAny_pure h) (fun q => absurd (beq_self_eq_true x) (by simpa using q))
  · rw [decide_eq_false e] at h
    refine wpAny_ite_split (fun q => absurd (beq_iff_eq.mp q) e) (fun _ => ?_)
    refine wpAny_bind (PySem.W.nd_load hx (wpAny_pure ?_))
    refine wpAny_bind (PySem.W.nd_load hy (wpAny_pure ?_))
    exact wpAny_pure h
theorem objEq_inst {Q : Fin → Shared → Prop} (hx : s.heap.get? x = some (PySem.W.instObj C dx)) (hy : s.heap.get? y = some (PySem.W.instObj C dy)) (hq : Q (.done (.ret (if x = y then .bool true else .notImplemented))) s) : wpAny M A (Builtin.«object.__eq__» ⟨[.ref x, .ref y], []⟩) Q E s := by
  unfold Builtin.«object.__eq__»
  repeat (first | with_reducible refine isSame_inst hx hy ?_ | wp_step)
  by_cases e : x = y
  · rw [if_pos e] at hq
    rw [decide_eq_true e]
    exact wpAny_pure hq
  · rw [if_neg e] at hq
    rw [decide_eq_false e]
    exact wpAny_pure hq
theorem try_inst (X : K.In s.heap) (I : PySem.W.InstAt s.heap x (PySem.W.instObj C dx) C od) (hm : PySem.W.mroIn K C (.type "object") = some true) (hs : PySem.W.findIn K (.ref C) "__eq__" = some (some (.builtin "object.__eq__"))) (hy : s.heap.get? y = some (PySem.W.instObj C dy)) :
    wpAny (model prog w) A (tryCompare (.ref x) "__eq__" (.ref y)) (fun r s' => r = (if x = y then some (Value.bool true) else none) ∧ s' = s) E s := by
  unfold tryCompare
  refine wpAny_bind (HN.ifBound_objEq X I hs (wpAny_call (codeAny_call_builtin F.cmp_object.eq.plain F.cmpEntry_eq (PySem.W.check_slot F.cmpKind_eq F.cmpSplit_eq (I.type.andThen (PySem.W.looks_mroIn X hm)) (F.cmpArgs_eq _ _) (objEq_inst I.at_ hy ?_)))))
  by_cases e : x = y
  · rw [if_pos e, if_pos e]
    exact wpAny_pure ⟨rfl, rfl⟩
  · rw [if_neg e, if_neg e]
    exact wpAny_pure ⟨rfl, rfl⟩
theorem rc_inst (hu : A.units < cLine) (X : K.In s.heap) (I : PySem.W.InstAt s.heap x (PySem.W.instObj C dx) C od) (J : PySem.W.InstAt s.heap y (PySem.W.instObj C dy) C od2) (hm : PySem.W.mroIn K C (.type "object") = some true) (hs : PySem.W.findIn K (.ref C) "__eq__" = some (some (.builtin "object.__eq__"))) {Q : Value → Shared → Prop}
    (h : Q (.bool (decide (x = y))) s) : wpAny (model prog w) A (richCompare .Eq (.ref x) (.ref y)) Q E s := by
  simp only [richCompare, cmpInfo_Eq, oneThing_ref]
  refine wpAny_holding (wpAny_bind (wpAny_cRoomFor hu ?_))
  refine wpAny_bind (I.type.here (wpAny_bind (J.type.here ?_)))
  rw [if_neg (by simp)]
  refine wpAny_bind (wpAny_pure ?_)
  simp only [Bool.false_eq_true, if_false, Bool.not_false, if_true]
  refine wpAny_bind (m := tryCompare (.ref x) _ (.ref y)) (wpAny_mono (try_inst X I hm hs J.at_) (fun r s1 z => ?_) fun _ _ e => e)
  obtain ⟨z1, z2⟩ := z
  subst z2
  by_cases e : x = y
  · rw [if_pos e] at z1
    subst z1
    rw [decide_eq_true e] at h
    exact wpAny_pure h
  · rw [if_neg e] at z1
    subst z1
    refine wpAny_bind (m := tryCompare (.ref y) _ (.ref x)) (wpAny_mono (try_inst X J hm hs I.at_) (fun r s2 z => ?_) fun _ _ e => e)
    obtain ⟨z1, z2⟩ := z
    subst z2
    rw [if_neg (fun q => e q.symm)] at z1
    subst z1
    exact wpAny_bind (wpAny_rule (wpAny_bind (isSame_inst I.at_ J.at_ (wpAny_pure h))))
end
def rEqIns (K : PySem.W.Frag) : R2 := fun x y H Q => ∃ a b C dx fs dy gs, x = .ref a ∧ y = .ref b ∧ H a = some (.ins C dx fs) ∧ H b = some (.ins C dy gs) ∧ PySem.W.mroIn K C (.type "object") = some true ∧ PySem.W.findIn K (.ref C) "__eq__" = some (some (.builtin "object.__eq__")) ∧ Q (.bl (decide (a = b))) H
theorem op_eqIns {X : Cx} (hu : X.A.units + 64 < cLine) : OpR X (compareOp .Eq) (rEqIns X.K) := by
  intro pins s σ H x y v u Q I rx ry h
  obtain ⟨a, b, C, dx, fs, dy, gs, rfl, rfl, h1, h2, hm, he, q⟩ := h
  cases (show v = Value.ref a from rx)
  cases (show u = Value.ref b from ry)
  obtain ⟨_, O1, _⟩ := ins_get I.hok h1
  obtain ⟨_, O2, _⟩ := ins_get I.hok h2
  obtain ⟨_, J1, _⟩ := O1.look
  obtain ⟨_, J2, _⟩ := O2.look
  exact rc_inst (by omega) I.kIn J1 J2 hm he ⟨.bl _, H, I, rfl, q⟩
end Kt

set_option Elab.async false
set_option linter.all false
set_option maxRecDepth 100000
namespace Kt
open PySem L2 PyProof.Rows
/-! ### data that may be shown: its texts are short -/
structure Sh (k W : Nat) (d : PyData) : Prop where
  ok : Okd k d
  sh : d.showable = true
  sm : d.leavesShort 64 = true
  wt : d.weight ≤ W
theorem Sh.nd {k W : Nat} {d : PyData} (h : Sh k W d) : d.hasDict = false := PyData.hasDict_of_canLay d h.ok.1
theorem Sh.fits {k W : Nat} {d : PyData} (h : Sh k W d) (hW : W ≤ 200000) : d.shown.length ≤ sizeLine := by
  have h1 := PyData.shown_le 64 (by decide) d h.sm
  have h2 : (64 + 2) * d.weight ≤ 66 * 200000 := Nat.mul_le_mul (by omega) (Nat.le_trans h.wt hW)
  have e : sizeLine = 16777216 := by decide
  omega
theorem Sh.up {k k' W W' : Nat} {d : PyData} (h : Sh k W d) (hk : k ≤ k') (hW : W ≤ W') : Sh k' W' d := ⟨⟨h.ok.1, Nat.le_trans h.ok.2 hk⟩, h.sh, h.sm, Nat.le_trans h.wt hW⟩
theorem sh_int {k : Nat} {i : Int} (h : i.natAbs < 10 ^ 60) : Sh k 200 (.int i) := by
  refine ⟨okd_int i, ?_, ?_, ?_⟩
  · rw [PyData.showable]
    refine decide_eq_true ?_
    have h2 : i.natAbs < 2 ^ 200 := Nat.lt_trans h (by decide)
    by_cases h0 : i.natAbs = 0
    · rw [h0]; decide
    · exact Nat.lt_trans ((Nat.log2_lt h0).mpr h2) (by decide)
  · rw [PyData.leavesShort]
    refine decide_eq_true ?_
    have e := int_text_length_le10 (k := 60) (by decide) h
    show (Str.ofString (toString i)).length ≤ 64
    rw [PySem.ofString_length]
    omega
  · rw [PyData.weight]
    have h2 : i.natAbs < 2 ^ 200 := Nat.lt_trans h (by decide)
    by_cases h0 : i.natAbs = 0
    · rw [h0]
      split
      · decide
      · decide
    · have := (Nat.log2_lt h0).mpr h2
      split
      · decide
      · omega
theorem sh_non {k : Nat} : Sh k 0 .none := ⟨okd_non, rfl, rfl, Nat.le_refl _⟩
theorem sh_bl {k : Nat} (b : Bool) : Sh k 1 (.bool b) := ⟨okd_bl b, rfl, rfl, by cases b <;> decide⟩
theorem sh_all {k W : Nat} : ∀ {ds : List PyData}, (∀ d ∈ ds, Sh k W d) → PyData.showableAll ds = true ∧ PyData.leavesShortAll 64 ds = true ∧ PyData.weightAll ds ≤ ds.length * (W + 1)
  | [], _ => ⟨rfl, rfl, Nat.zero_le _⟩
  | d :: ds, h => by
    obtain ⟨h1, h2, h3⟩ := sh_all (ds := ds) fun x m => h x (List.mem_cons_of_mem _ m)
    have g := h d List.mem_cons_self
    refine ⟨?_, ?_, ?_⟩
    · rw [PyData.showableAll, g.sh, h1]; rfl
    · rw [PyData.leavesShortAll, g.sm, h2]; rfl
    · rw [PyData.weightAll, List.length_cons, Nat.succ_mul]
      have := g.wt
      omega
theorem sh_list {k W : Nat} {ds : List PyData} (h : ∀ d ∈ ds, Sh k W d) : Sh (k + 1) (ds.length * (W + 1)) (.list ds) := by
  obtain ⟨h1, h2, h3⟩ := sh_all h
  exact ⟨okd_list fun d m => (h d m).ok, by rw [PyData.showable]; exact h1, by rw [PyData.leavesShort]; exact h2, by rw [PyData.weight]; exact h3⟩
theorem sh_tuple {k W : Nat} {ds : List PyData} (h : ∀ d ∈ ds, Sh k W d) : Sh (k + 1) (ds.length * (W + 1)) (.tuple ds) := by
  obtain ⟨h1, h2, h3⟩ := sh_all h
  exact ⟨okd_tuple fun d m => (h d m).ok, by rw [PyData.showable]; exact h1, by rw [PyData.leavesShort]; exact h2, by rw [PyData.weight]; exact h3⟩
theorem sh_ints {k : Nat} {ns : List Int} (h : ∀ n ∈ ns, n.natAbs < 10 ^ 60) : Sh (k + 1) (ns.length * 201) (dInts ns) := by
  have := sh_list (k := k) (W := 200) (ds := ns.map PyData.int) fun d m => by
    obtain ⟨i, hi, rfl⟩ := List.mem_map.mp m
    exact sh_int (h i hi)
  rw [List.length_map] at this
  exact this
end Kt

set_option Elab.async false
set_option linter.all false
set_option maxRecDepth 100000
namespace Kt
open PySem PySem.Spec L2 PyProof.Rows
section
variable {X : Cx} {C : Addr} {k : Nat} {ps : List Str} {sp : Sp}
/-! ### own __getitem__, own __len__ -/
def rIxOwn (C : Addr) (sp : Sp) : R2 := fun x y H Q => ∃ a dx fs, x = .ref a ∧ H a = some (.ins C dx fs) ∧ sp [.ref a, y] H Q E0
theorem pe_ixOwn {a b : Expr} {ta tb : TE} {pos : Pos} (M : Mf X.prog X.w X.K X.mg X.base k C "__getitem__" ps sp) (hfn : ∀ f, PySem.W.findIn X.K (.ref C) "__getitem__" = some (some (.ref f)) → PySem.W.fnIn X.K f = true) (hr : Room (k + 1) X.A) (ha : PE X a ta) (hb : PE X b tb)
    (hs : ∀ o i, subscripted b true o i = runValue (.builtin "lifetime.subscript" ⟨[o, i], []⟩) := by exact fun _ _ => rfl) : PE X (.Subscript a b pos) (tOp (rIxOwn C sp) ta tb) := by
  refine ⟨fun pins s σ H Q I h => Subscript_ (binT ha hb I h fun v u s2 x y H2 I2 rx ry q => ?_)⟩
  obtain ⟨o, dx, fs, rfl, ho, q⟩ := q
  cases (show v = Value.ref o from rx)
  obtain ⟨f, fd, F, b, hm⟩ := M.fn
  obtain ⟨ox, od, J⟩ := ins_at I2 ho
  obtain ⟨m, hF⟩ := I2.fr
  have bd := b s2 [.ref o, u] I2.kIn (by rw [List.append_nil]; exact F.len _ _ _ _ q)
  rw [List.append_nil] at bd
  refine PySem.W.sub_K hF I2.ok.mod.kin J hm.at_ (hfn f hm.at_) hm.fn (wpAny_call (codeAny_mono (F.run X.A.in1 X.stack s2 H2 ⟨[.ref o, u], []⟩ [.ref o, u] [.ref o, y] Q E0 hr.in1 I2.env0.in1 bd (.cons rfl (.cons ry .nil)) q) fun z s' hq => ?_)) (hs _ _)
  cases z with
  | error e => exact pass0 pins σ H2 s2 e s' I2 hq
  | ok fl => cases fl with
    | ret u => exact I2.after hq
    | _ => exact False.elim hq
def cLenOwn (C : Addr) (sp : Sp) : List V → Hp → VK → Prop := fun xs H Q => ∃ a dx fs, xs = [.ref a] ∧ H a = some (.ins C dx fs) ∧ sp [.ref a] H (fun v H' => ∃ n : Nat, v = .int n ∧ (n : Int) < 2 ^ 62 ∧ Q (.int n) H') E0
theorem call_lenOwn (M : Mf X.prog X.w X.K X.mg X.base k C "__len__" ps sp) (hr : Room (k + 1) X.A) : CallR X (.builtin "len") (cLenOwn C sp) := by
  intro pins s σ H xs us Q I r h
  obtain ⟨a, dx, fs, rfl, ha, q⟩ := h
  obtain ⟨u, rfl, r1⟩ := vals1 r
  cases r1
  obtain ⟨f, fd, F, b, hm⟩ := M.fn
  obtain ⟨ox, od, J⟩ := ins_at I ha
  obtain ⟨m, hF⟩ := I.fr
  have bd := b s [.ref a] I.kIn (by rw [List.append_nil]; exact F.len _ _ _ _ q)
  rw [List.append_nil] at bd
  refine PySem.W.len_K hF I.ok.mod.kin J hm.at_ hm.fn (wpAny_call (codeAny_mono (F.run X.A.in1 X.stack s H ⟨[.ref a], []⟩ [.ref a] [.ref a] _ E0 hr.in1 I.env0.in1 bd (.cons rfl .nil) q) fun z s' hq => ?_))
  cases z with
  | error e => exact pass0 pins σ H s e s' I hq
  | ok fl => cases fl with
    | ret u =>
      obtain ⟨v, H', I3, rv, n, rfl, hn, q3⟩ := I.after hq
      obtain ⟨t, rfl⟩ := rv
      exact ⟨⟨by omega, by omega⟩, ⟨.int n, H', I3.tok _, ⟨_, rfl⟩, q3⟩⟩
    | _ => exact False.elim hq
/-! ### len(range(n)) -/
def tLenRng (te : TE) : TE := fun σ H Q => te σ H fun x H1 => ∃ n : Nat, x = .int n ∧ (n : Int) < 2 ^ 62 ∧ Q (.int n) H1
theorem pe_lenRng {e : Expr} {te : TE} {p1 p2 pos pos2 : Pos} (he : PE X e te) (g1 : X.mg "len" = none) (g2 : X.mg "range" = none) (l1 : Gl X "len" := by rfl) (l2 : Gl X "range" := by rfl) (h1 : starEach [e] X.env = [(false, eval e X.env)] := by rfl)
    (h2 : starEach [.Call (.Name "range" p2) [e] [] pos2] X.env = (false, eval (.Call (.Name "range" p2) [e] [] pos2) X.env) :: starEach [] X.env := by rfl) (h3 : (backTo pos (starEach [] X.env)).any (·.1) = false := by rfl) :
    PE X (.Call (.Name "len" p1) [.Call (.Name "range" p2) [e] [] pos2] [] pos) (tLenRng te) := by
  refine ⟨fun pins s σ H Q I h => wpAny_Call_Name_kw (ld_blt I l1 g1 PySem.boot_len (callWith_builtin1 ?_ h2 h3))⟩
  rw [h2]
  refine Calls.spliced_cons ?_
  refine Call_ (ld_blt I l2 g2 boot_range (PyProof.Rows.callWith_type1 (e := e) (rest := []) ?_ h1 rfl))
  rw [h1]
  refine Calls.spliced_cons (thn (he.run pins s σ H _ I h) fun u s1 ⟨x, H1, I1, r1, n, e1, hn, q⟩ => ?_)
  subst e1
  obtain ⟨t, rfl⟩ := r1
  refine Calls.spliced_nil (call_range_1 ?_)
  refine Calls.spliced_nil (call_len_range (n := n) (Heap.get?_push_size _ rfl) ?_ (by omega) ⟨.int n, H1, I1.kept fun b o z => Heap.get?_push_of_some _ z, ⟨_, rfl⟩, q⟩)
  rw [rangeSize_one]
  split <;> omega
theorem r_lenRng {σ : L2.St} {H : Hp} {Q : VK} {te : TE} (h : te σ H fun x H1 => ∃ n : Nat, x = .int n ∧ (n : Int) < 2 ^ 62 ∧ Q (.int n) H1) : tLenRng te σ H Q := h
end
end Kt

set_option Elab.async false
set_option linter.all false
set_option maxRecDepth 100000
namespace Kt
open PySem PySem.Spec L2 PyProof.Rows
/-! ### own __eq__ by == and by != -/
section
variable {prog : Program} {w : World} {A : Around} {E : Value → Shared → Prop} {s : Shared} {K : PySem.W.Frag} {x y C f : Addr} {ox oy : Obj} {od od2 : Option Obj}
theorem ifBound_ne {M : Model} {args : List Value} {Q : Option Value → Shared → Prop} (X : K.In s.heap) (I : PySem.W.InstAt s.heap x ox C od) (hs : PySem.W.findIn K (.ref C) "__ne__" = some (some (.builtin "object.__ne__")))
    (h : wpAny M A (call (.builtin "object.__ne__") (.ref x :: args)) (fun v => Q (some v)) E s) : wpAny M A (callSpecialIfBound? (.ref x) "__ne__" args) Q E s := by
  simp only [callSpecialIfBound?, bindSpecialIfBound?]
  refine wpAny_holding (wpAny_bind (wpAny_bind (wpAny_bind (I.type.here ((PySem.W.looks_findIn X hs).here ?_)))))
  refine wpAny_bind (wpAny_askSetting (wpAny_ite ?_))
  have fin : wpAny M A (call (.builtin "object.__ne__") ([.ref x] ++ args) >>= fun v => pure (some v)) Q E s := wpAny_bind (wpAny_mono h (fun v s' h' => wpAny_pure h') fun _ _ h' => h')
  split
  · exact wpAny_bind (wpAny_of_eq (F.cmp_object.ne.bind _) (wpAny_pure (by exact fin)))
  · exact wpAny_tryCatch (wpAny_bind (wpAny_of_eq (F.cmp_object.ne.bind _) (wpAny_pure (by exact fin))))
theorem objNe_own {b : Value} {Q : Fin → Shared → Prop} (hu : A.units < cLine) (X : K.In s.heap) (I : PySem.W.InstAt s.heap x ox C od) (hs : PySem.W.findIn K (.ref C) "__eq__" = some (some (.ref f))) (hf : PySem.W.isFn K (.ref f) = true)
    (hcall : wpAny (model prog w) A (call (.ref f) [.ref x, b]) (fun v s' => ∃ k, v = .bool k ∧ Q (.done (.ret (.bool (!k)))) s') E s) : wpAny (model prog w) A (Builtin.«object.__ne__» ⟨[.ref x, b], []⟩) Q E s := by
  unfold Builtin.«object.__ne__»
  repeat (first
    | with_reducible refine wpAny_cRoomFor hu ?_
    | (refine wpAny_bind (m := callSpecialIfBound? (.ref x) (Str.ofString "__eq__") [b])
        (PySem.W.ifBound_K X I hs hf (wpAny_mono hcall (fun r s' hr => by
          obtain ⟨k, rfl, hq⟩ := hr
          repeat (first | exact hq | exact wpAny_pure hq | exact wpAny_truthy_bool hq | (refine wpAny_bind (m := truthy (.bool _)) (wpAny_truthy_bool ?_)) | wp_step)) fun _ _ e => e)))
    | wp_step)
theorem ne_own {b tb : Value} {Q : Value → Shared → Prop} (hu : A.units + 1 < cLine) (X : K.In s.heap) (I : PySem.W.InstAt s.heap x ox C od) (hb : PySem.W.Looks (model prog w) s.heap (typeOf b) tb) (hn : PySem.W.notFirst K C tb = true)
    (hm : PySem.W.mroIn K C (.type "object") = some true) (hne : PySem.W.findIn K (.ref C) "__ne__" = some (some (.builtin "object.__ne__"))) (hs : PySem.W.findIn K (.ref C) "__eq__" = some (some (.ref f))) (hf : PySem.W.isFn K (.ref f) = true)
    (h : wpAny (model prog w) A.in1 (call (.ref f) [.ref x, b]) (fun v s' => ∃ k, v = .bool k ∧ Q (.bool (!k)) s') E s) : wpAny (model prog w) A (richCompare .NotEq (.ref x) b) Q E s := by
  have one : wpAny (model prog w) A (tryCompare (.ref x) "__ne__" b) (fun r s' => ∃ k, r = some (.bool k) ∧ Q (.bool k) s') E s := by
    unfold tryCompare
    refine wpAny_bind (ifBound_ne X I hne (wpAny_call (codeAny_call_builtin F.cmp_object.ne.plain F.cmpEntry_ne (PySem.W.check_slot F.cmpKind_ne F.cmpSplit_ne (I.type.andThen (PySem.W.looks_mroIn X hm)) (F.cmpArgs_ne _ _)
      (objNe_own (A := A.in1) hu X I hs hf (wpAny_mono h (fun v s' hv => ?_) fun _ _ e => e))))))
    obtain ⟨k, rfl, hq⟩ := hv
    exact ⟨k, rfl, wpAny_pure ⟨_, rfl, hq⟩⟩
  unfold richCompare
  simp only [oneThing_ref]
  refine wpAny_holding (wpAny_bind (wpAny_cRoomFor (by omega) ?_))
  rw [cmpInfo_NotEq]
  refine wpAny_bind (I.type.here (wpAny_bind (hb.here ?_)))
  split
  · rename_i q
    have e : PySem.W.subIn K tb (.ref C) = some false := by
      rcases Bool.or_eq_true_iff.mp hn with e | e
      · rw [beq_iff_eq.mp e] at q; simp at q
      · exact beq_iff_eq.mp e
    refine wpAny_bind ((PySem.W.looks_subIn X e).here ?_)
    simp only [Bool.false_eq_true, if_false]
    refine wpAny_bind (wpAny_mono one (fun r s' z => ?_) fun _ _ e => e)
    obtain ⟨v, rfl, hq⟩ := z
    exact wpAny_pure hq
  · refine wpAny_bind (wpAny_pure ?_)
    simp only [Bool.false_eq_true, if_false]
    refine wpAny_bind (wpAny_mono one (fun r s' z => ?_) fun _ _ e => e)
    obtain ⟨v, rfl, hq⟩ := z
    exact wpAny_pure hq
end
section
variable {X : Cx} {C : Addr} {k : Nat} {ps : List Str} {sp : Sp}
def rEqOwn (C : Addr) (sp : Sp) : R2 := fun x y H Q => ∃ a b dx fs dy gs, x = .ref a ∧ y = .ref b ∧ H a = some (.ins C dx fs) ∧ H b = some (.ins C dy gs) ∧ sp [.ref a, .ref b] H (fun v H' => ∃ k, v = .bl k ∧ Q (.bl k) H') E0
def rNeOwn (C : Addr) (sp : Sp) : R2 := fun x y H Q => ∃ a b dx fs dy gs, x = .ref a ∧ y = .ref b ∧ H a = some (.ins C dx fs) ∧ H b = some (.ins C dy gs) ∧ sp [.ref a, .ref b] H (fun v H' => ∃ k, v = .bl k ∧ Q (.bl (!k)) H') E0
theorem op_eqOwn (M : Mf X.prog X.w X.K X.mg X.base k C "__eq__" ps sp) (hr : Room k X.A) : OpR X (compareOp .Eq) (rEqOwn C sp) := by
  intro pins s σ H x y v u Q I rx ry h
  obtain ⟨a, b, dx, fs, dy, gs, rfl, rfl, ha, hb', q⟩ := h
  cases (show v = Value.ref a from rx)
  cases (show u = Value.ref b from ry)
  obtain ⟨f, fd, F, bb, hm⟩ := M.fn
  obtain ⟨ox, od, J⟩ := ins_at I ha
  obtain ⟨ox', od', J'⟩ := ins_at I hb'
  obtain ⟨m, hF⟩ := I.fr
  refine PySem.W.cmp_K (op := .Eq) (tb := .ref C) hr.units0 hF I.ok.mod.kin J J'.type (by simp [PySem.W.notFirst]) hm.at_ hm.fn ?_
  refine wpAny_mono (run_fn (us := [.ref a, .ref b]) (vs := [.ref a, .ref b]) F hr bb .nil pass0 I (.cons rfl (.cons rfl .nil)) (by rw [List.append_nil]; exact q)) (fun z s' hz => ?_) fun _ _ z => z
  obtain ⟨y', H', I', r', k, rfl, q'⟩ := hz
  cases r'
  exact ⟨.bl k, H', I', rfl, q'⟩
theorem op_neOwn (M : Mf X.prog X.w X.K X.mg X.base k C "__eq__" ps sp) (hr : Room (k + 1) X.A) (hmr : PySem.W.mroIn X.K C (.type "object") = some true) (hne : PySem.W.findIn X.K (.ref C) "__ne__" = some (some (.builtin "object.__ne__"))) : OpR X (compareOp .NotEq) (rNeOwn C sp) := by
  intro pins s σ H x y v u Q I rx ry h
  obtain ⟨a, b, dx, fs, dy, gs, rfl, rfl, ha, hb', q⟩ := h
  cases (show v = Value.ref a from rx)
  cases (show u = Value.ref b from ry)
  obtain ⟨f, fd, F, bb, hm⟩ := M.fn
  obtain ⟨ox, od, J⟩ := ins_at I ha
  obtain ⟨ox', od', J'⟩ := ins_at I hb'
  obtain ⟨m, hF⟩ := I.fr
  have bd := bb s [.ref a, .ref b] I.kIn (by rw [List.append_nil]; exact F.len _ _ _ _ q)
  rw [List.append_nil] at bd
  refine ne_own (tb := .ref C) (by have := hr.units; omega) I.kIn J J'.type (by simp [PySem.W.notFirst]) hmr hne hm.at_ hm.fn ?_
  refine wpAny_call (codeAny_mono (F.run X.A.in1 X.stack s H ⟨[.ref a, .ref b], []⟩ [.ref a, .ref b] [.ref a, .ref b] _ E0 hr.in1 I.env0.in1 bd (.cons rfl (.cons rfl .nil)) q) fun z s' hq => ?_)
  cases z with
  | error e => exact pass0 pins σ H s e s' I hq
  | ok fl => cases fl with
    | ret u =>
      obtain ⟨v, H', I3, rv, k, rfl, q3⟩ := I.after hq
      cases rv
      exact ⟨k, rfl, .bl (!k), H', I3, rfl, q3⟩
    | _ => exact False.elim hq
end
end Kt

set_option Elab.async false
set_option linter.all false
set_option maxRecDepth 100000
namespace Kt
open PySem L2 PyProof.Rows
section
variable {K : PySem.W.Frag} {σ : L2.St} {H : Hp} {D : Ends} {Q : VK} {a b : Addr} {xs ys : List V} {Ps : List SP} {g : TG} {tb : TS} {tr : TA}
def kZip (K : PySem.W.Frag) (R : It → Hp → Prop) : List V → Hp → Prop := fun vs H1 => ∃ a b xs ys, vs = [.ref a, .ref b] ∧ SqL K H1 a xs ∧ SqL K H1 b ys ∧ R (Itz K a b) H1
theorem r_izip {R : It → Hp → Prop} (h : tr σ H (kZip K R)) : iZip K tr σ H R := h
theorem r_for_zip (J : LW) (hlen : xs.length = ys.length) (S : Sep Ps H) (h0 : J 0 σ Ps) (hl : ∀ i σ Ps H, J i σ Ps → Sep Ps H → SqL K H a xs ∧ SqL K H b ys)
    (hs : ∀ i x y T σ Ps H, xs[i]? = some x → ys[i]? = some y → J i σ Ps → Sep (pt T (.tup [x, y]) :: Ps) H → g (.ref T) σ H fun σ2 H2 => tb { D with nx := Nx J (i + 1), ct := Nx J (i + 1), bk := D.nx } σ2 H2) (hd : ∀ σ Ps H, J xs.length σ Ps → Sep Ps H → D.nx σ H) :
    kZip K (fun Jt H1 => ForW Jt g tb D σ H1) [.ref a, .ref b] H :=
  ⟨a, b, xs, ys, rfl, (hl 0 σ Ps H h0 S).1, (hl 0 σ Ps H h0 S).2, RZ.for_zipL (K := K) (a := a) (b := b) hlen (Nx J) ⟨Ps, h0, S⟩ (fun i σ H ⟨Ps, j, S⟩ => hl i σ Ps H j S) (fun i x y T σ H hx hy ⟨Ps, j, S⟩ hT => hs i x y T σ Ps _ hx hy j (S.new _ hT)) fun σ H ⟨Ps, j, S⟩ => hd σ Ps H j S⟩
end
theorem pi_zipK {X : Cx} (K : PySem.W.Frag) {e e2 : Expr} {ta : TA} {p pos tpos : Pos} {elts : List Expr} {kk : Nat} (hg : Gl X "zip") (hm : X.mg "zip" = none) (ha : PA X [e, e2] ta) (hK : X.K = K := by rfl)
    (hs : starEach [e, e2] X.env = (false, eval e X.env) :: starEach [e2] X.env := by rfl) (hpl : (backTo pos (starEach [e2] X.env)).any (·.1) = false := by rfl) :
    PI X (.Tuple elts kk tpos) (.Call (.Name "zip" p) [e, e2] [] pos) (iZip K ta) := hK ▸ pi_zip hg hm ha hs hpl
section
variable {K : PySem.W.Frag} {σ : L2.St} {H : Hp} {D : Ends} {Q : VK} {a b : Addr} {xs ys : List V} {Ps : List SP} {g : TG} {tb : TS} {tr : TA}
theorem eqvAll_ints : ∀ a b : List Int, PyData.eqvAll (a.map PyData.int) (b.map PyData.int) = decide (a = b)
  | [], [] => by simp [PyData.eqvAll]
  | [], y :: b => by simp [PyData.eqvAll]
  | x :: a, [] => by simp [PyData.eqvAll]
  | x :: a, y :: b => by
    simp only [List.map_cons, PyData.eqvAll, eqvAll_ints a b, PyData.eqv]
    by_cases h : x = y
    · subst h
      simp
    · simp [h]
theorem eqv_ints (a b : List Int) : PyData.eqv (dInts a) (dInts b) = decide (a = b) := by
  unfold dInts
  rw [PyData.eqv]
  exact eqvAll_ints a b
theorem r_eq_ints {p q : Addr} {m1 m2 : List Int} (s1 : SqL K H p (m1.map V.int)) (s2 : SqL K H q (m2.map V.int)) (h : Q (.bl (decide (m1 = m2))) H) : rEqA K (.ref p) (.ref q) H Q :=
  .inr ⟨_, _, dp_ints s1, dp_ints s2, (okd_ints 0 _).shaped (by decide), (okd_ints 0 _).shaped (by decide), by rw [eqv_ints]; exact h⟩
theorem r_ne_ints {p q : Addr} {m1 m2 : List Int} (s1 : SqL K H p (m1.map V.int)) (s2 : SqL K H q (m2.map V.int)) (h : Q (.bl (!decide (m1 = m2))) H) : rNeA K (.ref p) (.ref q) H Q :=
  .inr ⟨_, _, dp_ints s1, dp_ints s2, (okd_ints 0 _).shaped (by decide), (okd_ints 0 _).shaped (by decide), by rw [eqv_ints]; exact h⟩
theorem r_par3 {i j l : Nat} (h : tr σ H fun vs H1 => ∃ u v w, vs = [u, v, w] ∧ D.nx (((σ.set i (some u)).set j (some v)).set l (some w)) H1) : tPar3 i j l tr D σ H := h
theorem r_parA3 {i j l : Nat} {x y z : V} {p : L2.St → Hp → Prop} (h : p (((σ.set i (some x)).set j (some y)).set l (some z)) H) : ∃ u v w, [x, y, z] = [u, v, w] ∧ p (((σ.set i (some u)).set j (some v)).set l (some w)) H := ⟨x, y, z, rfl, h⟩
def kRng2 (R : It → Hp → Prop) : List V → Hp → Prop := fun vs H1 => ∃ i j : Int, vs = [.int i, .int j] ∧ (-(2 ^ 62) ≤ i ∧ i < 2 ^ 62 ∧ -(2 ^ 62) ≤ j ∧ j < 2 ^ 62) ∧ R (Itr i (j - i).toNat) H1
theorem r_irng2 {R : It → Hp → Prop} (h : tr σ H (kRng2 R)) : iRng2 tr σ H R := h
theorem r_rep {n : Int} (S : Sep Ps H) (s : H a = some (.lst xs)) (h1 : 0 ≤ n) (h2 : n ≤ 1000) (hz : xs.length ≤ 1000) (h : ∀ p H', Sep (pt p (.lst (List.replicate n.toNat xs).flatten) :: Ps) H' → Q (.ref p) H') : rMulA (.ref a) (.int n) H Q :=
  .inr ⟨a, n, xs, rfl, rfl, s, by omega, by omega, Nat.le_trans (Nat.mul_le_mul hz (show n.toNat ≤ 1000 by omega)) (by decide), fun p np => h p _ (S.new _ np)⟩
theorem r_lc_itr {lo : Int} {n : Nat} {tt : TT} {te : TE} {vs : List Nat} (J : CW) (S : Sep Ps H) (h0 : J 0 [] Ps)
    (hs : ∀ D (i : Nat) acc Ps H, i < n → J i acc Ps → Sep (pt D (.lst acc) :: Ps) H → g (.int (lo + (i : Int))) (wipe σ vs) H fun σ2 H2 => wipe σ2 vs = wipe σ vs ∧ tt σ2 H2 fun b H3 =>
      if b = true then te σ2 H3 fun y H4 => ∃ acc, H4 D = some (.lst acc) ∧ acc.length < sizeLine ∧ CN J D (i + 1) (upd H4 D (.lst (acc ++ [y]))) else CN J D (i + 1) H3)
    (hd : ∀ D acc Ps H, J n acc Ps → Sep (pt D (.lst acc) :: Ps) H → Q (.ref D) H) : LcW (Itr lo n) g tt te vs Q σ H :=
  fun D nD => lc_range (CN J D) ⟨[], Ps, h0, S.new _ nD⟩ (fun i H hi ⟨acc, Ps, j, S⟩ => hs D i acc Ps H hi j S) fun H ⟨acc, Ps, j, S⟩ => hd D acc Ps H j S
theorem q_neB {x y : Bool} (h : Q (.bl (x != y)) H) : rNeA K (.bl x) (.bl y) H Q := .inl ⟨rfl, by
  have e : (!decide (V.bl x = V.bl y)) = (x != y) := by cases x <;> cases y <;> rfl
  rw [e]
  exact h⟩
theorem q_eqB {x y : Bool} (h : Q (.bl (x == y)) H) : rEqA K (.bl x) (.bl y) H Q := .inl ⟨rfl, by
  have e : decide (V.bl x = V.bl y) = (x == y) := by cases x <;> cases y <;> rfl
  rw [e]
  exact h⟩
end
end Kt

set_option Elab.async false
set_option linter.all false
set_option maxRecDepth 100000
namespace Kt
open PySem L2 PyProof.Rows
/-! ### data as parts of the heap -/
section
variable {K : PySem.W.Frag}
theorem Rd.le {G H : Hp} (l : Le G H) {a : Addr} {o : HO} (h : Rd G a o) : Rd H a o := by
  rcases h with h | ⟨ob, h⟩
  · exact .inl (l _ _ h)
  · exact .inr ⟨ob, l _ _ h⟩
theorem SqL.le {G H : Hp} (l : Le G H) {a : Addr} {xs : List V} (h : SqL K G a xs) : SqL K H a xs := h.imp (Rd.le l) id
theorem SqT.le {G H : Hp} (l : Le G H) {a : Addr} {xs : List V} (h : SqT K G a xs) : SqT K H a xs := h.imp (Rd.le l) id
mutual
theorem Dp.le {G H : Hp} (l : Le G H) : ∀ (d : PyData) (v : V), Dp K G v d → Dp K H v d
  | .none, _, h => by cases h; exact .non
  | .bool b, _, h => by cases h; exact .bl b
  | .int i, _, h => by cases h; exact .int i
  | .str x, _, h => by cases h; exact .str x
  | .list ds, _, h => by
    cases h with
    | lst s t => exact .lst (SqL.le l s) (DpAll.le l ds _ t)
  | .tuple ds, _, h => by
    cases h with
    | tup s t => exact .tup (SqT.le l s) (DpAll.le l ds _ t)
  | .dict _, _, h => by cases h
theorem DpAll.le {G H : Hp} (l : Le G H) : ∀ (ds : List PyData) (vs : List V), DpAll K G vs ds → DpAll K H vs ds
  | [], _, h => by cases h; exact .nil
  | d :: ds, _, h => by
    cases h with
    | cons h t => exact .cons (Dp.le l d _ h) (DpAll.le l ds _ t)
end
def dat (K : PySem.W.Frag) (p : Addr) (d : PyData) : SP := fun G => Dp K G (.ref p) d
def dall (K : PySem.W.Frag) (vs : List V) (ds : List PyData) : SP := fun G => DpAll K G vs ds
theorem Sep.join {P Q X : SP} {R : List SP} {H : Hp} (f : ∀ G1 G2 G, Le G1 G → Le G2 G → P G1 → Q G2 → X G) (S : Sep (P :: Q :: R) H) : Sep (X :: R) H :=
  (Sep.unflat (As := [P, Q]) S).hd_mono fun G ⟨G1, l1, p, G2, l2, q, _⟩ => f G1 G2 G l1 (fun a o e => (sub_some (l2 a o e)).2) p q
theorem dat_dp {p : Addr} {d : PyData} {R : List SP} {H : Hp} : Sep (dat K p d :: R) H → Dp K H (.ref p) d := fun ⟨_, l, h, _⟩ => Dp.le l d _ h
theorem dat_list {p : Addr} {vs : List V} {ds : List PyData} {R : List SP} {H : Hp} (S : Sep (pt p (.lst vs) :: dall K vs ds :: R) H) : Sep (dat K p (.list ds) :: R) H :=
  Sep.join (fun G1 G2 G l1 l2 h1 h2 => .lst (SqL.of (l1 _ _ h1)) (DpAll.le l2 _ _ h2)) S
theorem dat_flat {p : Addr} {vs : List V} {ds : List PyData} {R : List SP} {H : Hp} (h : ∀ G, DpAll K G vs ds) (S : Sep (pt p (.lst vs) :: R) H) : Sep (dat K p (.list ds) :: R) H :=
  S.hd_mono fun G e => .lst (SqL.of e) (h G)
theorem dall_nil {R : List SP} {H : Hp} (S : Sep R H) : Sep (dall K [] [] :: R) H :=
  ⟨fun _ => none, fun _ _ (e : (none : Option HO) = some _) => (Option.noConfusion rfl (heq_of_eq e)), .nil, S.mono fun a o e => by rw [sub_of rfl]; exact e⟩
theorem dall_flat {vs : List V} {ds : List PyData} {R : List SP} {H : Hp} (h : ∀ G, DpAll K G vs ds) (S : Sep R H) : Sep (dall K vs ds :: R) H :=
  ⟨fun _ => none, fun _ _ (e : (none : Option HO) = some _) => (Option.noConfusion rfl (heq_of_eq e)), h _, S.mono fun a o e => by rw [sub_of rfl]; exact e⟩
theorem dall_add {p : Addr} {d : PyData} {vs : List V} {ds : List PyData} {R : List SP} {H : Hp} (S : Sep (dat K p d :: dall K vs ds :: R) H) : Sep (dall K (vs ++ [.ref p]) (ds ++ [d]) :: R) H :=
  Sep.join (fun G1 G2 G l1 l2 h1 h2 => dpall_app (DpAll.le l2 _ _ h2) (.cons (Dp.le l1 _ _ h1) .nil)) S
theorem dall_cons {p : Addr} {d : PyData} {vs : List V} {ds : List PyData} {R : List SP} {H : Hp} (S : Sep (dat K p d :: dall K vs ds :: R) H) : Sep (dall K (.ref p :: vs) (d :: ds) :: R) H :=
  Sep.join (fun G1 G2 G l1 l2 h1 h2 => .cons (Dp.le l1 _ _ h1) (DpAll.le l2 _ _ h2)) S
theorem dpall_bls {G : Hp} : ∀ bs : List Bool, DpAll K G (bs.map V.bl) (bs.map PyData.bool)
  | [] => .nil
  | b :: bs => .cons (.bl b) (dpall_bls bs)
end
theorem sh_cons {k W W2 : Nat} {d : PyData} {ds : List PyData} (h : Sh k W d) (t : Sh (k + 1) W2 (.list ds)) : Sh (k + 1) (W + 1 + W2) (.list (d :: ds)) := by
  refine ⟨⟨?_, ?_⟩, ?_, ?_, ?_⟩
  · have := t.ok.1
    rw [PyData.canLay0] at this ⊢
    rw [PyData.canLayAll0, h.ok.1, this]; rfl
  · have h1 := t.ok.2
    have h2 := h.ok.2
    rw [PyData.depth] at h1 ⊢
    rw [PyData.depthAll]
    omega
  · have := t.sh
    rw [PyData.showable] at this ⊢
    rw [PyData.showableAll, h.sh, this]; rfl
  · have := t.sm
    rw [PyData.leavesShort] at this ⊢
    rw [PyData.leavesShortAll, h.sm, this]; rfl
  · have h1 := t.wt
    have h2 := h.wt
    rw [PyData.weight] at h1 ⊢
    rw [PyData.weightAll]
    omega
theorem sh_nil {k : Nat} : Sh (k + 1) 0 (.list []) := ⟨⟨rfl, by show PyData.depth (.list []) ≤ _; rw [PyData.depth]; exact Nat.succ_le_succ (Nat.zero_le _)⟩, rfl, rfl, by rw [PyData.weight]; exact Nat.le_refl _⟩
end Kt

set_option Elab.async false
set_option linter.all false
set_option maxRecDepth 100000
namespace Kt
open PySem PySem.Spec L2 PyProof.Rows
/-! ### the type of a value as a part of the heap -/
section
variable {K : PySem.W.Frag} {G H : Hp} {v : V} {t : Value} {T : String} {R : List SP}
theorem ty_mono (l : Le G H) (h : TyX K G v t) : TyX K H v t := by
  cases h with
  | base b =>
    cases b with
    | non => exact .base .non
    | bl x => exact .base (.bl x)
    | int i => exact .base (.int i)
    | str x => exact .base (.str x)
    | flt x => exact .base (.flt x)
    | lst e => exact .base (.lst (l _ _ e))
    | frz e => exact .base (.frz (l _ _ e))
    | tup e => exact .base (.tup (l _ _ e))
    | dK e => exact .base (.dK (l _ _ e))
    | dT e => exact .base (.dT (l _ _ e))
    | ins e cl ha hn htk hm => exact .base (.ins (l _ _ e) cl ha hn htk hm)
  | byt b => exact .byt b
  | set e => exact .set (l _ _ e)
  | kList e c => exact .kList e c
  | kTuple e c => exact .kTuple e c
  | kDict e c => exact .kDict e c
  | fTuple e => exact .fTuple (l _ _ e)
  | fDict e => exact .fDict (l _ _ e)
def tyP (K : PySem.W.Frag) (v : V) (T : String) : SP := fun G => TyX K G v (.type T)
theorem ty_of (S : Sep (tyP K v T :: R) H) : TyX K H v (.type T) := by
  obtain ⟨G, l, h, _⟩ := S
  exact ty_mono l h
theorem ty_nil (S : Sep R H) (h : TyX K (fun _ => none) v (.type T)) : Sep (tyP K v T :: R) H :=
  ⟨fun _ => none, fun _ _ (e : (none : Option HO) = some _) => (Option.noConfusion rfl (heq_of_eq e)), h, Sep.mono (H := H) (fun a o e => by rw [sub_of rfl]; exact e) S⟩
theorem kit_own {C : Addr} (h1 : PySem.W.isClsIn K C = true) (h2 : PySem.W.typeIn K (.ref C) = some (.type "type")) (h3 : PySem.W.subIn K (.type T) (.ref C) = some false) : PySem.W.kitOne K (.type T) (.ref C) = some false := by
  have e : ((Value.type T) == (Value.ref C)) = false := by rfl
  unfold PySem.W.kitOne PySem.W.kitCls
  rw [e, if_neg Bool.false_ne_true]
  show (if _ then _ else _) = _
  rw [h2, show (PySem.W.clsIn K C).isSome = true from h1]
  simpa using h3
theorem kit_base {C : Addr} (h1 : PySem.W.kitMeta T = true) (h3 : PySem.W.mroIn K C (.type T) = some false) : PySem.W.kitOne K (.ref C) (.type T) = some false := by
  have e : ((Value.ref C) == (Value.type T)) = false := by rfl
  unfold PySem.W.kitOne PySem.W.kitCls
  rw [e, if_neg Bool.false_ne_true]
  show (if _ then _ else _) = _
  rw [if_pos h1]
  exact h3
theorem ty_isInt (h : TyX K H v (.type "int")) : ∃ i, v = .int i := by
  generalize e : Value.type "int" = t at h
  cases h with
  | base b =>
    cases b with
    | int i => exact ⟨i, rfl⟩
    | _ => first | (exact absurd e (by simp)) | (cases e)
  | _ => first | (exact absurd e (by simp)) | (cases e)
end
section
variable {X : Cx} {C : Addr} {k : Nat} {ps : List Str} {sp : Sp}
/-! ### x in o by an own __contains__ -/
def rInOwn (C : Addr) (sp : Sp) : R2 := fun x y H Q => ∃ a dx fs, y = .ref a ∧ H a = some (.ins C dx fs) ∧ sp [.ref a, x] H (fun v H' => ∃ k, v = .bl k ∧ Q (.bl k) H') E0
theorem op_inOwn (M : Mf X.prog X.w X.K X.mg X.base k C "__contains__" ps sp) (hr : Room k X.A) : OpR X (compareOp .In) (rInOwn C sp) := by
  intro pins s σ H x y v u Q I rx ry h
  obtain ⟨a, dx, fs, rfl, ha, q⟩ := h
  cases (show u = Value.ref a from ry)
  obtain ⟨f, fd, F, bb, hm⟩ := M.fn
  obtain ⟨ox, od, J⟩ := ins_at I ha
  obtain ⟨m, hF⟩ := I.fr
  refine PySem.W.in_K hF I.ok.mod.kin J hm.at_ hm.fn ?_
  refine wpAny_mono (run_fn (us := [.ref a, v]) (vs := [.ref a, x]) F hr bb .nil pass0 I (.cons rfl (.cons rx .nil)) (by rw [List.append_nil]; exact q)) (fun z s' hz => ?_) fun _ _ z => z
  obtain ⟨y', H', I', r', k, rfl, q'⟩ := hz
  cases r'
  exact wpAny_truthy_bool ⟨.bl k, H', I', rfl, q'⟩
/-! ### an own == with a value of a built-in type -/
def rEqOwnT (K : PySem.W.Frag) (C : Addr) (sp : Sp) : R2 := fun x y H Q => ∃ a dx fs t, x = .ref a ∧ H a = some (.ins C dx fs) ∧ TyX K H y t ∧ PySem.W.notFirst K C t = true ∧ sp [.ref a, y] H (fun v H' => ∃ k, v = .bl k ∧ Q (.bl k) H') E0
def rNeOwnT (K : PySem.W.Frag) (C : Addr) (sp : Sp) : R2 := fun x y H Q => ∃ a dx fs t, x = .ref a ∧ H a = some (.ins C dx fs) ∧ TyX K H y t ∧ PySem.W.notFirst K C t = true ∧ sp [.ref a, y] H (fun v H' => ∃ k, v = .bl k ∧ Q (.bl (!k)) H') E0
theorem op_eqOwnT (M : Mf X.prog X.w X.K X.mg X.base k C "__eq__" ps sp) (hr : Room k X.A) : OpR X (compareOp .Eq) (rEqOwnT X.K C sp) := by
  intro pins s σ H x y v u Q I rx ry h
  obtain ⟨a, dx, fs, t, rfl, ha, ty, hn, q⟩ := h
  cases (show v = Value.ref a from rx)
  obtain ⟨f, fd, F, bb, hm⟩ := M.fn
  obtain ⟨ox, od, J⟩ := ins_at I ha
  obtain ⟨Pz, Z, p, _⟩ := kit_of I ry ty
  obtain ⟨m, hF⟩ := I.fr
  refine PySem.W.cmp_K (op := .Eq) (tb := t) hr.units0 hF I.ok.mod.kin J (Z.ty _ _ I.kIn p) hn hm.at_ hm.fn ?_
  refine wpAny_mono (run_fn (us := [.ref a, u]) (vs := [.ref a, y]) F hr bb .nil pass0 I (.cons rfl (.cons ry .nil)) (by rw [List.append_nil]; exact q)) (fun z s' hz => ?_) fun _ _ z => z
  obtain ⟨y', H', I', r', k, rfl, q'⟩ := hz
  cases r'
  exact ⟨.bl k, H', I', rfl, q'⟩
theorem op_neOwnT (M : Mf X.prog X.w X.K X.mg X.base k C "__eq__" ps sp) (hr : Room (k + 1) X.A) (hmr : PySem.W.mroIn X.K C (.type "object") = some true) (hne : PySem.W.findIn X.K (.ref C) "__ne__" = some (some (.builtin "object.__ne__"))) : OpR X (compareOp .NotEq) (rNeOwnT X.K C sp) := by
  intro pins s σ H x y v u Q I rx ry h
  obtain ⟨a, dx, fs, t, rfl, ha, ty, hn, q⟩ := h
  cases (show v = Value.ref a from rx)
  obtain ⟨f, fd, F, bb, hm⟩ := M.fn
  obtain ⟨ox, od, J⟩ := ins_at I ha
  obtain ⟨Pz, Z, p, _⟩ := kit_of I ry ty
  obtain ⟨m, hF⟩ := I.fr
  have bd := bb s [.ref a, u] I.kIn (by rw [List.append_nil]; exact F.len _ _ _ _ q)
  rw [List.append_nil] at bd
  refine ne_own (tb := t) (by have := hr.units; omega) I.kIn J (Z.ty _ _ I.kIn p) hn hmr hne hm.at_ hm.fn ?_
  refine wpAny_call (codeAny_mono (F.run X.A.in1 X.stack s H ⟨[.ref a, u], []⟩ [.ref a, u] [.ref a, y] _ E0 hr.in1 I.env0.in1 bd (.cons rfl (.cons ry .nil)) q) fun z s' hq => ?_)
  cases z with
  | error e => exact pass0 pins σ H s e s' I hq
  | ok fl => cases fl with
    | ret u =>
      obtain ⟨v, H', I3, rv, k, rfl, q3⟩ := I.after hq
      cases rv
      exact ⟨k, rfl, .bl (!k), H', I3, rfl, q3⟩
    | _ => exact False.elim hq
end
def cTup (K : PySem.W.Frag) : List V → Hp → VK → Prop := fun xs H Q => ∃ p ys, xs = [.ref p] ∧ ((SqL K H p ys ∧ ∀ l, H l = none → Q (.ref l) (upd H l (.tup ys))) ∨ (SqT K H p ys ∧ Q (.ref p) H))
theorem call_tupA {X : Cx} : CallR X (.type "tuple") (cTup X.K) := call_tuple_of
def cStrI : List V → Hp → VK → Prop := fun xs H Q => ∃ i, xs = [.int i] ∧ i.natAbs.log2 < 1920 ∧ Q (.str (toString i)) H
theorem call_strA {X : Cx} : CallR X (.type "str") cStrI := call_str_int
/-! ### repr of a list, a tuple or a truth -/
def cReprB (K : PySem.W.Frag) : List V → Hp → VK → Prop := fun xs H Q => (∃ b : Bool, xs = [.bl b] ∧ Q (.str (if b then "True" else "False")) H) ∨ cRepr K xs H Q
theorem call_reprB {X : Cx} (hg : X.A.guards = some []) (hu : X.A.units + 64 < cLine) : CallR X (.builtin "repr") (cReprB X.K) := by
  intro pins s σ H xs us Q I r h
  rcases h with ⟨b, rfl, q⟩ | h
  · obtain ⟨u, rfl, r1⟩ := vals1 r
    cases r1
    exact PySem.P.repr_of_bool ⟨.str _, H, I.tok _, ⟨_, rfl⟩, q⟩
  · exact call_reprA hg hu pins s σ H xs us Q I r h
theorem pe_revLK {X : Cx} (K : PySem.W.Frag) {e : Expr} {te : TE} {k : Nat} {p1 p2 p3 pos : Pos} (he : PE X e te) (hK : X.K = K := by rfl) : PE X (.Subscript e (.Slice none none (some (.UnaryOp .USub (.Constant (.int 1) k p1) p2)) p3) pos) (tRevL K te) := hK ▸ pe_revL he
theorem big_pick {l : List (Addr × List V)} {p : Addr} {xs : List V} (h : (p, xs) ∈ l) : ∃ l', (∀ {R H}, Sep (big l :: R) H → Sep (pt p (.lst xs) :: big l' :: R) H) ∧ (∀ {R H}, Sep (pt p (.lst xs) :: big l' :: R) H → Sep (big l :: R) H) := by
  obtain ⟨l1, l2, rfl⟩ := List.append_of_mem h
  refine ⟨l1 ++ l2, fun {R H} S => ?_, fun {R H} S => ?_⟩
  · have S := S.flat
    rw [List.map_append, List.map_cons, List.append_assoc, List.cons_append] at S
    have S : Sep (pt p (.lst xs) :: ((l1.map fun p : Addr × List V => pt p.1 (.lst p.2)) ++ ((l2.map fun p : Addr × List V => pt p.1 (.lst p.2)) ++ R))) H := (pick_mid _).go S
    refine Sep.cons_mono (fun _ S => Sep.unflat (As := (l1 ++ l2).map fun p : Addr × List V => pt p.1 (.lst p.2)) ?_) S
    rw [List.map_append, List.append_assoc]
    exact S
  · have S1 : Sep (pt p (.lst xs) :: (((l1 ++ l2).map fun p : Addr × List V => pt p.1 (.lst p.2)) ++ R)) H := S.cons_mono fun _ => Sep.flat
    rw [List.map_append, List.append_assoc] at S1
    have S2 := (pick_mid _).back S1
    refine Sep.unflat (As := (l1 ++ (p, xs) :: l2).map fun p : Addr × List V => pt p.1 (.lst p.2)) ?_
    rw [List.map_append, List.append_assoc]
    exact S2
section
variable {K : PySem.W.Frag} {σ : L2.St} {H : Hp} {Q : VK} {te : TE} {a : Addr} {xs : List V} {Ps : List SP} {n : Int}
def kRevL (K : PySem.W.Frag) (Q : VK) : V → Hp → Prop := fun x H1 => ∃ a xs, x = .ref a ∧ SqL K H1 a xs ∧ ∀ p, H1 p = none → Q (.ref p) (upd H1 p (.lst xs.reverse))
theorem r_revL (h : te σ H (kRevL K Q)) : tRevL K te σ H Q := h
theorem r_revLk (S : Sep Ps H) (s : SqL K H a xs) (h : ∀ p H', Sep (pt p (.lst xs.reverse) :: Ps) H' → Q (.ref p) H') : kRevL K Q (.ref a) H := ⟨a, xs, rfl, s, fun p np => h p _ (S.new _ np)⟩
theorem r_tupOf (S : Sep Ps H) (s : SqL K H a xs) (h : ∀ p H', Sep (pt p (.tup xs) :: Ps) H' → Q (.ref p) H') : cTup K [V.ref a] H Q := ⟨a, xs, rfl, .inl ⟨s, fun p np => h p _ (S.new _ np)⟩⟩
theorem r_strI (hz : n.natAbs.log2 < 1920) (h : Q (.str (toString n)) H) : cStrI [V.int n] H Q := ⟨n, rfl, hz, h⟩
theorem in_ints {i : Int} : ∀ ns : List Int, inV (.int i) (ns.map V.int) = decide (i ∈ ns)
  | [] => rfl
  | n :: ns => by
    have ih := in_ints (i := i) ns
    unfold inV at ih ⊢
    rw [List.map_cons, List.any_cons, ih]
    show ((n == i) || _) = _
    by_cases e : n = i
    · subst e; simp
    · have : (n == i) = false := beq_eq_false_iff_ne.mpr e
      rw [this, Bool.false_or]
      refine decide_eq_decide.mpr ⟨List.mem_cons_of_mem _, fun m => (List.mem_cons.mp m).resolve_left fun q => e q.symm⟩
theorem flat_ints : ∀ ns : List Int, (ns.map V.int).all flatV = true
  | [] => rfl
  | n :: ns => by rw [List.map_cons, List.all_cons, flat_ints ns]; rfl
theorem r_in_ints {i : Int} {ns : List Int} (s : SqL K H a (ns.map V.int)) (h : Q (.bl (decide (i ∈ ns))) H) : rIn K false (.int i) (.ref a) H Q := ⟨a, _, rfl, .inl s, rfl, flat_ints ns, by rw [in_ints]; exact h⟩
end
end Kt

set_option Elab.async false
set_option linter.all false
set_option maxRecDepth 100000
namespace Kt
open PySem PySem.Spec L2 PyProof.Rows
/-! ### what isinstance asks of a def: its __class__ -/
theorem fk_slot : Slot "function" "__getattribute__" "object.__getattribute__" :=
  .of (n := "__getattribute__") (owner := "object") (by rw [typeLookup_type, builtinLookup_eq_fast]; kernel_rfl) (by decide +kernel) (by decide +kernel) (by decide +kernel) (by first | exact .inl (by decide +kernel) | exact .inr (by decide +kernel)) (by rw [isSubtype_type]; kernel_rfl)
theorem fk_look : typeLookup (.type "function") "__class__" = pure (some (.builtin "object.__class__")) := by rw [typeLookup_type, builtinLookup_eq_fast]; kernel_rfl
theorem fk_owner : isSubtype (.type "function") (.type (".".intercalate ("object.__class__".cutAt '.').dropLast)) = pure true := by rw [PySem.F.owner_object_class, isSubtype_type]; kernel_rfl
section
variable {P : Program} {w : World} {A : Around} {E : Value → Shared → Prop} {hp : Heap} {gs : Array GenState} {dr : Drawn} {n : Nat} {os : OsState} {f : Addr} {ob : Obj}
theorem fk_get {R : Result → Shared → Prop} (e1 : hp.get? f = some ob) (e2 : ob.cls = .type "function") (q : R (.ok (.ret (.type "function"))) ⟨hp, gs, dr, n, os⟩) : codeAny (model P w) A (.call (.builtin "getset_descriptor.__get__") ⟨[.builtin "object.__class__", .ref f, .type "function"], []⟩) R ⟨hp, gs, dr, n, os⟩ := by
  have t1 : (⟨hp, gs, dr, n, os⟩ : Shared).TypeIs (.ref f) "function" := ⟨_, e1, e2⟩
  have t2 : (⟨hp, gs, dr, n, os⟩ : Shared).TypeIs (.builtin "object.__class__") "getset_descriptor" := PySem.F.typeOf_object_class
  have t3 := fk_owner
  refine codeAny_call_builtin PySem.F.slot_gs_get.plain PySem.F.entry_gs_get (PySem.F.slot_gs_get.check _ _ _ _ _ _ _ _ t2 (PySem.F.args_gs_get _ _ _) ?_)
  repeat (any_goals (first | assumption | wp_step))
  exact ⟨Code.quiet_builtin _ (by decide +kernel), codeAny_builtin PySem.F.entry_object_class (by repeat (any_goals (first | assumption | wp_step)))⟩
theorem fk_entry {tk : Tok} {Q : Fin → Shared → Prop} (e1 : hp.get? f = some ob) (e2 : ob.cls = .type "function") (q : Q (.done (.ret (.type "function"))) ⟨hp, gs, dr, n, os⟩) : wpAny (model P w) A (Builtin.«object.__getattribute__» ⟨[.ref f, .str "__class__" tk], []⟩) Q E ⟨hp, gs, dr, n, os⟩ := by
  have t1 : (⟨hp, gs, dr, n, os⟩ : Shared).TypeIs (.ref f) "function" := ⟨_, e1, e2⟩
  have t2 : (⟨hp, gs, dr, n, os⟩ : Shared).TypeIs (.builtin "object.__class__") "getset_descriptor" := PySem.F.typeOf_object_class
  have t3 := fk_look
  have t4 := PySem.F.typeOf_object_class
  have t5 := PySem.F.slot_gs_get.lookup
  have t6 := PySem.F.slot_gs_set.lookup
  repeat (any_goals (first | assumption | wp_step))
  refine fk_get e1 e2 ?_
  repeat (any_goals (first | assumption | wp_step))
theorem fk_by {tk : Tok} {Q : Value → Shared → Prop} (e1 : hp.get? f = some ob) (e2 : ob.cls = .type "function") (q : Q (.type "function") ⟨hp, gs, dr, n, os⟩) : wpAny (model P w) A (getAttrBy (.ref f) (.str "__class__" tk) false) Q E ⟨hp, gs, dr, n, os⟩ := by
  have t1 : (⟨hp, gs, dr, n, os⟩ : Shared).TypeIs (.ref f) "function" := ⟨_, e1, e2⟩
  have t2 := fk_slot.lookup
  have t3 := fk_slot.bind (.ref f)
  repeat (any_goals (first | assumption | wp_step))
  refine codeAny_call_builtin fk_slot.plain PySem.F.entry_object_getattribute (fk_slot.check _ _ _ _ _ _ _ _ (show (⟨hp, gs, dr, n, os⟩ : Shared).TypeIs (.ref f) "function" from t1) (PySem.F.args_object_getattribute_2 _ _) (fk_entry e1 e2 ?_))
  repeat (any_goals (first | assumption | wp_step))
theorem fk_attr {Q : Option Value → Shared → Prop} (e1 : hp.get? f = some ob) (e2 : ob.cls = .type "function") (q : Q (some (.type "function")) ⟨hp, gs, dr, n + 1, os⟩) : wpAny (model P w) A (getAttr? (.ref f) "__class__") Q E ⟨hp, gs, dr, n, os⟩ := by
  unfold getAttr? getAttrBy?
  repeat (any_goals (first | assumption | with_reducible apply fk_by e1 e2 | wp_step))
end
theorem kitx_fun {K : PySem.W.Frag} {f : Addr} : PySem.W.KitX K (.ref f) (.type "function") (PySem.W.KitAt f "function") :=
  PySem.W.kitx_of PySem.W.kitAt_ty (fun {_ _ _ _ _ s} p k => by obtain ⟨hp, gs, dr, n, os⟩ := s; obtain ⟨o, e1, e2⟩ := p; exact fk_attr e1 e2 k)
/-- the type of a value, of a def of the text too -/
def TyY (K : PySem.W.Frag) (H : Hp) (x : V) (t : Value) : Prop := TyX K H x t ∨ ∃ f o, x = .ref f ∧ t = .type "function" ∧ K.lookup f = some o ∧ o.cls = .type "function"
def rIsiY (K : PySem.W.Frag) : List V → Hp → VK → Prop := fun xs H Q => ∃ (x c : V) (t u : Value) (b : Bool), xs = [x, c] ∧ ClsV c u ∧ TyY K H x t ∧ PySem.W.kitOne K t u = some b ∧ Q (.bl b) H
theorem call_isiY {X : Cx} : CallR X (.builtin "isinstance") (rIsiY X.K) := by
  intro pins s σ H xs us Q I r h
  obtain ⟨x, c, t, u, b, rfl, hc, ty, e, q⟩ := h
  rcases ty with ty | ⟨f, o, rfl, rfl, hl, ho⟩
  · exact call_isi pins s σ H _ us Q I r ⟨x, c, t, u, b, rfl, hc, ty, e, q⟩
  · cases r with
    | cons rx rr =>
      cases rr with
      | cons rt rr =>
        cases rr
        cases rx
        have ec := hc.eq rt
        subst ec
        exact PySem.W.kia_one kitx_fun I.kIn ⟨o, I.kIn f o hl, ho⟩ e (fun z => nomatch z) fun tk => ⟨.bl b, H, I.tok _, rfl, q⟩
end Kt

set_option Elab.async false
set_option linter.all false
set_option maxRecDepth 100000
namespace Kt
open PySem PySem.Spec L2 PyProof.Rows
/-! ### methods and classes that may let an error out -/
structure MfX (P : Program) (w : World) (K : PySem.W.Frag) (mg : Str → Option Value) (base : Heap) (k : Nat) (C : Addr) (m : Str) (ps : List Str) (sp : Sp) : Prop where
  fn : ∃ f fd, FnOk P w K mg base (L2.CX P w) k f fd ps sp ∧ Binds K fd ps [] ∧ Meth K C m f
  cls : Cls K C
structure DfX (P : Program) (w : World) (K : PySem.W.Frag) (mg : Str → Option Value) (base : Heap) (k : Nat) (x : Str) (f : Addr) (ps : List Str) (sp : Sp) : Prop where
  fn : ∃ fd, FnOk P w K mg base (L2.CX P w) k f fd ps sp ∧ Binds K fd ps []
  at_ : mg x = some (.ref f)
  kp : PySem.W.keepIn K (.ref f) = true
structure CfX (P : Program) (w : World) (K : PySem.W.Frag) (mg : Str → Option Value) (base : Heap) (k : Nat) (x : Str) (C : Addr) (ps : List Str) (sp : Sp) : Prop where
  fn : ∃ f fd, FnOk P w K mg base (L2.CX P w) k f fd ps sp ∧ Binds K fd ps [] ∧ Mk K C f
  at_ : mg x = some (.ref C)
section
variable {P : Program} {w : World} {K : PySem.W.Frag} {mg : Str → Option Value} {base : Heap}
theorem Mt.okX {C : Addr} {x qual : Str} {st : Stmt} {f : Addr} {N ps : List Str} {k : Nat} {sp : Sp} (T : Mt K C x qual st ps f) (c : Cls K C) (S : FnScope N ps (defScope st)) (len : ∀ vs H Q E, sp vs H Q E → vs.length = ps.length)
    (hbody : ∀ (cdv : Value) (A : Around) (outer : List Env) (s : Shared) (H : Hp) (vs : List V) (Q : VK) (E : XK), Room k (A.deeper (envOfC qual (defScope st) s.heap.objs.size f cdv)) → sp vs H Q E →
      ∃ t, PSs (cxOf (L2.CX P w) P w K mg base N qual (defScope st) f cdv A outer s H E) (defBody st) t ∧ t { nx := fun _ H' => Q .non H', rt := Q } (start N vs) H) : MfX P w K mg base (k + 1) C x ps sp := by
  obtain ⟨fd, F, b⟩ := T.fn
  exact ⟨⟨f, fd, F.okX S len hbody, b, T.at_⟩, c⟩
theorem Dt.okX {x : Str} {st : Stmt} {f : Addr} {N ps : List Str} {k : Nat} {sp : Sp} (T : Dt K mg x st ps f) (S : FnScope N ps (defScope st)) (len : ∀ vs H Q E, sp vs H Q E → vs.length = ps.length)
    (hbody : ∀ (cdv : Value) (A : Around) (outer : List Env) (s : Shared) (H : Hp) (vs : List V) (Q : VK) (E : XK), Room k (A.deeper (envOfC x (defScope st) s.heap.objs.size f cdv)) → sp vs H Q E →
      ∃ t, PSs (cxOf (L2.CX P w) P w K mg base N x (defScope st) f cdv A outer s H E) (defBody st) t ∧ t { nx := fun _ H' => Q .non H', rt := Q } (start N vs) H) : DfX P w K mg base (k + 1) x f ps sp := by
  obtain ⟨fd, F, b⟩ := T.fn
  exact ⟨⟨fd, F.okX S len hbody, b⟩, T.at_, F.kp⟩
theorem MfX.cf {C f : Addr} {x : Str} {ps : List Str} {k : Nat} {sp : Sp} (M : MfX P w K mg base k C "__init__" ps sp) (T : Ct K mg x C f) : CfX P w K mg base k x C ps sp := by
  obtain ⟨g, fd, F, b, m⟩ := M.fn
  have e : g = f := by
    have h1 := m.at_
    rw [T.mkr.init] at h1
    cases h1
    rfl
  subst e
  exact ⟨⟨g, fd, F, b, T.mkr⟩, T.at_⟩
end
section
variable {X : Cx} {k : Nat} {f C : Addr} {fd : FuncData} {ps : List Str} {sp : Sp} {E : L2.St → XK} {x m : Str} {p pos apos : Pos} {e o : Expr} {es : List Expr} {to : TE} {t : TA}
/-- C(e, ..) in a try -/
def tMakeS (C : Addr) (sp : Sp) (E : L2.St → XK) (t : TA) : TE := fun σ H Q => t σ H fun vs H1 => ∀ x dx, H1 x = none → H1 dx = none → dx ≠ x → sp (.ref x :: vs) (upd (upd H1 dx (.own x)) x (.ins C dx [])) (fun v H2 => v = .non ∧ Q (.ref x) H2) (E σ)
theorem pe_cfS (M : CfX X.prog X.w X.K X.mg X.base k x C ps sp) (hr : Room (k + 1) X.A) (hx : ∀ σ, PassesAt (L2.CX X.prog X.w) X σ (E σ)) (ha : PA X (e :: es) t) (hg : Gl X x := by rfl) (hd : (x == ("__debug__" : Str)) = false := by decide)
    (he : starEach (e :: es) X.env = (false, eval e X.env) :: starEach es X.env := by rfl) (hpl : (backTo pos (starEach es X.env)).any (·.1) = false := by rfl) : PE X (.Call (.Name x p) (e :: es) [] pos) (tMakeS C sp E t) := by
  obtain ⟨f, fd, F, b, M'⟩ := M.fn
  refine ⟨fun pins s σ H Q I h => ?_⟩
  refine wpAny_Call_Name_kw (ld_glob I hg M.at_ ?_ hd)
  refine PySem.W.callWith_K (h₀ := X.base) I.ok.mod.kin M'.kp (thn (ha.run pos pins s σ H _ I h) fun us s1 ⟨vs, H1, I1, r, q⟩ => ⟨I1.kIn, ?_⟩) he hpl
  have hq := q (s1.heap.objs.size + 1) s1.heap.objs.size (I1.hok.fresh (Nat.le_succ _)) (I1.hok.fresh (Nat.le_refl _)) (Nat.ne_of_lt (Nat.lt_succ_self _))
  have I2 := Inv.made (C := C) I1
  have r2 : Vals (V.ref (s1.heap.objs.size + 1) :: vs) (Value.ref (s1.heap.objs.size + 1) :: us) := .cons rfl r
  have hl : (Value.ref (s1.heap.objs.size + 1) :: us).length = ps.length := r2.length.symm.trans (F.len _ _ _ _ hq)
  have bd := b _ (Value.ref (s1.heap.objs.size + 1) :: us) I2.kIn (by rw [List.append_nil]; exact hl)
  rw [List.append_nil] at bd
  refine wpAny_call (make_map (f := f) I1.kIn M'.makes M'.init (beq_iff_eq.mp M'.fn) (codeAny_mono (F.run _ X.stack _ _ ⟨Value.ref (s1.heap.objs.size + 1) :: us, []⟩ (Value.ref (s1.heap.objs.size + 1) :: us) _ _ (E σ) (hr.make C us []) (I2.env0.make C us []) bd r2 hq) fun z s' hz => ?_))
  cases z with
  | error z => exact hx σ pins _ _ z s' I2 hz
  | ok fl => cases fl with
    | ret u =>
      obtain ⟨v, H', I3, rv, ev, q3⟩ := I2.after hz
      subst ev
      exact ⟨rv, ⟨V.ref (s1.heap.objs.size + 1), H', I3, rfl, q3⟩⟩
    | _ => exact False.elim hz
theorem pe_dfS (D : DfX X.prog X.w X.K X.mg X.base k x f ps sp) (hr : Room k X.A) (hx : ∀ σ, PassesAt (L2.CX X.prog X.w) X σ (E σ)) (ha : PA X (e :: es) t) (hg : Gl X x := by rfl) (hd : (x == ("__debug__" : Str)) = false := by decide)
    (he : starEach (e :: es) X.env = (false, eval e X.env) :: starEach es X.env := by rfl) (hpl : (backTo pos (starEach es X.env)).any (·.1) = false := by rfl) : PE X (.Call (.Name x p) (e :: es) [] pos) (tCallS sp E t) := by
  obtain ⟨fd, F, b⟩ := D.fn
  exact pe_callS F hr hg D.at_ D.kp b hx ha hd he hpl
/-- o.m(e, ..) in a try -/
def tMethE (C : Addr) (m : Str) (sp : Sp) (E : L2.St → XK) (to : TE) (t : TA) : TE := fun σ H Q => to σ H fun x H1 => ∃ a dx fs, x = .ref a ∧ H1 a = some (.ins C dx fs) ∧ fs.lookup m = none ∧ t σ H1 fun vs H2 => sp (x :: vs) H2 Q (E σ)
theorem r_makeS {σ : L2.St} {H : Hp} {Q : VK} (h : t σ H fun vs H1 => ∀ x dx, H1 x = none → H1 dx = none → dx ≠ x → sp (.ref x :: vs) (upd (upd H1 dx (.own x)) x (.ins C dx [])) (fun v H2 => v = .non ∧ Q (.ref x) H2) (E σ)) : tMakeS C sp E t σ H Q := h
end
/-! ### isinstance of the error that a suite holds, which has fields -/
structure ErC (K : PySem.W.Frag) (D : Addr) : Prop where
  cl : (PySem.W.clsIn K D).isSome = true
  ga : PySem.W.findIn K (.ref D) "__getattribute__" = some (some (.builtin "BaseException.__getattribute__"))
  gt : PySem.W.findIn K (.ref D) "__getattr__" = some none
  sb : PySem.W.subIn K (.ref D) (.type "BaseException") = some true
  ha : PySem.W.findIn K (.ref D) "__class__" = some (some (.builtin "object.__class__"))
  hn : PySem.W.specialIn K (.builtin "object.__class__") "__get__" = some (some (.builtin "getset_descriptor.__get__"))
  ht : PySem.W.takesIn K (.builtin "object.__class__") = some true
  hm : PySem.W.mroIn K D (.type "object") = some true
def rIsED (K : PySem.W.Frag) (D a : Addr) (cls : Value) (d : Option Addr) : List V → Hp → VK → Prop := fun xs H Q => ∃ (c : V) (cv : Value) (b : Bool) (dd : Addr) (fs : List (Str × V)), xs = [.ref a, c] ∧ ClsV c cv ∧ cls = .ref D ∧ d = some dd ∧ H dd = some (.xd fs) ∧ PySem.W.kitOne K (.ref D) cv = some b ∧ Q (.bl b) H
theorem call_isED {X : Cx} {a D : Addr} {oe : Obj} {cls : Value} {d : Option Addr} {pn : List (Addr × Obj)} (T : ErC X.K D) (hz : Zc cls d oe) (hf : ∃ vs, oe.data = .fields vs) : CallR (X.suite a ((a, oe) :: pn)) (.builtin "isinstance") (rIsED X.K D a cls d) := by
  intro pins s σ H xs us Q I r h
  obtain ⟨c, cv, b, dd, fs, rfl, hc, ec, ed, ea, e, q⟩ := h
  subst ec
  subst ed
  cases r with
  | cons rx rr =>
    cases rr with
    | cons rt rr =>
      cases rr
      cases rx
      have e2 := hc.eq rt
      subst e2
      obtain ⟨hget, _⟩ := I.pin (a, oe) (List.mem_append.mpr (.inl List.mem_cons_self))
      obtain ⟨vs, hv⟩ := hf
      have hx : ObjOk X.prog X.w H s.heap dd (.xd fs) := I.hok dd _ ea
      obtain ⟨mA, hns, hr⟩ := hx
      obtain ⟨od, ho, hl⟩ := lookIn_ns hns
      have J : PySem.W.InstAt s.heap a oe D (some od) := ⟨hget, hz.1, by unfold PySem.W.notCls; rw [hv] <;> rfl, by rw [hz.2]; exact ho⟩
      exact PySem.W.kia_one (PySem.W.kitx_exc T.cl T.ga T.gt T.sb T.ha T.hn T.ht T.hm) I.kIn J e (fun z => nomatch z) fun tk => ⟨.bl b, H, I.tok _, rfl, q⟩
end Kt

set_option Elab.async false
set_option linter.all false
set_option maxRecDepth 100000
namespace Kt
open PySem PySem.Spec PySem.W L2 PyProof.Rows
section
variable {X : Cx} {k : Nat} {C : Addr} {ps : List Str} {sp : Sp} {fe e : Expr} {es : List Expr} {tf : TE} {t : TA} {pos : Pos}
/-- f(e, ..), f any expression that gives an instance of C -/
def tCallE (C : Addr) (sp : Sp) (tf : TE) (t : TA) : TE := fun σ H Q => tf σ H fun x H0 => ∃ a, x = .ref a ∧ t σ H0 fun vs H1 => ∃ dx fs, H1 a = some (.ins C dx fs) ∧ sp (.ref a :: vs) H1 Q E0
theorem pe_mfE (M : Mf X.prog X.w X.K X.mg X.base k C "__call__" ps sp) (hfn : ∀ f, findIn X.K (.ref C) "__call__" = some (some (.ref f)) → fnIn X.K f = true) (hr : Room k X.A) (hf : PE X fe tf) (ha : PA X (e :: es) t)
    (hc : eval (.Call fe (e :: es) [] pos) X.env = (do callWith pos (← eval fe X.env) [] (backTo pos (starEach (e :: es) X.env)) (backToKw pos (keywordEach [] X.env))) := by rfl)
    (he : starEach (e :: es) X.env = (false, eval e X.env) :: starEach es X.env := by rfl) (hpl : (backTo pos (starEach es X.env)).any (·.1) = false := by rfl) : PE X (.Call fe (e :: es) [] pos) (tCallE C sp tf t) := by
  obtain ⟨f, fd, F, b, hm⟩ := M.fn
  refine ⟨fun pins s σ H Q I h => ?_⟩
  refine PyProof.Rows.Call_ (thn (hf.run pins s σ H _ I h) fun u s1 ⟨v, H1, I1, r1, a, ev, q1⟩ => ?_) hc
  subst ev
  cases r1
  have h2 : wpAny (model X.prog X.w) X.A (spliced (backTo pos (starEach (e :: es) X.env))) (fun vs s2 => (∃ dx, s2.heap.get? a = some (PySem.W.instObj C dx)) ∧ wpAny (model X.prog X.w) X.A (call (.ref a) ([] ++ vs)) (EP X pins σ Q) X.xe s2) X.xe s1 :=
    thn (ha.run pos pins s1 σ _ _ I1 q1) fun us s2 ⟨vs, H2, I2, r, dx, fs, hH, q⟩ => by
      obtain ⟨mA, O, _⟩ := ins_get I2.hok hH
      refine ⟨⟨dx, O.obj⟩, ?_⟩
      obtain ⟨od, J, _⟩ := O.look
      obtain ⟨of_, fd2, hl, hd2⟩ := fn_found I2.kIn (hfn f hm.at_)
      have rr : Vals (V.ref a :: vs) (Value.ref a :: us) := .cons rfl r
      have ln : (Value.ref a :: us).length = ps.length := by rw [← rr.length]; exact F.len _ _ _ _ q
      have bd := b s2 (.ref a :: us) I2.kIn (by rw [List.append_nil]; exact ln)
      rw [List.append_nil] at bd
      refine wpAny_call (callee_inst I2.kIn J hm.at_ hm.fn hl hd2 (codeAny_mono (F.run X.A X.stack s2 H2 ⟨.ref a :: us, []⟩ (.ref a :: us) (.ref a :: vs) Q E0 hr I2.env0 bd rr q) fun r s' hq => ?_))
      cases r with
      | error z => exact pass0 pins σ H2 s2 z s' I2 hq
      | ok fl => cases fl with
        | ret u => exact I2.after hq
        | _ => exact False.elim hq
  rw [he] at h2 ⊢
  exact callWith_inst (P := fun h => ∃ dx, h.get? a = some (PySem.W.instObj C dx)) (by show ((false || (backTo pos (starEach es X.env)).any (·.1)) || false) = false; rw [hpl]; rfl) (fun h ⟨dx, q⟩ => keeper_inst q) (Calls.evalArgs_plain h2)
end
section
variable {K : Frag} {σ : L2.St} {H : Hp} {Q : VK} {tf : TE} {t : TA} {C a dx : Addr} {sp : Sp} {fs : List (Str × V)} {xs : List V} {Ps Qs : List SP} {n : Int}
theorem r_callE (h : tf σ H fun x H0 => ∃ a, x = .ref a ∧ t σ H0 fun vs H1 => ∃ dx fs, H1 a = some (.ins C dx fs) ∧ sp (.ref a :: vs) H1 Q E0) : tCallE C sp tf t σ H Q := h
/-- repr of a whole number, a list, a tuple -/
def cReprI (K : Frag) : List V → Hp → VK → Prop := fun xs H Q => (∃ i : Int, xs = [.int i] ∧ i.natAbs.log2 < 1920 ∧ Q (.str (toString i)) H) ∨ cRepr K xs H Q
theorem call_reprI {X : Cx} (hg : X.A.guards = some []) (hu : X.A.units + 64 < cLine) : CallR X (.builtin "repr") (cReprI X.K) := by
  intro pins s σ H xs us Q I r h
  rcases h with ⟨i, rfl, hz, q⟩ | h
  · obtain ⟨u, rfl, t, rfl⟩ := vals1 r
    exact PySem.P.repr_of_int hz ⟨.str _, H, I.tok _, ⟨_, rfl⟩, q⟩
  · exact call_reprA hg hu pins s σ H xs us Q I r h
theorem r_rep2 (S : Sep Ps H) (s : H a = some (.lst xs)) (h1 : 0 ≤ n) (h2 : n ≤ 10000) (hz : xs.length ≤ 10) (h : ∀ p H', Sep (pt p (.lst (List.replicate n.toNat xs).flatten) :: Ps) H' → Q (.ref p) H') : rMulA (.ref a) (.int n) H Q :=
  .inr ⟨a, n, xs, rfl, rfl, s, by omega, by omega, Nat.le_trans (Nat.mul_le_mul hz (show n.toNat ≤ 10000 by omega)) (by decide), fun p np => h p _ (S.new _ np)⟩
theorem ty_sq (s : SqL K H a xs) : TyX K H (.ref a) (.type "list") := by
  rcases s with (h | ⟨o, h⟩) | ⟨o, its, n, h, hc, _⟩
  · exact .base (.lst h)
  · exact .base (.frz h)
  · exact .kList h hc
theorem r_isiY {x : V} {T B : String} {k : Bool} (ty : TyX K H x (.type T)) (e : kitB T B = some k) (h : Q (.bl k) H) : rIsiY K [x, .ty B] H Q := ⟨x, .ty B, _, _, k, rfl, .ty B, .inl ty, kit_ty e, h⟩
theorem r_dispP {Ps : List SP} {trs : List (TE × TE)} (S : Sep Ps H) (h : ∀ p H', Sep (pt p (.dK []) :: Ps) H' → tPairs trs σ H' fun ps H2 => H2 p = some (.dK []) ∧ ∃ kvs : List (Key × V), ps = kvs.map (fun kv => (kV kv.1, kv.2)) ∧ kvs.length ≤ 15 ∧ Q (.ref p) (upd H2 p (.dK (mergeK [] kvs)))) : tDisp trs σ H Q := fun p np => h p _ (S.new _ np)
theorem log_ok {i : Int} (h : i.natAbs < 10 ^ 60) : i.natAbs.log2 < 1920 := by
  by_cases e : i.natAbs = 0
  · rw [e]; decide
  · exact Nat.lt_trans ((Nat.log2_lt (n := i.natAbs) (k := 200) e).mpr (Nat.lt_trans h (by decide))) (by decide)
end
/-! ### facts of error classes -/
section
variable {K : Frag} {A B : Addr}
theorem er_cls {r : Option Bool} (i : isClsIn K B = true) (t : typeIn K (.ref B) = some (.type "type")) (m : mroIn K A (.ref B) = r) : kitCls K (.ref A) (.ref B) = r := by
  unfold kitCls
  show (if _ then _ else _) = _
  rw [t, show (clsIn K B).isSome = true from i]
  simpa using (show subIn K (.ref A) (.ref B) = r from m)
theorem er_exm (b : subIn K (.ref B) (.type "BaseException") = some true) (i : isClsIn K B = true) (t : typeIn K (.ref B) = some (.type "type")) (m : mroIn K A (.ref B) = some true) : exmOne K (.ref A) (.ref B) = some true := by
  unfold exmOne
  rw [b]
  exact (if_pos rfl).trans (er_cls i t m)
theorem er_self : kitOne K (.ref A) (.ref A) = some true := by
  unfold kitOne
  simp
theorem er_ne (m1 : mroIn K A (.ref A) = some true) (m2 : mroIn K A (.ref B) = some false) (i : isClsIn K B = true) (t : typeIn K (.ref B) = some (.type "type")) : kitOne K (.ref A) (.ref B) = some false := by
  have hne : A ≠ B := fun e => by
    subst e
    rw [m1] at m2
    cases m2
  have e : ((Value.ref A) == (Value.ref B)) = false := beq_eq_false_iff_ne.mpr fun q => hne (Value.ref.inj q)
  unfold kitOne
  rw [e, if_neg Bool.false_ne_true]
  exact er_cls i t m2
end
end Kt

set_option Elab.async false
set_option linter.all false
set_option maxRecDepth 100000
set_option maxHeartbeats 4000000
namespace PySem
namespace ErWrong
open PySem.W PySem.Calls PyProof.Rows PySem.HandSPX
/-! ### the error Wrong with its field place: the text of its __init__ -/
def iA (p1 p2 : Pos) : Arguments := { posonlyargs := [], args := [{ arg := "self", annotation := none, pos := p1 }, { arg := "place", annotation := none, pos := p2 }], vararg := none, kwonlyargs := [], kw_defaults := [], kwarg := none, defaults := [] }
def iB (q1 q2 q3 q4 : Pos) : List Stmt := [.Assign [.Attribute (.Name "self" q1) "place" q2] (.Name "place" q3) q4]
def iS : Scope := { kind := .function, names := [(PySem.Str.ofString "self", .local), (PySem.Str.ofString "place", .local)], isGenerator := false, isCoroutine := false, more := [] }
structure Row (K : Frag) (mg : Str → Option Value) (C fI : Addr) : Prop where
  gC : mg "Wrong" = some (.ref C)
  cls : ∃ nm q N bs bm sn sub ab col dd k0 k1 k2 k3 k5, K.lookup C = some (excClassObj nm q C N bs bm true sn sub ab col dd k0 k1 k2 k3 k5 "ValueError.__new__") ∧ refsVE bm = true
  sa : findIn K (.ref C) "__setattr__" = some (some (.builtin "object.__setattr__"))
  ga : findIn K (.ref C) "__getattribute__" = some (some (.builtin "BaseException.__getattribute__"))
  gg : findIn K (.ref C) "__getattr__" = some none
  noN : findIn K (.ref C) "place" = some none
  iC : findIn K (.ref C) "__init__" = some (some (.ref fI))
  tC : typeIn K (.ref fI) = some (.type "function")
  kC : keepIn K (.ref C) = true
  exC : subIn K (.ref C) (.type "BaseException") = some true
  tyC : typeIn K (.ref C) = some (.type "type")
  hdC : hasDictIn K C = true
  fn : ∃ (oc : Value) (od : Option Addr) (doc pm : Value) (an : Option Addr) (cdv ct : Value) (osl : Array (Option Value)) (p1 p2 q1 q2 q3 q4 : Pos),
    K.lookup fI = some ⟨oc, od, .func (fnOf "__init__" "Wrong.__init__" (iA p1 p2) (iB q1 q2 q3 q4) iS .none .none doc pm an cdv ct), osl⟩ ∧ codeIn K cdv "Wrong.__init__" = true
theorem one_size (v : Value) : [v].length ≤ sizeLine := by rw [sizeLine_eq]; exact (by decide : 1 ≤ 16777216)
theorem ldC {M : Model} {s : Shared} {name : Str} {scope : Scope} {L a : Addr} {cd : Value} {m : Str → Option Value} {x : Str} {pos : Pos} {v : Value} {Q : Value → Shared → Prop} {A : Around} {E : Value → Shared → Prop} (hn : s.heap.Ns L m) (hv : m x = some v) (h : Q v s)
    (hk : scope.kind = .function := by rfl) (hl : (envOfC name scope L a cd).kindOf x = some .local := by rfl) (hd : (x == ("__debug__" : Str)) = false := by decide) :
    wpAny M A (eval (.Name x pos) (envOfC name scope L a cd)) Q E s := wpAny_Name (wpAny_loadName_local hk hl hn hv h) hd
/-- what __init__ leaves of a fresh error at x -/
structure IEnd (h h' : Heap) (x C dx t1 : Addr) (v : Value) : Prop where
  keep : ∀ b o, b ≠ x → h.get? b = some o → h'.get? b = some o
  obj : h'.get? x = some { cls := .ref C, dict := some dx, data := .fields #[.ref t1, .none, .none, .none, .bool false, .none] }
  dbig : h.objs.size ≤ dx
  dne : dx ≠ x
  ns : h'.Ns1 dx (fun y => if y = "place" then some v else none)
/-- a made one -/
structure Made (h h' : Heap) (e C d : Addr) (v : Value) : Prop where
  keep : ∀ b o, h.get? b = some o → h'.get? b = some o
  new : h.objs.size ≤ e
  obj : ∃ oe vs, h'.get? e = some oe ∧ oe.cls = .ref C ∧ oe.dict = some d ∧ oe.data = .fields vs ∧ vs[1]? = some .none
  dbig : h.objs.size ≤ d
  dne : d ≠ e
  ns : h'.Ns1 d (fun y => if y = "place" then some v else none)
section
variable {prog : Program} {w : World} {A : Around} {E : Value → Shared → Prop} {R : Result → Shared → Prop} {s : Shared} {K : Frag} {mg : Str → Option Value} {C fI : Addr}
theorem init_ok (T : Row K mg C fI) {x t0 : Addr} {v : Value} (X : K.In s.heap) (hlim : s.heap.NoLimit) (hx : s.heap.get? x = some (excO C t0)) (hnx : K.lookup x = none) (hroom : A.depth < recursionLimit)
    (hq : ∀ h' tk dx, IEnd s.heap h' x C dx t0 v → R (.ok (.ret .none)) { s with heap := h', toks := tk }) :
    codeAny (model prog w) A (.call (.ref fI) ⟨[.ref x, v], []⟩) R s := by
  obtain ⟨oc, od, doc, pm, an, cdv, ct, osl, p1, p2, q1, q2, q3, q4, ho, hcd⟩ := T.fn
  obtain ⟨nm, q, N, bs, bm, sn, sub, ab, col, dd, k0, k1, k2, k3, k5, hC, hbm⟩ := T.cls
  have hcl : clsIn K C = some { name := nm, bases := bs, mro := .ref C :: bm, ns := N, qualname := q, hasDict := true, slotNames := sn, subclasses := sub, abstract := ab, collection := col, hasDel := false } := by unfold clsIn; rw [hC] <;> rfl
  refine Att.call_fn (binds := [("self", .ref x), ("place", v)]) X hlim ho hcd hroom (BindsTo.of_eq (by first | rfl | with_unfolding_all rfl)) (by first | rfl | decide | with_unfolding_all rfl) (fun s₁ IC => ?_) rfl rfl rfl
  obtain ⟨h₁, tk₁, rfl⟩ := IC.toInCall.same
  have k : ∀ b o, s.heap.get? b = some o → h₁.get? b = some o := IC.toInCall.keep
  have hn := IC.toInCall.ns
  have hxL : s.heap.objs.size ≠ x := Nat.ne_of_gt (Heap.lt_size hx)
  have X₁ : K.In h₁ := X.keeps k
  have hx₁ := k _ _ hx
  show wpAny _ _ (execs _ _) _ _ _
  refine wpAny_execs_cons (plainObj_wpAny_Assign_Attribute ?_)
  refine ldC (v := v) hn (by first | rfl | with_unfolding_all rfl | kernel_rfl) (ldC (v := .ref x) hn (by first | rfl | with_unfolding_all rfl | kernel_rfl) ?_)
  refine set_plain X₁ (ox := excO C t0) (od := none) ⟨hx₁, rfl, rfl, trivial⟩ T.sa ?_
  refine exc_osa X₁ hx₁ hcl (show refsVE (.ref C :: bm) = true from hbm) rfl T.noN (fun h₃ tk₃ dx k₃ dn dne hx₃ hn₃ => ?_)
  show wpAny _ _ (execs _ _) _ _ _
  have z : s.heap.objs.size < h₁.objs.size := hn.lt
  exact wpAny_execs_nil (hq h₃ tk₃ dx ⟨fun b o hb e => k₃ b o hb (k b o e), hx₃, Nat.le_of_lt (Nat.lt_of_lt_of_le z dn), dne, hn₃⟩)
theorem made (T : Row K mg C fI) {v : Value} (X : K.In s.heap) (hlim : s.heap.NoLimit) (hroom : A.depth + 1 < recursionLimit)
    (hq : ∀ h' tk e d, Made s.heap h' e C d v → R (.ok (.ret (.ref e))) { s with heap := h', toks := tk }) :
    codeAny (model prog w) A (.call (.ref C) ⟨[v], []⟩) R s := by
  obtain ⟨nm, q, N, bs, bm, sn, sub, ab, col, dd, k0, k1, k2, k3, k5, hC, hbm⟩ := T.cls
  obtain ⟨hp, g, dr, tk, os⟩ := s
  have k : ∀ b o, hp.get? b = some o → ((hp.push (kdv_tup [v])).push (excO C hp.objs.size)).get? b = some o := fun b o e => Heap.get?_push_of_some _ (Heap.get?_push_of_some _ e)
  have hget : ((hp.push (kdv_tup [v])).push (excO C hp.objs.size)).get? (hp.objs.size + 1) = some (excO C hp.objs.size) := by heap_get
  have hnx : K.lookup (hp.objs.size + 1) = none := by
    cases e : K.lookup (hp.objs.size + 1) with
    | none => rfl
    | some o =>
      have z : hp.get? (hp.objs.size + 1) = some o := X _ _ e
      exact absurd (Nat.lt_of_succ_lt (Heap.lt_size z)) (Nat.lt_irrefl _)
  refine call_own F.excBase_ValueError (fun X => refsVE_contains X bm hbm) (X _ _ hC) (looks_findIn X T.iC) (fun self => bind_fn X self T.tC) (one_size v) ?_
  refine init_ok (s := ⟨(hp.push (kdv_tup [v])).push (excO C hp.objs.size), g, dr, tk, os⟩) T (X.keeps k) (hlim.keeps k) hget hnx (show A.depth + 1 < recursionLimit from hroom) fun h' tk' dx ⟨k', hx, dn, dne, hns⟩ => ?_
  have old : ∀ b o, hp.get? b = some o → h'.get? b = some o := fun b o e => k' b o (Nat.ne_of_lt (Nat.lt_succ_of_lt (Heap.lt_size e))) (k b o e)
  have z : hp.objs.size + 1 + 1 ≤ dx := by
    first
      | (simpa only [Heap.size_push] using dn)
      | exact dn
      | (have q := dn; rw [Heap.size_push, Heap.size_push] at q; exact q)
  exact ⟨rfl, hq h' tk' (hp.objs.size + 1) dx ⟨old, Nat.le_succ _, ⟨_, _, hx, rfl, rfl, rfl, rfl⟩, Nat.le_trans (Nat.le_trans (Nat.le_succ _) (Nat.le_succ _)) z, dne, hns⟩⟩
end
end ErWrong
end PySem
namespace Kt
open PySem PySem.Spec PyProof.Rows L2
theorem relO_Wrong {v : V} {v' : Value} (r : RelV v v') (f : Str) : RelO (List.lookup f [(("place" : Str), v)]) (if f = "place" then some v' else none) := by
  by_cases hw : f = "place"
  · subst hw
    rw [if_pos rfl, show List.lookup ("place" : Str) [(("place" : Str), v)] = some v from by simp [List.lookup]]
    exact r
  · have qw : (f == ("place" : Str)) = false := by simpa using hw
    rw [if_neg hw, show List.lookup f [(("place" : Str), v)] = none from by simp [List.lookup, qw]]
    trivial
section
variable {X : Cx} {C fI : Addr}
def tMkWrong (C : Addr) (ta : TA) : L2.St → Hp → XK → Prop := fun σ H Q => ta σ H fun vs H1 => ∃ v, vs = [v] ∧ ∀ d, H1 d = none → Q (.ref C) (some d) (upd H1 d (.xd [(("place" : Str), v)]))
theorem pmk_Wrong {a : Expr} {ta : TA} {p pos : Pos} {k : Nat} (T : PySem.ErWrong.Row X.K X.mg C fI) (hr : Room k X.A) (ha : PA X [a] ta) (hg : Gl X "Wrong" := by rfl)
    (he : starEach (a :: []) X.env = (false, eval a X.env) :: starEach [] X.env := by rfl) (hpl : (backTo pos (starEach [] X.env)).any (·.1) = false := by rfl) :
    PMk X (.Call (.Name "Wrong" p) [a] [] pos) (tMkWrong C ta) := by
  intro pins s σ H Q I h
  refine wpAny_Call_Name_kw (ld_glob I hg T.gC ?_)
  refine PySem.W.callWith_K (h₀ := X.base) I.ok.mod.kin T.kC (thn (ha.run pos pins s σ H _ I h) fun us s1 hh => ?_) he hpl
  obtain ⟨vs, H1, I1, r1, v, ev, q1⟩ := hh
  subst ev
  refine ⟨I1.kIn, ?_⟩
  cases r1 with
  | cons rv rn =>
    rename_i v' us'
    cases rn
    show wpAny _ _ (call (.ref C) [v']) _ _ _
    have hlim := I1.nolimit
    obtain ⟨hp, g, dr, tk, os⟩ := s1
    refine wpAny_call (PySem.ErWrong.made T I1.kIn hlim (by have := hr.dp; omega) fun h' tk' e d M => ?_)
    show MkP X pins σ Q (.ref e) ⟨h', g, dr, tk', os⟩
    obtain ⟨oe, fv, hoe, hc, hd, hdat, h1⟩ := M.obj
    have hns := M.ns
    obtain ⟨G', g1, g2⟩ := restrict h' fun b => decide (b ≠ e)
    have gk : ∀ b, b ≠ e → G'.get? b = h'.get? b := fun b hb => g1 b (decide_eq_true hb)
    have ge : G'.get? e = none := g2 e (by simp)
    have old : ∀ b o, hp.get? b = some o → G'.get? b = some o := fun b o q => (gk b (Nat.ne_of_lt (Nat.lt_of_lt_of_le (Heap.lt_size q) M.new))).trans (M.keep b o q)
    have ob : ObjOk X.prog X.w (upd H1 d (.xd [(("place" : Str), v)])) G' d (.xd [(("place" : Str), v)]) := ⟨_, hns.at (fun o q => (gk d M.dne).trans q), fun f => relO_Wrong rv f⟩
    have J : Inv X pins σ (upd H1 d (.xd [(("place" : Str), v)])) ⟨G', g, dr, tk', os⟩ := I1.laid (t' := tk') old M.dbig ob
    refine ⟨e, oe, fv, ⟨G', g, dr, tk', os⟩, _, .ref C, some d, rfl, J, fun b o q => ?_, ge, hoe, ⟨hc, hd⟩, hdat, h1, ?_, rfl, I1.bare, raises_own T.exC T.tyC, q1 d (I1.hok.fresh M.dbig)⟩
    · by_cases hb : b = e
      · have q' : G'.get? b = some o := q
        rw [hb, ge] at q'; cases q'
      · exact (gk b hb).symm.trans q
    · rw [upd_ne (Ne.symm M.dne)]
      exact I1.hok.fresh M.new
/-- raise Wrong(e) -/
def tRaiseWrong (C : Addr) (W : WX) (ta : TA) : TS := fun _ σ H => tMkWrong C ta σ H fun cls d H' => W cls d σ H'
theorem ps_raiseWrong {a : Expr} {ta : TA} {W : WX} {p pos pos2 : Pos} {k : Nat} (hc : X.calm = true) (T : PySem.ErWrong.Row X.K X.mg C fI) (hr : Room k X.A) (tk : Takes X W) (ha : PA X [a] ta) (hg : Gl X "Wrong" := by rfl)
    (he : starEach (a :: []) X.env = (false, eval a X.env) :: starEach [] X.env := by rfl) (hpl : (backTo pos (starEach [] X.env)).any (·.1) = false := by rfl) :
    PS X (.Raise (some (.Call (.Name "Wrong" p) [a] [] pos)) none pos2) (tRaiseWrong C W ta) := ps_raise hc tk (pmk_Wrong T hr ha hg he hpl)
/-- e.place, e the error that the suite holds (at a; its class cls, its dict d) -/
def tByWrong (C : Addr) (a : Addr) (cls : Value) (d : Option Addr) (te : TE) : TE := fun σ H Q => te σ H fun x H1 => x = .ref a ∧ cls = .ref C ∧ ∃ (dd : Addr) (v : V), d = some dd ∧ H1 dd = some (.xd [(("place" : Str), v)]) ∧ Q v H1
theorem pe_byWrong {a : Addr} {oe : Obj} {cls : Value} {d : Option Addr} {pn : List (Addr × Obj)} {e : Expr} {te : TE} {pos : Pos} (T : PySem.ErWrong.Row X.K X.mg C fI) (hz : Zc cls d oe) (hf : ∃ vs, oe.data = .fields vs) (he : PE (X.suite a ((a, oe) :: pn)) e te)
    (hb : attributeBase e "place" X.env (eval e X.env) = eval e X.env := by rfl) :
    PE (X.suite a ((a, oe) :: pn)) (.Attribute e "place" pos) (tByWrong C a cls d te) := by
  refine ⟨fun pins s σ H Q I h => ?_⟩
  refine attr_of hb (thn (he.run pins s σ H _ I h) fun u s1 hh => ?_)
  obtain ⟨x, H1, I1, rx, ex, ec, dd, v, ed, ea, q⟩ := hh
  subst ex
  obtain rfl : u = Value.ref a := rx
  subst ec
  subst ed
  obtain ⟨ha, _⟩ := I1.pin (a, oe) (List.mem_append_left _ List.mem_cons_self)
  obtain ⟨vs, hd⟩ := hf
  have hx : ObjOk X.prog X.w H1 s1.heap dd (.xd [(("place" : Str), v)]) := I1.hok dd _ ea
  obtain ⟨mA, hns, hr⟩ := hx
  obtain ⟨od, ho, hl⟩ := lookIn_ns hns
  have l : List.lookup ("place" : Str) [(("place" : Str), v)] = some v := by simp [List.lookup]
  obtain ⟨u, hu, ru⟩ := RelO.some_of (v := v) (o := mA "place") (by rw [← l]; exact hr "place")
  have J : PySem.W.InstAt s1.heap a oe C (some od) := ⟨ha, hz.1, by unfold PySem.W.notCls; rw [hd] <;> rfl, by rw [hz.2]; exact ho⟩
  exact PySem.HandSPX.exc_get I1.kIn J T.ga T.gg T.exC (PySem.W.findObj_own T.hdC T.noN rfl (by rw [hl, hu])) (handed_of ru) ⟨v, H1, I1.tok _, ru, q⟩
end
end Kt

namespace Pf
open PySem L2 Kt
set_option hygiene false
local macro_rules | `(tactic| walk_at "mem") => `(tactic| (with_reducible (repeat (first | exact Pick.hd | apply Pick.tl)); done))
local macro_rules | `(tactic| walk_at "rep") => `(tactic| (with_reducible (repeat (first | exact Repl.hd | apply Repl.tl)); done))
local macro_rules | `(tactic| walk_at "sel") => `(tactic| ((repeat (with_reducible apply Sel.cons; (focus walk_at "mem"))); (with_reducible apply Sel.nil); (with_reducible (repeat (first | exact Dr.all | apply Dr.skip)); done)))
local macro_rules | `(tactic| walk_at "at") => `(tactic| (refine' Sep.at_ (by assumption) ?kkpk; (case kkpk => walk_at "mem")))
local macro_rules | `(tactic| walk_at "sq") => `(tactic| first | assumption | (refine' Sep.sq (by assumption) ?kkpk; (case kkpk => walk_at "mem")))
local macro_rules | `(tactic| walk_at "st") => `(tactic| first | assumption | (refine' Sep.st (by assumption) ?kkpk; (case kkpk => walk_at "mem")))
local macro_rules | `(tactic| walk_at "lk") => `(tactic| (repeat (first | (with_reducible exact lk_eq) | exact rfl | refine (lk_ne (by decide +kernel)).trans ?_)))
local macro_rules | `(tactic| walk_at "pf") => `(tactic| (repeat (first | (with_reducible exact pf_nil) | (with_reducible exact pf_eq) | (apply pf_ne; (focus decide +kernel)))))
local macro_rules | `(tactic| walk_at "ty") => `(tactic| first | exact ty_int | (refine' ty_lst ?kkh; (case kkh => walk_at "at")))
local macro_rules | `(tactic| walk_at "k1") => `(tactic| with_reducible first
  | refine q_seq ?_ | refine q_set ?_ | refine q_asg ?_ | refine q_ret ?_ | refine q_drop ?_ | refine q_next ?_ | refine q_c ?_ | refine q_op ?_ | refine q_un ?_ | refine q_nil ?_ | refine q_cons ?_ | refine q_cb ?_
  | refine q_call ?_ | refine q_ifs ?_ | refine q_if ?_ | refine q_test ?_ | refine q_tb ?_ | refine q_bl ?_ | refine q_notT ?_ | refine q_andT ?_ | refine q_orT ?_ | refine q_andV ?_ | refine q_orV ?_ | refine q_notV ?_
  | refine q_addA ?_ | refine q_subI ?_ | refine q_ltI ?_ | refine q_leI ?_ | refine q_gtI ?_ | refine q_geI ?_ | refine q_eqI ?_ | refine q_neI ?_ | refine q_abs ?_ | refine q_int ?_ | refine q_intB ?_ | refine q_max ?_ | refine q_min ?_
  | refine q_ipAdd ?_ | refine q_ipSub ?_ | refine q_gsub ?_ | refine q_augs ?_ | refine q_lst ?_ | refine q_tup ?_ | refine q_blI ?_ | refine iteT ?_ | refine iteF ?_ | refine iteNT ?_ | refine iteNF ?_
  | refine r_prop ?_ | refine r_fld ?_ | refine r_sfld ?_ | refine r_meth ?_ | refine r_make ?_ | refine r_sl ?_ | refine r_nopart ?_ | refine r_part ?_ | refine r_parti ?_ | refine r_gsl ?_ | refine r_bm ?_ | refine r_bm0 ?_ | refine r_for ?_ | refine r_ilist ?_ | refine r_irng ?_
  | refine r_gname ?_ | refine r_gcons ?_ | refine r_gnil ?_ | refine r_par ?_ | refine r_parA ?_ | refine r_chain ?_ | refine r_isN ?_ | refine r_tlc ?_ | refine r_yes ?_ | refine r_makek ?_ | refine r_neg ?_)
local macro_rules | `(tactic| walk_at "k2") => `(tactic| first
  | ((with_reducible refine' q_var ?kke ?_); (case kke => rfl))
  | ((with_reducible refine' q_aug ?kke ?_); (case kke => rfl))
  | ((with_reducible refine' q_ixL ?kks ?kke ?_); (case kks => walk_at "sq"); (case kke => first | rfl | assumption))
  | ((with_reducible refine' q_ixT ?kks ?kke ?_); (case kks => walk_at "st"); (case kke => first | rfl | assumption))
  | ((with_reducible refine' q_ixLL ?kks ?kke ?_); (case kks => walk_at "sq"); (case kke => first | rfl | assumption))
  | ((with_reducible refine' q_lenL ?kks ?_); (case kks => walk_at "sq"))
  | ((with_reducible refine' q_mulI ?kkc ?_); (case kkc => first | exact .inl (by omega) | exact .inr (by omega)))
  | ((with_reducible refine' q_modI ?kkc ?_); (case kkc => omega))
  | ((with_reducible refine' q_divI ?kkc ?_); (case kkc => exact ⟨by omega, by omega⟩))
  | ((with_reducible refine' q_powI ?kkc ?_); (case kkc => exact ⟨by decide, by decide, by decide⟩))
  | ((with_reducible refine' r_kfld ?kkS ?kkp ?kkc ?kkn ?kkl ?_); (case kkS => assumption); (case kkp => walk_at "mem"); (case kkc => walk_at "cls"); (case kkn => walk_at "na"); (case kkl => walk_at "lk"))
  | ((with_reducible refine' r_kprop ?kkS ?kkp ?_); (case kkS => assumption); (case kkp => walk_at "mem"))
  | ((with_reducible refine' r_kmeth ?kkS ?kkp ?kkl ?_); (case kkS => assumption); (case kkp => walk_at "mem"); (case kkl => walk_at "lk"))
  | ((with_reducible refine' r_calll ?kks ?_); (case kks => rfl))
  | ((with_reducible refine' r_tyl ?kks ?_); (case kks => walk_at "sq"))
  | ((with_reducible refine' r_isi (k := true) ?kkt ?kke ?_); (case kkt => walk_at "ty"); (case kke => decide +kernel))
  | ((with_reducible refine' r_isi (k := false) ?kkt ?kke ?_); (case kkt => walk_at "ty"); (case kke => decide +kernel)))
local macro_rules | `(tactic| walk_at "k3") => `(tactic| first
  | ((with_reducible refine' q_setS ?kkS ?kkr ?kke ?_); (case kkS => assumption); (case kkr => walk_at "rep"); (case kke => rfl); intro H S)
  | ((with_reducible refine' r_kset ?kkS ?kkr ?kkc ?kkn ?kkl ?kke ?_); (case kkS => assumption); (case kkr => walk_at "rep"); (case kkc => walk_at "cls"); (case kkn => walk_at "na"); (case kkl => first | exact Nat.le_of_ble_eq_true rfl | assumption | omega | (simp; done) | (simp; omega)); (case kke => walk_at "pf"); intro H S)
  | ((with_reducible refine' q_new ?kkS ?kkl ?_); (case kkS => assumption); (case kkl => first | exact Nat.le_of_ble_eq_true rfl | assumption | omega | (simp; done) | (simp; omega)); intro p H S)
  | ((with_reducible refine' q_newT ?kkS ?kkl ?_); (case kkS => assumption); (case kkl => first | exact Nat.le_of_ble_eq_true rfl | assumption | omega | (simp; done) | (simp; omega)); intro p H S)
  | ((with_reducible refine' r_knew ?kkS ?_); (case kkS => assumption); intro x dx H S)
  | ((with_reducible refine' r_knewk ?kkS ?kkl1 ?kkl2 ?_); (case kkS => assumption); (case kkl1 => rfl); (case kkl2 => rfl); intro x dx H S)
  | ((with_reducible refine' r_ksl ?kkS ?kks ?_); (case kkS => assumption); (case kks => walk_at "sq"); intro p H S)
  | ((with_reducible refine' r_list ?kkS ?kks ?_); (case kkS => assumption); (case kks => walk_at "sq"); intro p H S)
  | ((with_reducible refine' r_cat ?kkS ?kks1 ?kks2 ?kkz ?_); (case kkS => assumption); (case kks1 => walk_at "at"); (case kks2 => walk_at "at"); (case kkz => first | omega | (simp; omega)); intro p H S)
  | ((with_reducible refine' r_append ?kkS ?kkr ?kkz ?_); (case kkS => assumption); (case kkr => walk_at "rep"); (case kkz => first | omega | (simp; omega)); intro H S)
  | ((with_reducible refine' r_reverse ?kkS ?kkr ?_); (case kkS => assumption); (case kkr => walk_at "rep"); intro H S)
  | ((with_reducible refine' r_clear ?kkS ?kkr ?_); (case kkS => assumption); (case kkr => walk_at "rep"); intro H S))
local macro_rules | `(tactic| walk_at "gn") => `(tactic| repeat (first | walk_at "k1" | walk_at "k2"))
local macro_rules | `(tactic| walk_at "go") => `(tactic| repeat (first | walk_at "k1" | walk_at "k2" | walk_at "k3"))

local macro_rules | `(tactic| walk_at "k2") => `(tactic| first
  | ((with_reducible refine' r_isiY (k := true) ?kkt ?kke ?_); (case kkt => walk_at "ty"); (case kke => decide +kernel))
  | ((with_reducible refine' r_isiY (k := false) ?kkt ?kke ?_); (case kkt => walk_at "ty"); (case kke => decide +kernel)))

/-! ### many parts as one -/
theorem Sep.b_nil {R : List SP} {H : Hp} (S : Sep R H) : Sep (Sep [] :: R) H := Sep.unflat (As := []) S
theorem Sep.b_add {P : SP} {Ps R : List SP} {H : Hp} (S : Sep (P :: Sep Ps :: R) H) : Sep (Sep (Ps ++ [P]) :: R) H := by
  have S1 : Sep (P :: (Ps ++ R)) H := S.cons_mono fun _ => Sep.flat
  have S2 : Sep (Ps ++ P :: R) H := (pick_mid _).back S1
  refine Sep.unflat (As := Ps ++ [P]) ?_
  rw [List.append_assoc]
  exact S2
theorem Sep.b_open {P : SP} {Ps Qs R : List SP} {H : Hp} (S : Sep (Sep (Ps ++ P :: Qs) :: R) H) : Sep (P :: Sep (Ps ++ Qs) :: R) H := by
  have S1 : Sep (Ps ++ P :: (Qs ++ R)) H := by
    have S0 := S.flat
    rw [List.append_assoc] at S0
    exact S0
  have S2 : Sep (P :: (Ps ++ (Qs ++ R))) H := (pick_mid _).go S1
  rw [← List.append_assoc] at S2
  exact S2.cons_mono fun _ => Sep.unflat
theorem Sep.b_shut {P : SP} {Ps Qs R : List SP} {H : Hp} (S : Sep (P :: Sep (Ps ++ Qs) :: R) H) : Sep (Sep (Ps ++ P :: Qs) :: R) H := by
  have S1 : Sep (P :: (Ps ++ (Qs ++ R))) H := by
    rw [← List.append_assoc]
    exact S.cons_mono fun _ => Sep.flat
  have S2 : Sep (Ps ++ P :: (Qs ++ R)) H := (pick_mid _).back S1
  refine Sep.unflat (As := Ps ++ P :: Qs) ?_
  rw [List.append_assoc]
  exact S2

def top (i : Nat) : Stmt := PySem.Challenge.pw_sparetails_k22_rules.main.body.getD i (.Pass ⟨0, 0, 0, 0⟩)
abbrev s_Wrong_init : Stmt := inClass (top 2) 0
abbrev N_Wrong_init : List Str := ["self", "place"]
abbrev s_BadRoom_init : Stmt := inClass (top 3) 0
abbrev N_BadRoom_init : List Str := ["self", "size"]
abbrev s_is_integer : Stmt := top 5
abbrev N_is_integer : List Str := ["thing"]
abbrev s_exact : Stmt := top 7
abbrev N_exact : List Str := ["room", "needed"]
abbrev s_doubled : Stmt := top 8
abbrev N_doubled : List Str := ["room", "needed"]
abbrev s_Told_init : Stmt := inClass (top 9) 0
abbrev N_Told_init : List Str := ["self", "rooms", "room"]
abbrev s_Told_call : Stmt := inClass (top 9) 1
abbrev N_Told_call : List Str := ["self", "room", "needed", "at"]
abbrev s_Told_asked : Stmt := inClass (top 9) 2
abbrev N_Told_asked : List Str := ["self"]
abbrev s_Told_left : Stmt := inClass (top 9) 3
abbrev N_Told_left : List Str := ["self"]
abbrev s_l_bag : Stmt := top 11
abbrev N_l_bag : List Str := ["_law_script", "_law_cell"]
abbrev s_l_take : Stmt := top 12
abbrev N_l_take : List Str := ["_law_bag_here", "_law_many", "_law_cell", "_law_mixed", "_law_value", "_law_begin", "_law_second"]
abbrev s_l_alike : Stmt := top 13
abbrev N_l_alike : List Str := ["_law_found", "_law_due"]
abbrev s_l_number : Stmt := top 14
abbrev N_l_number : List Str := ["_law_bag_here"]
abbrev s_l_refused : Stmt := top 15
abbrev N_l_refused : List Str := ["_law_thing", "e"]
abbrev s_l_turns_right : Stmt := top 16
abbrev N_l_turns_right : List Str := ["_law_bag_here", "_law_lots", "_law_handed", "_law_rules", "_law_asked", "_law_left", "_law_some", "_law_step", "_law_k", "_law_room", "_law_needed", "_law_due", "_law_j", "_law_told", "_law_rooms"]
abbrev s_l_great_right : Stmt := top 17
abbrev N_l_great_right : List Str := ["_law_bag_here", "_law_rooms", "_law_deep", "_law_at", "_law_k", "_law_one_rule", "_law_found"]
abbrev s_law : Stmt := top 18
abbrev N_law : List Str := ["_law_script", "_law_bag_here", "_law_turn", "_law_room", "_law_needed", "_law_due", "_law_lots", "_law_k", "_law_odd", "_law_j"]
structure Txt (K : PySem.W.Frag) (mg : Str → Option Value) (c_Told f_doubled f_exact : Addr) : Prop where
  z_len : mg "len" = none
  z_int : mg "int" = none
  z_abs : mg "abs" = none
  z_list : mg "list" = none
  z_max : mg "max" = none
  z_isinstance : mg "isinstance" = none
  z_all : mg "all" = none
  z_bool : mg "bool" = none
  z_range : mg "range" = none
  z_repr : mg "repr" = none
  cl_Told : Cls K c_Told
  na_Told__rooms : NoAttr K c_Told "_rooms"
  na_Told__asked : NoAttr K c_Told "_asked"
  g_doubled : mg "doubled" = some (.ref f_doubled)
  g_exact : mg "exact" = some (.ref f_exact)
local macro_rules | `(tactic| walk_at "cls") => `(tactic| with_reducible first | assumption | exact Txt.cl_Told (by assumption))
local macro_rules | `(tactic| walk_at "na") => `(tactic| with_reducible first | assumption | exact Txt.na_Told__rooms (by assumption) | exact Txt.na_Told__asked (by assumption))
abbrev Tx (K : PySem.W.Frag) (mg : Str → Option Value) (c_Told f_doubled f_exact : Addr) := Txt K mg c_Told f_doubled f_exact
section
variable {P : Program} {w : World} {K : PySem.W.Frag} {mg : Str → Option Value} {base : Heap} {c_Told f_doubled f_exact : Addr}
theorem sc_is_integer : FnScope N_is_integer ["thing"] (defScope s_is_integer) := ⟨rfl, rfl, rfl, by decide +kernel, rfl, by decide +kernel, by decide +kernel⟩
def spIsInt : Sp := fun vs H Q _ => ∃ i : Int, vs = [.int i] ∧ Q (.bl true) H
theorem ok_is_integer {f : Addr} (F : Dt K mg "is_integer" s_is_integer ["thing"] f) (T : Tx K mg c_Told f_doubled f_exact) : Df P w K mg base 1 "is_integer" f ["thing"] spIsInt := by
  refine F.ok sc_is_integer (fun vs H Q E h => ?_) (fun cdv A outer s H vs Q E hr h => ?_)
  · obtain ⟨i, rfl, _⟩ := h
    rfl
  obtain ⟨i, rfl, q⟩ := h
  refine ⟨_, (pss_one (ps_ret (pe_and (pe_callB (r := rIsiY K) call_isiY (by rfl) T.z_isinstance (by decide +kernel) (pa_cons (pv 0) (pa_cons (pe_bltn (v := .ty "int") (by rfl) T.z_int (by decide +kernel) rfl) pa_nil))) (pe_one (pe_not (pe_callB (r := rIsiY K) call_isiY (by rfl) T.z_isinstance (by decide +kernel) (pa_cons (pv 0) (pa_cons (pe_bltn (v := .ty "bool") (by rfl) T.z_bool (by decide +kernel) rfl) pa_nil)))))))), ?_⟩
  walk_at "go"
  exact q
def spIsAny (K : PySem.W.Frag) : Sp := fun vs H Q _ => ∃ (v : V) (t : Value) (b1 b2 : Bool), vs = [v] ∧ TyY K H v t ∧ PySem.W.kitOne K t (.type "int") = some b1 ∧ PySem.W.kitOne K t (.type "bool") = some b2 ∧ Q (.bl (b1 && !b2)) H
theorem ok_is_any {f : Addr} (F : Dt K mg "is_integer" s_is_integer ["thing"] f) (T : Tx K mg c_Told f_doubled f_exact) : Df P w K mg base 1 "is_integer" f ["thing"] (spIsAny K) := by
  refine F.ok sc_is_integer (fun vs H Q E h => ?_) (fun cdv A outer s H vs Q E hr h => ?_)
  · obtain ⟨i, t, b1, b2, rfl, _⟩ := h
    rfl
  obtain ⟨v, t, b1, b2, rfl, ty, k1, k2, q⟩ := h
  refine ⟨_, (pss_one (ps_ret (pe_and (pe_callB (r := rIsiY K) call_isiY (by rfl) T.z_isinstance (by decide +kernel) (pa_cons (pv 0) (pa_cons (pe_bltn (v := .ty "int") (by rfl) T.z_int (by decide +kernel) rfl) pa_nil))) (pe_one (pe_not (pe_callB (r := rIsiY K) call_isiY (by rfl) T.z_isinstance (by decide +kernel) (pa_cons (pv 0) (pa_cons (pe_bltn (v := .ty "bool") (by rfl) T.z_bool (by decide +kernel) rfl) pa_nil)))))))), ?_⟩
  walk_at "go"
  refine ⟨v, .ty "int", t, _, b1, rfl, .ty "int", ty, k1, ?_⟩
  walk_at "go"
  cases b1 with
  | false => exact q
  | true =>
    walk_at "go"
    refine ⟨v, .ty "bool", t, _, b2, rfl, .ty "bool", ty, k2, ?_⟩
    walk_at "go"
    exact q
theorem sc_doubled : FnScope N_doubled ["room", "needed"] (defScope s_doubled) := ⟨rfl, rfl, rfl, by decide +kernel, rfl, by decide +kernel, by decide +kernel⟩
def spDoubled : Sp := fun vs H Q _ => ∃ s n : Int, vs = [.int s, .int n] ∧ Q (.int (if 2 * s > n then 2 * s else n)) H
theorem ok_doubled (F : Dt K mg "doubled" s_doubled ["room", "needed"] f_doubled) (T : Tx K mg c_Told f_doubled f_exact) : Df P w K mg base 1 "doubled" f_doubled ["room", "needed"] spDoubled := by
  refine F.ok sc_doubled (fun vs H Q E h => ?_) (fun cdv A outer s H vs Q E hr h => ?_)
  · obtain ⟨s, n, rfl, _⟩ := h
    rfl
  obtain ⟨s, n, rfl, q⟩ := h
  refine ⟨_, (pss_one (ps_ret (pe_callB (r := cMax2) (call_max2 rfl) (by rfl) T.z_max (by decide +kernel) (pa_cons (pv 1) (pa_cons (pe_op (r := rMulA) op_mulA pe_int (pv 0)) pa_nil))))), ?_⟩
  walk_at "go"
  exact q
theorem sc_exact : FnScope N_exact ["room", "needed"] (defScope s_exact) := ⟨rfl, rfl, rfl, by decide +kernel, rfl, by decide +kernel, by decide +kernel⟩
def spExact : Sp := fun vs H Q _ => ∃ s n : Int, vs = [.int s, .int n] ∧ Q (.int n) H
theorem ok_exact (F : Dt K mg "exact" s_exact ["room", "needed"] f_exact) (T : Tx K mg c_Told f_doubled f_exact) : Df P w K mg base 1 "exact" f_exact ["room", "needed"] spExact := by
  refine F.ok sc_exact (fun vs H Q E h => ?_) (fun cdv A outer s H vs Q E hr h => ?_)
  · obtain ⟨s, n, rfl, _⟩ := h
    rfl
  obtain ⟨s, n, rfl, q⟩ := h
  refine ⟨_, (pss_one (ps_ret (pv 1))), ?_⟩
  walk_at "go"
  exact q
/-! ### rooms that are told -/
def toP (c_Told a : Addr) (rooms : List Int) (ts : List Addr) : SP := fun G => ∃ (dx L M : Addr), Sep [pt a (.ins c_Told dx [("_rooms", .ref L), ("_asked", .ref M)]), pt L (.lst (rooms.map V.int)), pt M (.lst (ts.map V.ref))] G
theorem to_open {a : Addr} {rooms : List Int} {ts : List Addr} {R : List SP} {H : Hp} (S : Sep (toP c_Told a rooms ts :: R) H) : ∃ (dx L M : Addr), Sep (pt a (.ins c_Told dx [("_rooms", .ref L), ("_asked", .ref M)]) :: pt L (.lst (rooms.map V.int)) :: pt M (.lst (ts.map V.ref)) :: R) H := by
  obtain ⟨dx, S⟩ := S.ex
  obtain ⟨L, S⟩ := S.ex
  obtain ⟨M, S⟩ := S.ex
  exact ⟨dx, L, M, S.flat⟩
theorem to_shut {a dx L M : Addr} {rooms : List Int} {ts : List Addr} {R : List SP} {H : Hp} (S : Sep (pt a (.ins c_Told dx [("_rooms", .ref L), ("_asked", .ref M)]) :: pt L (.lst (rooms.map V.int)) :: pt M (.lst (ts.map V.ref)) :: R) H) : Sep (toP c_Told a rooms ts :: R) H :=
  Sep.ex_in dx (Sep.ex_in L (Sep.ex_in M (Sep.unflat (As := [_, _, _]) S)))
def spTold (c_Told : Addr) : Sp := fun vs H Q _ => ∃ (a dx M : Addr) (rooms : List Int) (R : List SP), vs = [.ref a, .ref M] ∧ rooms.length ≤ 10000 ∧ Sep (pt a (.ins c_Told dx []) :: pt M (.lst (rooms.map V.int)) :: R) H ∧ ∀ H', Sep (toP c_Told a rooms [] :: pt M (.lst (rooms.map V.int)) :: R) H' → Q .non H'
theorem sc_Told_init : FnScope N_Told_init ["self", "rooms"] (defScope s_Told_init) := ⟨rfl, rfl, rfl, by decide +kernel, rfl, by decide +kernel, by decide +kernel⟩
theorem ok_Told_init {f f1 : Addr} (F : Mt K c_Told "__init__" "Told.__init__" s_Told_init ["self", "rooms"] f) (T : Tx K mg c_Told f_doubled f_exact) (D_is_integer : Df P w K mg base 1 "is_integer" f1 ["thing"] spIsInt) : Mf P w K mg base 2 c_Told "__init__" ["self", "rooms"] (spTold c_Told) := by
  refine F.ok T.cl_Told sc_Told_init (fun vs H Q E h => ?_) (fun cdv A outer s H vs Q E hr h => ?_)
  · obtain ⟨a, dx, M, rooms, R, rfl, _⟩ := h
    rfl
  obtain ⟨a, dx, M, rooms, R, rfl, hl, S, q⟩ := h
  refine ⟨_, (pss_cons (ps_if (PW.pt (pw_or (pt_not (pt_val (pe_callB (r := rIsiY K) call_isiY (by rfl) T.z_isinstance (by decide +kernel) (pa_cons (pv 1) (pa_cons (pe_bltn (v := .ty "list") (by rfl) T.z_list (by decide +kernel) rfl) pa_nil))))) (pw_or1 (pt_not (pt_val (pe_callB (r := rAll K) (cr_all rfl) (by rfl) T.z_all (by decide +kernel) (pa_cons (pe_lc (own := [("room", 2)]) rfl sc_Told_init.nd (pi_listK K (pv 1)) (blkOk_by (own := [("room", 2)]) (N := N_Told_init) (sc := defScope s_Told_init) (by decide +kernel)) (fun _ _ _ _ _ => (pg_name (i := 2) sc_Told_init.nd rfl (by first | exact Or.inl rfl | exact Or.inr rfl))) (fun _ _ _ _ _ => pts_nil) (fun _ _ _ _ _ => (pe_df D_is_integer (hr.mono (by decide)) (pa_cons (pv 2) pa_nil)))) pa_nil))))))) (pss_one ps_never) pss_nil)
      (pss_cons (ps_fldK K (pv 0) (pe_callTy (r := cList K) call_list_of (by rfl) T.z_list (by decide +kernel) (pa_cons (pv 1) pa_nil)))
      (pss_one (ps_fldK K (pv 0) (pe_lst pa_nil))))), ?_⟩
  walk_at "go"
  refine r_lc_list (xs := rooms.map V.int) (fun i acc Ps => acc = (List.replicate i true).map V.bl ∧ Ps = pt a (.ins c_Told dx []) :: pt M (.lst (rooms.map V.int)) :: R) S ⟨rfl, rfl⟩ (fun D i acc Ps H hi ⟨_, e⟩ S => by subst e; walk_at "sq") (by walk_at "sq") ?_ ?_
  · rintro D i x acc Ps H hi ⟨rfl, rfl⟩ S
    obtain ⟨z, hz, rfl⟩ : ∃ z, rooms[i]? = some z ∧ V.int z = x := by
      rw [List.getElem?_map] at hi
      cases e : rooms[i]? with
      | none => rw [e] at hi; cases hi
      | some z => rw [e] at hi; exact ⟨z, rfl, Option.some.inj hi⟩
    walk_at "go"
    refine ⟨rfl, ?_⟩
    walk_at "go"
    refine ⟨_, rfl, ?_⟩
    have hi' := (List.getElem?_eq_some_iff.mp hz).1
    refine cn_in S (by simp; omega) ⟨?_, rfl⟩
    rw [List.replicate_succ', List.map_append]
    rfl
  · rintro D acc Ps H ⟨rfl, rfl⟩ S
    walk_at "go"
    refine r_all (by walk_at "sq") ?_
    have e : (List.replicate (rooms.map V.int).length true).all id = true := by simp
    rw [e]
    walk_at "go"
    walk_at "go"
    exact q _ (to_shut (ts := []) (S.s4 (C := pt _ (.lst [])) (by walk_at "sel")))
def spToldC (c_Told : Addr) : Sp := fun vs H Q _ => ∃ (a : Addr) (rooms : List Int) (ts : List Addr) (s n : Int) (R : List SP), vs = [.ref a, .int s, .int n] ∧ ts.length < 10000 ∧ Sep (toP c_Told a rooms ts :: R) H ∧ ∀ t H', Sep (pt t (.tup [.int s, .int n]) :: toP c_Told a rooms (ts ++ [t]) :: R) H' → Q (.int (rooms[ts.length]?.getD n)) H'
theorem sc_Told_call : FnScope N_Told_call ["self", "room", "needed"] (defScope s_Told_call) := ⟨rfl, rfl, rfl, by decide +kernel, rfl, by decide +kernel, by decide +kernel⟩
theorem ok_Told_call {f : Addr} (F : Mt K c_Told "__call__" "Told.__call__" s_Told_call ["self", "room", "needed"] f) (T : Tx K mg c_Told f_doubled f_exact) : Mf P w K mg base 1 c_Told "__call__" ["self", "room", "needed"] (spToldC c_Told) := by
  refine F.ok T.cl_Told sc_Told_call (fun vs H Q E h => ?_) (fun cdv A outer s H vs Q E hr h => ?_)
  · obtain ⟨a, rooms, ts, s, n, R, rfl, _⟩ := h
    rfl
  obtain ⟨a, rooms, ts, s, n, R, rfl, hj, S, q⟩ := h
  refine ⟨_, (pss_cons (ps_set (i := 3) sc_Told_call.nd rfl (by first | exact Or.inl rfl | exact Or.inr rfl) (pe_callB (r := cOr (cLenQ K) cLenS) call_lenA (by rfl) T.z_len (by decide +kernel) (pa_cons (pe_fldK K (pv 0)) pa_nil)))
      (pss_cons (ps_expr (pe_bmK K PySem.F.plainAttrs_list PySem.F.slot_list_append PySem.F.type_list_append mt_append (pe_fldK K (pv 0)) (pa_cons (pe_tup (pa_cons (pv 1) (pa_cons (pv 2) pa_nil))) pa_nil)))
      (pss_one (ps_ret (pe_ifExp (pt_cmpR (r := rLtI) op_lt (pv 3) (pe_callB (r := cOr (cLenQ K) cLenS) call_lenA (by rfl) T.z_len (by decide +kernel) (pa_cons (pe_fldK K (pv 0)) pa_nil)) (nomark _)) (pe_ix (r := rIx K) ix_seq (pe_fldK K (pv 0)) (pv 3) (fun _ _ => rfl)) (pv 2)))))), ?_⟩
  obtain ⟨dx, L, M, S⟩ := to_open S
  have hx : (ts.map V.ref).length = ts.length := List.length_map ..
  walk_at "go"
  have fin : Unit → Sep (pt p (.tup [.int s, .int n]) :: toP c_Told a rooms (ts ++ [p]) :: R) H := fun _ => by
    have S := S.s4 (A := pt p (.tup [.int s, .int n])) (B := pt a (.ins c_Told dx [("_rooms", .ref L), ("_asked", .ref M)])) (C := pt L (.lst (rooms.map V.int))) (D := pt M (.lst (ts.map V.ref ++ [.ref p]))) (by walk_at "sel")
    have e : ts.map V.ref ++ [.ref p] = (ts ++ [p]).map V.ref := by simp
    rw [e] at S
    exact S.cons_mono fun _ => to_shut
  refine q_ite (fun hx2 => ?_) (fun hx2 => ?_)
  · walk_at "go"
    rw [List.length_map, List.length_map] at hx2
    have hr2 : rooms[ts.length]? = some (rooms[ts.length]'(by omega)) := List.getElem?_eq_getElem (by omega)
    have key : atI (rooms.map V.int) (((ts.map V.ref).length : Nat) : Int) = some (V.int (rooms[ts.length]'(by omega))) := by
      rw [hx]
      exact atI_nat (by rw [List.getElem?_map, hr2]; rfl)
    refine q_ixL (by walk_at "sq") key ?_
    rw [hr2] at q
    exact q _ _ (fin ())
  · walk_at "go"
    rw [List.length_map, List.length_map] at hx2
    rw [List.getElem?_eq_none (by omega)] at q
    exact q _ _ (fin ())
/-- told.asked() -/
def spAsked (c_Told : Addr) : Sp := fun vs H Q _ => ∃ (a : Addr) (rooms : List Int) (ts : List Addr) (R : List SP), vs = [.ref a] ∧ Sep (toP c_Told a rooms ts :: R) H ∧ ∀ D H', Sep (pt D (.lst (ts.map V.ref)) :: toP c_Told a rooms ts :: R) H' → Q (.ref D) H'
theorem sc_Told_asked : FnScope N_Told_asked ["self"] (defScope s_Told_asked) := ⟨rfl, rfl, rfl, by decide +kernel, rfl, by decide +kernel, by decide +kernel⟩
theorem ok_Told_asked {f : Addr} (F : Mt K c_Told "asked" "Told.asked" s_Told_asked ["self"] f) (T : Tx K mg c_Told f_doubled f_exact) : Mf P w K mg base 1 c_Told "asked" ["self"] (spAsked c_Told) := by
  refine F.ok T.cl_Told sc_Told_asked (fun vs H Q E h => ?_) (fun cdv A outer s H vs Q E hr h => ?_)
  · obtain ⟨a, rooms, ts, R, rfl, _⟩ := h
    rfl
  obtain ⟨a, rooms, ts, R, rfl, S, q⟩ := h
  refine ⟨_, (pss_one (ps_ret (pe_callTy (r := cList K) call_list_of (by rfl) T.z_list (by decide +kernel) (pa_cons (pe_fldK K (pv 0)) pa_nil)))), ?_⟩
  obtain ⟨dx, L, M, S⟩ := to_open S
  walk_at "go"
  exact q _ _ ((S.s4 (by walk_at "sel")).cons_mono fun _ => to_shut)
/-- told.left -/
def spLeft (c_Told : Addr) : Sp := fun vs H Q _ => ∃ (a : Addr) (rooms : List Int) (ts : List Addr) (R : List SP), vs = [.ref a] ∧ Sep (toP c_Told a rooms ts :: R) H ∧ Q (.int ((rooms.length - ts.length : Nat) : Int)) H
theorem sc_Told_left : FnScope N_Told_left ["self"] (defScope s_Told_left) := ⟨rfl, rfl, rfl, by decide +kernel, rfl, by decide +kernel, by decide +kernel⟩
theorem ok_Told_left {f : Addr} (F : Pt K c_Told "left" "Told.left" s_Told_left f) (T : Tx K mg c_Told f_doubled f_exact) : Pf P w K mg base 1 c_Told "left" (spLeft c_Told) := by
  refine F.ok T.cl_Told sc_Told_left (fun vs H Q E h => ?_) (fun cdv A outer s H vs Q E hr h => ?_)
  · obtain ⟨a, rooms, ts, R, rfl, _⟩ := h
    rfl
  obtain ⟨a, rooms, ts, R, rfl, S, q⟩ := h
  refine ⟨_, (pss_one (ps_ret (pe_callB (r := cMax2) (call_max2 rfl) (by rfl) T.z_max (by decide +kernel) (pa_cons pe_int (pa_cons (pe_op (r := rSubI) op_sub (pe_callB (r := cOr (cLenQ K) cLenS) call_lenA (by rfl) T.z_len (by decide +kernel) (pa_cons (pe_fldK K (pv 0)) pa_nil)) (pe_callB (r := cOr (cLenQ K) cLenS) call_lenA (by rfl) T.z_len (by decide +kernel) (pa_cons (pe_fldK K (pv 0)) pa_nil))) pa_nil))))), ?_⟩
  obtain ⟨dx, L, M, S⟩ := to_open S
  walk_at "go"
  rw [List.length_map, List.length_map]
  rw [show (if (rooms.length : Int) - (ts.length : Int) > 0 then (rooms.length : Int) - (ts.length : Int) else 0) = ((rooms.length - ts.length : Nat) : Int) from by split <;> omega]
  exact q
section
theorem cut_take {xs : List V} {n : Nat} : cutV xs none (some (n : Int)) = xs.take n := by
  unfold cutV HT.sIx
  simp only [List.drop_zero, Nat.sub_zero]
  rw [if_neg (by omega), Int.toNat_natCast, List.take_eq_take_iff]
  omega
end
/-! ### pairs in tuples -/
abbrev TP := Addr × Int × Int
def tups (l : List TP) : SP := Sep (l.map fun e => pt e.1 (.tup [.int e.2.1, .int e.2.2]))
theorem tups_nil {R : List SP} {H : Hp} (S : Sep R H) : Sep (tups [] :: R) H := Sep.b_nil S
theorem tups_add {l : List TP} {p : Addr} {x y : Int} {R : List SP} {H : Hp} (S : Sep (pt p (.tup [.int x, .int y]) :: tups l :: R) H) : Sep (tups (l ++ [(p, x, y)]) :: R) H := by
  unfold tups at S ⊢
  rw [List.map_append]
  exact Sep.b_add S
theorem tups_mem {l : List TP} {e : TP} {R : List SP} {H : Hp} (S : Sep (tups l :: R) H) (h : e ∈ l) : H e.1 = some (.tup [.int e.2.1, .int e.2.2]) := by
  obtain ⟨l1, l2, rfl⟩ := List.append_of_mem h
  unfold tups at S
  rw [List.map_append] at S
  exact (Sep.b_open S).hd_at
end
/-- the drawing bag at b -/
def bag (b : Addr) : SP := fun G => ∃ (x y z : Int) (c : Addr) (ns : List Int), 0 ≤ z ∧ Sep [pt b (.lst [.int x, .int y, .int z, .ref c]), pt c (.lst (ns.map V.int))] G
def spTake : Sp := fun vs H Q _ => ∃ (b : Addr) (n : Int) (R : List SP), vs = [.ref b, .int n] ∧ 0 < n ∧ n < 1073741824 ∧ Sep (bag b :: R) H ∧ ∀ v H', 0 ≤ v → v < n → Sep (bag b :: R) H' → Q (.int v) H'
def spBag (K : PySem.W.Frag) : Sp := fun vs H Q _ => ∃ (a : Addr) (ns : List Int) (R : List SP), vs = [.ref a] ∧ SqL K H a (ns.map V.int) ∧ ns.length ≤ 63 ∧ Sep R H ∧ ∀ b H', Sep (bag b :: R) H' → Q (.ref b) H'
theorem bag_open {b : Addr} {R : List SP} {H : Hp} (S : Sep (bag b :: R) H) : ∃ (x y z : Int) (c : Addr) (ns : List Int), 0 ≤ z ∧ Sep (pt b (.lst [.int x, .int y, .int z, .ref c]) :: pt c (.lst (ns.map V.int)) :: R) H := by
  obtain ⟨x, S⟩ := S.ex
  obtain ⟨y, S⟩ := S.ex
  obtain ⟨z, S⟩ := S.ex
  obtain ⟨c, S⟩ := S.ex
  obtain ⟨ns, S⟩ := S.ex
  obtain ⟨hz, S⟩ := S.pure
  exact ⟨x, y, z, c, ns, hz, S.flat⟩
theorem bag_shut {b : Addr} {R : List SP} {H : Hp} {x y z : Int} {c : Addr} {ns : List Int} (hz : 0 ≤ z) (S : Sep (pt b (.lst [.int x, .int y, .int z, .ref c]) :: pt c (.lst (ns.map V.int)) :: R) H) : Sep (bag b :: R) H :=
  Sep.ex_in x (Sep.ex_in y (Sep.ex_in z (Sep.ex_in c (Sep.ex_in ns (Sep.pure_in hz (Sep.unflat (As := [_, _]) S))))))
section
variable {P : Program} {w : World} {K : PySem.W.Frag} {mg : Str → Option Value} {base : Heap}
theorem sc_l_take : FnScope N_l_take ["_law_bag_here", "_law_many"] (defScope s_l_take) := ⟨rfl, rfl, rfl, by decide +kernel, rfl, by decide +kernel, by decide +kernel⟩
theorem ok_l_take {c_Array c_Window f_doubled : Addr} {f : Addr} (F : Dt K mg "_law_take" s_l_take ["_law_bag_here", "_law_many"] f) (T : Txt K mg c_Told f_doubled f_exact) : Df P w K mg base 1 "_law_take" f ["_law_bag_here", "_law_many"] spTake := by
  refine F.ok sc_l_take (fun vs H Q E h => ?_) (fun cdv A outer s H vs Q E hr h => ?_)
  · obtain ⟨b, n, R, rfl, _⟩ := h
    rfl
  obtain ⟨b, n, R, rfl, h0, h1, S, q⟩ := h
  refine ⟨_, (C8.pss_cut (ps_if (pt_cmpR (r := rEqA K) (op_eqA hr.units) (pe_ix (r := rIx K) ix_seq (pv 0) pe_int (fun _ _ => rfl)) pe_int (nomark _)) (pss_cons (ps_set (i := 2) sc_l_take.nd rfl (by first | exact Or.inl rfl | exact Or.inr rfl) pe_int)
      (C8.pss_cut (ps_if (pt_cmpR (r := rLtI) op_lt (pe_ix (r := rIx K) ix_seq (pv 0) pe_int (fun _ _ => rfl)) (pe_callB (r := cOr (cLenQ K) cLenS) call_lenA (by rfl) T.z_len (by decide +kernel) (pa_cons (pe_ix (r := rIx K) ix_seq (pv 0) pe_int (fun _ _ => rfl)) pa_nil)) (nomark _)) (pss_one (ps_set (i := 2) sc_l_take.nd rfl (by first | exact Or.inl rfl | exact Or.inr rfl) (pe_ix (r := rIx K) ix_seq (pe_ix (r := rIx K) ix_seq (pv 0) pe_int (fun _ _ => rfl)) (pe_ix (r := rIx K) ix_seq (pv 0) pe_int (fun _ _ => rfl)) (fun _ _ => rfl)))) pss_nil)
      (pss_cons (ps_augS (tget := rIxL K) (pv 0) pe_int get_list pe_int ip_add set_list)
      (C8.pss_cut (ps_if (pt_cmpR (r := rGeI) op_ge (pv 2) pe_int (nomark _)) (pss_one (ps_asg (pv 2) (pg_sub (pv 0) pe_int set_list))) pss_nil)
      (pss_cons (ps_set (i := 3) sc_l_take.nd rfl (by first | exact Or.inl rfl | exact Or.inr rfl) (pe_op (r := rAddA) op_addA (pe_op (r := rAddA) op_addA (pe_op (r := rMulA) op_mulA (pe_ix (r := rIx K) ix_seq (pv 0) pe_int (fun _ _ => rfl)) pe_int) (pe_op (r := rModI) op_mod (pe_callTy (r := cInt) call_int1 (by rfl) T.z_int (by decide +kernel) (pa_cons (pv 2) pa_nil)) pe_int)) (pe_op (r := rMulA) op_mulA pe_int (pe_ix (r := rIx K) ix_seq (pv 0) pe_int (fun _ _ => rfl)))))
      (pss_one (ps_asg (pe_op (r := rModI) op_mod (pe_callTy (r := cInt) call_int1 (by rfl) T.z_int (by decide +kernel) (pa_cons (pv 3) pa_nil)) pe_int) (pg_sub (pv 0) pe_int set_list)))))))) pss_nil)
      (pss_cons (ps_if (pt_cmpR (r := rGtI) op_gt (pe_ix (r := rIx K) ix_seq (pv 0) pe_int (fun _ _ => rfl)) pe_int (nomark _)) (pss_cons (ps_set (i := 4) sc_l_take.nd rfl (by first | exact Or.inl rfl | exact Or.inr rfl) (pe_op (r := rModI) op_mod (pe_callTy (r := cInt) call_int1 (by rfl) T.z_int (by decide +kernel) (pa_cons (pe_ix (r := rIx K) ix_seq (pv 0) pe_int (fun _ _ => rfl)) pa_nil)) (pv 1)))
      (pss_cons (ps_asg (pe_op (r := rDivI) op_fdiv (pe_ix (r := rIx K) ix_seq (pv 0) pe_int (fun _ _ => rfl)) (pv 1)) (pg_sub (pv 0) pe_int set_list))
      (pss_one (ps_ret (pv 4))))) pss_nil)
      (pss_cons (ps_set (i := 5) sc_l_take.nd rfl (by first | exact Or.inl rfl | exact Or.inr rfl) (pe_op (r := rModI) op_mod (pe_callTy (r := cInt) call_int1 (by rfl) T.z_int (by decide +kernel) (pa_cons (pe_op (r := rMulA) op_mulA (pe_op (r := rAddA) op_addA (pe_ix (r := rIx K) ix_seq (pv 0) pe_int (fun _ _ => rfl)) pe_int) pe_int) pa_nil)) pe_int))
      (pss_cons (ps_set (i := 6) sc_l_take.nd rfl (by first | exact Or.inl rfl | exact Or.inr rfl) (pe_op (r := rModI) op_mod (pe_callTy (r := cInt) call_int1 (by rfl) T.z_int (by decide +kernel) (pa_cons (pe_op (r := rMulA) op_mulA (pe_op (r := rModI) op_mod (pe_callTy (r := cInt) call_int1 (by rfl) T.z_int (by decide +kernel) (pa_cons (pe_op (r := rMulA) op_mulA (pv 5) (pv 5)) pa_nil)) pe_int) pe_int) pa_nil)) pe_int))
      (pss_cons (ps_if (pt_cmpR (r := rGtI) op_gt (pv 1) pe_int (nomark _)) (pss_one (ps_ret (pe_op (r := rModI) op_mod (pe_callTy (r := cInt) call_int1 (by rfl) T.z_int (by decide +kernel) (pa_cons (pe_op (r := rAddA) op_addA (pe_op (r := rMulA) op_mulA (pv 6) pe_int) (pv 5)) pa_nil)) (pv 1)))) pss_nil)
      (pss_one (ps_ret (pe_op (r := rModI) op_mod (pe_callTy (r := cInt) call_int1 (by rfl) T.z_int (by decide +kernel) (pa_cons (pe_op (r := rDivI) op_fdiv (pv 6) pe_int) pa_nil)) (pv 1))))))))), ?_⟩
  obtain ⟨x, y, z, c, ns, hz, S⟩ := bag_open S
  refine q_cut (Mid := fun σ H => ∃ u2 u3, σ = [some (.ref b), some (.int n), u2, u3, none, none, none] ∧ ∃ (x y z : Int) (c : Addr) (ns : List Int), 0 ≤ z ∧ Sep (pt b (.lst [.int x, .int y, .int z, .ref c]) :: pt c (.lst (ns.map V.int)) :: R) H) ?_ ?_
  · walk_at "go"
    refine q_ite (fun hx => ?_) (fun hx => ?_)
    · walk_at "go"
      refine q_cut (Mid := fun σ H => ∃ u, σ = [some (.ref b), some (.int n), some (.int u), none, none, none, none] ∧ Sep (pt b (.lst [.int x, .int y, .int z, .ref c]) :: pt c (.lst (ns.map V.int)) :: R) H) ?_ ?_
      · walk_at "go"
        refine q_ite (fun hl => ?_) (fun hl => ?_)
        · walk_at "go"
          rw [List.length_map] at hl
          obtain ⟨j, rfl⟩ := Int.eq_ofNat_of_zero_le hz
          refine q_ixL (by walk_at "sq") (atI_nat (v := V.int (ns[j]'(by omega))) (by simp)) ?_
          exact ⟨_, rfl, S⟩
        · exact ⟨_, rfl, S⟩
      rintro σ H ⟨u, rfl, S⟩
      walk_at "go"
      refine q_cut (Mid := fun σ H => σ = [some (.ref b), some (.int n), some (.int u), none, none, none, none] ∧ ∃ x', Sep (pt b (.lst [.int x', .int y, .int (z + 1), .ref c]) :: pt c (.lst (ns.map V.int)) :: R) H) ?_ ?_
      · walk_at "go"
        refine q_ite (fun hu => ?_) (fun hu => ?_)
        · walk_at "go"
          exact ⟨rfl, _, S⟩
        · exact ⟨rfl, _, S⟩
      rintro σ H ⟨rfl, x', S⟩
      walk_at "go"
      exact ⟨_, _, rfl, _, _, _, _, _, by omega, S⟩
    · exact ⟨_, _, rfl, _, _, _, _, _, hz, S⟩
  rintro σ H ⟨u2, u3, rfl, x, y, z, c, ns, hz, S⟩
  walk_at "go"
  refine q_ite (fun hx => ?_) (fun hx => ?_)
  · walk_at "go"
    exact q _ _ (Int.emod_nonneg _ (by omega)) (Int.emod_lt_of_pos _ h0) (bag_shut hz S)
  · walk_at "go"
    refine q_ite (fun hm => ?_) (fun hm => ?_)
    · walk_at "go"
      exact q _ _ (Int.emod_nonneg _ (by omega)) (Int.emod_lt_of_pos _ h0) (bag_shut hz S)
    · walk_at "go"
      exact q _ _ (Int.emod_nonneg _ (by omega)) (Int.emod_lt_of_pos _ h0) (bag_shut hz S)
theorem sc_l_bag : FnScope N_l_bag ["_law_script"] (defScope s_l_bag) := ⟨rfl, rfl, rfl, by decide +kernel, rfl, by decide +kernel, by decide +kernel⟩
theorem ok_l_bag {c_Array c_Window f_doubled : Addr} {f : Addr} (F : Dt K mg "_law_bag" s_l_bag ["_law_script"] f) (T : Txt K mg c_Told f_doubled f_exact) : Df P w K mg base 1 "_law_bag" f ["_law_script"] (spBag K) := by
  refine F.ok sc_l_bag (fun vs H Q E h => ?_) (fun cdv A outer s H vs Q E hr h => ?_)
  · obtain ⟨a, ns, R, rfl, _⟩ := h
    rfl
  obtain ⟨a, ns, R, rfl, hq, hl, S, q⟩ := h
  refine ⟨_, (pss_one (ps_ret (pe_lst (pa_cons pe_int (pa_cons pe_int (pa_cons pe_int (pa_cons (pe_lc (own := [("_law_cell", 1)]) rfl sc_l_bag.nd (pi_listK K (pe_slice (r := rSlL K) sl_list (pv 0) po_none (po_some pe_int))) (blkOk_by (own := [("_law_cell", 1)]) (N := N_l_bag) (sc := defScope s_l_bag) (by decide +kernel)) (fun _ _ _ _ _ => (pg_name (i := 1) sc_l_bag.nd rfl (by first | exact Or.inl rfl | exact Or.inr rfl))) (fun _ _ _ _ _ => pts_nil) (fun _ _ _ _ _ => (pe_callB (r := cAbs) call_abs (by rfl) T.z_abs (by decide +kernel) (pa_cons (pv 1) pa_nil)))) pa_nil))))))), ?_⟩
  walk_at "go"
  have ec : cutV (ns.map V.int) none (some (63 : Int)) = (ns.take 63).map V.int := by
    have := cut_take (xs := ns.map V.int) (n := 63)
    rw [List.map_take]
    exact this
  rw [ec] at S
  have hm : (ns.take 63).length ≤ 63 := by simp; omega
  generalize ns.take 63 = ms at S hm
  refine r_lc_list (xs := ms.map V.int) (fun i acc Ps => ∃ zs : List Int, acc = zs.map V.int ∧ zs.length = i ∧ Ps = pt p (.lst (ms.map V.int)) :: R) S ⟨[], rfl, rfl, rfl⟩ (fun D i acc Ps H hi ⟨_, _, _, e⟩ S => by subst e; walk_at "sq") (by walk_at "sq") ?_ ?_
  · rintro D i x acc Ps H hi ⟨zs, rfl, ez, rfl⟩ S
    obtain ⟨z, hz, rfl⟩ : ∃ z, ms[i]? = some z ∧ V.int z = x := by
      rw [List.getElem?_map] at hi
      cases e : ms[i]? with
      | none => rw [e] at hi; cases hi
      | some z => rw [e] at hi; exact ⟨z, rfl, Option.some.inj hi⟩
    walk_at "go"
    refine ⟨rfl, ?_⟩
    walk_at "go"
    have hi' := (List.getElem?_eq_some_iff.mp hz).1
    refine cn_in S (by rw [List.length_map]; omega) ⟨zs ++ [if z < 0 then -z else z], by simp, by simp [ez], rfl⟩
  · rintro D acc Ps H ⟨zs, rfl, ez, rfl⟩ S
    walk_at "go"
    exact q _ _ (bag_shut (x := 0) (y := 1234567891) (z := 0) (c := D) (ns := zs) (by decide) (S.s2 (by walk_at "sel")))
end

end Pf

set_option Elab.async false
set_option linter.all false
set_option maxRecDepth 100000
set_option maxHeartbeats 8000000
namespace Pf
open PySem L2 Kt
set_option hygiene false
local macro_rules | `(tactic| walk_at "mem") => `(tactic| (with_reducible (repeat (first | exact Pick.hd | apply Pick.tl)); done))
local macro_rules | `(tactic| walk_at "rep") => `(tactic| (with_reducible (repeat (first | exact Repl.hd | apply Repl.tl)); done))
local macro_rules | `(tactic| walk_at "sel") => `(tactic| ((repeat (with_reducible apply Sel.cons; (focus walk_at "mem"))); (with_reducible apply Sel.nil); (with_reducible (repeat (first | exact Dr.all | apply Dr.skip)); done)))
local macro_rules | `(tactic| walk_at "at") => `(tactic| (refine' Sep.at_ (by assumption) ?kkpk; (case kkpk => walk_at "mem")))
local macro_rules | `(tactic| walk_at "sq") => `(tactic| first | assumption | (refine' Sep.sq (by assumption) ?kkpk; (case kkpk => walk_at "mem")))
local macro_rules | `(tactic| walk_at "st") => `(tactic| first | assumption | (refine' Sep.st (by assumption) ?kkpk; (case kkpk => walk_at "mem")))
local macro_rules | `(tactic| walk_at "lk") => `(tactic| (repeat (first | (with_reducible exact lk_eq) | exact rfl | refine (lk_ne (by decide +kernel)).trans ?_)))
local macro_rules | `(tactic| walk_at "pf") => `(tactic| (repeat (first | (with_reducible exact pf_nil) | (with_reducible exact pf_eq) | (apply pf_ne; (focus decide +kernel)))))
local macro_rules | `(tactic| walk_at "ty") => `(tactic| first | exact ty_int | (refine' ty_lst ?kkh; (case kkh => walk_at "at")))
local macro_rules | `(tactic| walk_at "k1") => `(tactic| with_reducible first
  | refine q_seq ?_ | refine q_set ?_ | refine q_asg ?_ | refine q_ret ?_ | refine q_drop ?_ | refine q_next ?_ | refine q_c ?_ | refine q_op ?_ | refine q_un ?_ | refine q_nil ?_ | refine q_cons ?_ | refine q_cb ?_
  | refine q_call ?_ | refine q_ifs ?_ | refine q_if ?_ | refine q_test ?_ | refine q_tb ?_ | refine q_bl ?_ | refine q_notT ?_ | refine q_andT ?_ | refine q_orT ?_ | refine q_andV ?_ | refine q_orV ?_ | refine q_notV ?_
  | refine q_addA ?_ | refine q_subI ?_ | refine q_ltI ?_ | refine q_leI ?_ | refine q_gtI ?_ | refine q_geI ?_ | refine q_eqI ?_ | refine q_neI ?_ | refine q_abs ?_ | refine q_int ?_ | refine q_intB ?_ | refine q_max ?_ | refine q_min ?_
  | refine q_ipAdd ?_ | refine q_ipSub ?_ | refine q_gsub ?_ | refine q_augs ?_ | refine q_lst ?_ | refine q_tup ?_ | refine q_blI ?_ | refine iteT ?_ | refine iteF ?_ | refine iteNT ?_ | refine iteNF ?_
  | refine r_prop ?_ | refine r_fld ?_ | refine r_sfld ?_ | refine r_meth ?_ | refine r_make ?_ | refine r_sl ?_ | refine r_nopart ?_ | refine r_part ?_ | refine r_parti ?_ | refine r_gsl ?_ | refine r_bm ?_ | refine r_bm0 ?_ | refine r_for ?_ | refine r_ilist ?_ | refine r_irng ?_
  | refine r_gname ?_ | refine r_gcons ?_ | refine r_gnil ?_ | refine r_par ?_ | refine r_parA ?_ | refine r_chain ?_ | refine r_isN ?_ | refine r_tlc ?_ | refine r_yes ?_ | refine r_makek ?_ | refine r_neg ?_)
local macro_rules | `(tactic| walk_at "k2") => `(tactic| first
  | ((with_reducible refine' q_var ?kke ?_); (case kke => rfl))
  | ((with_reducible refine' q_aug ?kke ?_); (case kke => rfl))
  | ((with_reducible refine' q_ixL ?kks ?kke ?_); (case kks => walk_at "sq"); (case kke => first | rfl | assumption))
  | ((with_reducible refine' q_ixT ?kks ?kke ?_); (case kks => walk_at "st"); (case kke => first | rfl | assumption))
  | ((with_reducible refine' q_ixLL ?kks ?kke ?_); (case kks => walk_at "sq"); (case kke => first | rfl | assumption))
  | ((with_reducible refine' q_lenL ?kks ?_); (case kks => walk_at "sq"))
  | ((with_reducible refine' q_mulI ?kkc ?_); (case kkc => first | exact .inl (by omega) | exact .inr (by omega)))
  | ((with_reducible refine' q_modI ?kkc ?_); (case kkc => omega))
  | ((with_reducible refine' q_divI ?kkc ?_); (case kkc => exact ⟨by omega, by omega⟩))
  | ((with_reducible refine' q_powI ?kkc ?_); (case kkc => exact ⟨by decide, by decide, by decide⟩))
  | ((with_reducible refine' r_kfld ?kkS ?kkp ?kkc ?kkn ?kkl ?_); (case kkS => assumption); (case kkp => walk_at "mem"); (case kkc => walk_at "cls"); (case kkn => walk_at "na"); (case kkl => walk_at "lk"))
  | ((with_reducible refine' r_kprop ?kkS ?kkp ?_); (case kkS => assumption); (case kkp => walk_at "mem"))
  | ((with_reducible refine' r_kmeth ?kkS ?kkp ?kkl ?_); (case kkS => assumption); (case kkp => walk_at "mem"); (case kkl => walk_at "lk"))
  | ((with_reducible refine' r_calll ?kks ?_); (case kks => rfl))
  | ((with_reducible refine' r_tyl ?kks ?_); (case kks => walk_at "sq"))
  | ((with_reducible refine' r_isi (k := true) ?kkt ?kke ?_); (case kkt => walk_at "ty"); (case kke => decide +kernel))
  | ((with_reducible refine' r_isi (k := false) ?kkt ?kke ?_); (case kkt => walk_at "ty"); (case kke => decide +kernel)))
local macro_rules | `(tactic| walk_at "k3") => `(tactic| first
  | ((with_reducible refine' q_setS ?kkS ?kkr ?kke ?_); (case kkS => assumption); (case kkr => walk_at "rep"); (case kke => rfl); intro H S)
  | ((with_reducible refine' r_kset ?kkS ?kkr ?kkc ?kkn ?kkl ?kke ?_); (case kkS => assumption); (case kkr => walk_at "rep"); (case kkc => walk_at "cls"); (case kkn => walk_at "na"); (case kkl => first | exact Nat.le_of_ble_eq_true rfl | assumption | omega | (simp; done) | (simp; omega)); (case kke => walk_at "pf"); intro H S)
  | ((with_reducible refine' q_new ?kkS ?kkl ?_); (case kkS => assumption); (case kkl => first | exact Nat.le_of_ble_eq_true rfl | assumption | omega | (simp; done) | (simp; omega)); intro p H S)
  | ((with_reducible refine' q_newT ?kkS ?kkl ?_); (case kkS => assumption); (case kkl => first | exact Nat.le_of_ble_eq_true rfl | assumption | omega | (simp; done) | (simp; omega)); intro p H S)
  | ((with_reducible refine' r_knew ?kkS ?_); (case kkS => assumption); intro x dx H S)
  | ((with_reducible refine' r_knewk ?kkS ?kkl1 ?kkl2 ?_); (case kkS => assumption); (case kkl1 => rfl); (case kkl2 => rfl); intro x dx H S)
  | ((with_reducible refine' r_ksl ?kkS ?kks ?_); (case kkS => assumption); (case kks => walk_at "sq"); intro p H S)
  | ((with_reducible refine' r_list ?kkS ?kks ?_); (case kkS => assumption); (case kks => walk_at "sq"); intro p H S)
  | ((with_reducible refine' r_cat ?kkS ?kks1 ?kks2 ?kkz ?_); (case kkS => assumption); (case kks1 => walk_at "at"); (case kks2 => walk_at "at"); (case kkz => first | omega | (simp; omega)); intro p H S)
  | ((with_reducible refine' r_append ?kkS ?kkr ?kkz ?_); (case kkS => assumption); (case kkr => walk_at "rep"); (case kkz => first | omega | (simp; omega)); intro H S)
  | ((with_reducible refine' r_reverse ?kkS ?kkr ?_); (case kkS => assumption); (case kkr => walk_at "rep"); intro H S)
  | ((with_reducible refine' r_clear ?kkS ?kkr ?_); (case kkS => assumption); (case kkr => walk_at "rep"); intro H S))
local macro_rules | `(tactic| walk_at "gn") => `(tactic| repeat (first | walk_at "k1" | walk_at "k2"))
local macro_rules | `(tactic| walk_at "go") => `(tactic| repeat (first | walk_at "k1" | walk_at "k2" | walk_at "k3"))

local macro_rules | `(tactic| walk_at "k2") => `(tactic| first
  | ((with_reducible refine' r_isiY (k := true) ?kkt ?kke ?_); (case kkt => walk_at "ty"); (case kke => decide +kernel))
  | ((with_reducible refine' r_isiY (k := false) ?kkt ?kke ?_); (case kkt => walk_at "ty"); (case kke => decide +kernel)))

local macro_rules | `(tactic| walk_at "cls") => `(tactic| with_reducible first | assumption | exact Txt.cl_Told (by assumption))
local macro_rules | `(tactic| walk_at "na") => `(tactic| with_reducible first | assumption | exact Txt.na_Told__rooms (by assumption) | exact Txt.na_Told__asked (by assumption))
section
variable {P : Program} {w : World} {K : PySem.W.Frag} {mg : Str → Option Value} {base : Heap} {c_Told f_doubled f_exact c_Wrong c_BadRoom c_TailError f_Wrong_init : Addr}
def isI : V → Bool
  | .int _ => true
  | _ => false
/-- what is not a list of whole numbers -/
def Bad (K : PySem.W.Frag) (R : List SP) (H : Hp) (x : V) : Prop := (∃ t, TyY K H x t ∧ PySem.W.kitOne K t (.type "list") = some false) ∨
  ∃ p xs, x = .ref p ∧ xs.length ≤ 50000 ∧ (∀ H, Sep R H → SqL K H p xs) ∧ (∀ H, Sep R H → ∀ y ∈ xs, ∃ t b1 b2, TyY K H y t ∧ PySem.W.kitOne K t (.type "int") = some b1 ∧ PySem.W.kitOne K t (.type "bool") = some b2 ∧ (b1 && !b2) = isI y) ∧ ∃ y ∈ xs, isI y = false
theorem tyy_mono {G H : Hp} {x : V} {t : Value} (l : Le G H) (h : TyY K G x t) : TyY K H x t := h.imp (ty_mono l) id
theorem all_false {xs : List V} (h : ∃ y ∈ xs, isI y = false) : (xs.map isI).all id = false := by
  obtain ⟨y, hy, e⟩ := h
  rw [Bool.eq_false_iff]
  intro q
  have := List.all_eq_true.mp q (isI y) (List.mem_map.mpr ⟨y, hy, rfl⟩)
  rw [e] at this
  cases this
def spToldX (K : PySem.W.Frag) (c_Told c_Wrong : Addr) : Sp := fun vs H Q E => ∃ (a dx : Addr) (x : V) (R : List SP), vs = [.ref a, x] ∧ Sep (pt a (.ins c_Told dx []) :: R) H ∧ Bad K R H x ∧ ∀ d H', Sep (pt d (.xd [("place", .int 0)]) :: R) H' → E (.ref c_Wrong) (some d) H'
theorem ok_Told_initX {f f1 : Addr} (F : Mt K c_Told "__init__" "Told.__init__" s_Told_init ["self", "rooms"] f) (T : Tx K mg c_Told f_doubled f_exact) (E_Wrong : PySem.ErWrong.Row K mg c_Wrong f_Wrong_init) (D_is_integer : Df P w K mg base 1 "is_integer" f1 ["thing"] (spIsAny K)) : MfX P w K mg base 2 c_Told "__init__" ["self", "rooms"] (spToldX K c_Told c_Wrong) := by
  refine F.okX T.cl_Told sc_Told_init (fun vs H Q E h => ?_) (fun cdv A outer s H vs Q E hr h => ?_)
  · obtain ⟨a, dx, x, R, rfl, _⟩ := h
    rfl
  obtain ⟨a, dx, x, R, rfl, S, hb, q⟩ := h
  refine ⟨_, (pss_cons (ps_if (PW.pt (pw_or (pt_not (pt_val (pe_callB (r := rIsiY K) call_isiY (by rfl) T.z_isinstance (by decide +kernel) (pa_cons (pv 1) (pa_cons (pe_bltn (v := .ty "list") (by rfl) T.z_list (by decide +kernel) rfl) pa_nil))))) (pw_or1 (pt_not (pt_val (pe_callB (r := rAll K) (cr_all rfl) (by rfl) T.z_all (by decide +kernel) (pa_cons (pe_lc (own := [("room", 2)]) rfl sc_Told_init.nd (pi_listK K (pv 1)) (blkOk_by (own := [("room", 2)]) (N := N_Told_init) (sc := defScope s_Told_init) (by decide +kernel)) (fun _ _ _ _ _ => (pg_name (i := 2) sc_Told_init.nd rfl (by first | exact Or.inl rfl | exact Or.inr rfl))) (fun _ _ _ _ _ => pts_nil) (fun _ _ _ _ _ => (pe_df D_is_integer (hr.mono (by decide)) (pa_cons (pv 2) pa_nil)))) pa_nil))))))) (pss_one (ps_raiseWrong (k := 0) rfl E_Wrong (hr.mono (by decide)) (takes_of rfl rfl rfl rfl) (pa_cons pe_int pa_nil))) pss_nil)
      (pss_cons (ps_fldK K (pv 0) (pe_callTy (r := cList K) call_list_of (by rfl) T.z_list (by decide +kernel) (pa_cons (pv 1) pa_nil)))
      (pss_one (ps_fldK K (pv 0) (pe_lst pa_nil))))), ?_⟩
  have fin : ∀ H : Hp, Sep R H → tRaiseWrong c_Wrong (fun cls d _ H' => E cls d H') (tCons (tC (.int 0)) tNil) { nx := fun _ H' => Q .non H', rt := Q } [some (.ref a), some x, none] H := fun H S => by
    refine ⟨.int 0, rfl, fun d hd => q d _ (S.new _ hd)⟩
  walk_at "go"
  rcases hb with ⟨t, ty, hk⟩ | ⟨p, xs, rfl, hl, hs, hi, hx⟩
  · refine ⟨x, .ty "list", t, _, false, rfl, .ty "list", ty, hk, ?_⟩
    walk_at "go"
    exact fin _ S.tl
  · refine ⟨.ref p, .ty "list", .type "list", _, true, rfl, .ty "list", .inl (ty_sq (hs _ S.tl)), kit_ty (by decide +kernel), ?_⟩
    walk_at "go"
    refine r_lc_list (xs := xs) (fun i acc Ps => acc = ((xs.take i).map isI).map V.bl ∧ Ps = R) S.tl ⟨rfl, rfl⟩ (fun D i acc Ps H hi ⟨_, e⟩ S => by rw [e] at S; exact hs _ S.tl) (hs _ S.tl) ?_ ?_
    · rintro D i y acc Ps H hy ⟨rfl, rfl⟩ S
      obtain ⟨t, b1, b2, ty, k1, k2, e⟩ := hi H S.tl y (List.mem_of_getElem? hy)
      walk_at "go"
      refine ⟨rfl, ?_⟩
      walk_at "go"
      refine ⟨y, t, b1, b2, rfl, ty, k1, k2, ?_⟩
      have hi' := (List.getElem?_eq_some_iff.mp hy).1
      refine cn_in S (by rw [List.length_map, List.length_map, List.length_take]; omega) ⟨?_, rfl⟩
      rw [List.take_add_one, hy, e]
      simp
    · rintro D acc Ps H ⟨rfl, rfl⟩ S
      rw [List.take_length] at S
      walk_at "go"
      refine r_all (bs := xs.map isI) (by walk_at "sq") ?_
      rw [all_false hx]
      walk_at "go"
      exact fin _ S.tl
/-- what is no list of whole numbers is refused -/
def spRefused (K : PySem.W.Frag) : Sp := fun vs H Q _ => ∃ (x : V) (R : List SP), vs = [x] ∧ Sep R H ∧ Bad K R H x ∧ ∀ H', Sep R H' → Q (.bl true) H'
theorem sc_l_refused : FnScope N_l_refused ["_law_thing"] (defScope s_l_refused) := ⟨rfl, rfl, rfl, by decide +kernel, rfl, by decide +kernel, by decide +kernel⟩
theorem ok_l_refused {f : Addr} (F : Dt K mg "_law_refused" s_l_refused ["_law_thing"] f) (T : Tx K mg c_Told f_doubled f_exact) (E_Wrong : PySem.ErWrong.Row K mg c_Wrong f_Wrong_init) (EC : ErC K c_Wrong) (gTailError : mg "TailError" = some (.ref c_TailError)) (gWrong : mg "Wrong" = some (.ref c_Wrong)) (gBadRoom : mg "BadRoom" = some (.ref c_BadRoom))
    (ex : PySem.W.exmOne K (.ref c_Wrong) (.ref c_TailError) = some true) (k1 : PySem.W.kitOne K (.ref c_Wrong) (.ref c_Wrong) = some true) (k2 : PySem.W.kitOne K (.ref c_Wrong) (.ref c_BadRoom) = some false)
    (M_ToldX : CfX P w K mg base 2 "Told" c_Told ["self", "rooms"] (spToldX K c_Told c_Wrong)) : Df P w K mg base 4 "_law_refused" f ["_law_thing"] (spRefused K) := by
  refine F.ok sc_l_refused (fun vs H Q E h => ?_) (fun cdv A outer s H vs Q E hr h => ?_)
  · obtain ⟨x, R, rfl, _⟩ := h
    rfl
  obtain ⟨x, R, rfl, S, hb, q⟩ := h
  refine ⟨_, (pss_cons (ps_try_as (i := 1) (Wout := fun _ _ _ _ => False) rfl rfl sc_l_refused.nd rfl rfl ⟨rfl, by decide, .inl gTailError⟩ takes0 (fun W pn xe tk _ => (pss_one (ps_expr (pe_cfS M_ToldX (hr.mono (by decide)) (fun σ => passAt tk σ) (pa_cons (pv 0) pa_nil))))) (fun a oe cls d pn hz hf => (pss_one (ps_ret (pe_and (pe_callB (r := rIsED K c_Wrong a cls d) (call_isED EC hz hf) (by rfl) T.z_isinstance (by decide +kernel) (pa_cons (pv 1) (pa_cons (pe_glob (v := .ref c_Wrong) rfl gWrong rfl) pa_nil))) (pe_and (pe_not (pe_callB (r := rIsED K c_Wrong a cls d) (call_isED EC hz hf) (by rfl) T.z_isinstance (by decide +kernel) (pa_cons (pv 1) (pa_cons (pe_glob (v := .ref c_BadRoom) rfl gBadRoom rfl) pa_nil)))) (pe_one (pe_cmpR (r := rEq) op_eq (pe_byWrong E_Wrong hz hf (pv 1)) pe_int (nomark _)))))))))
      (pss_one (ps_ret pe_bl))), ?_⟩
  walk_at "go"
  refine r_makeS ?_
  walk_at "go"
  refine fun o dx n1 n2 ne => ?_
  have le : Le H (upd (upd H dx (.own o)) o (.ins c_Told dx [])) := fun b u e => by
    rw [upd_ne (fun q => by rw [q, n1] at e; cases e), upd_ne (fun q => by rw [q, n2] at e; cases e)]
    exact e
  refine ⟨o, dx, x, R, rfl, S.made n1 n2 ne, hb.imp (fun ⟨t, ty, hk⟩ => ⟨t, tyy_mono le ty, hk⟩) id, fun d H' S' => ?_⟩
  refine ⟨true, ex, fun _ e0 _ => ?_, fun q => nomatch q⟩
  walk_at "go"
  refine ⟨.ref c_Wrong, .ref c_Wrong, true, d, _, rfl, .own _, rfl, rfl, S'.hd_at, k1, ?_⟩
  walk_at "go"
  refine ⟨.ref c_BadRoom, .ref c_BadRoom, false, d, _, rfl, .own _, rfl, rfl, S'.hd_at, k2, ?_⟩
  walk_at "go"
  refine ⟨.ref e0, rfl, rfl, rfl, d, .int 0, rfl, S'.hd_at, ?_⟩
  walk_at "go"
  refine ⟨rfl, ?_⟩
  rw [decide_eq_true rfl]
  exact q _ S'.tl
/-! ### two things that are equal, and shown alike: numbers, lists -/
def spAlike (K : PySem.W.Frag) : Sp := fun vs H Q _ => (∃ i : Int, vs = [.int i, .int i] ∧ i.natAbs < 10 ^ 60 ∧ Q (.bl true) H) ∨ (∃ (a b : Addr) (d : PyData) (W : Nat), vs = [.ref a, .ref b] ∧ Dp K H (.ref a) d ∧ Dp K H (.ref b) d ∧ Sh 60 W d ∧ W ≤ 200000 ∧ Q (.bl true) H)
theorem sc_l_alike : FnScope N_l_alike ["_law_found", "_law_due"] (defScope s_l_alike) := ⟨rfl, rfl, rfl, by decide +kernel, rfl, by decide +kernel, by decide +kernel⟩
theorem ok_l_alike {f : Addr} (F : Dt K mg "_law_alike" s_l_alike ["_law_found", "_law_due"] f) (T : Tx K mg c_Told f_doubled f_exact) : Dg P w K mg base 1 "_law_alike" f ["_law_found", "_law_due"] (spAlike K) := by
  refine F.okG sc_l_alike (fun vs H Q E h => ?_) (fun cdv A outer s H vs Q E hg hr h => ?_)
  · rcases h with ⟨b, rfl, _⟩ | ⟨a, b, d, W, rfl, _⟩ <;> rfl
  rcases h with ⟨i, rfl, hi, q⟩ | ⟨a, b, d, W, rfl, h1, h2, sh, hW, q⟩
  · refine ⟨_, (pss_one (ps_ret (pe_and (pe_cmpR (r := rEqA K) (op_eqA hr.units) (pv 0) (pv 1) (nomark _)) (pe_one (pe_cmpR (r := rEqA K) (op_eqA hr.units) (pe_callB (r := cReprI K) (call_reprI hg hr.units) (by rfl) T.z_repr (by decide +kernel) (pa_cons (pv 0) pa_nil)) (pe_callB (r := cReprI K) (call_reprI hg hr.units) (by rfl) T.z_repr (by decide +kernel) (pa_cons (pv 1) pa_nil)) (nomark _)))))), ?_⟩
    walk_at "go"
    rw [decide_eq_true rfl]
    walk_at "go"
    refine .inl ⟨i, rfl, log_ok hi, ?_⟩
    walk_at "go"
    refine .inl ⟨i, rfl, log_ok hi, ?_⟩
    refine .inl ⟨rfl, ?_⟩
    rw [decide_eq_true rfl]
    exact q
  · refine ⟨_, (pss_one (ps_ret (pe_and (pe_cmpR (r := rEqA K) (op_eqA hr.units) (pv 0) (pv 1) (nomark _)) (pe_one (pe_cmpR (r := rEqA K) (op_eqA hr.units) (pe_callB (r := cReprI K) (call_reprI hg hr.units) (by rfl) T.z_repr (by decide +kernel) (pa_cons (pv 0) pa_nil)) (pe_callB (r := cReprI K) (call_reprI hg hr.units) (by rfl) T.z_repr (by decide +kernel) (pa_cons (pv 1) pa_nil)) (nomark _)))))), ?_⟩
    walk_at "go"
    refine r_eq_same h1 h2 sh.ok (by decide) ?_
    walk_at "go"
    refine .inr ⟨a, d, rfl, h1, sh.sh, sh.nd, sh.ok.2, sh.fits hW, ?_⟩
    walk_at "go"
    refine .inr ⟨b, d, rfl, h2, sh.sh, sh.nd, sh.ok.2, sh.fits hW, ?_⟩
    refine .inl ⟨rfl, ?_⟩
    rw [decide_eq_true (rfl : V.str d.shown = V.str d.shown)]
    exact q
/-- a drawn number -/
def spNumber : Sp := fun vs H Q _ => ∃ (b : Addr) (R : List SP), vs = [.ref b] ∧ Sep (bag b :: R) H ∧ ∀ (i : Int) H', i.natAbs < 10 ^ 50 → Sep (bag b :: R) H' → Q (.int i) H'
theorem sc_l_number : FnScope N_l_number ["_law_bag_here"] (defScope s_l_number) := ⟨rfl, rfl, rfl, by decide +kernel, rfl, by decide +kernel, by decide +kernel⟩
theorem ok_l_number {f f1 : Addr} (F : Dt K mg "_law_number" s_l_number ["_law_bag_here"] f) (T : Tx K mg c_Told f_doubled f_exact) (D_l_take : Df P w K mg base 1 "_law_take" f1 ["_law_bag_here", "_law_many"] spTake) : Df P w K mg base 2 "_law_number" f ["_law_bag_here"] spNumber := by
  refine F.ok sc_l_number (fun vs H Q E h => ?_) (fun cdv A outer s H vs Q E hr h => ?_)
  · obtain ⟨b, R, rfl, _⟩ := h
    rfl
  obtain ⟨b, R, rfl, S, q⟩ := h
  refine ⟨_, (pss_one (ps_ret (pe_ix (r := rIx K) ix_seq (pe_lst (pa_cons (pe_df D_l_take (hr.mono (by decide)) (pa_cons (pv 0) (pa_cons pe_int pa_nil))) (pa_cons (pe_df D_l_take (hr.mono (by decide)) (pa_cons (pv 0) (pa_cons pe_int pa_nil))) (pa_cons (pe_op (r := rSubI) op_sub (pe_op (r := rPowI) op_pow pe_int pe_int) (pe_df D_l_take (hr.mono (by decide)) (pa_cons (pv 0) (pa_cons pe_int pa_nil)))) pa_nil)))) (pe_df D_l_take (hr.mono (by decide)) (pa_cons (pv 0) (pa_cons pe_int pa_nil))) (fun _ _ => rfl)))), ?_⟩
  walk_at "go"
  refine ⟨b, 9, _, rfl, by decide, by decide, S, fun x H x0 x1 S => ?_⟩
  walk_at "go"
  refine ⟨b, 200, _, rfl, by decide, by decide, S, fun y H y0 y1 S => ?_⟩
  walk_at "go"
  refine ⟨b, 9, _, rfl, by decide, by decide, S, fun z H z0 z1 S => ?_⟩
  walk_at "go"
  have e39 : ((10 : Int) ^ (39 : Int).toNat) = 10 ^ 39 := rfl
  rw [e39] at S
  generalize he : [V.int x, V.int y, V.int (10 ^ 39 - z)] = es at S
  have hes : es.length = 3 := by rw [← he]; rfl
  refine ⟨b, 3, _, rfl, by decide, by decide, S.s1 (by walk_at "sel"), fun u H u0 u1 S => ?_⟩
  obtain ⟨v, hv, hm⟩ := at_i (xs := es) u0 (by omega)
  refine q_ixL (by walk_at "sq") hv ?_
  rw [← he] at hm
  simp only [List.mem_cons, List.not_mem_nil, or_false] at hm
  have S : Sep (bag b :: R) H := S.s1 (A := bag b) (Rs := R) (by walk_at "sel")
  rcases hm with rfl | rfl | rfl
  · exact q _ _ (by omega) S
  · exact q _ _ (by omega) S
  · exact q _ _ (by omega) S
end

end Pf

set_option Elab.async false
set_option linter.all false
set_option maxRecDepth 100000
set_option maxHeartbeats 8000000
namespace Pf
open PySem L2 Kt
set_option hygiene false
local macro_rules | `(tactic| walk_at "mem") => `(tactic| (with_reducible (repeat (first | exact Pick.hd | apply Pick.tl)); done))
local macro_rules | `(tactic| walk_at "rep") => `(tactic| (with_reducible (repeat (first | exact Repl.hd | apply Repl.tl)); done))
local macro_rules | `(tactic| walk_at "sel") => `(tactic| ((repeat (with_reducible apply Sel.cons; (focus walk_at "mem"))); (with_reducible apply Sel.nil); (with_reducible (repeat (first | exact Dr.all | apply Dr.skip)); done)))
local macro_rules | `(tactic| walk_at "at") => `(tactic| (refine' Sep.at_ (by assumption) ?kkpk; (case kkpk => walk_at "mem")))
local macro_rules | `(tactic| walk_at "sq") => `(tactic| first | assumption | (refine' Sep.sq (by assumption) ?kkpk; (case kkpk => walk_at "mem")))
local macro_rules | `(tactic| walk_at "st") => `(tactic| first | assumption | (refine' Sep.st (by assumption) ?kkpk; (case kkpk => walk_at "mem")))
local macro_rules | `(tactic| walk_at "lk") => `(tactic| (repeat (first | (with_reducible exact lk_eq) | exact rfl | refine (lk_ne (by decide +kernel)).trans ?_)))
local macro_rules | `(tactic| walk_at "pf") => `(tactic| (repeat (first | (with_reducible exact pf_nil) | (with_reducible exact pf_eq) | (apply pf_ne; (focus decide +kernel)))))
local macro_rules | `(tactic| walk_at "ty") => `(tactic| first | exact ty_int | (refine' ty_lst ?kkh; (case kkh => walk_at "at")))
local macro_rules | `(tactic| walk_at "k1") => `(tactic| with_reducible first
  | refine q_seq ?_ | refine q_set ?_ | refine q_asg ?_ | refine q_ret ?_ | refine q_drop ?_ | refine q_next ?_ | refine q_c ?_ | refine q_op ?_ | refine q_un ?_ | refine q_nil ?_ | refine q_cons ?_ | refine q_cb ?_
  | refine q_call ?_ | refine q_ifs ?_ | refine q_if ?_ | refine q_test ?_ | refine q_tb ?_ | refine q_bl ?_ | refine q_notT ?_ | refine q_andT ?_ | refine q_orT ?_ | refine q_andV ?_ | refine q_orV ?_ | refine q_notV ?_
  | refine q_addA ?_ | refine q_subI ?_ | refine q_ltI ?_ | refine q_leI ?_ | refine q_gtI ?_ | refine q_geI ?_ | refine q_eqI ?_ | refine q_neI ?_ | refine q_abs ?_ | refine q_int ?_ | refine q_intB ?_ | refine q_max ?_ | refine q_min ?_
  | refine q_ipAdd ?_ | refine q_ipSub ?_ | refine q_gsub ?_ | refine q_augs ?_ | refine q_lst ?_ | refine q_tup ?_ | refine q_blI ?_ | refine iteT ?_ | refine iteF ?_ | refine iteNT ?_ | refine iteNF ?_
  | refine r_prop ?_ | refine r_fld ?_ | refine r_sfld ?_ | refine r_meth ?_ | refine r_make ?_ | refine r_sl ?_ | refine r_nopart ?_ | refine r_part ?_ | refine r_parti ?_ | refine r_gsl ?_ | refine r_bm ?_ | refine r_bm0 ?_ | refine r_for ?_ | refine r_ilist ?_ | refine r_irng ?_
  | refine r_gname ?_ | refine r_gcons ?_ | refine r_gnil ?_ | refine r_par ?_ | refine r_parA ?_ | refine r_chain ?_ | refine r_isN ?_ | refine r_tlc ?_ | refine r_yes ?_ | refine r_makek ?_ | refine r_neg ?_)
local macro_rules | `(tactic| walk_at "k2") => `(tactic| first
  | ((with_reducible refine' q_var ?kke ?_); (case kke => rfl))
  | ((with_reducible refine' q_aug ?kke ?_); (case kke => rfl))
  | ((with_reducible refine' q_ixL ?kks ?kke ?_); (case kks => walk_at "sq"); (case kke => first | rfl | assumption))
  | ((with_reducible refine' q_ixT ?kks ?kke ?_); (case kks => walk_at "st"); (case kke => first | rfl | assumption))
  | ((with_reducible refine' q_ixLL ?kks ?kke ?_); (case kks => walk_at "sq"); (case kke => first | rfl | assumption))
  | ((with_reducible refine' q_lenL ?kks ?_); (case kks => walk_at "sq"))
  | ((with_reducible refine' q_mulI ?kkc ?_); (case kkc => first | exact .inl (by omega) | exact .inr (by omega)))
  | ((with_reducible refine' q_modI ?kkc ?_); (case kkc => omega))
  | ((with_reducible refine' q_divI ?kkc ?_); (case kkc => exact ⟨by omega, by omega⟩))
  | ((with_reducible refine' q_powI ?kkc ?_); (case kkc => exact ⟨by decide, by decide, by decide⟩))
  | ((with_reducible refine' r_kfld ?kkS ?kkp ?kkc ?kkn ?kkl ?_); (case kkS => assumption); (case kkp => walk_at "mem"); (case kkc => walk_at "cls"); (case kkn => walk_at "na"); (case kkl => walk_at "lk"))
  | ((with_reducible refine' r_kprop ?kkS ?kkp ?_); (case kkS => assumption); (case kkp => walk_at "mem"))
  | ((with_reducible refine' r_kmeth ?kkS ?kkp ?kkl ?_); (case kkS => assumption); (case kkp => walk_at "mem"); (case kkl => walk_at "lk"))
  | ((with_reducible refine' r_calll ?kks ?_); (case kks => rfl))
  | ((with_reducible refine' r_tyl ?kks ?_); (case kks => walk_at "sq"))
  | ((with_reducible refine' r_isi (k := true) ?kkt ?kke ?_); (case kkt => walk_at "ty"); (case kke => decide +kernel))
  | ((with_reducible refine' r_isi (k := false) ?kkt ?kke ?_); (case kkt => walk_at "ty"); (case kke => decide +kernel)))
local macro_rules | `(tactic| walk_at "k3") => `(tactic| first
  | ((with_reducible refine' q_setS ?kkS ?kkr ?kke ?_); (case kkS => assumption); (case kkr => walk_at "rep"); (case kke => rfl); intro H S)
  | ((with_reducible refine' r_kset ?kkS ?kkr ?kkc ?kkn ?kkl ?kke ?_); (case kkS => assumption); (case kkr => walk_at "rep"); (case kkc => walk_at "cls"); (case kkn => walk_at "na"); (case kkl => first | exact Nat.le_of_ble_eq_true rfl | assumption | omega | (simp; done) | (simp; omega)); (case kke => walk_at "pf"); intro H S)
  | ((with_reducible refine' q_new ?kkS ?kkl ?_); (case kkS => assumption); (case kkl => first | exact Nat.le_of_ble_eq_true rfl | assumption | omega | (simp; done) | (simp; omega)); intro p H S)
  | ((with_reducible refine' q_newT ?kkS ?kkl ?_); (case kkS => assumption); (case kkl => first | exact Nat.le_of_ble_eq_true rfl | assumption | omega | (simp; done) | (simp; omega)); intro p H S)
  | ((with_reducible refine' r_knew ?kkS ?_); (case kkS => assumption); intro x dx H S)
  | ((with_reducible refine' r_knewk ?kkS ?kkl1 ?kkl2 ?_); (case kkS => assumption); (case kkl1 => rfl); (case kkl2 => rfl); intro x dx H S)
  | ((with_reducible refine' r_ksl ?kkS ?kks ?_); (case kkS => assumption); (case kks => walk_at "sq"); intro p H S)
  | ((with_reducible refine' r_list ?kkS ?kks ?_); (case kkS => assumption); (case kks => walk_at "sq"); intro p H S)
  | ((with_reducible refine' r_cat ?kkS ?kks1 ?kks2 ?kkz ?_); (case kkS => assumption); (case kks1 => walk_at "at"); (case kks2 => walk_at "at"); (case kkz => first | omega | (simp; omega)); intro p H S)
  | ((with_reducible refine' r_append ?kkS ?kkr ?kkz ?_); (case kkS => assumption); (case kkr => walk_at "rep"); (case kkz => first | omega | (simp; omega)); intro H S)
  | ((with_reducible refine' r_reverse ?kkS ?kkr ?_); (case kkS => assumption); (case kkr => walk_at "rep"); intro H S)
  | ((with_reducible refine' r_clear ?kkS ?kkr ?_); (case kkS => assumption); (case kkr => walk_at "rep"); intro H S))
local macro_rules | `(tactic| walk_at "gn") => `(tactic| repeat (first | walk_at "k1" | walk_at "k2"))
local macro_rules | `(tactic| walk_at "go") => `(tactic| repeat (first | walk_at "k1" | walk_at "k2" | walk_at "k3"))

local macro_rules | `(tactic| walk_at "k2") => `(tactic| first
  | ((with_reducible refine' r_isiY (k := true) ?kkt ?kke ?_); (case kkt => walk_at "ty"); (case kke => decide +kernel))
  | ((with_reducible refine' r_isiY (k := false) ?kkt ?kke ?_); (case kkt => walk_at "ty"); (case kke => decide +kernel)))

local macro_rules | `(tactic| walk_at "k1") => `(tactic| with_reducible first | refine r_par3 ?_ | refine r_parA3 ?_ | refine r_izip ?_ | refine r_irng2 ?_)

local macro_rules | `(tactic| walk_at "cls") => `(tactic| with_reducible first | assumption | exact Txt.cl_Told (by assumption))
local macro_rules | `(tactic| walk_at "na") => `(tactic| with_reducible first | assumption | exact Txt.na_Told__rooms (by assumption) | exact Txt.na_Told__asked (by assumption))
section
variable {P : Program} {w : World} {K : PySem.W.Frag} {mg : Str → Option Value} {base : Heap} {c_Told f_doubled f_exact : Addr}
theorem r_pop0 {H : Hp} {Q : VK} {a : Addr} {y : V} {xs : List V} {Ps Qs : List SP} (S : Sep Ps H) (r : Repl a (.lst (y :: xs)) (.lst xs) Ps Qs) (h : ∀ H', Sep Qs H' → Q y H') : rPopAt (.ref a) [.int 0] H Q := by
  obtain ⟨Rs, p, _⟩ := r.pick
  refine ⟨a, y :: xs, 0, 0, y, rfl, rfl, S.at_ p, by decide, by decide, ?_, rfl, h _ (S.set r)⟩
  unfold seqIndex?
  simp
/-- one rule, what it was asked by the law's own list, what is left by the law's own list -/
structure Sd where
  a : Addr
  Ak : Addr
  Lf : Addr
  rooms : List Int
  l : List TP
  ka : List TP
def sideP (c_Told : Addr) (s : Sd) : SP := Sep [toP c_Told s.a s.rooms (s.l.map (·.1)), tups s.l, pt s.Ak (.lst (s.ka.map fun e => V.ref e.1)), tups s.ka, pt s.Lf (.lst ((s.rooms.drop s.l.length).map V.int))]
theorem sd_open {s : Sd} {R : List SP} {H : Hp} (S : Sep (sideP c_Told s :: R) H) : Sep (toP c_Told s.a s.rooms (s.l.map (·.1)) :: tups s.l :: pt s.Ak (.lst (s.ka.map fun e => V.ref e.1)) :: tups s.ka :: pt s.Lf (.lst ((s.rooms.drop s.l.length).map V.int)) :: R) H := S.flat
theorem sd_shut {s : Sd} {R : List SP} {H : Hp} (S : Sep (toP c_Told s.a s.rooms (s.l.map (·.1)) :: tups s.l :: pt s.Ak (.lst (s.ka.map fun e => V.ref e.1)) :: tups s.ka :: pt s.Lf (.lst ((s.rooms.drop s.l.length).map V.int)) :: R) H) : Sep (sideP c_Told s :: R) H := Sep.unflat (As := [_, _, _, _, _]) S
structure SdOk (s : Sd) (i : Nat) : Prop where
  eq : s.l.map (·.2) = s.ka.map (·.2)
  ln : s.l.length ≤ i
  rl : s.rooms.length ≤ 4
  rb : ∀ z ∈ s.rooms, z.natAbs < 10 ^ 60
  kb : ∀ e ∈ s.ka, e.2.1.natAbs < 10 ^ 60 ∧ e.2.2.natAbs < 10 ^ 60
theorem SdOk.kl {s : Sd} {i : Nat} (h : SdOk s i) : s.ka.length = s.l.length := by
  have := congrArg List.length h.eq
  rw [List.length_map, List.length_map] at this
  exact this.symm
theorem swap2 {f : Nat → SP} {k : Nat} (hk : k = 0 ∨ k = 1) {R : List SP} {H : Hp} : Sep (f 0 :: f 1 :: R) H → Sep (f k :: f (1 - k) :: R) H := by
  rcases hk with rfl | rfl
  · exact id
  · exact Sep.swap
theorem swap2b {f : Nat → SP} {k : Nat} (hk : k = 0 ∨ k = 1) {R : List SP} {H : Hp} : Sep (f k :: f (1 - k) :: R) H → Sep (f 0 :: f 1 :: R) H := by
  rcases hk with rfl | rfl
  · exact id
  · exact Sep.swap
def dTP (l : List (Int × Int)) : PyData := .list (l.map fun e => .tuple [.int e.1, .int e.2])
theorem dp_tups {l : List TP} {D : Addr} {R : List SP} {H : Hp} (S : Sep (tups l :: R) H) (s : SqL K H D (l.map fun e => V.ref e.1)) : Dp K H (.ref D) (dTP (l.map (·.2))) := by
  refine .lst s ?_
  rw [List.map_map]
  exact dpall_of _ _ fun z m => .tup (SqT.of (tups_mem S m)) (.cons (.int _) (.cons (.int _) .nil))
theorem sh_tp {l : List (Int × Int)} (hl : l.length ≤ 10) (h : ∀ e ∈ l, e.1.natAbs < 10 ^ 60 ∧ e.2.natAbs < 10 ^ 60) : Sh 3 5000 (dTP l) := by
  have := sh_list (k := 2) (W := 402) (ds := l.map fun e => PyData.tuple [.int e.1, .int e.2]) fun d m => by
    obtain ⟨e, he, rfl⟩ := List.mem_map.mp m
    have h1 := sh_tuple (k := 1) (W := 200) (ds := [.int e.1, .int e.2]) fun d m => by
      simp only [List.mem_cons, List.not_mem_nil, or_false] at m
      rcases m with rfl | rfl
      · exact sh_int (h e he).1
      · exact sh_int (h e he).2
    exact h1.up (by decide) (by simp)
  rw [List.length_map] at this
  exact this.up (by decide) (by omega)
/-- told rules, turn by turn -/
def spTurns : Sp := fun vs H Q _ => ∃ (b Lo q0 q1 : Addr) (r0 r1 : List Int) (R : List SP), vs = [.ref b, .ref Lo] ∧ r0.length ≤ 4 ∧ r1.length ≤ 4 ∧ (∀ z ∈ r0, z.natAbs < 10 ^ 60) ∧ (∀ z ∈ r1, z.natAbs < 10 ^ 60) ∧
  Sep (bag b :: pt Lo (.lst [.ref q0, .ref q1]) :: pt q0 (.lst (r0.map V.int)) :: pt q1 (.lst (r1.map V.int)) :: R) H ∧ ∀ H', Sep (bag b :: R) H' → Q (.bl true) H'
theorem sc_l_turns_right : FnScope N_l_turns_right ["_law_bag_here", "_law_lots"] (defScope s_l_turns_right) := ⟨rfl, rfl, rfl, by decide +kernel, rfl, by decide +kernel, by decide +kernel⟩
theorem ok_l_turns {f f1 f2 f3 : Addr} (F : Dt K mg "_law_turns_right" s_l_turns_right ["_law_bag_here", "_law_lots"] f) (T : Tx K mg c_Told f_doubled f_exact) (D_l_take : Df P w K mg base 1 "_law_take" f1 ["_law_bag_here", "_law_many"] spTake)
    (D_l_number : Df P w K mg base 2 "_law_number" f2 ["_law_bag_here"] spNumber) (D_l_alike : Dg P w K mg base 1 "_law_alike" f3 ["_law_found", "_law_due"] (spAlike K)) (M_Told : Cf P w K mg base 2 "Told" c_Told ["self", "rooms"] (spTold c_Told))
    (M_call : Mf P w K mg base 1 c_Told "__call__" ["self", "room", "needed"] (spToldC c_Told)) (hcall : ∀ f, PySem.W.findIn K (.ref c_Told) "__call__" = some (some (.ref f)) → PySem.W.fnIn K f = true)
    (M_asked : Mf P w K mg base 1 c_Told "asked" ["self"] (spAsked c_Told)) (M_left : Pf P w K mg base 1 c_Told "left" (spLeft c_Told)) : Dg P w K mg base 4 "_law_turns_right" f ["_law_bag_here", "_law_lots"] spTurns := by
  refine F.okG sc_l_turns_right (fun vs H Q E h => ?_) (fun cdv A outer s H vs Q E hg hr h => ?_)
  · obtain ⟨b, Lo, q0, q1, r0, r1, R, rfl, _⟩ := h
    rfl
  obtain ⟨b, Lo, q0, q1, r0, r1, R, rfl, l0, l1, b0, b1, S, q⟩ := h
  refine ⟨_, (pss_cons (ps_setLc (i := 2) (own := [("_law_rooms", 14)]) rfl sc_l_turns_right.nd rfl rfl (sw_true rfl rfl rfl (by decide +kernel)) (pi_listK K (pv 1)) (blkOk_by (own := [("_law_rooms", 14)]) (N := N_l_turns_right) (sc := defScope s_l_turns_right) (by decide +kernel)) (fun _ _ _ _ _ => (pg_name (i := 14) sc_l_turns_right.nd rfl (by first | exact Or.inl rfl | exact Or.inr rfl))) (fun _ _ _ _ _ => pts_nil) (fun _ _ _ _ _ => (pe_callTy (r := cList K) call_list_of (by rfl) T.z_list (by decide +kernel) (pa_cons (pv 14) pa_nil))))
      (pss_cons (ps_par3 (i := 3) (j := 4) (l := 5) rfl sc_l_turns_right.nd rfl rfl rfl (by decide) (by decide) (by decide) rfl rfl rfl (pa_cons (pe_lc (own := [("_law_some", 6)]) rfl sc_l_turns_right.nd (pi_listK K (pv 2)) (blkOk_by (own := [("_law_some", 6)]) (N := N_l_turns_right) (sc := defScope s_l_turns_right) (by decide +kernel)) (fun _ _ _ _ _ => (pg_name (i := 6) sc_l_turns_right.nd rfl (by first | exact Or.inl rfl | exact Or.inr rfl))) (fun _ _ _ _ _ => pts_nil) (fun _ _ _ _ _ => (pe_cf M_Told (hr.mono (by decide)) (pa_cons (pv 6) pa_nil)))) (pa_cons (pe_lst (pa_cons (pe_lst pa_nil) (pa_cons (pe_lst pa_nil) pa_nil))) (pa_cons (pe_lc (own := [("_law_rooms", 14)]) rfl sc_l_turns_right.nd (pi_listK K (pv 1)) (blkOk_by (own := [("_law_rooms", 14)]) (N := N_l_turns_right) (sc := defScope s_l_turns_right) (by decide +kernel)) (fun _ _ _ _ _ => (pg_name (i := 14) sc_l_turns_right.nd rfl (by first | exact Or.inl rfl | exact Or.inr rfl))) (fun _ _ _ _ _ => pts_nil) (fun _ _ _ _ _ => (pe_callTy (r := cList K) call_list_of (by rfl) T.z_list (by decide +kernel) (pa_cons (pv 14) pa_nil)))) pa_nil))) rfl)
      (pss_cons (ps_for PassesOwn.never rfl (pi_listK K (pv 2)) (pg_name (i := 6) sc_l_turns_right.nd rfl (by first | exact Or.inl rfl | exact Or.inr rfl)) (pss_cons (ps_expr (pe_bm0K K PySem.F.plainAttrs_list PySem.F.slot_list_reverse PySem.F.type_list_reverse mt_reverse (pv 6)))
      (pss_one (ps_expr (pe_bmK K PySem.F.plainAttrs_list PySem.F.slot_list_append PySem.F.type_list_append mt_append (pv 6) (pa_cons pe_non pa_nil))))))
      (pss_cons (ps_for PassesOwn.never rfl (pi_range1 rfl T.z_range (pa_cons pe_int pa_nil)) (pg_name (i := 7) sc_l_turns_right.nd rfl (by first | exact Or.inl rfl | exact Or.inr rfl)) (pss_cons (ps_par3 (i := 8) (j := 9) (l := 10) rfl sc_l_turns_right.nd rfl rfl rfl (by decide) (by decide) (by decide) rfl rfl rfl (pa_cons (pe_df D_l_take (hr.mono (by decide)) (pa_cons (pv 0) (pa_cons pe_int pa_nil))) (pa_cons (pe_df D_l_number (hr.mono (by decide)) (pa_cons (pv 0) pa_nil)) (pa_cons (pe_df D_l_number (hr.mono (by decide)) (pa_cons (pv 0) pa_nil)) pa_nil))) rfl)
      (C8.pss_cut (ps_set (i := 11) sc_l_turns_right.nd rfl (by first | exact Or.inl rfl | exact Or.inr rfl) (pe_ifExp (pt_cmpR (r := rNeA K) (op_neA hr.units) (pe_ix (r := rIx K) ix_seq (pv 5) (pv 8) (fun _ _ => rfl)) (pe_lst pa_nil) (nomark _)) (pe_bmK K PySem.F.plainAttrs_list PySem.F.slot_list_pop PySem.F.type_list_pop mt_popAt (pe_ix (r := rIx K) ix_seq (pv 5) (pv 8) (fun _ _ => rfl)) (pa_cons pe_int pa_nil)) (pv 10)))
      (pss_cons (ps_expr (pe_bmK K PySem.F.plainAttrs_list PySem.F.slot_list_append PySem.F.type_list_append mt_append (pe_ix (r := rIx K) ix_seq (pv 4) (pv 8) (fun _ _ => rfl)) (pa_cons (pe_tup (pa_cons (pv 9) (pa_cons (pv 10) pa_nil))) pa_nil)))
      (pss_cons (ps_if (pt_not (pt_val (pe_dg D_l_alike hg (hr.mono (by decide)) (pa_cons (pe_mfE M_call hcall (hr.mono (by decide)) (pe_ix (r := rIx K) ix_seq (pv 3) (pv 8) (fun _ _ => rfl)) (pa_cons (pv 9) (pa_cons (pv 10) pa_nil))) (pa_cons (pv 11) pa_nil))))) (pss_one (ps_ret pe_bl)) pss_nil)
      (pss_one (ps_for PassesOwn.never rfl (pi_range1 rfl T.z_range (pa_cons pe_int pa_nil)) (pg_name (i := 12) sc_l_turns_right.nd rfl (by first | exact Or.inl rfl | exact Or.inr rfl)) (pss_cons (ps_set (i := 13) sc_l_turns_right.nd rfl (by first | exact Or.inl rfl | exact Or.inr rfl) (pe_mf0 M_asked (hr.mono (by decide)) (pe_ix (r := rIx K) ix_seq (pv 3) (pv 12) (fun _ _ => rfl))))
      (pss_cons (ps_if (pt_not (pt_val (pe_dg D_l_alike hg (hr.mono (by decide)) (pa_cons (pe_lst (pa_cons (pv 13) (pa_cons (pe_pr M_left (hr.mono (by decide)) (pe_ix (r := rIx K) ix_seq (pv 3) (pv 12) (fun _ _ => rfl))) pa_nil))) (pa_cons (pe_lst (pa_cons (pe_ix (r := rIx K) ix_seq (pv 4) (pv 12) (fun _ _ => rfl)) (pa_cons (pe_callB (r := cOr (cLenQ K) cLenS) call_lenA (by rfl) T.z_len (by decide +kernel) (pa_cons (pe_ix (r := rIx K) ix_seq (pv 5) (pv 12) (fun _ _ => rfl)) pa_nil)) pa_nil))) pa_nil))))) (pss_one (ps_ret pe_bl)) pss_nil)
      (pss_one (ps_expr (pe_bm0K K PySem.F.plainAttrs_list PySem.F.slot_list_clear PySem.F.type_list_clear mt_clear (pv 13)))))))))))))
      (pss_one (ps_ret pe_bl)))))), ?_⟩
  walk_at "go"
  refine r_lc_list (xs := [.ref q0, .ref q1]) (fun i acc Ps => (i = 0 ∧ acc = [] ∧ Ps = bag b :: pt Lo (.lst [.ref q0, .ref q1]) :: pt q0 (.lst (r0.map V.int)) :: pt q1 (.lst (r1.map V.int)) :: R) ∨ (i = 1 ∧ ∃ h0, acc = [.ref h0] ∧ Ps = pt h0 (.lst (r0.map V.int)) :: bag b :: pt Lo (.lst [.ref q0, .ref q1]) :: pt q0 (.lst (r0.map V.int)) :: pt q1 (.lst (r1.map V.int)) :: R) ∨ (i = 2 ∧ ∃ h0 h1, acc = [.ref h0, .ref h1] ∧ Ps = pt h1 (.lst (r1.map V.int)) :: pt h0 (.lst (r0.map V.int)) :: bag b :: pt Lo (.lst [.ref q0, .ref q1]) :: pt q0 (.lst (r0.map V.int)) :: pt q1 (.lst (r1.map V.int)) :: R)) S (.inl ⟨rfl, rfl, rfl⟩)
    (fun D i acc Ps H hi j S => by rcases j with ⟨_, _, e⟩ | ⟨_, _, _, e⟩ | ⟨_, _, _, _, e⟩ <;> (rw [e] at S; walk_at "sq")) (by walk_at "sq") ?_ ?_
  · rintro D i x acc Ps H hx (⟨rfl, rfl, rfl⟩ | ⟨rfl, h0, rfl, rfl⟩ | ⟨rfl, _, _, _, _⟩) S
    · cases hx
      walk_at "go"
      refine ⟨rfl, ?_⟩
      walk_at "go"

      exact cn_in (S.sel (As := [pt D (.lst []), pt p (.lst (r0.map V.int)), bag b, pt Lo (.lst [.ref q0, .ref q1]), pt q0 (.lst (r0.map V.int)), pt q1 (.lst (r1.map V.int))]) (Rs := R) (by walk_at "sel")) (by decide) (.inr (.inl ⟨rfl, _, rfl, rfl⟩))
    · cases hx
      walk_at "go"
      refine ⟨rfl, ?_⟩
      walk_at "go"

      exact cn_in (S.sel (As := [pt D (.lst [.ref h0]), pt p (.lst (r1.map V.int)), pt h0 (.lst (r0.map V.int)), bag b, pt Lo (.lst [.ref q0, .ref q1]), pt q0 (.lst (r0.map V.int)), pt q1 (.lst (r1.map V.int))]) (Rs := R) (by walk_at "sel")) (by simp) (.inr (.inr ⟨rfl, _, _, rfl, rfl⟩))
    · cases hx
  rintro Ha acc Ps H (⟨h, _⟩ | ⟨h, _⟩ | ⟨_, h0, h1, rfl, rfl⟩) S
  · cases h
  · cases h
  walk_at "go"
  have S : Sep (pt Ha (.lst [.ref h0, .ref h1]) :: pt h0 (.lst (r0.map V.int)) :: pt h1 (.lst (r1.map V.int)) :: bag b :: pt Lo (.lst [.ref q0, .ref q1]) :: pt q0 (.lst (r0.map V.int)) :: pt q1 (.lst (r1.map V.int)) :: R) H := S.sel (As := [pt Ha (.lst [.ref h0, .ref h1]), pt h0 (.lst (r0.map V.int)), pt h1 (.lst (r1.map V.int)), bag b, pt Lo (.lst [.ref q0, .ref q1]), pt q0 (.lst (r0.map V.int)), pt q1 (.lst (r1.map V.int))]) (Rs := R) (by walk_at "sel")
  refine r_lc_list (xs := [.ref h0, .ref h1]) (fun i acc Ps => (i = 0 ∧ acc = [] ∧ Ps = pt Ha (.lst [.ref h0, .ref h1]) :: pt h0 (.lst (r0.map V.int)) :: pt h1 (.lst (r1.map V.int)) :: bag b :: pt Lo (.lst [.ref q0, .ref q1]) :: pt q0 (.lst (r0.map V.int)) :: pt q1 (.lst (r1.map V.int)) :: R) ∨ (i = 1 ∧ ∃ a0, acc = [.ref a0] ∧ Ps = toP c_Told a0 r0 [] :: pt Ha (.lst [.ref h0, .ref h1]) :: pt h0 (.lst (r0.map V.int)) :: pt h1 (.lst (r1.map V.int)) :: bag b :: pt Lo (.lst [.ref q0, .ref q1]) :: pt q0 (.lst (r0.map V.int)) :: pt q1 (.lst (r1.map V.int)) :: R) ∨ (i = 2 ∧ ∃ a0 a1, acc = [.ref a0, .ref a1] ∧ Ps = toP c_Told a1 r1 [] :: toP c_Told a0 r0 [] :: pt Ha (.lst [.ref h0, .ref h1]) :: pt h0 (.lst (r0.map V.int)) :: pt h1 (.lst (r1.map V.int)) :: bag b :: pt Lo (.lst [.ref q0, .ref q1]) :: pt q0 (.lst (r0.map V.int)) :: pt q1 (.lst (r1.map V.int)) :: R)) S (.inl ⟨rfl, rfl, rfl⟩)
    (fun D i acc Ps H hi j S => by rcases j with ⟨_, _, e⟩ | ⟨_, _, _, e⟩ | ⟨_, _, _, _, e⟩ <;> (rw [e] at S; walk_at "sq")) (by walk_at "sq") ?_ ?_
  · rintro D i x acc Ps H hx (⟨rfl, rfl, rfl⟩ | ⟨rfl, a0, rfl, rfl⟩ | ⟨rfl, _, _, _, _⟩) S
    · cases hx
      walk_at "go"
      refine ⟨rfl, ?_⟩
      walk_at "go"
      refine ⟨x, dx, h0, r0, _, rfl, by omega, S.s2 (A := pt x (.ins c_Told dx [])) (B := pt h0 (.lst (r0.map V.int))) (by walk_at "sel"), fun H S => ⟨rfl, ?_⟩⟩
      exact cn_in (S.sel (As := [pt D (.lst []), toP c_Told x r0 [], pt Ha (.lst [.ref h0, .ref h1]), pt h0 (.lst (r0.map V.int)), pt h1 (.lst (r1.map V.int)), bag b, pt Lo (.lst [.ref q0, .ref q1]), pt q0 (.lst (r0.map V.int)), pt q1 (.lst (r1.map V.int))]) (Rs := R) (by walk_at "sel")) (by decide) (.inr (.inl ⟨rfl, _, rfl, rfl⟩))
    · cases hx
      walk_at "go"
      refine ⟨rfl, ?_⟩
      walk_at "go"
      refine ⟨x, dx, h1, r1, _, rfl, by omega, S.s2 (A := pt x (.ins c_Told dx [])) (B := pt h1 (.lst (r1.map V.int))) (by walk_at "sel"), fun H S => ⟨rfl, ?_⟩⟩
      exact cn_in (S.sel (As := [pt D (.lst [.ref a0]), toP c_Told x r1 [], toP c_Told a0 r0 [], pt Ha (.lst [.ref h0, .ref h1]), pt h0 (.lst (r0.map V.int)), pt h1 (.lst (r1.map V.int)), bag b, pt Lo (.lst [.ref q0, .ref q1]), pt q0 (.lst (r0.map V.int)), pt q1 (.lst (r1.map V.int))]) (Rs := R) (by walk_at "sel")) (by simp) (.inr (.inr ⟨rfl, _, _, rfl, rfl⟩))
    · cases hx
  rintro Ru acc Ps H (⟨h, _⟩ | ⟨h, _⟩ | ⟨_, a0, a1, rfl, rfl⟩) S
  · cases h
  · cases h
  walk_at "go"
  rename_i k0 _ _ k1 _ _
  obtain ⟨As, hq1⟩ : ∃ q, q = p := ⟨p, rfl⟩
  subst hq1
  have S : Sep (pt Ru (.lst [.ref a0, .ref a1]) :: toP c_Told a1 r1 [] :: toP c_Told a0 r0 [] :: pt As (.lst [.ref k0, .ref k1]) :: pt k0 (.lst []) :: pt k1 (.lst []) :: pt Ha (.lst [.ref h0, .ref h1]) :: pt h0 (.lst (r0.map V.int)) :: pt h1 (.lst (r1.map V.int)) :: bag b :: pt Lo (.lst [.ref q0, .ref q1]) :: pt q0 (.lst (r0.map V.int)) :: pt q1 (.lst (r1.map V.int)) :: R) H := S.sel (As := [pt Ru (.lst [.ref a0, .ref a1]), toP c_Told a1 r1 [], toP c_Told a0 r0 [], pt As (.lst [.ref k0, .ref k1]), pt k0 (.lst []), pt k1 (.lst []), pt Ha (.lst [.ref h0, .ref h1]), pt h0 (.lst (r0.map V.int)), pt h1 (.lst (r1.map V.int)), bag b, pt Lo (.lst [.ref q0, .ref q1]), pt q0 (.lst (r0.map V.int)), pt q1 (.lst (r1.map V.int))]) (Rs := R) (by walk_at "sel")
  refine r_lc_list (xs := [.ref q0, .ref q1]) (fun i acc Ps => (i = 0 ∧ acc = [] ∧ Ps = pt Ru (.lst [.ref a0, .ref a1]) :: toP c_Told a1 r1 [] :: toP c_Told a0 r0 [] :: pt As (.lst [.ref k0, .ref k1]) :: pt k0 (.lst []) :: pt k1 (.lst []) :: pt Ha (.lst [.ref h0, .ref h1]) :: pt h0 (.lst (r0.map V.int)) :: pt h1 (.lst (r1.map V.int)) :: bag b :: pt Lo (.lst [.ref q0, .ref q1]) :: pt q0 (.lst (r0.map V.int)) :: pt q1 (.lst (r1.map V.int)) :: R) ∨ (i = 1 ∧ ∃ f0, acc = [.ref f0] ∧ Ps = pt f0 (.lst (r0.map V.int)) :: pt Ru (.lst [.ref a0, .ref a1]) :: toP c_Told a1 r1 [] :: toP c_Told a0 r0 [] :: pt As (.lst [.ref k0, .ref k1]) :: pt k0 (.lst []) :: pt k1 (.lst []) :: pt Ha (.lst [.ref h0, .ref h1]) :: pt h0 (.lst (r0.map V.int)) :: pt h1 (.lst (r1.map V.int)) :: bag b :: pt Lo (.lst [.ref q0, .ref q1]) :: pt q0 (.lst (r0.map V.int)) :: pt q1 (.lst (r1.map V.int)) :: R) ∨ (i = 2 ∧ ∃ f0 f1, acc = [.ref f0, .ref f1] ∧ Ps = pt f1 (.lst (r1.map V.int)) :: pt f0 (.lst (r0.map V.int)) :: pt Ru (.lst [.ref a0, .ref a1]) :: toP c_Told a1 r1 [] :: toP c_Told a0 r0 [] :: pt As (.lst [.ref k0, .ref k1]) :: pt k0 (.lst []) :: pt k1 (.lst []) :: pt Ha (.lst [.ref h0, .ref h1]) :: pt h0 (.lst (r0.map V.int)) :: pt h1 (.lst (r1.map V.int)) :: bag b :: pt Lo (.lst [.ref q0, .ref q1]) :: pt q0 (.lst (r0.map V.int)) :: pt q1 (.lst (r1.map V.int)) :: R)) S (.inl ⟨rfl, rfl, rfl⟩)
    (fun D i acc Ps H hi j S => by rcases j with ⟨_, _, e⟩ | ⟨_, _, _, e⟩ | ⟨_, _, _, _, e⟩ <;> (rw [e] at S; walk_at "sq")) (by walk_at "sq") ?_ ?_
  · rintro D i x acc Ps H hx (⟨rfl, rfl, rfl⟩ | ⟨rfl, f0, rfl, rfl⟩ | ⟨rfl, _, _, _, _⟩) S
    · cases hx
      walk_at "go"
      refine ⟨rfl, ?_⟩
      walk_at "go"

      exact cn_in (S.sel (As := [pt D (.lst []), pt p (.lst (r0.map V.int)), pt Ru (.lst [.ref a0, .ref a1]), toP c_Told a1 r1 [], toP c_Told a0 r0 [], pt As (.lst [.ref k0, .ref k1]), pt k0 (.lst []), pt k1 (.lst []), pt Ha (.lst [.ref h0, .ref h1]), pt h0 (.lst (r0.map V.int)), pt h1 (.lst (r1.map V.int)), bag b, pt Lo (.lst [.ref q0, .ref q1]), pt q0 (.lst (r0.map V.int)), pt q1 (.lst (r1.map V.int))]) (Rs := R) (by walk_at "sel")) (by decide) (.inr (.inl ⟨rfl, _, rfl, rfl⟩))
    · cases hx
      walk_at "go"
      refine ⟨rfl, ?_⟩
      walk_at "go"

      exact cn_in (S.sel (As := [pt D (.lst [.ref f0]), pt p (.lst (r1.map V.int)), pt f0 (.lst (r0.map V.int)), pt Ru (.lst [.ref a0, .ref a1]), toP c_Told a1 r1 [], toP c_Told a0 r0 [], pt As (.lst [.ref k0, .ref k1]), pt k0 (.lst []), pt k1 (.lst []), pt Ha (.lst [.ref h0, .ref h1]), pt h0 (.lst (r0.map V.int)), pt h1 (.lst (r1.map V.int)), bag b, pt Lo (.lst [.ref q0, .ref q1]), pt q0 (.lst (r0.map V.int)), pt q1 (.lst (r1.map V.int))]) (Rs := R) (by walk_at "sel")) (by simp) (.inr (.inr ⟨rfl, _, _, rfl, rfl⟩))
    · cases hx
  rintro Le acc Ps H (⟨h, _⟩ | ⟨h, _⟩ | ⟨_, f0, f1, rfl, rfl⟩) S
  · cases h
  · cases h
  walk_at "go"
  refine r_for_list (xs := [.ref h0, .ref h1]) (fun i σ Ps => ∃ ys0 ys1 u6, ys0.length ≤ 4 + i ∧ ys1.length ≤ 4 + i ∧ σ = [some (.ref b), some (.ref Lo), some (.ref Ha), some (.ref Ru), some (.ref As), some (.ref Le), u6, none, none, none, none, none, none, none, none] ∧ Ps = pt Ha (.lst [.ref h0, .ref h1]) :: pt h0 (.lst ys0) :: pt h1 (.lst ys1) :: pt Le (.lst [.ref f0, .ref f1]) :: pt f1 (.lst (r1.map V.int)) :: pt f0 (.lst (r0.map V.int)) :: pt Ru (.lst [.ref a0, .ref a1]) :: toP c_Told a1 r1 [] :: toP c_Told a0 r0 [] :: pt As (.lst [.ref k0, .ref k1]) :: pt k0 (.lst []) :: pt k1 (.lst []) :: bag b :: R)
    (S.sel (As := [pt Ha (.lst [.ref h0, .ref h1]), pt h0 (.lst (r0.map V.int)), pt h1 (.lst (r1.map V.int)), pt Le (.lst [.ref f0, .ref f1]), pt f1 (.lst (r1.map V.int)), pt f0 (.lst (r0.map V.int)), pt Ru (.lst [.ref a0, .ref a1]), toP c_Told a1 r1 [], toP c_Told a0 r0 [], pt As (.lst [.ref k0, .ref k1]), pt k0 (.lst []), pt k1 (.lst []), bag b]) (Rs := R) (by walk_at "sel")) ⟨_, _, _, by rw [List.length_map]; omega, by rw [List.length_map]; omega, rfl, rfl⟩ ?_ ?_ ?_
  · rintro i σ Ps H hi ⟨ys0, ys1, u6, z0, z1, rfl, rfl⟩ S
    walk_at "sq"
  · rintro i x σ Ps H hx ⟨ys0, ys1, u6, z0, z1, rfl, rfl⟩ S
    have hi2 := (List.getElem?_eq_some_iff.mp hx).1
    have hi2 : i < 2 := hi2
    have hm := List.mem_of_getElem? hx
    simp only [List.mem_cons, List.not_mem_nil, or_false] at hm
    rcases hm with rfl | rfl
    · walk_at "go"
      exact ⟨_, ⟨_, _, _, by simp; omega, by omega, rfl, rfl⟩, S⟩
    · walk_at "go"
      exact ⟨_, ⟨_, _, _, by omega, by simp; omega, rfl, rfl⟩, S⟩
  rintro σ Ps H ⟨ys0, ys1, u6, _, _, rfl, rfl⟩ S
  walk_at "go"
  have S := tups_nil (tups_nil (tups_nil (tups_nil S)))
  have S := S.sel (As := [toP c_Told a0 r0 [], tups [], pt k0 (.lst []), tups [], pt f0 (.lst (r0.map V.int)), toP c_Told a1 r1 [], tups [], pt k1 (.lst []), tups [], pt f1 (.lst (r1.map V.int)), pt Ru (.lst [.ref a0, .ref a1]), pt As (.lst [.ref k0, .ref k1]), pt Le (.lst [.ref f0, .ref f1]), bag b]) (Rs := R) (by walk_at "sel")
  obtain ⟨s0, hs0⟩ : ∃ s : Sd, s = ⟨a0, k0, f0, r0, [], []⟩ := ⟨_, rfl⟩
  obtain ⟨s1, hs1⟩ : ∃ s : Sd, s = ⟨a1, k1, f1, r1, [], []⟩ := ⟨_, rfl⟩
  have S : Sep (sideP c_Told s0 :: sideP c_Told s1 :: pt Ru (.lst [.ref s0.a, .ref s1.a]) :: pt As (.lst [.ref s0.Ak, .ref s1.Ak]) :: pt Le (.lst [.ref s0.Lf, .ref s1.Lf]) :: bag b :: R) H := by
    subst hs0 hs1
    exact Sep.cons_mono (fun _ S => Sep.unflat (As := [_, _, _, _, _]) S) (Sep.unflat (As := [_, _, _, _, _]) S)
  have ok0 : SdOk s0 0 := by
    subst hs0
    exact ⟨rfl, Nat.le_refl _, l0, b0, fun e h => by cases h⟩
  have ok1 : SdOk s1 0 := by
    subst hs1
    exact ⟨rfl, Nat.le_refl _, l1, b1, fun e h => by cases h⟩
  clear hs0 hs1
  have ok01 : ∀ j : Nat, SdOk ((fun j => if j = 0 then s0 else s1) j) 0 := fun j => by
    show SdOk (if j = 0 then s0 else s1) 0
    split
    · exact ok0
    · exact ok1
  refine r_for_rng (fun i σ Ps => ∃ (s : Nat → Sd) (u6 u7 u8 u9 u10 u11 u12 u13 : Option V), (∀ j, SdOk (s j) i) ∧ σ = [some (.ref b), some (.ref Lo), some (.ref Ha), some (.ref Ru), some (.ref As), some (.ref Le), u6, u7, u8, u9, u10, u11, u12, u13, none] ∧ Ps = sideP c_Told (s 0) :: sideP c_Told (s 1) :: pt Ru (.lst [.ref (s 0).a, .ref (s 1).a]) :: pt As (.lst [.ref (s 0).Ak, .ref (s 1).Ak]) :: pt Le (.lst [.ref (s 0).Lf, .ref (s 1).Lf]) :: bag b :: R)
    S (by decide) (by decide) ⟨fun j => if j = 0 then s0 else s1, _, _, _, _, _, _, _, _, ok01, rfl, rfl⟩ ?_ ?_
  · clear ok0 ok1 S
    rintro i σ Ps H hi ⟨s, u6, u7, u8, u9, u10, u11, u12, u13, ok, rfl, rfl⟩ S
    have hi : i < 7 := hi
    walk_at "go"
    refine ⟨b, 2, _, rfl, by decide, by decide, S.s1 (by walk_at "sel"), fun v H v0 v1 S => ?_⟩
    walk_at "go"
    refine ⟨b, _, rfl, S.s1 (by walk_at "sel"), fun room H hroom S => ?_⟩
    walk_at "go"
    refine ⟨b, _, rfl, S.s1 (by walk_at "sel"), fun needed H hneed S => ?_⟩
    obtain ⟨k, rfl⟩ := Int.eq_ofNat_of_zero_le v0
    have hk : k = 0 ∨ k = 1 := by omega
    walk_at "go"
    have S := S.sel (As := [sideP c_Told (s 0), sideP c_Told (s 1), pt Ru (.lst [.ref (s 0).a, .ref (s 1).a]), pt As (.lst [.ref (s 0).Ak, .ref (s 1).Ak]), pt Le (.lst [.ref (s 0).Lf, .ref (s 1).Lf]), bag b]) (Rs := R) (by walk_at "sel")
    have S : Sep (sideP c_Told (s k) :: sideP c_Told (s (1 - k)) :: pt Ru (.lst [.ref (s 0).a, .ref (s 1).a]) :: pt As (.lst [.ref (s 0).Ak, .ref (s 1).Ak]) :: pt Le (.lst [.ref (s 0).Lf, .ref (s 1).Lf]) :: bag b :: R) H := swap2 (f := fun j => sideP c_Told (s j)) hk S
    have iRu : atI [V.ref (s 0).a, V.ref (s 1).a] (k : Int) = some (.ref (s k).a) := by rcases hk with rfl | rfl <;> rfl
    have iAs : atI [V.ref (s 0).Ak, V.ref (s 1).Ak] (k : Int) = some (.ref (s k).Ak) := by rcases hk with rfl | rfl <;> rfl
    have iLe : atI [V.ref (s 0).Lf, V.ref (s 1).Lf] (k : Int) = some (.ref (s k).Lf) := by rcases hk with rfl | rfl <;> rfl
    have S := sd_open S
    have okk := ok k
    refine q_cut (Mid := fun σ H => σ = [some (.ref b), some (.ref Lo), some (.ref Ha), some (.ref Ru), some (.ref As), some (.ref Le), u6, some (.int i), some (.int k), some (.int room), some (.int needed), some (.int ((s k).rooms[(s k).l.length]?.getD needed)), u12, u13, none] ∧
      Sep (toP c_Told (s k).a (s k).rooms ((s k).l.map (·.1)) :: tups (s k).l :: pt (s k).Ak (.lst ((s k).ka.map fun e => V.ref e.1)) :: tups (s k).ka :: pt (s k).Lf (.lst (((s k).rooms.drop ((s k).l.length + 1)).map V.int)) :: sideP c_Told (s (1 - k)) :: pt Ru (.lst [.ref (s 0).a, .ref (s 1).a]) :: pt As (.lst [.ref (s 0).Ak, .ref (s 1).Ak]) :: pt Le (.lst [.ref (s 0).Lf, .ref (s 1).Lf]) :: bag b :: R) H) ?_ ?_
    · walk_at "go"
      refine r_ne_ints (m1 := (s k).rooms.drop (s k).l.length) (m2 := []) (by walk_at "sq") (SqL.of S.hd_at) ?_
      walk_at "go"
      refine q_iteN (fun hne => ?_) (fun he => ?_)
      · obtain ⟨z, zs, hd⟩ := List.exists_cons_of_ne_nil hne
        have hlt : (s k).l.length < (s k).rooms.length := by
          have := congrArg List.length hd
          rw [List.length_drop, List.length_cons] at this
          omega
        have hz : (s k).rooms[(s k).l.length]? = some z := by
          have e := List.getElem?_drop (xs := (s k).rooms) (i := (s k).l.length) (j := 0)
          rw [hd] at e
          exact e.symm
        have hzs : (s k).rooms.drop ((s k).l.length + 1) = zs := by
          have e := congrArg (List.drop 1) hd
          rw [List.drop_drop] at e
          exact e
        rw [hz, hzs]
        rw [hd, List.map_cons] at S
        walk_at "go"
        refine r_pop0 S (by walk_at "rep") fun H S => ?_
        walk_at "go"
        exact ⟨rfl, S.tl⟩
      · walk_at "go"
        have hle : (s k).rooms.length ≤ (s k).l.length := List.drop_eq_nil_iff.mp he
        rw [List.getElem?_eq_none hle, List.drop_eq_nil_of_le (by omega)]
        rw [he] at S
        exact ⟨rfl, S.tl⟩
    rintro σ H ⟨rfl, S⟩
    have hkl : (s k).ka.length ≤ 7 := by
      rw [okk.kl]
      have := okk.ln
      omega
    walk_at "go"
    refine r_callE ?_
    walk_at "go"
    refine ⟨(s k).a, rfl, ?_⟩
    walk_at "go"
    obtain ⟨tp, hq1⟩ : ∃ q, q = p := ⟨p, rfl⟩
    subst hq1
    have S := S.s1 (A := toP c_Told (s k).a (s k).rooms ((s k).l.map (·.1))) (by walk_at "sel")
    obtain ⟨dt, Lt, Mt, St⟩ := to_open S
    have hIns := St.hd_at
    clear St
    have hll := okk.ln
    have hrl := okk.rl
    refine ⟨dt, _, hIns, (s k).a, (s k).rooms, (s k).l.map (·.1), room, needed, _, rfl, by rw [List.length_map]; omega, S, fun t H S => ?_⟩
    clear hIns
    rw [List.length_map]
    have hdue : ((s k).rooms[(s k).l.length]?.getD needed).natAbs < 10 ^ 60 := by
      cases e : (s k).rooms[(s k).l.length]? with
      | none => show needed.natAbs < _; omega
      | some z => exact okk.rb z (List.mem_of_getElem? e)
    walk_at "go"
    refine .inl ⟨_, rfl, hdue, ?_⟩
    walk_at "go"
    obtain ⟨s2, hs2⟩ : ∃ s2 : Nat → Sd, s2 = fun j => if j = k then { s k with l := (s k).l ++ [(t, room, needed)], ka := (s k).ka ++ [(tp, room, needed)] } else s j := ⟨_, rfl⟩
    have e2k : s2 k = { s k with l := (s k).l ++ [(t, room, needed)], ka := (s k).ka ++ [(tp, room, needed)] } := by rw [hs2]; exact if_pos rfl
    have e2o : s2 (1 - k) = s (1 - k) := by rw [hs2]; exact if_neg (by omega)
    have ok2 : ∀ j, SdOk (s2 j) (i + 1) := fun j => by
      rw [hs2]
      show SdOk (if j = k then _ else s j) (i + 1)
      split
      · refine ⟨?_, ?_, okk.rl, okk.rb, fun e he => ?_⟩
        · show ((s k).l ++ [(t, room, needed)]).map (·.2) = ((s k).ka ++ [(tp, room, needed)]).map (·.2)
          rw [List.map_append, List.map_append, okk.eq]
          rfl
        · show ((s k).l ++ [(t, room, needed)]).length ≤ i + 1
          rw [List.length_append]
          show _ + 1 ≤ _
          omega
        · rcases List.mem_append.mp he with h | h
          · exact okk.kb e h
          · rw [List.mem_singleton.mp h]
            exact ⟨by show room.natAbs < _; omega, by show needed.natAbs < _; omega⟩
      · exact ⟨(ok j).eq, Nat.le_succ_of_le (ok j).ln, (ok j).rl, (ok j).rb, (ok j).kb⟩
    have ha : ∀ j, (s2 j).a = (s j).a ∧ (s2 j).Ak = (s j).Ak ∧ (s2 j).Lf = (s j).Lf := fun j => by
      rw [hs2]
      show (if j = k then _ else s j).a = (s j).a ∧ (if j = k then _ else s j).Ak = (s j).Ak ∧ (if j = k then _ else s j).Lf = (s j).Lf
      split
      · rename_i h
        subst h
        exact ⟨rfl, rfl, rfl⟩
      · exact ⟨rfl, rfl, rfl⟩
    have S : Sep (sideP c_Told (s2 0) :: sideP c_Told (s2 1) :: pt Ru (.lst [.ref (s2 0).a, .ref (s2 1).a]) :: pt As (.lst [.ref (s2 0).Ak, .ref (s2 1).Ak]) :: pt Le (.lst [.ref (s2 0).Lf, .ref (s2 1).Lf]) :: bag b :: R) H := by
      refine swap2b (f := fun j => sideP c_Told (s2 j)) hk ?_
      show Sep (sideP c_Told (s2 k) :: sideP c_Told (s2 (1 - k)) :: pt Ru (.lst [.ref (s2 0).a, .ref (s2 1).a]) :: pt As (.lst [.ref (s2 0).Ak, .ref (s2 1).Ak]) :: pt Le (.lst [.ref (s2 0).Lf, .ref (s2 1).Lf]) :: bag b :: R) H
      rw [(ha 0).1, (ha 1).1, (ha 0).2.1, (ha 1).2.1, (ha 0).2.2, (ha 1).2.2, e2o, e2k]
      have e1 : (s k).l.map (·.1) ++ [t] = ((s k).l ++ [(t, room, needed)]).map (·.1) := by rw [List.map_append]; rfl
      have e2 : ((s k).ka.map fun e => V.ref e.1) ++ [.ref tp] = ((s k).ka ++ [(tp, room, needed)]).map fun e => V.ref e.1 := by rw [List.map_append]; rfl
      have e3 : (s k).l.length + 1 = ((s k).l ++ [(t, room, needed)]).length := by rw [List.length_append]; rfl
      rw [e1, e2, e3] at S
      have S := S.s2 (A := pt t (.tup [.int room, .int needed])) (B := tups (s k).l) (by walk_at "sel")
      have S := tups_add S
      have S := S.s2 (A := pt tp (.tup [.int room, .int needed])) (B := tups (s k).ka) (by walk_at "sel")
      have S := tups_add S
      have S := S.sel (As := [toP c_Told (s k).a (s k).rooms (((s k).l ++ [(t, room, needed)]).map (·.1)), tups ((s k).l ++ [(t, room, needed)]), pt (s k).Ak (.lst (((s k).ka ++ [(tp, room, needed)]).map fun e => V.ref e.1)), tups ((s k).ka ++ [(tp, room, needed)]), pt (s k).Lf (.lst (((s k).rooms.drop ((s k).l ++ [(t, room, needed)]).length).map V.int)), sideP c_Told (s (1 - k)), pt Ru (.lst [.ref (s 0).a, .ref (s 1).a]), pt As (.lst [.ref (s 0).Ak, .ref (s 1).Ak]), pt Le (.lst [.ref (s 0).Lf, .ref (s 1).Lf]), bag b]) (Rs := R) (by walk_at "sel")
      exact sd_shut (s := { s k with l := (s k).l ++ [(t, room, needed)], ka := (s k).ka ++ [(tp, room, needed)] }) S
    clear ha e2o e2k hs2 hkl okk hrl hll ok iRu iAs iLe hk
    refine r_for_rng (fun j σ Ps => ∃ u12 u13 : Option V, σ = [some (.ref b), some (.ref Lo), some (.ref Ha), some (.ref Ru), some (.ref As), some (.ref Le), u6, some (.int i), some (.int k), some (.int room), some (.int needed), some (.int ((s k).rooms[(s k).l.length]?.getD needed)), u12, u13, none] ∧ Ps = sideP c_Told (s2 0) :: sideP c_Told (s2 1) :: pt Ru (.lst [.ref (s2 0).a, .ref (s2 1).a]) :: pt As (.lst [.ref (s2 0).Ak, .ref (s2 1).Ak]) :: pt Le (.lst [.ref (s2 0).Lf, .ref (s2 1).Lf]) :: bag b :: R)
      S (by decide) (by decide) ⟨_, _, rfl, rfl⟩ ?_ ?_
    · rintro j σ Ps H hj ⟨u12, u13, rfl, rfl⟩ S
      have hj : j = 0 ∨ j = 1 := by
        have : j < 2 := hj
        omega
      have S : Sep (sideP c_Told (s2 j) :: sideP c_Told (s2 (1 - j)) :: pt Ru (.lst [.ref (s2 0).a, .ref (s2 1).a]) :: pt As (.lst [.ref (s2 0).Ak, .ref (s2 1).Ak]) :: pt Le (.lst [.ref (s2 0).Lf, .ref (s2 1).Lf]) :: bag b :: R) H := swap2 (f := fun j => sideP c_Told (s2 j)) hj S
      have iRu : atI [V.ref (s2 0).a, V.ref (s2 1).a] (j : Int) = some (.ref (s2 j).a) := by rcases hj with rfl | rfl <;> rfl
      have iAs : atI [V.ref (s2 0).Ak, V.ref (s2 1).Ak] (j : Int) = some (.ref (s2 j).Ak) := by rcases hj with rfl | rfl <;> rfl
      have iLe : atI [V.ref (s2 0).Lf, V.ref (s2 1).Lf] (j : Int) = some (.ref (s2 j).Lf) := by rcases hj with rfl | rfl <;> rfl
      have S := sd_open S
      have okj := ok2 j
      have hIns : ∀ (H : Hp) (R' : List SP), Sep (toP c_Told (s2 j).a (s2 j).rooms ((s2 j).l.map (·.1)) :: R') H → ∃ dt fs, H (s2 j).a = some (.ins c_Told dt fs) ∧ fs.lookup ("asked" : Str) = none := fun H R' S => by
        obtain ⟨dt, Lt, Mt, St⟩ := to_open S
        exact ⟨dt, _, St.hd_at, rfl⟩
      obtain ⟨dt, fs, hI, hI2⟩ := hIns _ _ S
      walk_at "go"
      refine ⟨(s2 j).a, dt, fs, rfl, hI, hI2, ?_⟩
      clear hI hI2
      walk_at "go"
      refine ⟨(s2 j).a, (s2 j).rooms, (s2 j).l.map (·.1), _, rfl, S, fun D H S => ?_⟩
      have S := S.s2 (A := toP c_Told (s2 j).a (s2 j).rooms ((s2 j).l.map (·.1))) (B := pt D (.lst (((s2 j).l.map (·.1)).map V.ref))) (by walk_at "sel")
      obtain ⟨dt2, fs2, hI, hI2⟩ := hIns _ _ S
      walk_at "go"
      refine ⟨(s2 j).a, dt2, fs2, rfl, hI, (s2 j).a, (s2 j).rooms, (s2 j).l.map (·.1), _, rfl, S, ?_⟩
      clear hI hI2
      rw [List.length_map]
      walk_at "go"
      rename_i fo _ _
      rw [List.length_map, List.length_drop] at S
      have Sf := S.s1 (A := pt fo (.lst [.ref D, .int (((s2 j).rooms.length - (s2 j).l.length : Nat) : Int)])) (by walk_at "sel")
      have SD := S.s1 (A := pt D (.lst (((s2 j).l.map (·.1)).map V.ref))) (by walk_at "sel")
      have SA := S.s1 (A := pt (s2 j).Ak (.lst ((s2 j).ka.map fun e => V.ref e.1))) (by walk_at "sel")
      have Sl := S.s1 (A := tups (s2 j).l) (by walk_at "sel")
      have Sk := S.s1 (A := tups (s2 j).ka) (by walk_at "sel")
      have hD : SqL K H D ((s2 j).l.map fun e => V.ref e.1) := by
        have := SqL.of (K := K) SD.hd_at
        rw [List.map_map] at this
        exact this
      have d1 := dp_tups Sl hD
      have d2 := dp_tups (K := K) Sk (SqL.of SA.hd_at)
      rw [← okj.eq] at d2
      have hln := okj.ln
      have hrl := okj.rl
      have sh1 := sh_tp (l := (s2 j).l.map (·.2)) (by rw [List.length_map]; omega) (fun e he => by
        rw [okj.eq] at he
        obtain ⟨e', h1, rfl⟩ := List.mem_map.mp he
        exact okj.kb e' h1)
      have sh2 := sh_cons (k := 3) sh1 (sh_cons (k := 3) (sh_int (k := 3) (i := (((s2 j).rooms.length - (s2 j).l.length : Nat) : Int)) (by omega)) sh_nil)
      refine .inr ⟨fo, p, _, 10000, rfl, .lst (SqL.of Sf.hd_at) (.cons d1 (.cons (.int _) .nil)), .lst (SqL.of S.hd_at) (.cons d2 (.cons (.int _) .nil)), sh2.up (by decide) (by decide), by decide, ?_⟩
      clear Sf SD SA Sl Sk d1 d2 hD
      walk_at "go"
      have S := S.sel (As := [toP c_Told (s2 j).a (s2 j).rooms ((s2 j).l.map (·.1)), tups (s2 j).l, pt (s2 j).Ak (.lst ((s2 j).ka.map fun e => V.ref e.1)), tups (s2 j).ka, pt (s2 j).Lf (.lst (((s2 j).rooms.drop (s2 j).l.length).map V.int)), sideP c_Told (s2 (1 - j)), pt Ru (.lst [.ref (s2 0).a, .ref (s2 1).a]), pt As (.lst [.ref (s2 0).Ak, .ref (s2 1).Ak]), pt Le (.lst [.ref (s2 0).Lf, .ref (s2 1).Lf]), bag b]) (Rs := R) (by walk_at "sel")
      exact ⟨_, ⟨_, _, rfl, rfl⟩, swap2b (f := fun j => sideP c_Told (s2 j)) hj (sd_shut S)⟩
    · rintro σ Ps H ⟨u12, u13, rfl, rfl⟩ S
      exact ⟨_, ⟨s2, _, _, _, _, _, _, _, _, ok2, rfl, rfl⟩, S⟩
  · rintro σ Ps H ⟨s, u6, u7, u8, u9, u10, u11, u12, u13, ok, rfl, rfl⟩ S
    walk_at "go"
    exact q _ (S.s1 (by walk_at "sel"))
end

end Pf

set_option Elab.async false
set_option linter.all false
set_option maxRecDepth 100000
set_option maxHeartbeats 8000000
namespace Pf
open PySem L2 Kt
set_option hygiene false
local macro_rules | `(tactic| walk_at "mem") => `(tactic| (with_reducible (repeat (first | exact Pick.hd | apply Pick.tl)); done))
local macro_rules | `(tactic| walk_at "rep") => `(tactic| (with_reducible (repeat (first | exact Repl.hd | apply Repl.tl)); done))
local macro_rules | `(tactic| walk_at "sel") => `(tactic| ((repeat (with_reducible apply Sel.cons; (focus walk_at "mem"))); (with_reducible apply Sel.nil); (with_reducible (repeat (first | exact Dr.all | apply Dr.skip)); done)))
local macro_rules | `(tactic| walk_at "at") => `(tactic| (refine' Sep.at_ (by assumption) ?kkpk; (case kkpk => walk_at "mem")))
local macro_rules | `(tactic| walk_at "sq") => `(tactic| first | assumption | (refine' Sep.sq (by assumption) ?kkpk; (case kkpk => walk_at "mem")))
local macro_rules | `(tactic| walk_at "st") => `(tactic| first | assumption | (refine' Sep.st (by assumption) ?kkpk; (case kkpk => walk_at "mem")))
local macro_rules | `(tactic| walk_at "lk") => `(tactic| (repeat (first | (with_reducible exact lk_eq) | exact rfl | refine (lk_ne (by decide +kernel)).trans ?_)))
local macro_rules | `(tactic| walk_at "pf") => `(tactic| (repeat (first | (with_reducible exact pf_nil) | (with_reducible exact pf_eq) | (apply pf_ne; (focus decide +kernel)))))
local macro_rules | `(tactic| walk_at "ty") => `(tactic| first | exact ty_int | (refine' ty_lst ?kkh; (case kkh => walk_at "at")))
local macro_rules | `(tactic| walk_at "k1") => `(tactic| with_reducible first
  | refine q_seq ?_ | refine q_set ?_ | refine q_asg ?_ | refine q_ret ?_ | refine q_drop ?_ | refine q_next ?_ | refine q_c ?_ | refine q_op ?_ | refine q_un ?_ | refine q_nil ?_ | refine q_cons ?_ | refine q_cb ?_
  | refine q_call ?_ | refine q_ifs ?_ | refine q_if ?_ | refine q_test ?_ | refine q_tb ?_ | refine q_bl ?_ | refine q_notT ?_ | refine q_andT ?_ | refine q_orT ?_ | refine q_andV ?_ | refine q_orV ?_ | refine q_notV ?_
  | refine q_addA ?_ | refine q_subI ?_ | refine q_ltI ?_ | refine q_leI ?_ | refine q_gtI ?_ | refine q_geI ?_ | refine q_eqI ?_ | refine q_neI ?_ | refine q_abs ?_ | refine q_int ?_ | refine q_intB ?_ | refine q_max ?_ | refine q_min ?_
  | refine q_ipAdd ?_ | refine q_ipSub ?_ | refine q_gsub ?_ | refine q_augs ?_ | refine q_lst ?_ | refine q_tup ?_ | refine q_blI ?_ | refine iteT ?_ | refine iteF ?_ | refine iteNT ?_ | refine iteNF ?_
  | refine r_prop ?_ | refine r_fld ?_ | refine r_sfld ?_ | refine r_meth ?_ | refine r_make ?_ | refine r_sl ?_ | refine r_nopart ?_ | refine r_part ?_ | refine r_parti ?_ | refine r_gsl ?_ | refine r_bm ?_ | refine r_bm0 ?_ | refine r_for ?_ | refine r_ilist ?_ | refine r_irng ?_
  | refine r_gname ?_ | refine r_gcons ?_ | refine r_gnil ?_ | refine r_par ?_ | refine r_parA ?_ | refine r_chain ?_ | refine r_isN ?_ | refine r_tlc ?_ | refine r_yes ?_ | refine r_makek ?_ | refine r_neg ?_)
local macro_rules | `(tactic| walk_at "k2") => `(tactic| first
  | ((with_reducible refine' q_var ?kke ?_); (case kke => rfl))
  | ((with_reducible refine' q_aug ?kke ?_); (case kke => rfl))
  | ((with_reducible refine' q_ixL ?kks ?kke ?_); (case kks => walk_at "sq"); (case kke => first | rfl | assumption))
  | ((with_reducible refine' q_ixT ?kks ?kke ?_); (case kks => walk_at "st"); (case kke => first | rfl | assumption))
  | ((with_reducible refine' q_ixLL ?kks ?kke ?_); (case kks => walk_at "sq"); (case kke => first | rfl | assumption))
  | ((with_reducible refine' q_lenL ?kks ?_); (case kks => walk_at "sq"))
  | ((with_reducible refine' q_mulI ?kkc ?_); (case kkc => first | exact .inl (by omega) | exact .inr (by omega)))
  | ((with_reducible refine' q_modI ?kkc ?_); (case kkc => omega))
  | ((with_reducible refine' q_divI ?kkc ?_); (case kkc => exact ⟨by omega, by omega⟩))
  | ((with_reducible refine' q_powI ?kkc ?_); (case kkc => exact ⟨by decide, by decide, by decide⟩))
  | ((with_reducible refine' r_kfld ?kkS ?kkp ?kkc ?kkn ?kkl ?_); (case kkS => assumption); (case kkp => walk_at "mem"); (case kkc => walk_at "cls"); (case kkn => walk_at "na"); (case kkl => walk_at "lk"))
  | ((with_reducible refine' r_kprop ?kkS ?kkp ?_); (case kkS => assumption); (case kkp => walk_at "mem"))
  | ((with_reducible refine' r_kmeth ?kkS ?kkp ?kkl ?_); (case kkS => assumption); (case kkp => walk_at "mem"); (case kkl => walk_at "lk"))
  | ((with_reducible refine' r_calll ?kks ?_); (case kks => rfl))
  | ((with_reducible refine' r_tyl ?kks ?_); (case kks => walk_at "sq"))
  | ((with_reducible refine' r_isi (k := true) ?kkt ?kke ?_); (case kkt => walk_at "ty"); (case kke => decide +kernel))
  | ((with_reducible refine' r_isi (k := false) ?kkt ?kke ?_); (case kkt => walk_at "ty"); (case kke => decide +kernel)))
local macro_rules | `(tactic| walk_at "k3") => `(tactic| first
  | ((with_reducible refine' q_setS ?kkS ?kkr ?kke ?_); (case kkS => assumption); (case kkr => walk_at "rep"); (case kke => rfl); intro H S)
  | ((with_reducible refine' r_kset ?kkS ?kkr ?kkc ?kkn ?kkl ?kke ?_); (case kkS => assumption); (case kkr => walk_at "rep"); (case kkc => walk_at "cls"); (case kkn => walk_at "na"); (case kkl => first | exact Nat.le_of_ble_eq_true rfl | assumption | omega | (simp; done) | (simp; omega)); (case kke => walk_at "pf"); intro H S)
  | ((with_reducible refine' q_new ?kkS ?kkl ?_); (case kkS => assumption); (case kkl => first | exact Nat.le_of_ble_eq_true rfl | assumption | omega | (simp; done) | (simp; omega)); intro p H S)
  | ((with_reducible refine' q_newT ?kkS ?kkl ?_); (case kkS => assumption); (case kkl => first | exact Nat.le_of_ble_eq_true rfl | assumption | omega | (simp; done) | (simp; omega)); intro p H S)
  | ((with_reducible refine' r_knew ?kkS ?_); (case kkS => assumption); intro x dx H S)
  | ((with_reducible refine' r_knewk ?kkS ?kkl1 ?kkl2 ?_); (case kkS => assumption); (case kkl1 => rfl); (case kkl2 => rfl); intro x dx H S)
  | ((with_reducible refine' r_ksl ?kkS ?kks ?_); (case kkS => assumption); (case kks => walk_at "sq"); intro p H S)
  | ((with_reducible refine' r_list ?kkS ?kks ?_); (case kkS => assumption); (case kks => walk_at "sq"); intro p H S)
  | ((with_reducible refine' r_cat ?kkS ?kks1 ?kks2 ?kkz ?_); (case kkS => assumption); (case kks1 => walk_at "at"); (case kks2 => walk_at "at"); (case kkz => first | omega | (simp; omega)); intro p H S)
  | ((with_reducible refine' r_append ?kkS ?kkr ?kkz ?_); (case kkS => assumption); (case kkr => walk_at "rep"); (case kkz => first | omega | (simp; omega)); intro H S)
  | ((with_reducible refine' r_reverse ?kkS ?kkr ?_); (case kkS => assumption); (case kkr => walk_at "rep"); intro H S)
  | ((with_reducible refine' r_clear ?kkS ?kkr ?_); (case kkS => assumption); (case kkr => walk_at "rep"); intro H S))
local macro_rules | `(tactic| walk_at "gn") => `(tactic| repeat (first | walk_at "k1" | walk_at "k2"))
local macro_rules | `(tactic| walk_at "go") => `(tactic| repeat (first | walk_at "k1" | walk_at "k2" | walk_at "k3"))

local macro_rules | `(tactic| walk_at "k2") => `(tactic| first
  | ((with_reducible refine' r_isiY (k := true) ?kkt ?kke ?_); (case kkt => walk_at "ty"); (case kke => decide +kernel))
  | ((with_reducible refine' r_isiY (k := false) ?kkt ?kke ?_); (case kkt => walk_at "ty"); (case kke => decide +kernel)))

local macro_rules | `(tactic| walk_at "k1") => `(tactic| with_reducible first | refine r_par3 ?_ | refine r_parA3 ?_ | refine r_izip ?_ | refine r_irng2 ?_)

local macro_rules | `(tactic| walk_at "cls") => `(tactic| with_reducible first | assumption | exact Txt.cl_Told (by assumption))
local macro_rules | `(tactic| walk_at "na") => `(tactic| with_reducible first | assumption | exact Txt.na_Told__rooms (by assumption) | exact Txt.na_Told__asked (by assumption))
/-! ### many lists of ints as one part -/
abbrev IL := Addr × List Int
def bi (l : List IL) : SP := big (l.map fun e => (e.1, e.2.map V.int))
abbrev rf (l : List IL) : List V := l.map fun e => .ref e.1
theorem bi_nil {R : List SP} {H : Hp} (S : Sep R H) : Sep (bi [] :: R) H := big_nil S
theorem bi_add {l : List IL} {p : Addr} {xs : List Int} {R : List SP} {H : Hp} (S : Sep (pt p (.lst (xs.map V.int)) :: bi l :: R) H) : Sep (bi (l ++ [(p, xs)]) :: R) H := by
  have := big_add S
  unfold bi
  rw [List.map_append]
  exact this
theorem bi_mem {l : List IL} {p : Addr} {xs : List Int} {R : List SP} {H : Hp} (S : Sep (bi l :: R) H) (h : (p, xs) ∈ l) : H p = some (.lst (xs.map V.int)) := big_get S (List.mem_map.mpr ⟨(p, xs), h, rfl⟩)
abbrev dIL (l : List IL) : List PyData := l.map fun e => dInts e.2
theorem bi_dp {K : PySem.W.Frag} {l pool : List IL} {R : List SP} {H : Hp} (S : Sep (bi pool :: R) H) (h : ∀ e ∈ l, e ∈ pool) : DpAll K H (rf l) (dIL l) := dpall_of _ _ fun z m => dp_ints (SqL.of (bi_mem S (h z m)))
theorem dIL_eq {l l' : List IL} (e : l.map (·.2) = l'.map (·.2)) : dIL l = dIL l' := by
  have h : ∀ l : List IL, dIL l = (l.map (·.2)).map dInts := fun l => by simp [dIL]
  rw [h, h, e]

section
variable {P : Program} {w : World} {K : PySem.W.Frag} {mg : Str → Option Value} {base : Heap} {c_Told f_doubled f_exact : Addr}
theorem cut_ints {ns : List Int} {lo hi : Option Int} : ∃ zs : List Int, cutV (ns.map V.int) lo hi = zs.map V.int ∧ zs.length ≤ ns.length := by
  unfold cutV
  refine ⟨(ns.drop (HT.sIx (ns.map V.int).length 0 lo)).take (HT.sIx (ns.map V.int).length (ns.map V.int).length hi - HT.sIx (ns.map V.int).length 0 lo), by rw [List.map_take, List.map_drop], ?_⟩
  rw [List.length_take, List.length_drop]
  omega
theorem ky {H : Hp} {y : V} {T : String} {b1 b2 : Bool} (ty : TyX K H y (.type T)) (e1 : kitB T "int" = some b1) (e2 : kitB T "bool" = some b2) (e : (b1 && !b2) = isI y) : ∃ t b1 b2, TyY K H y t ∧ PySem.W.kitOne K t (.type "int") = some b1 ∧ PySem.W.kitOne K t (.type "bool") = some b2 ∧ (b1 && !b2) = isI y :=
  ⟨_, _, _, .inl ty, kit_ty e1, kit_ty e2, e⟩
theorem ky_int {H : Hp} (i : Int) : ∃ t b1 b2, TyY K H (.int i) t ∧ PySem.W.kitOne K t (.type "int") = some b1 ∧ PySem.W.kitOne K t (.type "bool") = some b2 ∧ (b1 && !b2) = isI (.int i) := ky (.base (.int i)) (b1 := true) (b2 := false) (by decide +kernel) (by decide +kernel) rfl
theorem ky_non {H : Hp} : ∃ t b1 b2, TyY K H .non t ∧ PySem.W.kitOne K t (.type "int") = some b1 ∧ PySem.W.kitOne K t (.type "bool") = some b2 ∧ (b1 && !b2) = isI .non := ky (.base .non) (b1 := false) (b2 := false) (by decide +kernel) (by decide +kernel) rfl
theorem ky_bl {H : Hp} (b : Bool) : ∃ t b1 b2, TyY K H (.bl b) t ∧ PySem.W.kitOne K t (.type "int") = some b1 ∧ PySem.W.kitOne K t (.type "bool") = some b2 ∧ (b1 && !b2) = isI (.bl b) := ky (.base (.bl b)) (b1 := true) (b2 := true) (by decide +kernel) (by decide +kernel) rfl
theorem ky_str {H : Hp} (z : Str) : ∃ t b1 b2, TyY K H (.str z) t ∧ PySem.W.kitOne K t (.type "int") = some b1 ∧ PySem.W.kitOne K t (.type "bool") = some b2 ∧ (b1 && !b2) = isI (.str z) := ky (.base (.str z)) (b1 := false) (b2 := false) (by decide +kernel) (by decide +kernel) rfl
theorem ky_lst {H : Hp} {p : Addr} (ty : TyX K H (.ref p) (.type "list")) : ∃ t b1 b2, TyY K H (.ref p) t ∧ PySem.W.kitOne K t (.type "int") = some b1 ∧ PySem.W.kitOne K t (.type "bool") = some b2 ∧ (b1 && !b2) = isI (.ref p) := ky ty (b1 := false) (b2 := false) (by decide +kernel) (by decide +kernel) rfl
/-- the great one -/
def spGreat : Sp := fun vs H Q _ => ∃ (b : Addr) (R : List SP), vs = [.ref b] ∧ Sep (bag b :: R) H ∧ ∀ H', Q (.bl true) H'
theorem sc_l_great_right : FnScope N_l_great_right ["_law_bag_here"] (defScope s_l_great_right) := ⟨rfl, rfl, rfl, by decide +kernel, rfl, by decide +kernel, by decide +kernel⟩
theorem ok_l_great {f f1 f2 : Addr} (F : Dt K mg "_law_great_right" s_l_great_right ["_law_bag_here"] f) (T : Tx K mg c_Told f_doubled f_exact) (D_l_take : Df P w K mg base 1 "_law_take" f1 ["_law_bag_here", "_law_many"] spTake)
    (D_l_refused : Df P w K mg base 4 "_law_refused" f2 ["_law_thing"] (spRefused K)) (M_Told : Cf P w K mg base 2 "Told" c_Told ["self", "rooms"] (spTold c_Told))
    (M_call : Mf P w K mg base 1 c_Told "__call__" ["self", "room", "needed"] (spToldC c_Told)) (hcall : ∀ f, PySem.W.findIn K (.ref c_Told) "__call__" = some (some (.ref f)) → PySem.W.fnIn K f = true)
    (M_asked : Mf P w K mg base 1 c_Told "asked" ["self"] (spAsked c_Told)) (M_left : Pf P w K mg base 1 c_Told "left" (spLeft c_Told)) : Df P w K mg base 5 "_law_great_right" f ["_law_bag_here"] spGreat := by
  refine F.ok sc_l_great_right (fun vs H Q E h => ?_) (fun cdv A outer s H vs Q E hr h => ?_)
  · obtain ⟨b, R, rfl, _⟩ := h
    rfl
  obtain ⟨b, R, rfl, S, q⟩ := h
  refine ⟨_, (pss_cons (ps_par3 (i := 1) (j := 2) (l := 3) rfl sc_l_great_right.nd rfl rfl rfl (by decide) (by decide) (by decide) rfl rfl rfl (pa_cons (pe_op (r := rMulA) op_mulA (pe_lst (pa_cons pe_int pa_nil)) pe_int) (pa_cons (pe_lst pa_nil) (pa_cons (pe_df D_l_take (hr.mono (by decide)) (pa_cons (pv 0) (pa_cons pe_int pa_nil))) pa_nil))) rfl)
      (pss_cons (ps_for PassesOwn.never rfl (pi_range1 rfl T.z_range (pa_cons pe_int pa_nil)) (pg_name (i := 4) sc_l_great_right.nd rfl (by first | exact Or.inl rfl | exact Or.inr rfl)) (pss_one (ps_set (i := 2) sc_l_great_right.nd rfl (by first | exact Or.inl rfl | exact Or.inr rfl) (pe_lst (pa_cons (pv 2) pa_nil)))))
      (pss_cons (ps_set (i := 5) sc_l_great_right.nd rfl (by first | exact Or.inl rfl | exact Or.inr rfl) (pe_cf M_Told (hr.mono (by decide)) (pa_cons (pe_callTy (r := cList K) call_list_of (by rfl) T.z_list (by decide +kernel) (pa_cons (pv 1) pa_nil)) pa_nil)))
      (pss_cons (ps_set (i := 6) sc_l_great_right.nd rfl (by first | exact Or.inl rfl | exact Or.inr rfl) (pe_lst (pa_cons (pe_mfL (i := 5) M_call hcall (hr.mono (by decide)) (pa_cons pe_int (pa_cons pe_int pa_nil))) (pa_cons (pe_mfL (i := 5) M_call hcall (hr.mono (by decide)) (pa_cons pe_int (pa_cons pe_int pa_nil))) (pa_cons (pe_pr M_left (hr.mono (by decide)) (pv 5)) (pa_cons (pe_callB (r := cOr (cLenQ K) cLenS) call_lenA (by rfl) T.z_len (by decide +kernel) (pa_cons (pe_mf0 M_asked (hr.mono (by decide)) (pv 5)) pa_nil)) pa_nil))))))
      (pss_one (ps_ret (pe_and (pe_cmpR (r := rEqA K) (op_eqA hr.units) (pv 6) (pe_lst (pa_cons pe_int (pa_cons pe_int (pa_cons pe_int (pa_cons pe_int pa_nil))))) (nomark _)) (pe_and (pe_df D_l_refused (hr.mono (by decide)) (pa_cons (pe_op (r := rAddA) op_addA (pe_op (r := rAddA) op_addA (pe_slice (r := rSlL K) sl_list (pv 1) po_none (po_some (pv 3))) (pe_lst (pa_cons pe_non pa_nil))) (pe_slice (r := rSlL K) sl_list (pv 1) (po_some (pv 3)) po_none)) pa_nil)) (pe_one (pe_df D_l_refused (hr.mono (by decide)) (pa_cons (pv 2) pa_nil))))))))))), ?_⟩
  walk_at "go"
  refine r_rep2 S (xs := [.int 7]) (by walk_at "at") (by decide) (by decide) (by decide) fun Ro H S => ?_
  obtain ⟨rs, hrs⟩ : ∃ rs : List Int, rs = List.replicate 9000 7 := ⟨_, rfl⟩
  have e9 : (List.replicate (Int.toNat 9000) [V.int 7]).flatten = rs.map V.int := by
    rw [hrs, List.map_replicate, List.flatten_replicate_singleton]
    rfl
  rw [e9] at S
  have hlen : rs.length = 9000 := by rw [hrs, List.length_replicate]
  have hget : ∀ i, i < 9000 → rs[i]? = some 7 := fun i hi => by rw [hrs, List.getElem?_replicate, if_pos hi]
  clear e9 hrs
  walk_at "go"
  obtain ⟨D0, hq1⟩ : ∃ q, q = p := ⟨p, rfl⟩
  subst hq1
  refine ⟨b, 9000, _, rfl, by decide, by decide, S.s1 (by walk_at "sel"), fun v H v0 v1 S => ?_⟩
  have S : Sep (pt D0 (.lst []) :: bag b :: pt Ro (.lst (rs.map V.int)) :: R) H := S.sel (As := [pt D0 (.lst []), bag b, pt Ro (.lst (rs.map V.int))]) (Rs := R) (by walk_at "sel")
  walk_at "go"
  refine r_for_rng (fun i σ Ps => ∃ (d : Addr) (u4 : Option V), σ = [some (.ref b), some (.ref Ro), some (.ref d), some (.int v), u4, none, none] ∧ ((i = 0 ∧ Ps = pt d (.lst []) :: bag b :: pt Ro (.lst (rs.map V.int)) :: R) ∨ ∃ d', Ps = pt d (.lst [.ref d']) :: tyP K (.ref d') "list" :: bag b :: pt Ro (.lst (rs.map V.int)) :: R))
    S (by decide) (by decide) ⟨D0, _, rfl, .inl ⟨rfl, rfl⟩⟩ ?_ ?_
  · rintro i σ Ps H hi ⟨d, u4, rfl, hP⟩ S
    have S : Sep (tyP K (.ref d) "list" :: bag b :: pt Ro (.lst (rs.map V.int)) :: R) H := by
      rcases hP with ⟨_, rfl⟩ | ⟨d', rfl⟩
      · exact S.hd_mono fun G e => TyX.base (.lst e)
      · exact (S.sel (As := [pt d (.lst [.ref d']), bag b, pt Ro (.lst (rs.map V.int))]) (Rs := R) (by walk_at "sel")).hd_mono fun G e => TyX.base (.lst e)
    walk_at "go"
    exact ⟨_, ⟨_, _, rfl, .inr ⟨d, rfl⟩⟩, S⟩
  rintro σ Ps H ⟨d, u4, rfl, ⟨h, _⟩ | ⟨d', rfl⟩⟩ S
  · exact absurd h (by decide)
  walk_at "go"
  refine ⟨x, dx, p, rs, _, rfl, by omega, S.s2 (A := pt x (.ins c_Told dx [])) (B := pt p (.lst (rs.map V.int))) (by walk_at "sel"), fun H S => ⟨rfl, ?_⟩⟩
  obtain ⟨a, hq1⟩ : ∃ q, q = x := ⟨x, rfl⟩
  subst hq1
  have hIns : ∀ (H : Hp) (ts : List Addr) (R' : List SP), Sep (toP c_Told a rs ts :: R') H → ∃ dt fs, H a = some (.ins c_Told dt fs) ∧ fs.lookup ("asked" : Str) = none := fun H ts R' S => by
    obtain ⟨dt, Lt, Mt, St⟩ := to_open S
    exact ⟨dt, _, St.hd_at, rfl⟩
  walk_at "go"
  refine ⟨a, rfl, ?_⟩
  obtain ⟨d1, f1, hI, _⟩ := hIns _ _ _ S
  walk_at "go"
  refine ⟨d1, f1, hI, a, rs, [], 1, 2, _, rfl, by decide, S, fun t1 H S => ?_⟩
  clear hI
  rw [show rs[([] : List Addr).length]? = some 7 from hget 0 (by decide)]
  have S := S.s1 (A := toP c_Told a rs ([] ++ [t1])) (by walk_at "sel")
  obtain ⟨d2, f2', hI, _⟩ := hIns _ _ _ S
  walk_at "go"
  refine ⟨a, rfl, ?_⟩
  walk_at "go"
  refine ⟨d2, f2', hI, a, rs, [] ++ [t1], 1, 2, _, rfl, by simp, S, fun t2 H S => ?_⟩
  clear hI
  rw [show rs[([] ++ [t1] : List Addr).length]? = some 7 from hget 1 (by decide)]
  have S := S.s1 (A := toP c_Told a rs ([] ++ [t1] ++ [t2])) (by walk_at "sel")
  obtain ⟨d3, f3, hI, hI2⟩ := hIns _ _ _ S
  walk_at "go"
  refine ⟨a, d3, f3, rfl, hI, a, rs, [] ++ [t1] ++ [t2], _, rfl, S, ?_⟩
  walk_at "go"
  refine ⟨a, d3, f3, rfl, hI, hI2, ?_⟩
  clear hI hI2
  walk_at "go"
  refine ⟨a, rs, [] ++ [t1] ++ [t2], _, rfl, S, fun D H S => ?_⟩
  walk_at "go"
  rename_i fo _ _
  rw [hlen] at S
  have S0 := S.s1 (A := pt fo (.lst [.int ((some 7).getD 2), .int ((some 7).getD 2), .int ((9000 - ([] ++ [t1] ++ [t2]).length : Nat) : Int), .int (((([] ++ [t1] ++ [t2] : List Addr).map V.ref).length : Nat) : Int)])) (by walk_at "sel")
  refine r_eq_ints (m1 := [7, 7, 8998, 2]) (m2 := [7, 7, 8998, 2]) (SqL.of S0.hd_at) (SqL.of S.hd_at) ?_
  clear S0
  rw [decide_eq_true rfl]
  obtain ⟨z1, e1, l1⟩ := cut_ints (ns := rs) (lo := none) (hi := some v)
  obtain ⟨z2, e2, l2⟩ := cut_ints (ns := rs) (lo := some v) (hi := none)
  have S := S.s4 (A := pt d (.lst [.ref d'])) (B := tyP K (.ref d') "list") (C := bag b) (D := pt Ro (.lst (rs.map V.int))) (Rs := R) (by walk_at "sel")
  walk_at "go"
  rw [e1] at S
  refine r_cat S (xs := z1.map V.int) (ys := [.non]) (by walk_at "at") (by walk_at "at") (by simp; omega) fun c1 H S => ?_
  walk_at "go"
  rw [e2] at S
  refine r_cat S (xs := z1.map V.int ++ [.non]) (ys := z2.map V.int) (by walk_at "at") (by walk_at "at") (by simp; omega) fun c2 H S => ?_
  walk_at "go"
  refine ⟨.ref c2, _, rfl, S, .inr ⟨c2, _, rfl, by simp; omega, fun H S => SqL.of S.hd_at, fun H S y hy => ?_, .non, by simp, rfl⟩, fun H S => ?_⟩
  · simp only [List.mem_append, List.mem_map, List.mem_singleton] at hy
    rcases hy with (⟨z, _, rfl⟩ | rfl) | ⟨z, _, rfl⟩
    · exact ky_int z
    · exact ky_non
    · exact ky_int z
  walk_at "go"
  refine ⟨.ref d, _, rfl, S, .inr ⟨d, [.ref d'], rfl, by simp, fun H S => SqL.of (S.at_ (by walk_at "mem")), fun H S y hy => ?_, .ref d', by simp, rfl⟩, fun H S => ?_⟩
  · rw [List.mem_singleton.mp hy]
    exact ky_lst (ty_of (S.pk (A := tyP K (.ref d') "list") (by walk_at "mem")))
  exact q _
theorem r_dnew {σ : L2.St} {H : Hp} {Q : VK} {Ps : List SP} (S : Sep Ps H) (h : ∀ p H', Sep (pt p (.dK []) :: Ps) H' → Q (.ref p) H') : tDNewK σ H Q := fun p np => h p _ (S.new _ np)
theorem q_pair {tk tv : TE} {r : List (TE × TE)} {σ : L2.St} {H : Hp} {Q : List (V × V) → Hp → Prop} (h : tk σ H fun x H1 => tv σ H1 fun y H2 => tPairs r σ H2 fun ps H3 => Q ((x, y) :: ps) H3) : tPairs ((tk, tv) :: r) σ H Q := h
theorem q_pairN {σ : L2.St} {H : Hp} {Q : List (V × V) → Hp → Prop} (h : Q [] H) : tPairs [] σ H Q := h
/-! ### the law -/
def spLaw (K : PySem.W.Frag) : Sp := fun vs H Q _ => ∃ (a : Addr) (ns : List Int), vs = [.ref a] ∧ SqL K H a (ns.map V.int) ∧ ns.length ≤ 63 ∧ ∀ H', Q (.bl true) H'
theorem sc_law : FnScope N_law ["_law_script"] (defScope s_law) := ⟨rfl, rfl, rfl, by decide +kernel, rfl, by decide +kernel, by decide +kernel⟩
theorem ok_law {f f1 f2 f3 f4 f5 f6 f7 : Addr} {fd : FuncData} (F : Fun K "law" "law" s_law f fd) (T : Tx K mg c_Told f_doubled f_exact) (D_l_bag : Df P w K mg base 1 "_law_bag" f2 ["_law_script"] (spBag K)) (D_l_take : Df P w K mg base 1 "_law_take" f1 ["_law_bag_here", "_law_many"] spTake)
    (D_l_number : Df P w K mg base 2 "_law_number" f3 ["_law_bag_here"] spNumber) (D_l_alike : Dg P w K mg base 1 "_law_alike" f4 ["_law_found", "_law_due"] (spAlike K)) (D_exact : Df P w K mg base 1 "exact" f_exact ["room", "needed"] spExact) (D_doubled : Df P w K mg base 1 "doubled" f_doubled ["room", "needed"] spDoubled)
    (D_l_turns_right : Dg P w K mg base 4 "_law_turns_right" f5 ["_law_bag_here", "_law_lots"] spTurns) (D_l_refused : Df P w K mg base 4 "_law_refused" f6 ["_law_thing"] (spRefused K)) (D_l_great_right : Df P w K mg base 5 "_law_great_right" f7 ["_law_bag_here"] spGreat)
    (hfe : PySem.W.typeIn K (.ref f_exact) = some (.type "function")) : FnG P w K mg base 7 f fd ["_law_script"] (spLaw K) := by
  refine fnG_ok F sc_law (fun vs H Q E h => ?_) (fun cdv A outer s H vs Q E hg hr h => ?_)
  · obtain ⟨a, ns, rfl, _⟩ := h
    rfl
  obtain ⟨a, ns, rfl, hq, hl, q⟩ := h
  refine ⟨_, (pss_cons (ps_set (i := 1) sc_law.nd rfl (by first | exact Or.inl rfl | exact Or.inr rfl) (pe_df D_l_bag (hr.mono (by decide)) (pa_cons (pv 0) pa_nil)))
      (pss_cons (ps_for PassesOwn.never rfl (pi_range1 rfl T.z_range (pa_cons pe_int pa_nil)) (pg_name (i := 2) sc_law.nd rfl (by first | exact Or.inl rfl | exact Or.inr rfl)) (pss_cons (ps_par (i := 3) (j := 4) rfl sc_law.nd rfl rfl (by decide) rfl rfl (pa_cons (pe_df D_l_number (hr.mono (by decide)) (pa_cons (pv 1) pa_nil)) (pa_cons (pe_df D_l_number (hr.mono (by decide)) (pa_cons (pv 1) pa_nil)) pa_nil)) rfl)
      (C8.pss_cut (ps_set (i := 5) sc_law.nd rfl (by first | exact Or.inl rfl | exact Or.inr rfl) (pe_lst (pa_cons (pv 4) (pa_cons (pe_ifExp (pt_cmpR (r := rGtI) op_gt (pv 4) (pe_op (r := rAddA) op_addA (pv 3) (pv 3)) (nomark _)) (pv 4) (pe_op (r := rAddA) op_addA (pv 3) (pv 3))) pa_nil))))
      (pss_cons (ps_if (pt_not (pt_val (pe_dg D_l_alike hg (hr.mono (by decide)) (pa_cons (pe_lst (pa_cons (pe_df D_exact (hr.mono (by decide)) (pa_cons (pv 3) (pa_cons (pv 4) pa_nil))) (pa_cons (pe_df D_doubled (hr.mono (by decide)) (pa_cons (pv 3) (pa_cons (pv 4) pa_nil))) pa_nil))) (pa_cons (pv 5) pa_nil))))) (pss_one (ps_ret pe_bl)) pss_nil)
      (pss_cons (ps_set (i := 6) sc_law.nd rfl (by first | exact Or.inl rfl | exact Or.inr rfl) (pe_lst pa_nil))
      (C8.pss_cut (ps_for PassesOwn.never rfl (pi_range1 rfl T.z_range (pa_cons pe_int pa_nil)) (pg_name (i := 7) sc_law.nd rfl (by first | exact Or.inl rfl | exact Or.inr rfl)) (pss_one (ps_expr (pe_bmK K PySem.F.plainAttrs_list PySem.F.slot_list_append PySem.F.type_list_append mt_append (pv 6) (pa_cons (pe_lc (own := [("_law_j", 9)]) rfl sc_law.nd (pi_range1 rfl T.z_range (pa_cons (pe_df D_l_take (hr.mono (by decide)) (pa_cons (pv 1) (pa_cons pe_int pa_nil))) pa_nil)) (blkOk_by (own := [("_law_j", 9)]) (N := N_law) (sc := defScope s_law) (by decide +kernel)) (fun _ _ _ _ _ => (pg_name (i := 9) sc_law.nd rfl (by first | exact Or.inl rfl | exact Or.inr rfl))) (fun _ _ _ _ _ => pts_nil) (fun _ _ _ _ _ => (pe_op (r := rMulA) op_mulA (pe_df D_l_number (hr.mono (by decide)) (pa_cons (pv 1) pa_nil)) (pe_op (r := rSubI) op_sub pe_int (pe_op (r := rMulA) op_mulA pe_int (pe_df D_l_take (hr.mono (by decide)) (pa_cons (pv 1) (pa_cons pe_int pa_nil)))))))) pa_nil)))))
      (pss_cons (ps_if (pt_not (pt_val (pe_dg D_l_turns_right hg (hr.mono (by decide)) (pa_cons (pv 1) (pa_cons (pv 6) pa_nil))))) (pss_one (ps_ret pe_bl)) pss_nil)
      (pss_cons (ps_set (i := 8) sc_law.nd rfl (by first | exact Or.inl rfl | exact Or.inr rfl) (pe_ix (r := rIx K) ix_seq (pe_lst (pa_cons pe_non (pa_cons (pe_tup (pa_cons pe_int (pa_cons pe_int pa_nil))) (pa_cons (pe_lst (pa_cons pe_bl pa_nil)) (pa_cons (pe_lst (pa_cons pe_int (pa_cons pe_non pa_nil))) (pa_cons pe_str (pa_cons pe_dnewK (pa_cons (pe_disp (pps_cons pe_int pe_int pps_nil) rfl rfl (by simp) (by decide)) (pa_cons pe_int (pa_cons (pe_lst (pa_cons (pe_lst (pa_cons pe_int pa_nil)) pa_nil)) (pa_cons (pe_lst (pa_cons pe_str pa_nil)) (pa_cons (pe_lst (pa_cons (pe_glob (v := .ref f_exact) rfl T.g_exact rfl) pa_nil)) (pa_cons (pe_glob (v := .ref f_exact) rfl T.g_exact rfl) pa_nil))))))))))))) (pe_df D_l_take (hr.mono (by decide)) (pa_cons (pv 1) (pa_cons pe_int pa_nil))) (fun _ _ => rfl)))
      (pss_one (ps_if (pt_not (pt_val (pe_df D_l_refused (hr.mono (by decide)) (pa_cons (pv 8) pa_nil)))) (pss_one (ps_ret pe_bl)) pss_nil))))))))))
      (pss_one (ps_ret (pe_or (pe_cmpR (r := rGtI) op_gt (pe_df D_l_take (hr.mono (by decide)) (pa_cons (pv 1) (pa_cons pe_int pa_nil))) pe_int (nomark _)) (pe_one (pe_df D_l_great_right (hr.mono (by decide)) (pa_cons (pv 1) pa_nil)))))))), ?_⟩
  have hfn : ∃ o, K.lookup f_exact = some o ∧ o.cls = .type "function" := Option.map_eq_some_iff.mp hfe
  have S0 : Sep [] H := trivial
  walk_at "go"
  refine ⟨a, ns, [], rfl, hq, hl, S0, fun b H S => ?_⟩
  clear S0
  walk_at "go"
  refine r_for_rng (fun i σ Ps => ∃ u2 u3 u4 u5 u6 u7 u8 u9 R, σ = [some (.ref a), some (.ref b), u2, u3, u4, u5, u6, u7, u8, u9] ∧ Ps = bag b :: R) S (by decide) (by decide) ⟨_, _, _, _, _, _, _, _, _, rfl, rfl⟩ ?_ ?_
  · rintro i σ Ps H hi ⟨u2, u3, u4, u5, u6, u7, u8, u9, R, rfl, rfl⟩ S
    walk_at "go"
    refine ⟨b, _, rfl, S, fun room H hroom S => ?_⟩
    walk_at "go"
    refine ⟨b, _, rfl, S, fun needed H hneed S => ?_⟩
    walk_at "go"
    refine q_cut (Mid := fun σ H => ∃ Du, σ = [some (.ref a), some (.ref b), some (.int i), some (.int room), some (.int needed), some (.ref Du), u6, u7, u8, u9] ∧ Sep (pt Du (.lst [.int needed, .int (if 2 * room > needed then 2 * room else needed)]) :: bag b :: R) H) ?_ ?_
    · walk_at "go"
      refine q_ite (fun hc => ?_) (fun hc => ?_)
      · walk_at "go"
        rw [if_neg (by omega)]
        exact ⟨_, rfl, S⟩
      · walk_at "go"
        rw [show (if 2 * room > needed then 2 * room else needed) = room + room from by split <;> omega]
        exact ⟨_, rfl, S⟩
    rintro σ H ⟨Du, rfl, S⟩
    generalize hM : (if 2 * room > needed then 2 * room else needed) = M at S
    have hMb : M.natAbs < 10 ^ 60 := by rw [← hM]; split <;> omega
    walk_at "go"
    refine ⟨room, needed, rfl, ?_⟩
    walk_at "go"
    refine ⟨room, needed, rfl, ?_⟩
    rw [hM]
    walk_at "go"
    have Sd := S.s1 (A := pt Du (.lst [.int needed, .int M])) (by walk_at "sel")
    have hsh := (sh_ints (k := 1) (ns := [needed, M]) (fun n hn => by
      simp only [List.mem_cons, List.not_mem_nil, or_false] at hn
      rcases hn with rfl | rfl
      · omega
      · exact hMb)).up (k' := 60) (W' := 3000) (by decide) (by simp)
    refine .inr ⟨p, Du, dInts [needed, M], 3000, rfl, dp_ints (ns := [needed, M]) (SqL.of S.hd_at), dp_ints (ns := [needed, M]) (SqL.of Sd.hd_at), hsh, by decide, ?_⟩
    clear Sd hsh
    walk_at "go"
    obtain ⟨Lo, hq1⟩ : ∃ q, q = p := ⟨p, rfl⟩
    subst hq1
    have S := bi_nil (S.s2 (A := pt Lo (.lst [])) (B := bag b) (by walk_at "sel"))
    have S := S.s3 (A := pt Lo (.lst [])) (B := bi []) (C := bag b) (by walk_at "sel")
    have S := S.s3 (A := pt Lo (.lst [])) (B := bi []) (C := bag b) (Rs := R) (by walk_at "sel")
    refine q_cut (Mid := fun σ H => ∃ (u7 u9 : Option V) (l : List IL), σ = [some (.ref a), some (.ref b), some (.int i), some (.int room), some (.int needed), some (.ref Du), some (.ref Lo), u7, u8, u9] ∧ l.length = 2 ∧ (∀ e ∈ l, e.2.length ≤ 4 ∧ ∀ z ∈ e.2, z.natAbs < 10 ^ 60) ∧ Sep (pt Lo (.lst (rf l)) :: bi l :: bag b :: R) H) ?_ ?_
    · walk_at "go"
      refine r_for_rng (fun k σ Ps => ∃ (u7 u9 : Option V) (l : List IL), σ = [some (.ref a), some (.ref b), some (.int i), some (.int room), some (.int needed), some (.ref Du), some (.ref Lo), u7, u8, u9] ∧ l.length = k ∧ (∀ e ∈ l, e.2.length ≤ 4 ∧ ∀ z ∈ e.2, z.natAbs < 10 ^ 60) ∧ Ps = pt Lo (.lst (rf l)) :: bi l :: bag b :: R)
        S (by decide) (by decide) ⟨_, _, [], rfl, rfl, (fun e h => by cases h), rfl⟩ ?_ ?_
      · rintro k σ Ps H hk ⟨u7, u9, l, rfl, hlk, hle, rfl⟩ S
        have hk : k < 2 := hk
        walk_at "go"
        refine ⟨b, 5, _, rfl, by decide, by decide, S.s1 (by walk_at "sel"), fun v H v0 v1 S => ?_⟩
        walk_at "go"
        have S := S.s3 (A := pt Lo (.lst (rf l))) (B := bi l) (C := bag b) (Rs := R) (by walk_at "sel")
        refine r_lc_rng (fun j acc Ps => ∃ zs : List Int, acc = zs.map V.int ∧ zs.length = j ∧ (∀ z ∈ zs, z.natAbs < 10 ^ 60) ∧ Ps = pt Lo (.lst (rf l)) :: bi l :: bag b :: R) S (by omega) (by omega) ⟨[], rfl, rfl, by simp, rfl⟩ ?_ ?_
        · rintro D j acc Ps H hj ⟨zs, rfl, ez, hz, rfl⟩ S
          walk_at "go"
          refine ⟨rfl, ?_⟩
          walk_at "go"
          refine ⟨b, _, rfl, S.s1 (by walk_at "sel"), fun n H hn S => ?_⟩
          walk_at "go"
          refine ⟨b, 2, _, rfl, by decide, by decide, S.s1 (by walk_at "sel"), fun t H t0 t1 S => ?_⟩
          walk_at "go"
          have hb : (n * (1 - 2 * t)).natAbs < 10 ^ 60 := by
            have ht : t = 0 ∨ t = 1 := by omega
            rcases ht with rfl | rfl
            · omega
            · omega
          refine cn_in (S.sel (As := [pt D (.lst (zs.map V.int)), pt Lo (.lst (rf l)), bi l, bag b]) (Rs := R) (by walk_at "sel")) (by rw [List.length_map]; omega) ⟨zs ++ [n * (1 - 2 * t)], by simp, by simp [ez], fun z' hz' => (List.mem_append.mp hz').elim (hz z') (fun h => List.mem_singleton.mp h ▸ hb), rfl⟩
        · rintro D acc Ps H ⟨zs, rfl, ez, hz, rfl⟩ S
          walk_at "go"
          have S := S.s2 (A := pt D (.lst (zs.map V.int))) (B := bi l) (by walk_at "sel")
          have S := bi_add S
          have S := S.s3 (A := pt Lo (.lst (rf l ++ [.ref D]))) (B := bi (l ++ [(D, zs)])) (C := bag b) (Rs := R) (by walk_at "sel")
          have er : rf l ++ [V.ref D] = rf (l ++ [(D, zs)]) := by simp [rf]
          rw [er] at S
          refine ⟨_, ⟨_, _, l ++ [(D, zs)], rfl, by simp [hlk], fun e he => ?_, rfl⟩, S⟩
          rcases List.mem_append.mp he with h | h
          · exact hle e h
          · rw [List.mem_singleton.mp h]
            exact ⟨by show zs.length ≤ 4; omega, hz⟩
      · rintro σ Ps H ⟨u7, u9, l, rfl, hlk, hle, rfl⟩ S
        exact ⟨_, _, l, rfl, hlk, hle, S⟩
    rintro σ H ⟨u7, u9, l, rfl, hl2, hle, S⟩
    obtain ⟨⟨q0, r0⟩, ⟨q1, r1⟩, rfl⟩ : ∃ x y, l = [x, y] := by
      match l, hl2 with
      | [x, y], _ => exact ⟨x, y, rfl⟩
    have h1 := hle (q0, r0) (by simp)
    have h2 := hle (q1, r1) (by simp)
    have S : Sep (pt Lo (.lst [.ref q0, .ref q1]) :: pt q0 (.lst (r0.map V.int)) :: pt q1 (.lst (r1.map V.int)) :: bag b :: R) H := Sep.cons_mono (fun _ S => big_open S) S
    walk_at "go"
    refine ⟨b, Lo, q0, q1, r0, r1, _, rfl, h1.1, h2.1, h1.2, h2.2, S.s4 (A := bag b) (B := pt Lo (.lst [.ref q0, .ref q1])) (C := pt q0 (.lst (r0.map V.int))) (D := pt q1 (.lst (r1.map V.int))) (Rs := R) (by walk_at "sel"), fun H S => ?_⟩
    walk_at "go"
    refine r_dnew S fun pd H S => ?_
    walk_at "go"
    refine r_dispP S fun pe H S => ?_
    refine q_pair ?_
    walk_at "go"
    refine q_pairN ⟨by walk_at "at", [(.inl 1, .int 2)], rfl, by simp, ?_⟩
    have S := S.set (a := pe) (o' := .dK (mergeK [] [(.inl 1, .int 2)])) (by walk_at "rep")
    generalize upd H pe _ = H at S
    walk_at "go"
    generalize he : (V.non :: _ :: _ :: _ : List V) = es at S
    have hes : es.length = 12 := by rw [← he]; rfl
    refine ⟨b, 12, _, rfl, by decide, by decide, S.s1 (by walk_at "sel"), fun u H hu0 hu1 S => ?_⟩
    obtain ⟨x, hx, hm⟩ := at_i (xs := es) hu0 (by omega)
    refine q_ixL (by walk_at "sq") hx ?_
    rw [← he] at hm
    simp only [List.mem_cons, List.not_mem_nil, or_false] at hm
    walk_at "go"
    refine ⟨x, _, rfl, S, ?_, fun H S => ?_⟩
    · rcases hm with h | h | h | h | h | h | h | h | h | h | h | h
      · subst h; exact .inl ⟨.type "NoneType", .inl (.base .non), kit_ty (by decide +kernel)⟩
      · subst h; exact .inl ⟨.type "tuple", .inl (.base (.tup (S.at_ (by walk_at "mem")))), kit_ty (by decide +kernel)⟩
      · subst h
        refine .inr ⟨_, [.bl true], rfl, by simp, fun H S => SqL.of (S.at_ (by walk_at "mem")), fun H S y hy => ?_, .bl true, by simp, rfl⟩
        rw [List.mem_singleton.mp hy]
        exact ky_bl _
      · subst h
        refine .inr ⟨_, [.int 1, .non], rfl, by simp, fun H S => SqL.of (S.at_ (by walk_at "mem")), fun H S y hy => ?_, .non, by simp, rfl⟩
        simp only [List.mem_cons, List.not_mem_nil, or_false] at hy
        rcases hy with rfl | rfl
        · exact ky_int _
        · exact ky_non
      · subst h; exact .inl ⟨.type "str", .inl (.base (.str _)), kit_ty (by decide +kernel)⟩
      · subst h; exact .inl ⟨.type "dict", .inl (.base (.dK (S.at_ (by walk_at "mem")))), kit_ty (by decide +kernel)⟩
      · subst h; exact .inl ⟨.type "dict", .inl (.base (.dK (S.at_ (by walk_at "mem")))), kit_ty (by decide +kernel)⟩
      · subst h; exact .inl ⟨.type "int", .inl (.base (.int _)), kit_ty (by decide +kernel)⟩
      · subst h
        refine .inr ⟨_, [.ref _], rfl, by simp, fun H S => SqL.of (S.at_ (by walk_at "mem")), fun H S y hy => ?_, .ref _, List.mem_singleton.mpr rfl, rfl⟩
        rw [List.mem_singleton.mp hy]
        exact ky_lst (.base (.lst (xs := [.int 1]) (S.at_ (by walk_at "mem"))))
      · subst h
        refine .inr ⟨_, [.str _], rfl, by simp, fun H S => SqL.of (S.at_ (by walk_at "mem")), fun H S y hy => ?_, .str _, List.mem_singleton.mpr rfl, rfl⟩
        rw [List.mem_singleton.mp hy]
        exact ky_str _
      · subst h
        obtain ⟨o, ho1, ho2⟩ := hfn
        refine .inr ⟨_, [.ref f_exact], rfl, by simp, fun H S => SqL.of (S.at_ (by walk_at "mem")), fun H S y hy => ?_, .ref f_exact, List.mem_singleton.mpr rfl, rfl⟩
        rw [List.mem_singleton.mp hy]
        exact ⟨.type "function", false, false, .inr ⟨f_exact, o, rfl, rfl, ho1, ho2⟩, kit_ty (by decide +kernel), kit_ty (by decide +kernel), rfl⟩
      · subst h
        obtain ⟨o, ho1, ho2⟩ := hfn
        exact .inl ⟨.type "function", .inr ⟨f_exact, o, rfl, rfl, ho1, ho2⟩, kit_ty (by decide +kernel)⟩
    walk_at "go"
    exact ⟨_, ⟨_, _, _, _, _, _, _, _, _, rfl, rfl⟩, S.s1 (A := bag b) (by walk_at "sel")⟩
  · rintro σ Ps H ⟨u2, u3, u4, u5, u6, u7, u8, u9, R, rfl, rfl⟩ S
    walk_at "go"
    refine ⟨b, 4, _, rfl, by decide, by decide, S, fun v H v0 v1 S => ?_⟩
    walk_at "go"
    cases decide (0 < v) with
    | true => exact q _
    | false =>
      walk_at "go"
      exact ⟨b, _, rfl, S, fun H => q _⟩
end

end Pf

set_option Elab.async false
set_option linter.all false
set_option maxRecDepth 100000
set_option maxHeartbeats 16000000
namespace Pf
open PySem L2 Kt
theorem vals_app {vs ws : List V} {us zs : List Value} (r1 : Vals vs us) (r2 : Vals ws zs) : Vals (vs ++ ws) (us ++ zs) := by
  induction r1 with
  | nil => exact r2
  | cons h _ ih => exact .cons h ih
theorem all_mk {l : PySem.W.OpenLaw} {w : World} {K : PySem.W.Frag} {h : Heap} {mg : Str → Option Value} {fa : Addr} (X : K.In h) (G : h.Ns mainGlobals mg) (hfa : mg "law" = some (.ref fa))
    {c_Told f_Told_init f_Told_call f_Told_asked f_Told_left q_Told_left f_is_integer f_doubled f_exact f_l_bag f_l_take f_l_alike f_l_number f_l_refused f_l_turns_right f_l_great_right f_law c_TailError c_Wrong c_BadRoom f_Wrong_init : Addr} {od1 an1 od2 an2 od3 an3 od4 an4 od5 an5 od6 an6 od7 an7 od8 an8 od9 an9 od10 an10 od11 an11 od12 an12 od13 an13 od14 an14 od15 an15 odE_Wrong anE_Wrong : Option Addr} {sl1 sl2 sl3 sl4 sl5 sl6 sl7 sl8 sl9 sl10 sl11 sl12 sl13 sl14 sl15 slE_Wrong : Array (Option Value)} {oc1 kV1 dc1 pm1 cd1 ct1 oc2 kV2 dc2 pm2 cd2 ct2 oc3 kV3 dc3 pm3 cd3 ct3 oc4 kV4 dc4 pm4 cd4 ct4 oc5 kV5 dc5 pm5 cd5 ct5 oc6 kV6 dc6 pm6 cd6 ct6 oc7 kV7 dc7 pm7 cd7 ct7 oc8 kV8 dc8 pm8 cd8 ct8 oc9 kV9 dc9 pm9 cd9 ct9 oc10 kV10 dc10 pm10 cd10 ct10 oc11 kV11 dc11 pm11 cd11 ct11 oc12 kV12 dc12 pm12 cd12 ct12 oc13 kV13 dc13 pm13 cd13 ct13 oc14 kV14 dc14 pm14 cd14 ct14 oc15 kV15 dc15 pm15 cd15 ct15 ocE_Wrong dcE_Wrong pmE_Wrong cdE_Wrong ctE_Wrong : Value}
    {r_Told_left : List Value}
    {xn_Wrong xq_Wrong : Str} {xN_Wrong : Addr} {xb_Wrong xsub_Wrong : List Value} {xsn_Wrong : List Str} {xab_Wrong : Bool} {xcol_Wrong : Option Bool} {xdd_Wrong : Option Addr} {xm0_Wrong xm1_Wrong xm2_Wrong xm3_Wrong xm5_Wrong : Option Value}
    {pa_Wrong pb_Wrong qa_Wrong qb_Wrong qc_Wrong qd_Wrong : Pos}
    (aC_Told : PySem.W.nsIn K mainGlobals "Told" = some (some (.ref c_Told)))
    (pg_Told : PySem.W.plainGet K c_Told Str.empty = true)
    (hd_Told : PySem.W.hasDictIn K c_Told = true)
    (po_Told : PySem.W.plainOver K c_Told = true)
    (mk_Told : PySem.W.makesIn K c_Told = true)
    (kc_Told : PySem.W.keepIn K (.ref c_Told) = true)
    (sa_Told : PySem.W.findIn K (.ref c_Told) "__setattr__" = some (some (.builtin "object.__setattr__")))
    (na_Told__rooms : PySem.W.findIn K (.ref c_Told) "_rooms" = some none)
    (na_Told__asked : PySem.W.findIn K (.ref c_Told) "_asked" = some none)
    (a_Told_init : PySem.W.findIn K (.ref c_Told) "__init__" = some (some (.ref f_Told_init)))
    (i_Told_init : PySem.W.isFn K (.ref f_Told_init) = true)
    (l1 : K.lookup f_Told_init = some ⟨oc1, od1, .func (PySem.W.fnOf "__init__" "Told.__init__" (defArgs s_Told_init) (defBody s_Told_init) (defScope s_Told_init) .none kV1 dc1 pm1 an1 cd1 ct1), sl1⟩)
    (c1 : PySem.W.codeIn K cd1 "Told.__init__" = true)
    (k1 : PySem.W.keepIn K (.ref f_Told_init) = true)
    (a_Told_call : PySem.W.findIn K (.ref c_Told) "__call__" = some (some (.ref f_Told_call)))
    (i_Told_call : PySem.W.isFn K (.ref f_Told_call) = true)
    (l2 : K.lookup f_Told_call = some ⟨oc2, od2, .func (PySem.W.fnOf "__call__" "Told.__call__" (defArgs s_Told_call) (defBody s_Told_call) (defScope s_Told_call) .none kV2 dc2 pm2 an2 cd2 ct2), sl2⟩)
    (c2 : PySem.W.codeIn K cd2 "Told.__call__" = true)
    (k2 : PySem.W.keepIn K (.ref f_Told_call) = true)
    (a_Told_asked : PySem.W.findIn K (.ref c_Told) "asked" = some (some (.ref f_Told_asked)))
    (i_Told_asked : PySem.W.isFn K (.ref f_Told_asked) = true)
    (l3 : K.lookup f_Told_asked = some ⟨oc3, od3, .func (PySem.W.fnOf "asked" "Told.asked" (defArgs s_Told_asked) (defBody s_Told_asked) (defScope s_Told_asked) .none kV3 dc3 pm3 an3 cd3 ct3), sl3⟩)
    (c3 : PySem.W.codeIn K cd3 "Told.asked" = true)
    (k3 : PySem.W.keepIn K (.ref f_Told_asked) = true)
    (pa_Told_left : PySem.W.findIn K (.ref c_Told) "left" = some (some (.ref q_Told_left)))
    (pg_Told_left : PySem.W.specialIn K (.ref q_Told_left) "__get__" = some (some (.builtin "property.__get__")))
    (pt_Told_left : PySem.W.takesIn K (.ref q_Told_left) = some true)
    (pr_Told_left : PySem.W.recIn K q_Told_left "property" = some (.ref f_Told_left :: r_Told_left))
    (l4 : K.lookup f_Told_left = some ⟨oc4, od4, .func (PySem.W.fnOf "left" "Told.left" (defArgs s_Told_left) (defBody s_Told_left) (defScope s_Told_left) .none kV4 dc4 pm4 an4 cd4 ct4), sl4⟩)
    (c4 : PySem.W.codeIn K cd4 "Told.left" = true)
    (k4 : PySem.W.keepIn K (.ref f_Told_left) = true)
    (fn_Told_call : PySem.W.fnIn K f_Told_call = true)
    (a_is_integer : PySem.W.nsIn K mainGlobals "is_integer" = some (some (.ref f_is_integer)))
    (l5 : K.lookup f_is_integer = some ⟨oc5, od5, .func (PySem.W.fnOf "is_integer" "is_integer" (defArgs s_is_integer) (defBody s_is_integer) (defScope s_is_integer) .none kV5 dc5 pm5 an5 cd5 ct5), sl5⟩)
    (c5 : PySem.W.codeIn K cd5 "is_integer" = true)
    (k5 : PySem.W.keepIn K (.ref f_is_integer) = true)
    (a_doubled : PySem.W.nsIn K mainGlobals "doubled" = some (some (.ref f_doubled)))
    (l6 : K.lookup f_doubled = some ⟨oc6, od6, .func (PySem.W.fnOf "doubled" "doubled" (defArgs s_doubled) (defBody s_doubled) (defScope s_doubled) .none kV6 dc6 pm6 an6 cd6 ct6), sl6⟩)
    (c6 : PySem.W.codeIn K cd6 "doubled" = true)
    (k6 : PySem.W.keepIn K (.ref f_doubled) = true)
    (a_exact : PySem.W.nsIn K mainGlobals "exact" = some (some (.ref f_exact)))
    (l7 : K.lookup f_exact = some ⟨oc7, od7, .func (PySem.W.fnOf "exact" "exact" (defArgs s_exact) (defBody s_exact) (defScope s_exact) .none kV7 dc7 pm7 an7 cd7 ct7), sl7⟩)
    (c7 : PySem.W.codeIn K cd7 "exact" = true)
    (k7 : PySem.W.keepIn K (.ref f_exact) = true)
    (a_l_bag : PySem.W.nsIn K mainGlobals "_law_bag" = some (some (.ref f_l_bag)))
    (l8 : K.lookup f_l_bag = some ⟨oc8, od8, .func (PySem.W.fnOf "_law_bag" "_law_bag" (defArgs s_l_bag) (defBody s_l_bag) (defScope s_l_bag) .none kV8 dc8 pm8 an8 cd8 ct8), sl8⟩)
    (c8 : PySem.W.codeIn K cd8 "_law_bag" = true)
    (k8 : PySem.W.keepIn K (.ref f_l_bag) = true)
    (a_l_take : PySem.W.nsIn K mainGlobals "_law_take" = some (some (.ref f_l_take)))
    (l9 : K.lookup f_l_take = some ⟨oc9, od9, .func (PySem.W.fnOf "_law_take" "_law_take" (defArgs s_l_take) (defBody s_l_take) (defScope s_l_take) .none kV9 dc9 pm9 an9 cd9 ct9), sl9⟩)
    (c9 : PySem.W.codeIn K cd9 "_law_take" = true)
    (k9 : PySem.W.keepIn K (.ref f_l_take) = true)
    (a_l_alike : PySem.W.nsIn K mainGlobals "_law_alike" = some (some (.ref f_l_alike)))
    (l10 : K.lookup f_l_alike = some ⟨oc10, od10, .func (PySem.W.fnOf "_law_alike" "_law_alike" (defArgs s_l_alike) (defBody s_l_alike) (defScope s_l_alike) .none kV10 dc10 pm10 an10 cd10 ct10), sl10⟩)
    (c10 : PySem.W.codeIn K cd10 "_law_alike" = true)
    (k10 : PySem.W.keepIn K (.ref f_l_alike) = true)
    (a_l_number : PySem.W.nsIn K mainGlobals "_law_number" = some (some (.ref f_l_number)))
    (l11 : K.lookup f_l_number = some ⟨oc11, od11, .func (PySem.W.fnOf "_law_number" "_law_number" (defArgs s_l_number) (defBody s_l_number) (defScope s_l_number) .none kV11 dc11 pm11 an11 cd11 ct11), sl11⟩)
    (c11 : PySem.W.codeIn K cd11 "_law_number" = true)
    (k11 : PySem.W.keepIn K (.ref f_l_number) = true)
    (a_l_refused : PySem.W.nsIn K mainGlobals "_law_refused" = some (some (.ref f_l_refused)))
    (l12 : K.lookup f_l_refused = some ⟨oc12, od12, .func (PySem.W.fnOf "_law_refused" "_law_refused" (defArgs s_l_refused) (defBody s_l_refused) (defScope s_l_refused) .none kV12 dc12 pm12 an12 cd12 ct12), sl12⟩)
    (c12 : PySem.W.codeIn K cd12 "_law_refused" = true)
    (k12 : PySem.W.keepIn K (.ref f_l_refused) = true)
    (a_l_turns_right : PySem.W.nsIn K mainGlobals "_law_turns_right" = some (some (.ref f_l_turns_right)))
    (l13 : K.lookup f_l_turns_right = some ⟨oc13, od13, .func (PySem.W.fnOf "_law_turns_right" "_law_turns_right" (defArgs s_l_turns_right) (defBody s_l_turns_right) (defScope s_l_turns_right) .none kV13 dc13 pm13 an13 cd13 ct13), sl13⟩)
    (c13 : PySem.W.codeIn K cd13 "_law_turns_right" = true)
    (k13 : PySem.W.keepIn K (.ref f_l_turns_right) = true)
    (a_l_great_right : PySem.W.nsIn K mainGlobals "_law_great_right" = some (some (.ref f_l_great_right)))
    (l14 : K.lookup f_l_great_right = some ⟨oc14, od14, .func (PySem.W.fnOf "_law_great_right" "_law_great_right" (defArgs s_l_great_right) (defBody s_l_great_right) (defScope s_l_great_right) .none kV14 dc14 pm14 an14 cd14 ct14), sl14⟩)
    (c14 : PySem.W.codeIn K cd14 "_law_great_right" = true)
    (k14 : PySem.W.keepIn K (.ref f_l_great_right) = true)
    (a_law : PySem.W.nsIn K mainGlobals "law" = some (some (.ref f_law)))
    (l15 : K.lookup f_law = some ⟨oc15, od15, .func (PySem.W.fnOf "law" "law" (defArgs s_law) (defBody s_law) (defScope s_law) .none kV15 dc15 pm15 an15 cd15 ct15), sl15⟩)
    (c15 : PySem.W.codeIn K cd15 "law" = true)
    (k15 : PySem.W.keepIn K (.ref f_law) = true)
    (aC_TailError : PySem.W.nsIn K mainGlobals "TailError" = some (some (.ref c_TailError)))
    (ic_TailError : PySem.W.isClsIn K c_TailError = true)
    (it_TailError : PySem.W.typeIn K (.ref c_TailError) = some (.type "type"))
    (aC_Wrong : PySem.W.nsIn K mainGlobals "Wrong" = some (some (.ref c_Wrong)))
    (ic_Wrong : PySem.W.isClsIn K c_Wrong = true)
    (it_Wrong : PySem.W.typeIn K (.ref c_Wrong) = some (.type "type"))
    (aC_BadRoom : PySem.W.nsIn K mainGlobals "BadRoom" = some (some (.ref c_BadRoom)))
    (ic_BadRoom : PySem.W.isClsIn K c_BadRoom = true)
    (it_BadRoom : PySem.W.typeIn K (.ref c_BadRoom) = some (.type "type"))
    (xL_Wrong : K.lookup c_Wrong = some (PySem.excClassObj xn_Wrong xq_Wrong c_Wrong xN_Wrong xb_Wrong [.ref c_TailError, .type "ValueError", .type "Exception", .type "BaseException", .type "object"] true xsn_Wrong xsub_Wrong xab_Wrong xcol_Wrong xdd_Wrong xm0_Wrong xm1_Wrong xm2_Wrong xm3_Wrong xm5_Wrong "ValueError.__new__"))
    (esa_Wrong : PySem.W.findIn K (.ref c_Wrong) "__setattr__" = some (some (.builtin "object.__setattr__")))
    (ega_Wrong : PySem.W.findIn K (.ref c_Wrong) "__getattribute__" = some (some (.builtin "BaseException.__getattribute__")))
    (egg_Wrong : PySem.W.findIn K (.ref c_Wrong) "__getattr__" = some none)
    (ekC_Wrong : PySem.W.keepIn K (.ref c_Wrong) = true)
    (eeC_Wrong : PySem.W.subIn K (.ref c_Wrong) (.type "BaseException") = some true)
    (ehd_Wrong : PySem.W.hasDictIn K c_Wrong = true)
    (ecc_Wrong : PySem.W.findIn K (.ref c_Wrong) "__class__" = some (some (.builtin "object.__class__")))
    (emo_Wrong : PySem.W.mroIn K c_Wrong (.type "object") = some true)
    (esp_Wrong : PySem.W.specialIn K (.builtin "object.__class__") "__get__" = some (some (.builtin "getset_descriptor.__get__")))
    (etk_Wrong : PySem.W.takesIn K (.builtin "object.__class__") = some true)
    (emm_Wrong : PySem.W.mroIn K c_Wrong (.ref c_Wrong) = some true)
    (enF_Wrong : PySem.W.findIn K (.ref c_Wrong) "place" = some none)
    (eiC_Wrong : PySem.W.findIn K (.ref c_Wrong) "__init__" = some (some (.ref f_Wrong_init)))
    (etf_Wrong : PySem.W.typeIn K (.ref f_Wrong_init) = some (.type "function"))
    (elF_Wrong : K.lookup f_Wrong_init = some ⟨ocE_Wrong, odE_Wrong, .func (PySem.W.fnOf "__init__" "Wrong.__init__" (PySem.ErWrong.iA pa_Wrong pb_Wrong) (PySem.ErWrong.iB qa_Wrong qb_Wrong qc_Wrong qd_Wrong) PySem.ErWrong.iS .none .none dcE_Wrong pmE_Wrong anE_Wrong cdE_Wrong ctE_Wrong), slE_Wrong⟩)
    (ecF_Wrong : PySem.W.codeIn K cdE_Wrong "Wrong.__init__" = true)
    (ebB_TailError : PySem.W.subIn K (.ref c_TailError) (.type "BaseException") = some true)
    (ems_Wrong_TailError : PySem.W.mroIn K c_Wrong (.ref c_TailError) = some true)
    (emn_Wrong_BadRoom : PySem.W.mroIn K c_Wrong (.ref c_BadRoom) = some false)
    (ty_exact : PySem.W.typeIn K (.ref f_exact) = some (.type "function"))
    (z_len : PySem.W.nsIn K mainGlobals "len" = some none)
    (z_int : PySem.W.nsIn K mainGlobals "int" = some none)
    (z_abs : PySem.W.nsIn K mainGlobals "abs" = some none)
    (z_list : PySem.W.nsIn K mainGlobals "list" = some none)
    (z_max : PySem.W.nsIn K mainGlobals "max" = some none)
    (z_isinstance : PySem.W.nsIn K mainGlobals "isinstance" = some none)
    (z_all : PySem.W.nsIn K mainGlobals "all" = some none)
    (z_bool : PySem.W.nsIn K mainGlobals "bool" = some none)
    (z_range : PySem.W.nsIn K mainGlobals "range" = some none)
    (z_repr : PySem.W.nsIn K mainGlobals "repr" = some none) :
    ∃ fd : FuncData, (∀ (s : Shared) (v : Value), BindsTo s fd ⟨[v], []⟩ [("_law_script", v)]) ∧ ∀ base : Heap, K.In base → base.Ns mainGlobals mg → FnG l.prog w K mg base 7 fa fd ["_law_script"] (spLaw K) := by
    have e := hfa.symm.trans (PySem.W.mg_of X G a_law)
    cases e
    have T : Txt K mg c_Told f_doubled f_exact := ⟨PySem.W.mg_none_of X G z_len, PySem.W.mg_none_of X G z_int, PySem.W.mg_none_of X G z_abs, PySem.W.mg_none_of X G z_list, PySem.W.mg_none_of X G z_max, PySem.W.mg_none_of X G z_isinstance, PySem.W.mg_none_of X G z_all, PySem.W.mg_none_of X G z_bool, PySem.W.mg_none_of X G z_range, PySem.W.mg_none_of X G z_repr, ⟨pg_Told, hd_Told, po_Told, sa_Told⟩, na_Told__rooms, na_Told__asked, PySem.W.mg_of X G a_doubled, PySem.W.mg_of X G a_exact⟩
    have gC_Told : mg "Told" = some (.ref c_Told) := PySem.W.mg_of X G aC_Told
    have F1 := fun_mk (st := s_Told_init) l1 c1 k1
    have b1 := F1.binds (ps := ["self", "rooms"]) fun _ _ _ _ _ _ us hl => match us, hl with | [_, _], _ => rfl
    have Y_Told_init : Mt K c_Told "__init__" "Told.__init__" s_Told_init ["self", "rooms"] f_Told_init := ⟨⟨_, F1, b1⟩, ⟨a_Told_init, i_Told_init, k1⟩⟩
    have Z_Told : Ct K mg "Told" c_Told f_Told_init := ⟨PySem.W.mg_of X G aC_Told, ⟨mk_Told, a_Told_init, i_Told_init, kc_Told⟩⟩
    have F2 := fun_mk (st := s_Told_call) l2 c2 k2
    have b2 := F2.binds (ps := ["self", "room", "needed"]) fun _ _ _ _ _ _ us hl => match us, hl with | [_, _, _], _ => rfl
    have Y_Told_call : Mt K c_Told "__call__" "Told.__call__" s_Told_call ["self", "room", "needed"] f_Told_call := ⟨⟨_, F2, b2⟩, ⟨a_Told_call, i_Told_call, k2⟩⟩
    have F3 := fun_mk (st := s_Told_asked) l3 c3 k3
    have b3 := F3.binds (ps := ["self"]) fun _ _ _ _ _ _ us hl => match us, hl with | [_], _ => rfl
    have Y_Told_asked : Mt K c_Told "asked" "Told.asked" s_Told_asked ["self"] f_Told_asked := ⟨⟨_, F3, b3⟩, ⟨a_Told_asked, i_Told_asked, k3⟩⟩
    have F4 := fun_mk (st := s_Told_left) l4 c4 k4
    have b4 := F4.binds (ps := ["self"]) fun _ _ _ _ _ _ us hl => match us, hl with | [_], _ => rfl
    have Y_Told_left : Pt K c_Told "left" "Told.left" s_Told_left f_Told_left := ⟨⟨_, F4, b4⟩, ⟨_, ⟨pa_Told_left, pg_Told_left, pt_Told_left, ⟨_, pr_Told_left⟩⟩⟩⟩
    have H_Told_call : ∀ f, PySem.W.findIn K (.ref c_Told) "__call__" = some (some (.ref f)) → PySem.W.fnIn K f = true := fun f h => by have e := a_Told_call.symm.trans h; cases e; exact fn_Told_call
    have F5 := fun_mk (st := s_is_integer) l5 c5 k5
    have b5 := F5.binds (ps := ["thing"]) fun _ _ _ _ _ _ us hl => match us, hl with | [_], _ => rfl
    have Y_is_integer : Dt K mg "is_integer" s_is_integer ["thing"] f_is_integer := ⟨⟨_, F5, b5⟩, PySem.W.mg_of X G a_is_integer⟩
    have F6 := fun_mk (st := s_doubled) l6 c6 k6
    have b6 := F6.binds (ps := ["room", "needed"]) fun _ _ _ _ _ _ us hl => match us, hl with | [_, _], _ => rfl
    have Y_doubled : Dt K mg "doubled" s_doubled ["room", "needed"] f_doubled := ⟨⟨_, F6, b6⟩, PySem.W.mg_of X G a_doubled⟩
    have F7 := fun_mk (st := s_exact) l7 c7 k7
    have b7 := F7.binds (ps := ["room", "needed"]) fun _ _ _ _ _ _ us hl => match us, hl with | [_, _], _ => rfl
    have Y_exact : Dt K mg "exact" s_exact ["room", "needed"] f_exact := ⟨⟨_, F7, b7⟩, PySem.W.mg_of X G a_exact⟩
    have F8 := fun_mk (st := s_l_bag) l8 c8 k8
    have b8 := F8.binds (ps := ["_law_script"]) fun _ _ _ _ _ _ us hl => match us, hl with | [_], _ => rfl
    have Y_l_bag : Dt K mg "_law_bag" s_l_bag ["_law_script"] f_l_bag := ⟨⟨_, F8, b8⟩, PySem.W.mg_of X G a_l_bag⟩
    have F9 := fun_mk (st := s_l_take) l9 c9 k9
    have b9 := F9.binds (ps := ["_law_bag_here", "_law_many"]) fun _ _ _ _ _ _ us hl => match us, hl with | [_, _], _ => rfl
    have Y_l_take : Dt K mg "_law_take" s_l_take ["_law_bag_here", "_law_many"] f_l_take := ⟨⟨_, F9, b9⟩, PySem.W.mg_of X G a_l_take⟩
    have F10 := fun_mk (st := s_l_alike) l10 c10 k10
    have b10 := F10.binds (ps := ["_law_found", "_law_due"]) fun _ _ _ _ _ _ us hl => match us, hl with | [_, _], _ => rfl
    have Y_l_alike : Dt K mg "_law_alike" s_l_alike ["_law_found", "_law_due"] f_l_alike := ⟨⟨_, F10, b10⟩, PySem.W.mg_of X G a_l_alike⟩
    have F11 := fun_mk (st := s_l_number) l11 c11 k11
    have b11 := F11.binds (ps := ["_law_bag_here"]) fun _ _ _ _ _ _ us hl => match us, hl with | [_], _ => rfl
    have Y_l_number : Dt K mg "_law_number" s_l_number ["_law_bag_here"] f_l_number := ⟨⟨_, F11, b11⟩, PySem.W.mg_of X G a_l_number⟩
    have F12 := fun_mk (st := s_l_refused) l12 c12 k12
    have b12 := F12.binds (ps := ["_law_thing"]) fun _ _ _ _ _ _ us hl => match us, hl with | [_], _ => rfl
    have Y_l_refused : Dt K mg "_law_refused" s_l_refused ["_law_thing"] f_l_refused := ⟨⟨_, F12, b12⟩, PySem.W.mg_of X G a_l_refused⟩
    have F13 := fun_mk (st := s_l_turns_right) l13 c13 k13
    have b13 := F13.binds (ps := ["_law_bag_here", "_law_lots"]) fun _ _ _ _ _ _ us hl => match us, hl with | [_, _], _ => rfl
    have Y_l_turns_right : Dt K mg "_law_turns_right" s_l_turns_right ["_law_bag_here", "_law_lots"] f_l_turns_right := ⟨⟨_, F13, b13⟩, PySem.W.mg_of X G a_l_turns_right⟩
    have F14 := fun_mk (st := s_l_great_right) l14 c14 k14
    have b14 := F14.binds (ps := ["_law_bag_here"]) fun _ _ _ _ _ _ us hl => match us, hl with | [_], _ => rfl
    have Y_l_great_right : Dt K mg "_law_great_right" s_l_great_right ["_law_bag_here"] f_l_great_right := ⟨⟨_, F14, b14⟩, PySem.W.mg_of X G a_l_great_right⟩
    have F15 := fun_mk (st := s_law) l15 c15 k15
    have b15 := F15.binds (ps := ["_law_script"]) fun _ _ _ _ _ _ us hl => match us, hl with | [_], _ => rfl
    have gTailError : mg "TailError" = some (.ref c_TailError) := PySem.W.mg_of X G aC_TailError
    have gWrong : mg "Wrong" = some (.ref c_Wrong) := PySem.W.mg_of X G aC_Wrong
    have gBadRoom : mg "BadRoom" = some (.ref c_BadRoom) := PySem.W.mg_of X G aC_BadRoom
    have E_Wrong : PySem.ErWrong.Row K mg c_Wrong f_Wrong_init := { gC := gWrong, cls := ⟨xn_Wrong, xq_Wrong, xN_Wrong, xb_Wrong, _, xsn_Wrong, xsub_Wrong, xab_Wrong, xcol_Wrong, xdd_Wrong, xm0_Wrong, xm1_Wrong, xm2_Wrong, xm3_Wrong, xm5_Wrong, xL_Wrong, by rfl⟩, sa := esa_Wrong, ga := ega_Wrong, gg := egg_Wrong, noN := enF_Wrong, iC := eiC_Wrong, tC := etf_Wrong, kC := ekC_Wrong, exC := eeC_Wrong, tyC := it_Wrong, hdC := ehd_Wrong, fn := ⟨_, _, _, _, _, _, _, _, _, _, _, _, _, _, elF_Wrong, ecF_Wrong⟩ }
    have EC_Wrong : ErC K c_Wrong := ⟨ic_Wrong, ega_Wrong, egg_Wrong, eeC_Wrong, ecc_Wrong, esp_Wrong, etk_Wrong, emo_Wrong⟩
    have ex_Wrong_TailError : PySem.W.exmOne K (.ref c_Wrong) (.ref c_TailError) = some true := er_exm ebB_TailError ic_TailError it_TailError ems_Wrong_TailError
    have kn_Wrong_BadRoom : PySem.W.kitOne K (.ref c_Wrong) (.ref c_BadRoom) = some false := er_ne emm_Wrong emn_Wrong_BadRoom ic_BadRoom it_BadRoom
    refine ⟨PySem.W.fnOf "law" "law" (defArgs s_law) (defBody s_law) (defScope s_law) .none kV15 dc15 pm15 an15 cd15 ct15, fun s v => .of_eq rfl, fun base _ _ => ?_⟩
    have D_is_integer := ok_is_integer (P := l.prog) (w := w) (base := base) Y_is_integer T
    have D_is_any := ok_is_any (P := l.prog) (w := w) (base := base) Y_is_integer T
    have D_doubled := ok_doubled (P := l.prog) (w := w) (base := base) Y_doubled T
    have D_exact := ok_exact (P := l.prog) (w := w) (base := base) Y_exact T
    have M_Told := (ok_Told_init Y_Told_init T D_is_integer).cf Z_Told
    have M_ToldX := (ok_Told_initX Y_Told_init T E_Wrong D_is_any).cf Z_Told
    have M_call := ok_Told_call (P := l.prog) (w := w) (base := base) Y_Told_call T
    have M_asked := ok_Told_asked (P := l.prog) (w := w) (base := base) Y_Told_asked T
    have M_left := ok_Told_left (P := l.prog) (w := w) (base := base) Y_Told_left T
    have D_l_take := ok_l_take (c_Array := 0) (c_Window := 0) (P := l.prog) (w := w) (base := base) Y_l_take T
    have D_l_bag := ok_l_bag (c_Array := 0) (c_Window := 0) (P := l.prog) (w := w) (base := base) Y_l_bag T
    have D_l_alike := ok_l_alike (P := l.prog) (w := w) (base := base) Y_l_alike T
    have D_l_number := ok_l_number Y_l_number T D_l_take
    have D_l_refused := ok_l_refused Y_l_refused T E_Wrong EC_Wrong gTailError gWrong gBadRoom ex_Wrong_TailError er_self kn_Wrong_BadRoom M_ToldX
    have D_l_turns := ok_l_turns Y_l_turns_right T D_l_take D_l_number D_l_alike M_Told M_call H_Told_call M_asked M_left
    have D_l_great := ok_l_great Y_l_great_right T D_l_take D_l_refused M_Told M_call H_Told_call M_asked M_left
    exact ok_law F15 T D_l_bag D_l_take D_l_number D_l_alike D_exact D_doubled D_l_turns D_l_refused D_l_great ty_exact
theorem walk {l : PySem.W.OpenLaw} {q : Program} {loose : List Str} {XP : (Str → Option Value) → Heap → Prop} {YP : World → Heap → Prop} {d : DefRec} {K : Params → PySem.W.Frag} (hn : l.most = some 63) (hdf : d.params.defaults = [])
    (hY : ∀ (w : World) (h : Heap), YP w h → (K w.params).In h)
    (F : ∀ (w : World) (mg : Str → Option Value) (fa : Addr) (h : Heap), (K w.params).In h → h.Ns mainGlobals mg → mg d.name = some (.ref fa) →
      ∃ fd : FuncData, (∀ (s : Shared) (u : Value), BindsTo s fd ⟨[u], []⟩ [("_law_script", u)]) ∧ ∀ base : Heap, (K w.params).In base → base.Ns mainGlobals mg → FnG l.prog w (K w.params) mg base 7 fa fd ["_law_script"] (spLaw (K w.params))) :
    PySem.W.WalkO q loose XP YP l.row.toRowW d [] (fun f vs => PySem.call f vs) :=
  walk_G (n := 63) (k := 7) (x := "_law_script") (sp := fun w => spLaw (K w.params)) hn (by decide) hdf ⟨rfl, by decide, by decide⟩ hY F (fun _ H a ns hl _ _ hS => ⟨a, ns, rfl, hS, hl, fun _ => rfl⟩)
end Pf

open PySem PySem.W PyProof.Rows in
set_option maxRecDepth 100000 in
set_option maxHeartbeats 0 in
theorem PySem.Challenge.cw_sparetails_k22_rules_holds : PySem.Challenge.rw_sparetails_k22_rules.Holds := by
  w_on; o_law; k_head; (case hw => w_witness2)
  k_fill
  refine Pf.walk (l := PySem.Challenge.rw_sparetails_k22_rules) rfl rfl (fun w h Y => PySem.W.kIn_of Y) ?F
  case F =>
    intro w mg fa h KX G hmg
    refine' Pf.all_mk KX G hmg ?aC_Told ?pg_Told ?hd_Told ?po_Told ?mk_Told ?kc_Told ?sa_Told ?na_Told__rooms ?na_Told__asked ?a_Told_init ?i_Told_init ?l1 ?c1 ?k1 ?a_Told_call ?i_Told_call ?l2 ?c2 ?k2 ?a_Told_asked ?i_Told_asked ?l3 ?c3 ?k3 ?pa_Told_left ?pg_Told_left ?pt_Told_left ?pr_Told_left ?l4 ?c4 ?k4 ?fn_Told_call ?a_is_integer ?l5 ?c5 ?k5 ?a_doubled ?l6 ?c6 ?k6 ?a_exact ?l7 ?c7 ?k7 ?a_l_bag ?l8 ?c8 ?k8 ?a_l_take ?l9 ?c9 ?k9 ?a_l_alike ?l10 ?c10 ?k10 ?a_l_number ?l11 ?c11 ?k11 ?a_l_refused ?l12 ?c12 ?k12 ?a_l_turns_right ?l13 ?c13 ?k13 ?a_l_great_right ?l14 ?c14 ?k14 ?a_law ?l15 ?c15 ?k15 ?aC_TailError ?ic_TailError ?it_TailError ?aC_Wrong ?ic_Wrong ?it_Wrong ?aC_BadRoom ?ic_BadRoom ?it_BadRoom ?xL_Wrong ?esa_Wrong ?ega_Wrong ?egg_Wrong ?ekC_Wrong ?eeC_Wrong ?ehd_Wrong ?ecc_Wrong ?emo_Wrong ?esp_Wrong ?etk_Wrong ?emm_Wrong ?enF_Wrong ?eiC_Wrong ?etf_Wrong ?elF_Wrong ?ecF_Wrong ?ebB_TailError ?ems_Wrong_TailError ?emn_Wrong_BadRoom ?ty_exact ?z_len ?z_int ?z_abs ?z_list ?z_max ?z_isinstance ?z_all ?z_bool ?z_range ?z_repr
    (case aC_Told => k_is)
    (case pg_Told => k_is)
    (case hd_Told => k_is)
    (case po_Told => k_is)
    (case mk_Told => k_is)
    (case kc_Told => k_is)
    (case sa_Told => k_is)
    (case na_Told__rooms => k_is)
    (case na_Told__asked => k_is)
    (case a_Told_init => k_is)
    (case i_Told_init => k_is)
    (case l1 => k_is)
    (case c1 => k_is)
    (case k1 => k_is)
    (case a_Told_call => k_is)
    (case i_Told_call => k_is)
    (case l2 => k_is)
    (case c2 => k_is)
    (case k2 => k_is)
    (case a_Told_asked => k_is)
    (case i_Told_asked => k_is)
    (case l3 => k_is)
    (case c3 => k_is)
    (case k3 => k_is)
    (case pa_Told_left => k_is)
    (case pg_Told_left => k_is)
    (case pt_Told_left => k_is)
    (case pr_Told_left => k_is)
    (case l4 => k_is)
    (case c4 => k_is)
    (case k4 => k_is)
    (case fn_Told_call => k_is)
    (case a_is_integer => k_is)
    (case l5 => k_is)
    (case c5 => k_is)
    (case k5 => k_is)
    (case a_doubled => k_is)
    (case l6 => k_is)
    (case c6 => k_is)
    (case k6 => k_is)
    (case a_exact => k_is)
    (case l7 => k_is)
    (case c7 => k_is)
    (case k7 => k_is)
    (case a_l_bag => k_is)
    (case l8 => k_is)
    (case c8 => k_is)
    (case k8 => k_is)
    (case a_l_take => k_is)
    (case l9 => k_is)
    (case c9 => k_is)
    (case k9 => k_is)
    (case a_l_alike => k_is)
    (case l10 => k_is)
    (case c10 => k_is)
    (case k10 => k_is)
    (case a_l_number => k_is)
    (case l11 => k_is)
    (case c11 => k_is)
    (case k11 => k_is)
    (case a_l_refused => k_is)
    (case l12 => k_is)
    (case c12 => k_is)
    (case k12 => k_is)
    (case a_l_turns_right => k_is)
    (case l13 => k_is)
    (case c13 => k_is)
    (case k13 => k_is)
    (case a_l_great_right => k_is)
    (case l14 => k_is)
    (case c14 => k_is)
    (case k14 => k_is)
    (case a_law => k_is)
    (case l15 => k_is)
    (case c15 => k_is)
    (case k15 => k_is)
    (case aC_TailError => k_is)
    (case ic_TailError => k_is)
    (case it_TailError => k_is)
    (case aC_Wrong => k_is)
    (case ic_Wrong => k_is)
    (case it_Wrong => k_is)
    (case aC_BadRoom => k_is)
    (case ic_BadRoom => k_is)
    (case it_BadRoom => k_is)
    (case xL_Wrong => k_is)
    (case esa_Wrong => k_is)
    (case ega_Wrong => k_is)
    (case egg_Wrong => k_is)
    (case ekC_Wrong => k_is)
    (case eeC_Wrong => k_is)
    (case ehd_Wrong => k_is)
    (case ecc_Wrong => k_is)
    (case emo_Wrong => k_is)
    (case esp_Wrong => k_is)
    (case etk_Wrong => k_is)
    (case emm_Wrong => k_is)
    (case enF_Wrong => k_is)
    (case eiC_Wrong => k_is)
    (case etf_Wrong => k_is)
    (case elF_Wrong => k_is)
    (case ecF_Wrong => k_is)
    (case ebB_TailError => k_is)
    (case ems_Wrong_TailError => k_is)
    (case emn_Wrong_BadRoom => k_is)
    (case ty_exact => k_is)
    (case z_len => k_is)
    (case z_int => k_is)
    (case z_abs => k_is)
    (case z_list => k_is)
    (case z_max => k_is)
    (case z_isinstance => k_is)
    (case z_all => k_is)
    (case z_bool => k_is)
    (case z_range => k_is)
    (case z_repr => k_is)


