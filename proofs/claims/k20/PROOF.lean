import PyProof.Rows.All
import Wide.All
import OpenK.AllK
import Wide.FinOn
import HandS.Base
import HandS.Call
import HandS.List
import HandS.Comp
import HandS.Ends
import HandS.Words
import HandS.ForMost
import HandS.Style
import HandS.NoneIn
import HandS.IsInst
import HandS.Wide
import HandS.More
import HandS.Codes
import HandS.SlotsOwn
import HandS.Property
import HandS.MakeKwOnly
import HandS.CallLocal
import HandS.EndBits
import PyProof.ReprLen
import HandS.OwnEq
import HandS.Zip
import PySem.Challenge.RW_sparetails_k20_windows_told
set_option Elab.async false
set_option linter.all false
set_option maxRecDepth 100000
namespace Kt
open PySem L2
/-! ### what is known of the heap, part by part -/
abbrev SP := Hp → Prop
def Le (G H : Hp) : Prop := ∀ a o, G a = some o → H a = some o
def sub (H G : Hp) : Hp := fun a => if (G a).isSome = true then none else H a
def Sep : List SP → Hp → Prop
  | [], _ => True
  | P :: Ps, H => ∃ G, Le G H ∧ P G ∧ Sep Ps (sub H G)
def pt (a : Addr) (o : HO) : SP := fun G => G a = some o
theorem sub_of {H G : Hp} {a : Addr} (h : G a = none) : sub H G a = H a := by
  unfold sub; rw [h]; rfl
theorem sub_in {H G : Hp} {a : Addr} {o : HO} (h : G a = some o) : sub H G a = none := by
  unfold sub; rw [h]; rfl
theorem sub_some {H G : Hp} {a : Addr} {o : HO} (h : sub H G a = some o) : G a = none ∧ H a = some o := by
  cases e : G a with
  | none => rw [sub_of e] at h; exact ⟨rfl, h⟩
  | some u => rw [sub_in e] at h; cases h
theorem Sep.mono : ∀ {Ps : List SP} {H H' : Hp}, Le H H' → Sep Ps H → Sep Ps H'
  | [], _, _, _, _ => trivial
  | P :: Ps, H, H', l, ⟨G, h1, h2, h3⟩ => ⟨G, fun a o e => l a o (h1 a o e), h2, Sep.mono (fun a o e => by
      obtain ⟨e1, e2⟩ := sub_some e
      rw [sub_of e1]; exact l a o e2) h3⟩
theorem Sep.tl {P : SP} {Ps : List SP} {H : Hp} : Sep (P :: Ps) H → Sep Ps H := fun ⟨G, _, _, h⟩ => h.mono fun a o e => (sub_some e).2
theorem Sep.swap {P Q : SP} {Ps : List SP} {H : Hp} : Sep (P :: Q :: Ps) H → Sep (Q :: P :: Ps) H := fun ⟨G1, l1, p1, G2, l2, p2, h⟩ => by
  have d : ∀ a o, G1 a = some o → G2 a = none := fun a o e => by
    cases e2 : G2 a with
    | none => rfl
    | some u => have := l2 a u e2; rw [sub_in e] at this; cases this
  refine ⟨G2, fun a o e => (sub_some (l2 a o e)).2, p2, G1, fun a o e => ?_, p1, h.mono fun a o e => ?_⟩
  · rw [sub_of (d a o e)]; exact l1 a o e
  · obtain ⟨e1, e2⟩ := sub_some e
    obtain ⟨e3, e4⟩ := sub_some e2
    rw [sub_of e3, sub_of e1]; exact e4
theorem Sep.cons_mono {P : SP} {Ps Qs : List SP} {H : Hp} (f : ∀ H', Sep Ps H' → Sep Qs H') : Sep (P :: Ps) H → Sep (P :: Qs) H := fun ⟨G, h1, h2, h3⟩ => ⟨G, h1, h2, f _ h3⟩
theorem Sep.hd_mono {P Q : SP} {Ps : List SP} {H : Hp} (f : ∀ G, P G → Q G) : Sep (P :: Ps) H → Sep (Q :: Ps) H := fun ⟨G, h1, h2, h3⟩ => ⟨G, h1, f _ h2, h3⟩
/-- one part to the front -/
inductive Pick (A : SP) : List SP → List SP → Prop where
  | hd {Ps : List SP} : Pick A (A :: Ps) Ps
  | tl {P : SP} {Ps Qs : List SP} : Pick A Ps Qs → Pick A (P :: Ps) (P :: Qs)
theorem Pick.go {A : SP} {Ps Qs : List SP} (p : Pick A Ps Qs) : ∀ {H : Hp}, Sep Ps H → Sep (A :: Qs) H := by
  induction p with
  | hd => exact fun h => h
  | tl _ ih => exact fun h => (h.cons_mono fun _ => ih).swap
theorem Pick.back {A : SP} {Ps Qs : List SP} (p : Pick A Ps Qs) : ∀ {H : Hp}, Sep (A :: Qs) H → Sep Ps H := by
  induction p with
  | hd => exact fun h => h
  | tl _ ih => exact fun h => h.swap.cons_mono fun _ => ih
inductive Dr : List SP → List SP → Prop where
  | all {Ps : List SP} : Dr Ps Ps
  | skip {P : SP} {Ps Qs : List SP} : Dr Ps Qs → Dr (P :: Ps) Qs
theorem Dr.go {Ps Qs : List SP} (p : Dr Ps Qs) : ∀ {H : Hp}, Sep Ps H → Sep Qs H := by
  induction p with
  | all => exact fun h => h
  | skip _ ih => exact fun h => ih h.tl
inductive Sel : List SP → List SP → List SP → Prop where
  | nil {Ps Qs : List SP} : Dr Ps Qs → Sel [] Ps Qs
  | cons {A : SP} {As Ps Qs Rs : List SP} : Pick A Ps Qs → Sel As Qs Rs → Sel (A :: As) Ps Rs
theorem Sel.go {As Ps Rs : List SP} (p : Sel As Ps Rs) : ∀ {H : Hp}, Sep Ps H → Sep (As ++ Rs) H := by
  induction p with
  | nil d => exact fun h => d.go h
  | cons p _ ih => exact fun h => (p.go h).cons_mono fun _ => ih
theorem Sep.sel {As Ps Rs : List SP} {H : Hp} (h : Sep Ps H) (p : Sel As Ps Rs) : Sep (As ++ Rs) H := p.go h
theorem Sep.s1 {A : SP} {Ps Rs : List SP} {H : Hp} (h : Sep Ps H) (p : Sel [A] Ps Rs) : Sep (A :: Rs) H := h.sel p
theorem Sep.s2 {A B : SP} {Ps Rs : List SP} {H : Hp} (h : Sep Ps H) (p : Sel [A, B] Ps Rs) : Sep (A :: B :: Rs) H := h.sel p
theorem Sep.s3 {A B C : SP} {Ps Rs : List SP} {H : Hp} (h : Sep Ps H) (p : Sel [A, B, C] Ps Rs) : Sep (A :: B :: C :: Rs) H := h.sel p
theorem Sep.s4 {A B C D : SP} {Ps Rs : List SP} {H : Hp} (h : Sep Ps H) (p : Sel [A, B, C, D] Ps Rs) : Sep (A :: B :: C :: D :: Rs) H := h.sel p
theorem Sep.s5 {A B C D E : SP} {Ps Rs : List SP} {H : Hp} (h : Sep Ps H) (p : Sel [A, B, C, D, E] Ps Rs) : Sep (A :: B :: C :: D :: E :: Rs) H := h.sel p
theorem Sep.s6 {A B C D E F : SP} {Ps Rs : List SP} {H : Hp} (h : Sep Ps H) (p : Sel [A, B, C, D, E, F] Ps Rs) : Sep (A :: B :: C :: D :: E :: F :: Rs) H := h.sel p
theorem Sep.s7 {A B C D E F G : SP} {Ps Rs : List SP} {H : Hp} (h : Sep Ps H) (p : Sel [A, B, C, D, E, F, G] Ps Rs) : Sep (A :: B :: C :: D :: E :: F :: G :: Rs) H := h.sel p
theorem Sep.s8 {A B C D E F G I : SP} {Ps Rs : List SP} {H : Hp} (h : Sep Ps H) (p : Sel [A, B, C, D, E, F, G, I] Ps Rs) : Sep (A :: B :: C :: D :: E :: F :: G :: I :: Rs) H := h.sel p
theorem Sep.pk {A : SP} {Ps Qs : List SP} {H : Hp} (h : Sep Ps H) (p : Pick A Ps Qs) : Sep (A :: Qs) H := p.go h
/-- one part looked up, put otherwise -/
inductive Repl (a : Addr) (o o' : HO) : List SP → List SP → Prop where
  | hd {Ps : List SP} : Repl a o o' (pt a o :: Ps) (pt a o' :: Ps)
  | tl {P : SP} {Ps Qs : List SP} : Repl a o o' Ps Qs → Repl a o o' (P :: Ps) (P :: Qs)
theorem Repl.pick {a : Addr} {o o' : HO} {Ps Qs : List SP} (r : Repl a o o' Ps Qs) : ∃ Rs, Pick (pt a o) Ps Rs ∧ Pick (pt a o') Qs Rs := by
  induction r with
  | hd => exact ⟨_, .hd, .hd⟩
  | tl _ ih => obtain ⟨Rs, h1, h2⟩ := ih; exact ⟨_, .tl h1, .tl h2⟩
theorem Sep.hd_at {a : Addr} {o : HO} {Ps : List SP} {H : Hp} : Sep (pt a o :: Ps) H → H a = some o := fun ⟨_, l, h, _⟩ => l a o h
theorem Sep.at_ {a : Addr} {o : HO} {Ps Qs : List SP} {H : Hp} (h : Sep Ps H) (p : Pick (pt a o) Ps Qs) : H a = some o := (p.go h).hd_at
theorem Sep.hd_set {a : Addr} {o : HO} {Ps : List SP} {H : Hp} (o' : HO) : Sep (pt a o :: Ps) H → Sep (pt a o' :: Ps) (upd H a o') := fun ⟨G, l, h, s⟩ => by
  have h' : G a = some o := h
  refine ⟨upd G a o', fun b u e => ?_, upd_same, s.mono fun b u e => ?_⟩
  · by_cases hb : b = a
    · subst hb; rw [upd_same] at e ⊢; exact e
    · rw [upd_ne hb] at e ⊢; exact l b u e
  · obtain ⟨e1, e2⟩ := sub_some e
    have hb : b ≠ a := fun q => by rw [q, h'] at e1; cases e1
    rw [sub_of (by rw [upd_ne hb]; exact e1), upd_ne hb]; exact e2
theorem Sep.set {a : Addr} {o o' : HO} {Ps Qs : List SP} {H : Hp} (h : Sep Ps H) (r : Repl a o o' Ps Qs) : Sep Qs (upd H a o') := by
  obtain ⟨Rs, h1, h2⟩ := r.pick
  exact h2.back ((h1.go h).hd_set o')
theorem Sep.new {p : Addr} {Ps : List SP} {H : Hp} (o : HO) (h : Sep Ps H) (n : H p = none) : Sep (pt p o :: Ps) (upd H p o) := by
  refine ⟨fun b => if b = p then some o else none, fun b u e => ?_, if_pos rfl, h.mono fun b u e => ?_⟩
  · by_cases hb : b = p
    · subst hb; rw [upd_same]; simpa using e
    · simp [hb] at e
  · have hb : b ≠ p := fun q => by rw [q, n] at e; cases e
    rw [sub_of (by simp [hb]), upd_ne hb]; exact e
/-- several parts as one -/
theorem Sep.flat : ∀ {As Rs : List SP} {H : Hp}, Sep (Sep As :: Rs) H → Sep (As ++ Rs) H
  | [], Rs, H, h => h.tl
  | A :: As, Rs, H, ⟨G, l, ⟨G1, l1, a, t⟩, r⟩ => by
    refine ⟨G1, fun b o e => l b o (l1 b o e), a, Sep.flat ⟨sub G G1, fun b o e => ?_, t, r.mono fun b o e => ?_⟩⟩
    · obtain ⟨e1, e2⟩ := sub_some e
      rw [sub_of e1]; exact l b o e2
    · obtain ⟨e1, e2⟩ := sub_some e
      have g1 : G1 b = none := by
        cases q : G1 b with
        | none => rfl
        | some u => have := l1 b u q; rw [e1] at this; cases this
      have g2 : sub G G1 b = none := by rw [sub_of g1]; exact e1
      rw [sub_of g2, sub_of g1]; exact e2
theorem Sep.unflat : ∀ {As Rs : List SP} {H : Hp}, Sep (As ++ Rs) H → Sep (Sep As :: Rs) H
  | [], Rs, H, h => ⟨fun _ => none, fun _ _ (e : (none : Option HO) = some _) => (Option.noConfusion rfl (heq_of_eq e)), trivial, Sep.mono (H := H) (fun a o e => by rw [sub_of rfl]; exact e) h⟩
  | A :: As, Rs, H, ⟨G1, l1, a, t⟩ => by
    obtain ⟨G2, l2, b, r⟩ := Sep.unflat (As := As) (Rs := Rs) t
    have d : ∀ x o, G2 x = some o → G1 x = none := fun x o e => (sub_some (l2 x o e)).1
    refine ⟨fun x => if (G1 x).isSome = true then G1 x else G2 x, fun x o e => ?_, ⟨G1, fun x o e => ?_, a, b.mono fun x o e => ?_⟩, r.mono fun x o e => ?_⟩
    · cases q : G1 x with
      | none => simp only [q] at e; exact (sub_some (l2 x o (by simpa using e))).2
      | some u => simp only [q] at e; rw [← e]; exact l1 x u q
    · simp [e]
    · have g := d x o e
      rw [sub_of g]; simp [g, e]
    · obtain ⟨e1, e2⟩ := sub_some e
      obtain ⟨e3, e4⟩ := sub_some e2
      rw [sub_of (by simp [e3, e1])]; exact e4
theorem Sep.ex {α : Type} {P : α → SP} {Ps : List SP} {H : Hp} : Sep ((fun G => ∃ x, P x G) :: Ps) H → ∃ x, Sep (P x :: Ps) H := fun ⟨G, l, ⟨x, h⟩, t⟩ => ⟨x, G, l, h, t⟩
theorem Sep.ex_in {α : Type} {P : α → SP} {Ps : List SP} {H : Hp} (x : α) : Sep (P x :: Ps) H → Sep ((fun G => ∃ x, P x G) :: Ps) H := fun ⟨G, l, h, t⟩ => ⟨G, l, ⟨x, h⟩, t⟩
theorem Sep.pure {p : Prop} {P : SP} {Ps : List SP} {H : Hp} : Sep ((fun G => p ∧ P G) :: Ps) H → p ∧ Sep (P :: Ps) H := fun ⟨G, l, ⟨x, h⟩, t⟩ => ⟨x, G, l, h, t⟩
theorem Sep.pure_in {p : Prop} {P : SP} {Ps : List SP} {H : Hp} (x : p) : Sep (P :: Ps) H → Sep ((fun G => p ∧ P G) :: Ps) H := fun ⟨G, l, h, t⟩ => ⟨G, l, ⟨x, h⟩, t⟩
/-- two known objects stand apart -/
theorem Sep.ne {a b : Addr} {o u : HO} {Ps : List SP} {H : Hp} : Sep (pt a o :: pt b u :: Ps) H → a ≠ b := fun ⟨G, l, h, G2, l2, h2, _⟩ e => by
  subst e
  have q := l2 a u h2
  rw [sub_in (show G a = some o from h)] at q
  cases q
/-- what is kept beside -/
theorem Sep.le_nil {H : Hp} : Sep [] H := trivial
end Kt

set_option Elab.async false
set_option linter.all false
set_option maxRecDepth 100000
namespace Kt
open PySem L2 PyProof.Rows
/-! ### defs of the text by name -/
/-- the def x of the top stands at f -/
structure Dt (K : PySem.W.Frag) (mg : Str → Option Value) (x : Str) (st : Stmt) (ps : List Str) (f : Addr) : Prop where
  fn : ∃ fd, Fun K x x st f fd ∧ Binds K fd ps []
  at_ : mg x = some (.ref f)
structure Df (P : Program) (w : World) (K : PySem.W.Frag) (mg : Str → Option Value) (base : Heap) (k : Nat) (x : Str) (f : Addr) (ps : List Str) (sp : Sp) : Prop where
  fn : ∃ fd, FnOk P w K mg base CX0 k f fd ps sp ∧ Binds K fd ps []
  at_ : mg x = some (.ref f)
  kp : PySem.W.keepIn K (.ref f) = true
section
variable {P : Program} {w : World} {K : PySem.W.Frag} {mg : Str → Option Value} {base : Heap}
theorem Dt.ok {x : Str} {st : Stmt} {f : Addr} {N ps : List Str} {k : Nat} {sp : Sp} (T : Dt K mg x st ps f) (S : FnScope N ps (defScope st)) (len : ∀ vs H Q E, sp vs H Q E → vs.length = ps.length)
    (hbody : ∀ (cdv : Value) (A : Around) (outer : List Env) (s : Shared) (H : Hp) (vs : List V) (Q : VK) (E : XK), Room k (A.deeper (envOfC x (defScope st) s.heap.objs.size f cdv)) → sp vs H Q E →
      ∃ t, PSs (cxOf CX0 P w K mg base N x (defScope st) f cdv A outer s H E).nox (defBody st) t ∧ t { nx := fun _ H' => Q .non H', rt := Q } (start N vs) H) : Df P w K mg base (k + 1) x f ps sp := by
  obtain ⟨fd, F, b⟩ := T.fn
  exact ⟨⟨fd, F.ok S len hbody, b⟩, T.at_, F.kp⟩
end
section
variable {X : Cx} {k : Nat} {x : Str} {f : Addr} {ps : List Str} {sp : Sp} {e : Expr} {es : List Expr} {t : TA} {p pos : Pos}
theorem pe_df (D : Df X.prog X.w X.K X.mg X.base k x f ps sp) (hr : Room k X.A) (ha : PA X (e :: es) t) (hg : Gl X x := by rfl) (hd : (x == ("__debug__" : Str)) = false := by decide)
    (he : starEach (e :: es) X.env = (false, eval e X.env) :: starEach es X.env := by rfl) (hpl : (backTo pos (starEach es X.env)).any (·.1) = false := by rfl) : PE X (.Call (.Name x p) (e :: es) [] pos) (tCall sp [] E0 t) := by
  obtain ⟨fd, F, b⟩ := D.fn
  exact pe_call F hr hg D.at_ D.kp b .nil pass0 ha hd he hpl
theorem pe_df0 (D : Df X.prog X.w X.K X.mg X.base k x f [] sp) (hr : Room k X.A) (hg : Gl X x := by rfl) (hd : (x == ("__debug__" : Str)) = false := by decide) : PE X (.Call (.Name x p) [] [] pos) (tCall sp [] E0 tNil) := by
  obtain ⟨fd, F, b⟩ := D.fn
  exact pe_call0 F hr hg D.at_ D.kp b .nil pass0 hd
end
/-! ### xs[i] as it is read ahead of xs[i] op= .. -/
section
variable {X : Cx}
theorem get_list : PGet X (rIxL X.K) := by
  intro pins s σ H x y v u Q I rx ry h
  obtain ⟨p, xs, i, z, rfl, rfl, hq, he, q⟩ := h
  cases rx
  obtain ⟨t, rfl⟩ := ry
  obtain ⟨its, r, pl, hz⟩ := I.list hq
  obtain ⟨j, h1, h2, h3, h4, h5⟩ := atI_get he
  obtain ⟨w, ew, rw'⟩ := r.get h2
  have hl := r.length
  have hn := line63
  have fin : EP X pins σ Q w s := ⟨z, H, I, rw', q⟩
  by_cases h0 : 0 ≤ i
  · have hj : i.toNat = j := by
      rw [seqIndex_of h0 h5] at h1
      exact Option.some.inj h1
    exact wpAny_getItem_list pl.isList h0 (by omega) (by rw [hj]; simpa using ew) fin
  · have hj : (i + (its.toArray.size : Int)).toNat = j := by
      rw [seqIndex_neg (by omega) h4] at h1
      rw [List.size_toArray, ← hl]
      exact Option.some.inj h1
    exact wpAny_getItem_list_neg pl.isList (by omega) (by rw [List.size_toArray] <;> omega) (by omega) (by rw [hj]; simpa using ew) fin
/-! ### operators that serve several kinds -/
def rOr (r r' : R2) : R2 := fun x y H Q => r x y H Q ∨ r' x y H Q
theorem op_or {f : Value → Value → Sem Value} {r r' : R2} (h : OpR X f r) (h' : OpR X f r') : OpR X f (rOr r r') := OpR.or h h'
def rAddI : R2 := rI0 fun i j => .int (i + j)
def rSubI : R2 := rI0 fun i j => .int (i - j)
def rStrA : R2 := fun x y H Q => ∃ i j, x = .str i ∧ y = .str j ∧ i.length + j.length ≤ sizeLine ∧ Q (.str (i ++ j)) H
def rAddA : R2 := rOr rAddI (rOr rCat rStrA)
theorem op_addA : OpR X (binaryOp .Add) rAddA := op_or op_add (op_or op_cat op_add_str)
def rMulI : R2 := rI CMul fun i j => .int (i * j)
def rMulA : R2 := rOr rMulI rRep
theorem op_mulA : OpR X (binaryOp .Mult) rMulA := op_or op_mul op_rep
def rModI : R2 := rI (fun _ j => 0 < j) fun i j => .int (i % j)
def rDivI : R2 := rI CDiv fun i j => .int (i / j)
def rPowI : R2 := rI CPow fun i j => .int (i ^ j.toNat)
def rEqA (K : PySem.W.Frag) : R2 := rOr rEq (rEqD K)
def rNeA (K : PySem.W.Frag) : R2 := rOr rNe (rNeD K)
theorem op_eqA (hu : X.A.units + 64 < cLine) : OpR X (compareOp .Eq) (rEqA X.K) := op_or op_eq (op_eqD hu)
theorem op_neA (hu : X.A.units + 64 < cLine) : OpR X (compareOp .NotEq) (rNeA X.K) := op_or op_ne (op_neD hu)
def rLtI : R2 := rI0 fun i j => .bl (decide (i < j))
def rLeI : R2 := rI0 fun i j => .bl (decide (i ≤ j))
def rGtI : R2 := rI0 fun i j => .bl (decide (j < i))
def rGeI : R2 := rI0 fun i j => .bl (decide (j ≤ i))
def rIsN : R2 := fun x y H Q => y = .non ∧ Q (.bl (decide (x = .non))) H
def rNotN : R2 := fun x y H Q => y = .non ∧ Q (.bl (!decide (x = .non))) H
def cAbs : List V → Hp → VK → Prop := fun xs H Q => ∃ i, xs = [.int i] ∧ Q (.int (if i < 0 then -i else i)) H
def cInt : List V → Hp → VK → Prop := fun xs H Q => (∃ i, xs = [.int i] ∧ Q (.int i) H) ∨ ∃ k, xs = [.bl k] ∧ Q (.int (if k then 1 else 0)) H
def cMax2 : List V → Hp → VK → Prop := fun xs H Q => ∃ i j, xs = [.int i, .int j] ∧ Q (.int (if j > i then j else i)) H
def cMin2 : List V → Hp → VK → Prop := fun xs H Q => ∃ i j, xs = [.int i, .int j] ∧ Q (.int (if j < i then j else i)) H
def cLenQ (K : PySem.W.Frag) : List V → Hp → VK → Prop := fun xs H Q => ∃ p ys, xs = [.ref p] ∧ (SqL K H p ys ∨ SqT K H p ys) ∧ Q (.int ys.length) H
def cLenS : List V → Hp → VK → Prop := fun xs H Q => ∃ z, xs = [.str z] ∧ z.length ≤ sizeLine ∧ Q (.int z.length) H
def cOr (r r' : List V → Hp → VK → Prop) : List V → Hp → VK → Prop := fun xs H Q => r xs H Q ∨ r' xs H Q
def cList (K : PySem.W.Frag) : List V → Hp → VK → Prop := fun xs H Q => ∃ p ys, xs = [.ref p] ∧ (SqL K H p ys ∨ SqT K H p ys) ∧ ∀ l, H l = none → Q (.ref l) (upd H l (.lst ys))
theorem call_lenA : CallR X (.builtin "len") (cOr (cLenQ X.K) cLenS) := CallR.or call_len_seq call_len_str
theorem call_absA : CallR X (.builtin "abs") cAbs := call_abs
theorem call_intA : CallR X (.type "int") cInt := call_int1
theorem call_listA : CallR X (.type "list") (cList X.K) := call_list_of
end
/-! ### readings, step by step -/
section
variable {K : PySem.W.Frag} {σ : L2.St} {H : Hp} {D : Ends} {Q : VK} {QA : List V → Hp → Prop} {QT : Bool → Hp → Prop} {i : Nat} {v x y : V} {ta tb te : TE} {t u : TS} {tt tu : TT} {tr : TA} {r r' : R2} {g : TG} {n m : Int} {b c : Bool} {Ps Qs : List SP} {a : Addr} {o : HO} {xs ys : List V}
theorem q_seq (h : t { D with nx := u D } σ H) : tSeq t u D σ H := h
theorem q_set (h : te σ H fun x H1 => D.nx (σ.set i (some x)) H1) : tAsg te (gName i) D σ H := h
theorem q_asg (h : te σ H fun x H1 => g x σ H1 D.nx) : tAsg te g D σ H := h
theorem q_ret (h : te σ H D.rt) : tRet te D σ H := h
theorem q_drop (h : te σ H fun _ H1 => D.nx σ H1) : tDrop te D σ H := h
theorem q_next (h : D.nx σ H) : tNext D σ H := h
theorem q_var (e : σ[i]? = some (some v)) (h : Q v H) : tVar i σ H Q := ⟨v, e, h⟩
theorem q_c (h : Q v H) : tC v σ H Q := h
theorem q_op (h : ta σ H fun x H1 => tb σ H1 fun y H2 => r x y H2 Q) : tOp r ta tb σ H Q := h
theorem q_un {f : V → Hp → VK → Prop} (h : ta σ H fun x H1 => f x H1 Q) : tUn f ta σ H Q := h
theorem q_nil (h : QA [] H) : tNil σ H QA := h
theorem q_cons (h : te σ H fun x H1 => tr σ H1 fun xs H2 => QA (x :: xs) H2) : tCons te tr σ H QA := h
theorem q_cb {f : List V → Hp → VK → Prop} (h : tr σ H fun vs H1 => f vs H1 Q) : tCB f tr σ H Q := h
theorem q_call {sp : Sp} {E : XK} (h : tr σ H fun vs H1 => sp vs H1 Q E) : tCall sp [] E tr σ H Q := by
  have e : ∀ vs : List V, vs ++ [] = vs := List.append_nil
  unfold tCall
  simp only [e]
  exact h
theorem q_ifs (h : tt σ H fun b H1 => if b = true then t D σ H1 else u D σ H1) : tIfS tt t u D σ H := h
theorem q_if (h : tt σ H fun c H1 => if c = true then ta σ H1 Q else tb σ H1 Q) : tIf tt ta tb σ H Q := h
theorem q_test (h : te σ H fun x H' => ∃ k, x = .bl k ∧ QT k H') : tTest te σ H QT := h
theorem q_tb (h : te σ H fun x H' => ∃ k, x = .bl k ∧ QT k H') : tB te σ H QT := h
theorem q_bl (h : QT b H) : ∃ k, V.bl b = .bl k ∧ QT k H := ⟨b, rfl, h⟩
theorem q_notT (h : tt σ H fun c H1 => QT (!c) H1) : tNot tt σ H QT := h
theorem q_andT (h : tt σ H fun c H1 => if c = true then tu σ H1 QT else QT false H1) : tAnd tt tu σ H QT := h
theorem q_orT (h : tt σ H fun c H1 => if c = true then QT true H1 else tu σ H1 QT) : tOr tt tu σ H QT := h
theorem q_andV (h : ta σ H fun x H1 => ∃ c, x = .bl c ∧ if c = true then tb σ H1 Q else Q (.bl false) H1) : tAndV ta tb σ H Q := h
theorem q_orV (h : ta σ H fun x H1 => ∃ c, x = .bl c ∧ if c = true then Q (.bl true) H1 else tb σ H1 Q) : tOrV ta tb σ H Q := h
theorem q_notV (h : ta σ H fun x H1 => ∃ c, x = .bl c ∧ Q (.bl (!c)) H1) : tNotV ta σ H Q := h
theorem q_blI {p : Bool → Prop} (h : p b) : ∃ c, V.bl b = .bl c ∧ p c := ⟨b, rfl, h⟩
theorem q_orL (h : r x y H Q) : rOr r r' x y H Q := .inl h
theorem q_orR (h : r' x y H Q) : rOr r r' x y H Q := .inr h
theorem q_rI0 {f : Int → Int → V} (h : Q (f n m) H) : rI0 f (.int n) (.int m) H Q := ⟨n, m, rfl, rfl, h⟩
theorem q_addI (h : Q (.int (n + m)) H) : rAddI (.int n) (.int m) H Q := ⟨n, m, rfl, rfl, h⟩
theorem q_addA (h : Q (.int (n + m)) H) : rAddA (.int n) (.int m) H Q := .inl ⟨n, m, rfl, rfl, h⟩
theorem q_subI (h : Q (.int (n - m)) H) : rSubI (.int n) (.int m) H Q := ⟨n, m, rfl, rfl, h⟩
theorem q_ltI (h : Q (.bl (decide (n < m))) H) : rLtI (.int n) (.int m) H Q := ⟨n, m, rfl, rfl, h⟩
theorem q_leI (h : Q (.bl (decide (n ≤ m))) H) : rLeI (.int n) (.int m) H Q := ⟨n, m, rfl, rfl, h⟩
theorem q_gtI (h : Q (.bl (decide (m < n))) H) : rGtI (.int n) (.int m) H Q := ⟨n, m, rfl, rfl, h⟩
theorem q_geI (h : Q (.bl (decide (m ≤ n))) H) : rGeI (.int n) (.int m) H Q := ⟨n, m, rfl, rfl, h⟩
theorem q_eqI (h : Q (.bl (decide (n = m))) H) : rEqA K (.int n) (.int m) H Q := .inl ⟨rfl, by have e : decide (V.int n = V.int m) = decide (n = m) := decide_eq_decide.mpr ⟨V.int.inj, congrArg _⟩; rw [e]; exact h⟩
theorem q_neI (h : Q (.bl (!decide (n = m))) H) : rNeA K (.int n) (.int m) H Q := .inl ⟨rfl, by have e : decide (V.int n = V.int m) = decide (n = m) := decide_eq_decide.mpr ⟨V.int.inj, congrArg _⟩; rw [e]; exact h⟩
theorem q_mulI (hc : CMul n m) (h : Q (.int (n * m)) H) : rMulA (.int n) (.int m) H Q := .inl ⟨n, m, rfl, rfl, hc, h⟩
theorem q_modI (hc : 0 < m) (h : Q (.int (n % m)) H) : rModI (.int n) (.int m) H Q := ⟨n, m, rfl, rfl, hc, h⟩
theorem q_divI (hc : CDiv n m) (h : Q (.int (n / m)) H) : rDivI (.int n) (.int m) H Q := ⟨n, m, rfl, rfl, hc, h⟩
theorem q_powI (hc : CPow n m) (h : Q (.int (n ^ m.toNat)) H) : rPowI (.int n) (.int m) H Q := ⟨n, m, rfl, rfl, hc, h⟩
theorem q_abs (h : Q (.int (if n < 0 then -n else n)) H) : cAbs [.int n] H Q := ⟨n, rfl, h⟩
theorem q_int (h : Q (.int n) H) : cInt [.int n] H Q := .inl ⟨n, rfl, h⟩
theorem q_intB (h : Q (.int (if b then 1 else 0)) H) : cInt [.bl b] H Q := .inr ⟨b, rfl, h⟩
theorem q_max (h : Q (.int (if m > n then m else n)) H) : cMax2 [.int n, .int m] H Q := ⟨n, m, rfl, h⟩
theorem q_min (h : Q (.int (if m < n then m else n)) H) : cMin2 [.int n, .int m] H Q := ⟨n, m, rfl, h⟩
theorem q_lenL (s : SqL K H a xs) (h : Q (.int (xs.length : Int)) H) : cOr (cLenQ K) cLenS [.ref a] H Q := .inl ⟨a, xs, rfl, .inl s, h⟩
theorem q_lenT (s : SqT K H a xs) (h : Q (.int (xs.length : Int)) H) : cOr (cLenQ K) cLenS [.ref a] H Q := .inl ⟨a, xs, rfl, .inr s, h⟩
theorem q_lenS {z : Str} (s : z.length ≤ sizeLine) (h : Q (.int (z.length : Int)) H) : cOr (cLenQ K) cLenS [.str z] H Q := .inr ⟨z, rfl, s, h⟩
theorem q_ixL (s : SqL K H a xs) (e : atI xs n = some v) (h : Q v H) : rIx K (.ref a) (.int n) H Q := .inl ⟨a, xs, n, v, rfl, rfl, s, e, h⟩
theorem q_ixT (s : SqT K H a xs) (e : atI xs n = some v) (h : Q v H) : rIx K (.ref a) (.int n) H Q := .inr (.inl ⟨a, xs, n, v, rfl, rfl, s, e, h⟩)
theorem q_ixLL (s : SqL K H a xs) (e : atI xs n = some v) (h : Q v H) : rIxL K (.ref a) (.int n) H Q := ⟨a, xs, n, v, rfl, rfl, s, e, h⟩
theorem q_setL {QH : Hp → Prop} {k : Nat} (s : H a = some (.lst xs)) (e : ixN xs.length n = some k) (h : QH (upd H a (.lst (xs.set k v)))) : rSetL (.ref a) (.int n) v H QH := ⟨a, xs, n, k, rfl, rfl, s, e, h⟩
theorem q_ipAdd (h : Q (.int (n + m)) H) : ipI (fun i j => i + j) (.int n) (.int m) H Q := ⟨n, m, rfl, rfl, h⟩
theorem q_ipSub (h : Q (.int (n - m)) H) : ipI (fun i j => i - j) (.int n) (.int m) H Q := ⟨n, m, rfl, rfl, h⟩
theorem q_gsub {to ti : TE} {ts : TSet} {QG : L2.St → Hp → Prop} (h : to σ H fun o H1 => ti σ H1 fun i H2 => ts o i v H2 fun H3 => QG σ H3) : gSub to ti ts v σ H QG := h
theorem q_augs {to ti : TE} {tget : V → V → Hp → VK → Prop} {tip : TIp} {tset : TSet} (h : to σ H fun o H1 => ti σ H1 fun i H2 => tget o i H2 fun x H3 => te σ H3 fun y H4 => tip x y H4 fun z H5 => tset o i z H5 fun H6 => D.nx σ H6) :
    tAugS to ti te tget tip tset D σ H := h
theorem q_aug {ti : TIp} (e : σ[i]? = some (some x)) (h : te σ H fun y H1 => ti x y H1 fun z H2 => D.nx (σ.set i (some z)) H2) : tAug i te ti D σ H := ⟨x, e, h⟩
def kLst (Q : VK) : List V → Hp → Prop := fun xs H1 => xs.length ≤ sizeLine ∧ ∀ p, H1 p = none → Q (.ref p) (upd H1 p (.lst xs))
def kTup (Q : VK) : List V → Hp → Prop := fun xs H1 => xs.length ≤ sizeLine ∧ ∀ p, H1 p = none → Q (.ref p) (upd H1 p (.tup xs))
theorem q_lst (h : tr σ H (kLst Q)) : tLst tr σ H Q := h
theorem q_tup (h : tr σ H (kTup Q)) : tTup tr σ H Q := h
/-- a new object, known from then on -/
theorem q_new (S : Sep Ps H) (hl : xs.length ≤ 1000) (h : ∀ p H', Sep (pt p (.lst xs) :: Ps) H' → Q (.ref p) H') : kLst Q xs H := ⟨Nat.le_trans hl (by decide), fun p np => h p _ (S.new _ np)⟩
theorem q_newT (S : Sep Ps H) (hl : xs.length ≤ 1000) (h : ∀ p H', Sep (pt p (.tup xs) :: Ps) H' → Q (.ref p) H') : kTup Q xs H := ⟨Nat.le_trans hl (by decide), fun p np => h p _ (S.new _ np)⟩
theorem Sep.sq (S : Sep Ps H) (p : Pick (pt a (.lst xs)) Ps Qs) : SqL K H a xs := SqL.of (S.at_ p)
theorem Sep.st (S : Sep Ps H) (p : Pick (pt a (.tup xs)) Ps Qs) : SqT K H a xs := SqT.of (S.at_ p)
theorem q_fld {C dx : Addr} {fs : List (Str × V)} {f : Str} (h : ta σ H fun x H1 => ∃ a C dx fs v, x = .ref a ∧ H1 a = some (.ins C dx fs) ∧ Cls K C ∧ NoAttr K C f ∧ fs.lookup f = some v ∧ Q v H1) : tFld K ta f σ H Q := h
theorem q_fldA {C dx : Addr} {fs : List (Str × V)} {f : Str} (s : H a = some (.ins C dx fs)) (c : Cls K C) (na : NoAttr K C f) (l : fs.lookup f = some v) (h : Q v H) :
    ∃ a' C dx fs v, V.ref a = .ref a' ∧ H a' = some (.ins C dx fs) ∧ Cls K C ∧ NoAttr K C f ∧ fs.lookup f = some v ∧ Q v H := ⟨a, C, dx, fs, v, rfl, s, c, na, l, h⟩
theorem q_ite {p A B : Prop} [Decidable p] (h1 : p → A) (h2 : ¬ p → B) : if decide p = true then A else B := by
  by_cases h : p
  · rw [decide_eq_true h]; exact iteT (h1 h)
  · rw [decide_eq_false h]; exact iteF (h2 h)
theorem q_iteN {p A B : Prop} [Decidable p] (h1 : ¬ p → A) (h2 : p → B) : if (!decide p) = true then A else B := by
  by_cases h : p
  · rw [decide_eq_true h]; exact iteF (h2 h)
  · rw [decide_eq_false h]; exact iteT (h1 h)
theorem q_iteB {b : Bool} {A B : Prop} (h1 : b = true → A) (h2 : b = false → B) : if b = true then A else B := by
  cases b
  · exact iteF (h2 rfl)
  · exact iteT (h1 rfl)
theorem iteNT {A B : Prop} (h : B) : if (!true) = true then A else B := iteF h
theorem iteNF {A B : Prop} (h : A) : if (!false) = true then A else B := iteT h
theorem q_cut {Mid : L2.St → Hp → Prop} (h : t { D with nx := Mid } σ H) (k : ∀ σ' H', Mid σ' H' → u D σ' H') : C8.tCut t u D σ H := ⟨Mid, h, k⟩
theorem q_setS {QH : Hp → Prop} {k : Nat} (S : Sep Ps H) (r : Repl a (.lst xs) (.lst (xs.set k v)) Ps Qs) (e : ixN xs.length n = some k) (h : ∀ H', Sep Qs H' → QH H') : rSetL (.ref a) (.int n) v H QH :=
  ⟨a, xs, n, k, rfl, rfl, by obtain ⟨Rs, p, _⟩ := r.pick; exact S.at_ p, e, h _ (S.set r)⟩
theorem at_i {α : Type} {xs : List α} (h0 : 0 ≤ n) (h1 : n < xs.length) : ∃ w, atI xs n = some w ∧ w ∈ xs := by
  obtain ⟨j, rfl⟩ := Int.eq_ofNat_of_zero_le h0
  have hj : j < xs.length := by omega
  exact ⟨xs[j], atI_nat (List.getElem?_eq_getElem hj), List.getElem_mem hj⟩
end
end Kt

set_option Elab.async false
set_option linter.all false
set_option maxRecDepth 100000
namespace Kt
open PySem L2 PyProof.Rows
/-! ### classes and their methods by name -/
structure Mt (K : PySem.W.Frag) (C : Addr) (m qual : Str) (st : Stmt) (ps : List Str) (f : Addr) : Prop where
  fn : ∃ fd, Fun K m qual st f fd ∧ Binds K fd ps []
  at_ : Meth K C m f
structure Mf (P : Program) (w : World) (K : PySem.W.Frag) (mg : Str → Option Value) (base : Heap) (k : Nat) (C : Addr) (m : Str) (ps : List Str) (sp : Sp) : Prop where
  fn : ∃ f fd, FnOk P w K mg base CX0 k f fd ps sp ∧ Binds K fd ps [] ∧ Meth K C m f
  cls : Cls K C
structure Ct (K : PySem.W.Frag) (mg : Str → Option Value) (x : Str) (C f : Addr) : Prop where
  at_ : mg x = some (.ref C)
  mkr : Mk K C f
/-- a class that may be called: its __init__'s promise -/
structure Cf (P : Program) (w : World) (K : PySem.W.Frag) (mg : Str → Option Value) (base : Heap) (k : Nat) (x : Str) (C : Addr) (ps : List Str) (sp : Sp) : Prop where
  fn : ∃ f fd, FnOk P w K mg base CX0 k f fd ps sp ∧ Binds K fd ps [] ∧ Mk K C f
  at_ : mg x = some (.ref C)
section
variable {P : Program} {w : World} {K : PySem.W.Frag} {mg : Str → Option Value} {base : Heap}
theorem Mt.ok {C : Addr} {x qual : Str} {st : Stmt} {f : Addr} {N ps : List Str} {k : Nat} {sp : Sp} (T : Mt K C x qual st ps f) (c : Cls K C) (S : FnScope N ps (defScope st)) (len : ∀ vs H Q E, sp vs H Q E → vs.length = ps.length)
    (hbody : ∀ (cdv : Value) (A : Around) (outer : List Env) (s : Shared) (H : Hp) (vs : List V) (Q : VK) (E : XK), Room k (A.deeper (envOfC qual (defScope st) s.heap.objs.size f cdv)) → sp vs H Q E →
      ∃ t, PSs (cxOf CX0 P w K mg base N qual (defScope st) f cdv A outer s H E).nox (defBody st) t ∧ t { nx := fun _ H' => Q .non H', rt := Q } (start N vs) H) : Mf P w K mg base (k + 1) C x ps sp := by
  obtain ⟨fd, F, b⟩ := T.fn
  exact ⟨⟨f, fd, F.ok S len hbody, b, T.at_⟩, c⟩
theorem Mf.cf {C f : Addr} {x : Str} {ps : List Str} {k : Nat} {sp : Sp} (M : Mf P w K mg base k C "__init__" ps sp) (T : Ct K mg x C f) : Cf P w K mg base k x C ps sp := by
  obtain ⟨g, fd, F, b, m⟩ := M.fn
  have e : g = f := by
    have h1 := m.at_
    rw [T.mkr.init] at h1
    cases h1
    rfl
  subst e
  exact ⟨⟨g, fd, F, b, T.mkr⟩, T.at_⟩
end
section
variable {X : Cx} {k : Nat} {x m : Str} {C : Addr} {ps : List Str} {sp : Sp} {o e : Expr} {es : List Expr} {to : TE} {t : TA} {p pos apos : Pos}
theorem pe_mf {pl : Sem Bool} (M : Mf X.prog X.w X.K X.mg X.base k C m ps sp) (hr : Room k X.A) (ho : PE X o to) (ha : PA X (e :: es) t)
    (hst : starEach (e :: es) X.env = (false, eval e X.env) :: starEach es X.env := by rfl) (hpl : (backTo pos (starEach es X.env)).any (·.1) = false := by rfl)
    (ht : eval (.Call (.Attribute o m apos) (e :: es) [] pos) X.env = (do
      let ov ← eval o X.env
      standAt apos.atName
      let (f, first) ← holding [ov] (getMethod ov m pl)
      callWith pos f first (backTo pos (starEach (e :: es) X.env)) (backToKw pos (keywordEach [] X.env))) := by rfl) : PE X (.Call (.Attribute o m apos) (e :: es) [] pos) (tMeth C m sp [] E0 to t) := by
  obtain ⟨f, fd, F, b, hm⟩ := M.fn
  exact pe_meth ho M.cls hm F hr b .nil pass0 ha hst hpl ht
theorem pe_mf0 {pl : Sem Bool} (M : Mf X.prog X.w X.K X.mg X.base k C m ps sp) (hr : Room k X.A) (ho : PE X o to)
    (ht : eval (.Call (.Attribute o m apos) [] [] pos) X.env = (do
      let ov ← eval o X.env
      standAt apos.atName
      let (f, first) ← holding [ov] (getMethod ov m pl)
      callWith pos f first [] []) := by rfl) : PE X (.Call (.Attribute o m apos) [] [] pos) (tMeth C m sp [] E0 to tNil) := by
  obtain ⟨f, fd, F, b, hm⟩ := M.fn
  exact pe_meth0 ho M.cls hm F hr b .nil pass0 ht
theorem pe_cf (M : Cf X.prog X.w X.K X.mg X.base k x C ps sp) (hr : Room (k + 1) X.A) (ha : PA X (e :: es) t) (hg : Gl X x := by rfl) (hd : (x == ("__debug__" : Str)) = false := by decide)
    (he : starEach (e :: es) X.env = (false, eval e X.env) :: starEach es X.env := by rfl) (hpl : (backTo pos (starEach es X.env)).any (·.1) = false := by rfl) : PE X (.Call (.Name x p) (e :: es) [] pos) (tMake C sp [] E0 t) := by
  obtain ⟨f, fd, F, b, M'⟩ := M.fn
  exact pe_make M' F hr hg M.at_ b .nil pass0 ha hd he hpl
end
/-! ### own operators of instances -/
section
variable {X : Cx} {k : Nat} {C : Addr} {ps : List Str} {sp : Sp}
theorem ins_at {pins : List (Addr × Obj)} {σ : L2.St} {H : Hp} {s : Shared} {a dx : Addr} {fs : List (Str × V)} (I : Inv X pins σ H s) (h : H a = some (.ins C dx fs)) : ∃ ox od, PySem.W.InstAt s.heap a ox C od := by
  obtain ⟨mA, O, _⟩ := ins_get I.hok h
  obtain ⟨od, J, _⟩ := O.look
  exact ⟨_, _, J⟩
/-- o[i] = v by an own __setitem__ -/
def rSetOwn (C : Addr) (sp : Sp) : TSet := fun o i v H Q => ∃ a dx fs, o = .ref a ∧ H a = some (.ins C dx fs) ∧ sp [.ref a, i, v] H (fun _ H' => Q H') E0
theorem set_own (M : Mf X.prog X.w X.K X.mg X.base k C "__setitem__" ps sp) (hr : Room k X.A) (hq : PySem.W.noSeq X.K C = true) : PSet X (rSetOwn C sp) := by
  intro pins s σ H o i v ov iv u Q I ro ri rv h
  obtain ⟨a, dx, fs, rfl, ha, q⟩ := h
  cases (show ov = Value.ref a from ro)
  obtain ⟨f, fd, F, b, hm⟩ := M.fn
  obtain ⟨ox, od, J⟩ := ins_at I ha
  obtain ⟨m, hF⟩ := I.fr
  refine PySem.W.ksp_setItem hF I.ok.mod.kin J hq hm.at_ hm.fn ?_
  exact wpAny_mono (run_fn (us := [.ref a, iv, u]) (vs := [.ref a, i, v]) F hr b .nil pass0 I (.cons rfl (.cons ri (.cons rv .nil))) (by rw [List.append_nil]; exact q)) (fun z s' ⟨y, H', I', r', q'⟩ => ⟨H', I', q'⟩) fun _ _ z => z
/-- x += y by an own __iadd__ -/
def rInpOwn (C : Addr) (sp : Sp) : TIp := fun x y H Q => ∃ a dx fs, x = .ref a ∧ H a = some (.ins C dx fs) ∧ sp [.ref a, y] H Q E0
theorem ip_own (M : Mf X.prog X.w X.K X.mg X.base k C "__iadd__" ps sp) (hr : Room k X.A) (hc : PySem.W.selfFirst X.K C = true) : PIp X .Add (rInpOwn C sp) := by
  intro pins s σ H x y v u Q I rx ry h
  obtain ⟨a, dx, fs, rfl, ha, q⟩ := h
  cases (show v = Value.ref a from rx)
  obtain ⟨f, fd, F, b, hm⟩ := M.fn
  obtain ⟨ox, od, J⟩ := ins_at I ha
  obtain ⟨m, hF⟩ := I.fr
  refine PySem.W.ksp_inplace (op := .Add) hF I.ok.mod.kin J hc hm.at_ hm.fn ?_
  exact wpAny_mono (run_fn (us := [.ref a, u]) (vs := [.ref a, y]) F hr b .nil pass0 I (.cons rfl (.cons ry .nil)) (by rw [List.append_nil]; exact q)) (fun z s' ⟨y', H', I', r', q'⟩ => SlX.cmpback r' ⟨y', H', I', r', q'⟩) fun _ _ z => z
end
/-! ### xs[a:c] = ys -/
section
variable {X : Cx} {o e : Expr} {lo hi : Option Expr} {to te : TE} {tl th : TO} {p2 pos tpos : Pos}
/-- the bounds of a slice that may reach beyond the end -/
theorem bounds_clip (a c n : Nat) (h : a ≤ n) : sliceBounds (some (a : Int)) (some (c : Int)) none n = ((a : Int), ((min c n : Nat) : Int), 1) := by
  have p1 : ¬ ((a : Int) < 0) := by omega
  have p2 : ¬ ((c : Int) < 0) := by omega
  simp only [sliceBounds, Option.getD_none, p1, p2, if_false, show (1 : Int) > 0 from by decide, if_true]
  refine Prod.ext ?_ (Prod.ext ?_ rfl)
  · show max 0 (min (a : Int) (n : Int)) = a; omega
  · show max 0 (min (c : Int) (n : Int)) = ((min c n : Nat) : Int); omega
theorem setItem_clip {prog : Program} {w : World} {A : Around} {E : Value → Shared → Prop} {s : Shared} {l b sl : Addr} {u v : List Value} {n n2 : Nat} {vl vu : Value} {a c : Nat} {Q : Unit → Shared → Prop}
    (e : s.heap.get? l = some { cls := .type "list", data := .seq u.toArray n }) (e2 : s.heap.get? b = some { cls := .type "list", data := .seq v.toArray n2 }) (hne : l ≠ b) (hs : s.heap.IsSliceOf sl vl vu .none)
    (pl : IsPart vl (some (a : Int))) (pu : IsPart vu (some (c : Int))) (ha : a ≤ u.length) (hac : a ≤ c) (hz : u.length + v.length ≤ sizeLine)
    (h : Q () { s with heap := s.heap.update l (Obj.mapSeq fun xs => xs.extract 0 a ++ v.toArray ++ xs.extract (min c u.length) xs.size) }) : wpAny (model prog w) A (setItem (.ref l) (.ref sl) (.ref b)) Q E s := by
  have lst : s.heap.IsList l u.toArray ∧ s.heap.IsList b v.toArray := ⟨PySem.IsL.isList e, PySem.IsL.isList e2⟩
  obtain ⟨os, g1, g2, g3⟩ := hs
  have ty : s.TypeIs (.ref sl) "slice" := ⟨os, g1, g2⟩
  have apart : Builtin.List.listSameRef (.ref l) (.ref b) = false := beq_eq_false_iff_ne.mpr hne
  have top : (max (a : Int) ((min c u.length : Nat) : Int)).toNat = min c u.length := by omega
  have fit : u.toArray.size + v.toArray.size ≤ sizeLine := by simpa using hz
  have out : ((fun xs : Array Value => xs.extract 0 a ++ v.toArray ++ xs.extract (min c u.length) xs.size) u.toArray).size ≤ sizeLine + 1 := by simp; omega
  have bd : sliceBounds (some (a : Int)) (some (c : Int)) none u.toArray.size = ((a : Int), ((min c u.length : Nat) : Int), 1) := by simpa using bounds_clip a c u.length ha
  unfold setItem
  refine wpAny_holding (wpAny_bind (wpAny_sequenceKey lst.1.typeIs (by decide) (wpAny_bind ?_)))
  refine wpAny_callSpecial?_slot (name := Str.ofString "__setitem__") lst.1.typeIs slot_list_setitem (wpAny_call_entry slot_list_setitem lst.1.typeIs entry_list_setitem ?_ (args_list_setitem _ _ _))
  show wpAny _ _ (Builtin.List.listSubscript? (Value.ref sl) >>= _) _ _ _
  unfold Builtin.List.listSubscript?
  refine wpAny_bind (wpAny_bind (wpAny_specialOf ty slice_no_index ?_))
  rw [if_pos (by rfl)]
  refine wpAny_pure (wpAny_bind (wpAny_typeOf ty ?_))
  rw [if_neg (by decide), listSliceParts_eq]
  refine wpAny_bind (wpAny_bind (wpAny_field g1 g3 (x := .none) rfl (wpAny_bind (wpAny_listPart IsPart.none ?_))))
  rw [if_neg (show ¬ ((rawPart none == rawInt 0) = true) from Bool.false_ne_true)]
  refine wpAny_bind (wpAny_field g1 g3 (x := vl) rfl (wpAny_bind (wpAny_listPart pl (wpAny_bind (wpAny_field g1 g3 (x := vu) rfl (wpAny_bind (wpAny_listPart pu (wpAny_pure ?_))))))))
  dsimp only
  rw [if_neg (by rw [apart]; exact Bool.false_ne_true)]
  refine wpAny_bind (m := Builtin.List.listAllItems (Value.ref b) _) ?_
  unfold Builtin.List.listAllItems
  refine wpAny_bind (wpAny_typeOf lst.2.typeIs (PySem.W.KFB.if_so (by decide) ?_))
  unfold Builtin.List.listItems
  refine wpAny_bind (wpAny_seqItems e2 rfl (wpAny_pure (wpAny_bind (wpAny_bind (wpAny_seqItems e rfl (wpAny_pure ?_))))))
  have si := sliceIndices_raw (some (a : Int)) (some (c : Int)) none u.toArray.size (by simp)
  rw [bd] at si
  refine wpAny_bind (wpAny_of_eq si ?_)
  dsimp only
  rw [if_pos (by decide)]
  refine wpAny_bind (wpAny_rule (PySem.W.KFB.if_not (notLongL fit) ?_))
  have key : wpAny (model prog w) A.in1 (updateSeq l fun xs => xs.extract 0 (a : Int).toNat ++ v.toArray ++ xs.extract (max (a : Int) ((min c u.length : Nat) : Int)).toNat xs.size) (fun _ s' => s' = { s with heap := s.heap.update l (Obj.mapSeq fun xs => xs.extract 0 a ++ v.toArray ++ xs.extract (min c u.length) xs.size) }) (fun _ _ => False) s := by
    rw [top, Int.toNat_natCast]
    exact wpAny_updateSeq (hz := Nat.le_trans (Nat.le_add_right _ _) fit) (_hz' := out) e rfl rfl
  refine wpAny_bind (wpAny_mono key (fun _ s' es => ?_) fun _ _ z => z.elim)
  subst es
  exact wpAny_bind (wpAny_letGo (wpAny_pure ⟨.none, rfl, wpAny_pure h⟩))
/-- o[lo:hi] = v: the list that is written, and another one -/
def gSl (to : TE) (tl th : TO) : TG := fun v σ H Q => to σ H fun x H1 => tl σ H1 fun lo H2 => th σ H2 fun hi H3 => ∃ (l b : Addr) (xs ys : List V) (a c : Nat), x = .ref l ∧ v = .ref b ∧ lo = some (a : Int) ∧ hi = some (c : Int) ∧
  H3 l = some (.lst xs) ∧ H3 b = some (.lst ys) ∧ l ≠ b ∧ a ≤ xs.length ∧ a ≤ c ∧ xs.length + ys.length ≤ sizeLine ∧ Q σ (upd H3 l (.lst (xs.take a ++ ys ++ xs.drop c)))
theorem pg_slice (ho : PE X o to) (hl : PO X lo tl) (hu : PO X hi th)
    (ha : ∀ v, assign (.Subscript o (.Slice lo hi none p2) tpos) X.env v = (do
      let ov ← holding [v] (eval o X.env)
      let iv ← holding [v, ov] (eval (.Slice lo hi none p2) X.env)
      standAt tpos
      holding [v, ov, iv] (setItem ov iv v)
      release [iv, v, ov] []) := by intro _; rfl) : PG X (.Subscript o (.Slice lo hi none p2) tpos) (gSl to tl th) := by
  refine ⟨fun pins s σ H v u Q I r h => ?_⟩
  rw [ha]
  refine wpAny_bind (wpAny_holding (thn (ho.run pins s σ H _ I h) fun ov s1 ⟨x, H1, I1, r1, q1⟩ => ?_))
  refine wpAny_bind (wpAny_holding (wpAny_Slice (thn (hl.run pins s1 σ H1 _ I1 q1) fun vl s2 ⟨z1, H2, I2, pl, q2⟩ => thn (hu.run pins s2 σ H2 _ I2 q2) fun vu s3 ⟨z2, H3, I3, pu, q3⟩ => ?_)))
  obtain ⟨l, b, xs, ys, a, c, rfl, rfl, rfl, rfl, hL, hB, hne, h1, h2, hz, q⟩ := q3
  cases (show ov = Value.ref l from r1)
  cases (show u = Value.ref b from r)
  rw [evalPart_none]
  have I4 : Inv X pins σ H3 { s3 with heap := s3.heap.push { cls := .type "slice", data := .fields #[vl, vu, .none] } } := I3.kept (t' := s3.toks) fun _ _ z => Heap.get?_push_of_some _ z
  refine wpAny_pure ?_
  obtain ⟨z, u1, n1, r1', hl1, e1⟩ := I4.lstM hL
  obtain ⟨z2, u2, n2, r2', hl2, e2⟩ := I4.lstM hB
  refine wpAny_bind (wpAny_standAt (wpAny_bind (wpAny_holding (setItem_clip e1 e2 hne (Heap.IsSliceOf.new ..) pl pu (by omega) h2 (by omega) (wpAny_release ⟨σ, _, ?_, q⟩)))))
  refine I4.lset (its' := u1.take a ++ u2 ++ u1.drop (min c u1.length)) (t' := s3.toks) hL e1 (splice_eq u1 u2 a _) ?_ ?_
  · have e3 : xs.drop c = xs.drop (min c u1.length) := by
      by_cases hc : c ≤ u1.length
      · rw [Nat.min_eq_left hc]
      · rw [Nat.min_eq_right (by omega), List.drop_eq_nil_of_le (by omega), List.drop_eq_nil_of_le (by omega)]
    rw [e3]
    exact Vals.append (Vals.append (r1'.take _) r2') (r1'.drop _)
  · rw [List.length_append, List.length_append, List.length_take, List.length_drop]
    omega
end
end Kt

set_option Elab.async false
set_option linter.all false
set_option maxRecDepth 100000
namespace Kt
open PySem L2 PyProof.Rows
/-! ### fields as written lists -/
theorem lk_eq {f : Str} {v : V} {r : List (Str × V)} : List.lookup f ((f, v) :: r) = some v := by simp
theorem lk_ne {f g : Str} {v : V} {r : List (Str × V)} (h : f ≠ g) : List.lookup f ((g, v) :: r) = List.lookup f r := by
  have e : (f == g) = false := beq_eq_false_iff_ne.mpr h
  simp [List.lookup_cons, e]
theorem pf_nil {f : Str} {v : V} : putF f v [] = [(f, v)] := rfl
theorem pf_eq {f : Str} {v x : V} {r : List (Str × V)} : putF f v ((f, x) :: r) = (f, v) :: r := if_pos rfl
theorem pf_ne {f g : Str} {v x : V} {r r' : List (Str × V)} (h : g ≠ f) (e : putF f v r = r') : putF f v ((g, x) :: r) = (g, x) :: r' := by
  rw [← e]
  exact if_neg h
section
variable {X : Cx} {e o value : Expr} {ta tv : TE} {f : Str} {pos pos' : Pos}
theorem pe_fldK (K : PySem.W.Frag) (he : PE X e ta) (hK : X.K = K := by rfl) (hb : attributeBase e f X.env (eval e X.env) = eval e X.env := by rfl) : PE X (.Attribute e f pos) (tFld K ta f) := hK ▸ pe_fld he hb
theorem ps_fldK (K : PySem.W.Frag) (ha : PE X o ta) (hv : PE X value tv) (hK : X.K = K := by rfl) (hs : swapsWith value (some (.Attribute o f pos')) pos.line X.env = pure false := by rfl) : PS X (.Assign [.Attribute o f pos'] value pos) (sFld K ta tv f) := hK ▸ ps_fld ha hv hs
theorem pi_listK (K : PySem.W.Frag) {tg l : Expr} {tl : TE} (hl : PE X l tl) (hK : X.K = K := by rfl) : PI X tg l (iList K tl) := hK ▸ pi_list hl
theorem pi_tupK (K : PySem.W.Frag) {tg l : Expr} {tl : TE} (hl : PE X l tl) (hK : X.K = K := by rfl) : PI X tg l (iTup K tl) := hK ▸ pi_tup hl
theorem pg_tupK (K : PySem.W.Frag) {es : List Expr} {k n : Nat} {t : TGs} (hc : X.calm = true) (h : PGs X es t) (hK : X.K = K := by rfl) (hn : (assignEach es X.env).length = n := by rfl) (hst : (assignEach es X.env).findIdx? (·.1) = none := by rfl) : PG X (.Tuple es k pos) (gTup K n t) := hK ▸ pg_tup hc h hn hst
theorem pg_unlK (K : PySem.W.Frag) {es : List Expr} {k n : Nat} {t : TGs} (hc : X.calm = true) (h : PGs X es t) (hK : X.K = K := by rfl) (hn : (assignEach es X.env).length = n := by rfl) (hst : (assignEach es X.env).findIdx? (·.1) = none := by rfl) : PG X (.Tuple es k pos) (gUnl K n t) := hK ▸ pg_unl hc h hn hst
theorem pe_bmK (K : PySem.W.Frag) {es : List Expr} {to : TE} {t : TA} {name : Str} {apos cpos : Pos} {T id : String} {r : V → List V → Hp → VK → Prop} (pa : PlainAttrs T) (slot : Slot T name id) (hty : typeOf (.builtin id) = pure (.type "method_descriptor")) (hm : MtR X id r) (ho : PE X o to) (ha : PA X (e :: es) t) (hK : X.K = K := by rfl)
    (hbase : attributeBase o name X.env (eval o X.env) = eval o X.env := by rfl)
    (hfew : ((backTo cpos (starEach (e :: es) X.env)).all (fun x => !x.1) && (backToKw cpos (keywordEach [] X.env)).all (fun x => x.1.isSome)
      && decide ((e :: es).length + ([] : List Keyword).length + (if ([] : List Keyword).isEmpty then 0 else 1) < 30)) = true := by rfl)
    (hline : (apos.endLine == cpos.line) = true := by rfl) (hs : starEach (e :: es) X.env = (false, eval e X.env) :: starEach es X.env := by rfl) (hplain : (backTo cpos (starEach es X.env)).any (·.1) = false := by rfl) :
    PE X (.Call (.Attribute o name apos) (e :: es) [] cpos) (tBM K T r to t) := hK ▸ pe_bm pa slot hty hm ho ha hbase hfew hline hs hplain
theorem pe_bm0K (K : PySem.W.Frag) {to : TE} {name : Str} {apos cpos : Pos} {T id : String} {r : V → List V → Hp → VK → Prop} (pa : PlainAttrs T) (slot : Slot T name id) (hty : typeOf (.builtin id) = pure (.type "method_descriptor")) (hm : MtR X id r) (ho : PE X o to) (hK : X.K = K := by rfl)
    (hbase : attributeBase o name X.env (eval o X.env) = eval o X.env := by rfl) (hline : (apos.endLine == cpos.line) = true := by rfl) : PE X (.Call (.Attribute o name apos) [] [] cpos) (tBM0 K T r to) := hK ▸ pe_bm0 pa slot hty hm ho hbase hline
end
section
variable {K : PySem.W.Frag} {σ : L2.St} {H : Hp} {D : Ends} {Q : VK} {QA : List V → Hp → Prop} {QT : Bool → Hp → Prop} {QG : L2.St → Hp → Prop} {i : Nat} {v x y : V} {ta tb te : TE} {t u : TS} {tr : TA} {g : TG} {n m : Int} {b c : Bool} {Ps Qs : List SP} {a : Addr} {o : HO} {xs ys : List V} {C dx : Addr} {fs fs' : List (Str × V)} {f : Str} {sp : Sp}
def kFld (K : PySem.W.Frag) (f : Str) (Q : VK) : V → Hp → Prop := fun x H1 => ∃ a C dx fs v, x = .ref a ∧ H1 a = some (.ins C dx fs) ∧ Cls K C ∧ NoAttr K C f ∧ fs.lookup f = some v ∧ Q v H1
theorem r_fld (h : ta σ H (kFld K f Q)) : tFld K ta f σ H Q := h
theorem r_kfld (S : Sep Ps H) (p : Pick (pt a (.ins C dx fs)) Ps Qs) (c : Cls K C) (na : NoAttr K C f) (l : fs.lookup f = some v) (h : Q v H) : kFld K f Q (.ref a) H := ⟨a, C, dx, fs, v, rfl, S.at_ p, c, na, l, h⟩
def kSet (K : PySem.W.Frag) (f : Str) (y : V) (Q : Hp → Prop) : V → Hp → Prop := fun x H2 => ∃ a C dx fs, x = .ref a ∧ H2 a = some (.ins C dx fs) ∧ Cls K C ∧ NoAttr K C f ∧ fs.length < 1000 ∧ Q (upd H2 a (.ins C dx (putF f y fs)))
theorem r_sfld (h : tb σ H fun y H1 => ta σ H1 (kSet K f y (D.nx σ))) : sFld K ta tb f D σ H := h
theorem r_kset {QH : Hp → Prop} (S : Sep Ps H) (r : Repl a (.ins C dx fs) (.ins C dx fs') Ps Qs) (c : Cls K C) (na : NoAttr K C f) (hl : fs.length < 1000) (e : putF f y fs = fs') (h : ∀ H', Sep Qs H' → QH H') : kSet K f y QH (.ref a) H :=
  ⟨a, C, dx, fs, rfl, by obtain ⟨Rs, p, _⟩ := r.pick; exact S.at_ p, c, na, hl, by rw [e]; exact h _ (S.set r)⟩
def kMeth (C : Addr) (m : Str) (sp : Sp) (t : TA) (σ : L2.St) (Q : VK) : V → Hp → Prop := fun x H1 => ∃ a dx fs, x = .ref a ∧ H1 a = some (.ins C dx fs) ∧ fs.lookup m = none ∧ t σ H1 fun vs H2 => sp (x :: vs) H2 Q E0
theorem r_meth {m : Str} (h : ta σ H (kMeth C m sp tr σ Q)) : tMeth C m sp [] E0 ta tr σ H Q := by
  unfold tMeth
  simp only [List.append_nil]
  exact h
theorem r_kmeth {m : Str} (S : Sep Ps H) (p : Pick (pt a (.ins C dx fs)) Ps Qs) (l : fs.lookup m = none) (h : tr σ H fun vs H2 => sp (.ref a :: vs) H2 Q E0) : kMeth C m sp tr σ Q (.ref a) H := ⟨a, dx, fs, rfl, S.at_ p, l, h⟩
def kNew (C : Addr) (sp : Sp) (Q : VK) : List V → Hp → Prop := fun vs H1 => ∀ x dx, H1 x = none → H1 dx = none → dx ≠ x → sp (.ref x :: vs) (upd (upd H1 dx (.own x)) x (.ins C dx [])) (fun v H2 => v = .non ∧ Q (.ref x) H2) E0
theorem r_make (h : tr σ H (kNew C sp Q)) : tMake C sp [] E0 tr σ H Q := by
  unfold tMake
  simp only [List.append_nil]
  exact h
theorem Sep.made {Ps : List SP} {H : Hp} {x dx C : Addr} (S : Sep Ps H) (h1 : H x = none) (h2 : H dx = none) (ne : dx ≠ x) : Sep (pt x (.ins C dx []) :: Ps) (upd (upd H dx (.own x)) x (.ins C dx [])) :=
  Sep.new _ ((S.new _ h2).tl) (by rw [upd_ne (Ne.symm ne)]; exact h1)
theorem r_knew {vs : List V} (S : Sep Ps H) (h : ∀ x dx H', Sep (pt x (.ins C dx []) :: Ps) H' → sp (.ref x :: vs) H' (fun v H2 => v = .non ∧ Q (.ref x) H2) E0) : kNew C sp Q vs H := fun x dx h1 h2 ne => h x dx _ (S.made h1 h2 ne)
/-- slices of lists -/
def kSl (K : PySem.W.Frag) (Q : VK) : V → Option Int → Option Int → Hp → Prop := fun x lo hi H => rSlL K x lo hi H Q
theorem r_sl {tl th : TO} (h : te σ H fun x H1 => tl σ H1 fun l H2 => th σ H2 fun u H3 => kSl K Q x l u H3) : tSl (rSlL K) te tl th σ H Q := h
theorem r_nopart {QO : Option Int → Hp → Prop} (h : QO none H) : tNoPart σ H QO := h
def kPart (QO : Option Int → Hp → Prop) : V → Hp → Prop := fun x H1 => ∃ i, x = .int i ∧ QO (some i) H1
theorem r_part {QO : Option Int → Hp → Prop} (h : te σ H (kPart QO)) : tPart te σ H QO := h
theorem r_parti {QO : Option Int → Hp → Prop} (h : QO (some n) H) : kPart QO (.int n) H := ⟨n, rfl, h⟩
theorem r_ksl {lo hi : Option Int} (S : Sep Ps H) (s : SqL K H a xs) (h : ∀ p H', Sep (pt p (.lst (cutV xs lo hi)) :: Ps) H' → Q (.ref p) H') : kSl K Q (.ref a) lo hi H := ⟨a, xs, rfl, s, fun p np => h p _ (S.new _ np)⟩
theorem r_gsl {to : TE} {tl th : TO} (h : to σ H fun x H1 => tl σ H1 fun lo H2 => th σ H2 fun hi H3 => ∃ (l b : Addr) (xs ys : List V) (a c : Nat), x = .ref l ∧ v = .ref b ∧ lo = some (a : Int) ∧ hi = some (c : Int) ∧
  H3 l = some (.lst xs) ∧ H3 b = some (.lst ys) ∧ l ≠ b ∧ a ≤ xs.length ∧ a ≤ c ∧ xs.length + ys.length ≤ sizeLine ∧ QG σ (upd H3 l (.lst (xs.take a ++ ys ++ xs.drop c)))) : gSl to tl th v σ H QG := h
/-- list(xs) -/
theorem r_list (S : Sep Ps H) (s : SqL K H a xs) (h : ∀ p H', Sep (pt p (.lst xs) :: Ps) H' → Q (.ref p) H') : cList K [.ref a] H Q := ⟨a, xs, rfl, .inl s, fun p np => h p _ (S.new _ np)⟩
/-- xs + ys -/
theorem r_cat {q : Addr} (S : Sep Ps H) (s1 : H a = some (.lst xs)) (s2 : H q = some (.lst ys)) (hz : xs.length + ys.length ≤ 100000) (h : ∀ p H', Sep (pt p (.lst (xs ++ ys)) :: Ps) H' → Q (.ref p) H') : rAddA (.ref a) (.ref q) H Q :=
  .inr (.inl ⟨a, q, xs, ys, rfl, rfl, s1, s2, Nat.le_trans hz (by decide), fun p np => h p _ (S.new _ np)⟩)
/-- methods of lists -/
theorem r_bm {T : String} {r : V → List V → Hp → VK → Prop} {to : TE} (h : to σ H fun x H1 => tyV K T x H1 ∧ tr σ H1 fun xs H2 => r x xs H2 Q) : tBM K T r to tr σ H Q := h
theorem r_bm0 {T : String} {r : V → List V → Hp → VK → Prop} {to : TE} (h : to σ H fun x H1 => tyV K T x H1 ∧ r x [] H1 Q) : tBM0 K T r to σ H Q := h
theorem r_tyl {p : Prop} (s : SqL K H a xs) (h : p) : tyV K "list" (.ref a) H ∧ p := ⟨.inl ⟨rfl, xs, s⟩, h⟩
theorem r_append (S : Sep Ps H) (r : Repl a (.lst xs) (.lst (xs ++ [y])) Ps Qs) (hz : xs.length < 100000) (h : ∀ H', Sep Qs H' → Q .non H') : rAppend (.ref a) [y] H Q :=
  ⟨a, xs, y, rfl, rfl, by obtain ⟨Rs, p, _⟩ := r.pick; exact S.at_ p, Nat.lt_of_lt_of_le hz (by decide), h _ (S.set r)⟩
theorem r_reverse (S : Sep Ps H) (r : Repl a (.lst xs) (.lst xs.reverse) Ps Qs) (h : ∀ H', Sep Qs H' → Q .non H') : rReverse (.ref a) [] H Q :=
  ⟨a, xs, rfl, rfl, by obtain ⟨Rs, p, _⟩ := r.pick; exact S.at_ p, h _ (S.set r)⟩
theorem r_clear (S : Sep Ps H) (r : Repl a (.lst xs) (.lst []) Ps Qs) (h : ∀ H', Sep Qs H' → Q .non H') : rClear (.ref a) [] H Q :=
  ⟨a, xs, rfl, rfl, by obtain ⟨Rs, p, _⟩ := r.pick; exact S.at_ p, h _ (S.set r)⟩
/-- isinstance -/
theorem r_isi {T B : String} {k : Bool} (ty : TyX K H x (.type T)) (e : kitB T B = some k) (h : Q (.bl k) H) : rIsi K [x, .ty B] H Q := ⟨x, .ty B, _, _, k, rfl, .ty B, ty, kit_ty e, h⟩
theorem ty_int : TyX K H (.int n) (.type "int") := .base (.int n)
theorem ty_lst (h : H a = some (.lst xs)) : TyX K H (.ref a) (.type "list") := .base (.lst h)
theorem r_all {bs : List Bool} (s : SqL K H a (bs.map V.bl)) (h : Q (.bl (bs.all id)) H) : rAll K [.ref a] H Q := ⟨a, bs, rfl, s, h⟩
/-- loops -/
theorem r_for {wi : TI} (h : wi σ H fun J H1 => ∃ W : Nat → Nat → L2.St → Hp → Prop, (∃ m, W 0 m σ H1) ∧ ∀ i m σ H, W i m σ H →
  (J.stop i H ∧ D.nx σ H) ∨ (J.go i H ∧ ∃ N : L2.St → Hp → Prop, (∀ σ' H', N σ' H' → ∃ m', m' < m ∧ W (i + 1) m' σ' H') ∧ ∀ x H', J.yld i H x H' → g x σ H' fun σ2 H2 => t { D with nx := N, ct := N, bk := D.nx } σ2 H2)) : tFor wi g t D σ H := h
theorem r_ilist {R : It → Hp → Prop} {tl : TE} (h : tl σ H fun x H1 => ∃ a, x = .ref a ∧ (∃ xs, SqL K H1 a xs) ∧ R (Itl K a) H1) : iList K tl σ H R := h
theorem r_irng {R : It → Hp → Prop} (h : tr σ H fun vs H1 => ∃ j : Int, vs = [.int j] ∧ -(2 ^ 62) ≤ j ∧ j < 2 ^ 62 ∧ R (Itr 0 j.toNat) H1) : iRng1 tr σ H R := h
theorem r_irngA {R : It → Hp → Prop} (h1 : -(2 ^ 62) ≤ n) (h2 : n < 2 ^ 62) (h : R (Itr 0 n.toNat) H) : ∃ j : Int, [V.int n] = [.int j] ∧ -(2 ^ 62) ≤ j ∧ j < 2 ^ 62 ∧ R (Itr 0 j.toNat) H := ⟨n, rfl, h1, h2, h⟩
theorem r_gname {i : Nat} (h : QG (σ.set i (some v)) H) : gName i v σ H QG := h
/-- targets -/
theorem r_gunl {k : Nat} {tg : TGs} (s : SqL K H a xs) (l : xs.length = k) (h : tg xs σ H QG) : gUnl K k tg (.ref a) σ H QG := ⟨a, xs, rfl, s, l, h⟩
theorem r_gtup {k : Nat} {tg : TGs} (s : SqT K H a xs) (l : xs.length = k) (h : tg xs σ H QG) : gTup K k tg (.ref a) σ H QG := ⟨a, xs, rfl, s, l, h⟩
theorem r_gcons {tu : TGs} (h : g v σ H fun σ' H' => tu xs σ' H' QG) : gCons g tu (v :: xs) σ H QG := ⟨v, xs, rfl, h⟩
theorem r_gnil (h : QG σ H) : gNil [] σ H QG := ⟨rfl, h⟩
theorem r_par {i j : Nat} (h : tr σ H fun vs H1 => ∃ v w, vs = [v, w] ∧ D.nx ((σ.set i (some v)).set j (some w)) H1) : tPar i j tr D σ H := h
theorem r_parA {i j : Nat} {p : L2.St → Hp → Prop} (h : p ((σ.set i (some x)).set j (some y)) H) : ∃ v w, [x, y] = [v, w] ∧ p ((σ.set i (some v)).set j (some w)) H := ⟨x, y, rfl, h⟩
theorem r_chain {r r' : R2} {tc : TE} (h : ta σ H fun x H1 => tb σ H1 fun y H2 => r x y H2 fun z H3 => ∃ k, z = .bl k ∧ (if k = true then tc σ H3 fun w' H4 => r' y w' H4 Q else Q (.bl false) H3)) : tChain r r' ta tb tc σ H Q := h
theorem r_isN (h : Q (.bl (decide (x = .non))) H) : Kt.rIsN x .non H Q := ⟨rfl, h⟩
end
/-! ### a class whose __init__ has one keyword-only parameter -/
structure Mtk (K : PySem.W.Frag) (C : Addr) (qual : Str) (st : Stmt) (ps : List Str) (n : Nat) (ks : List Str) (gV : List V → List V → List V) (f : Addr) : Prop where
  fn : ∃ (fd : FuncData) (kws : List (Str × V)) (g : List Value → List Value → List Value), FunD K "__init__" qual (defArgs st) (defBody st) (defScope st) [] kws f fd ∧ KBn K fd ps (n + 1) ks g gV
  mkr : Mk K C f
structure Cfk (P : Program) (w : World) (K : PySem.W.Frag) (mg : Str → Option Value) (base : Heap) (k : Nat) (x : Str) (C : Addr) (ps : List Str) (n : Nat) (ks : List Str) (gV : List V → List V → List V) (sp : Sp) : Prop where
  fn : ∃ (f : Addr) (fd : FuncData) (g : List Value → List Value → List Value), FnOk P w K mg base CX0 k f fd ps sp ∧ KBn K fd ps (n + 1) ks g gV ∧ Mk K C f
  at_ : mg x = some (.ref C)
theorem Mtk.ok {P : Program} {w : World} {K : PySem.W.Frag} {mg : Str → Option Value} {base : Heap} {x : Str} {C : Addr} {qual : Str} {st : Stmt} {f : Addr} {N ps ks : List Str} {k n : Nat} {gV : List V → List V → List V} {sp : Sp} (T : Mtk K C qual st ps n ks gV f) (hx : mg x = some (.ref C)) (S : FnScope N ps (defScope st)) (len : ∀ vs H Q E, sp vs H Q E → vs.length = ps.length)
    (hbody : ∀ (cdv : Value) (A : Around) (outer : List Env) (s : Shared) (H : Hp) (vs : List V) (Q : VK) (E : XK), Room k (A.deeper (envOfC qual (defScope st) s.heap.objs.size f cdv)) → sp vs H Q E →
      ∃ t, PSs (cxOf CX0 P w K mg base N qual (defScope st) f cdv A outer s H E).nox (defBody st) t ∧ t { nx := fun _ H' => Q .non H', rt := Q } (start N vs) H) : Cfk P w K mg base (k + 1) x C ps n ks gV sp := by
  obtain ⟨fd, kws, g, F, b⟩ := T.fn
  refine ⟨⟨f, fd, g, F.ok S len fun cdv A outer s H vs Q E hr h => ?_, b, T.mkr⟩, hx⟩
  obtain ⟨t, ht, q⟩ := hbody cdv A outer s H vs Q E hr h
  exact ⟨t, ht.nox, q⟩
section
variable {X : Cx} {k n : Nat} {x : Str} {C : Addr} {ps ks : List Str} {gV : List V → List V → List V} {sp : Sp} {e : Expr} {es : List Expr} {kws : List Keyword} {t tk : TA} {p pos : Pos}
theorem pe_cfk (M : Cfk X.prog X.w X.K X.mg X.base k x C ps n ks gV sp) (hr : Room (k + 1) X.A) (ha : PA X (e :: es) t) (hkw : PK X kws tk) (hg : Gl X x := by rfl)
    (hall : (backToKw pos (keywordEach kws X.env)).all (·.1.isSome) = true := by rfl) (hks : (backToKw pos (keywordEach kws X.env)).filterMap (·.1) = ks := by rfl) (hd : (x == ("__debug__" : Str)) = false := by decide)
    (he : starEach (e :: es) X.env = (false, eval e X.env) :: starEach es X.env := by rfl) (hpl : ((backTo pos (starEach (e :: es) X.env)).any (·.1) || (backToKw pos (keywordEach kws X.env)).any (·.1.isNone)) = false := by rfl) :
    PE X (.Call (.Name x p) (e :: es) kws pos) (tMakeK C n ks.length sp gV E0 t tk) := by
  obtain ⟨f, fd, g, F, b, M'⟩ := M.fn
  exact pe_makeK M' F hr hg M.at_ b pass0 ha hkw hall hks hd he hpl
end
section
variable {K : PySem.W.Frag} {σ : L2.St} {H : Hp} {Q : VK} {t tk : TA} {C : Addr} {sp : Sp} {gV : List V → List V → List V} {n m : Nat} {Ps : List SP} {vs zs : List V}
def kNewK (C : Addr) (n m : Nat) (sp : Sp) (gV : List V → List V → List V) (Q : VK) (vs zs : List V) : Hp → Prop := fun H2 => vs.length = n ∧ zs.length = m ∧ ∀ x dx, H2 x = none → H2 dx = none → dx ≠ x → sp (gV (.ref x :: vs) zs) (upd (upd H2 dx (.own x)) x (.ins C dx [])) (fun v H3 => v = .non ∧ Q (.ref x) H3) E0
theorem r_makek (h : t σ H fun vs H1 => tk σ H1 fun zs H2 => kNewK C n m sp gV Q vs zs H2) : tMakeK C n m sp gV E0 t tk σ H Q := h
theorem r_knewk (S : Sep Ps H) (l1 : vs.length = n) (l2 : zs.length = m) (h : ∀ x dx H', Sep (pt x (.ins C dx []) :: Ps) H' → sp (gV (.ref x :: vs) zs) H' (fun v H2 => v = .non ∧ Q (.ref x) H2) E0) : kNewK C n m sp gV Q vs zs H := ⟨l1, l2, fun x dx h1 h2 ne => h x dx _ (S.made h1 h2 ne)⟩
end
/-! ### a local name that holds a def -/
section
variable {X : Cx} {k i : Nat} {x y : Str} {f : Addr} {ps : List Str} {sp : Sp} {e : Expr} {es : List Expr} {t : TA} {p pos : Pos}
theorem pe_dfL (D : Df X.prog X.w X.K X.mg X.base k y f ps sp) (hr : Room k X.A) (ha : PA X (e :: es) t) (hN : X.N[i]? = some x := by rfl) (hv : Vis X.env.scope x := by first | exact Or.inl rfl | exact Or.inr (Or.inl rfl) | exact Or.inr (Or.inr rfl))
    (hdb : (x == ("__debug__" : Str)) = false := by decide) (hcd : (x == ("__classdict__" : Str)) = false := by decide)
    (he : starEach (e :: es) X.env = (false, eval e X.env) :: starEach es X.env := by rfl) (hpl : (backTo pos (starEach es X.env)).any (·.1) = false := by rfl) : PE X (.Call (.Name x p) (e :: es) [] pos) (tCallL i f sp [] E0 t) := by
  obtain ⟨fd, F, b⟩ := D.fn
  exact pe_callL F hr hN hv D.kp b .nil pass0 ha hdb hcd he hpl
theorem r_calll {σ : L2.St} {H : Hp} {Q : VK} (hs : σ[i]? = some (some (.ref f))) (h : t σ H fun vs H1 => sp vs H1 Q E0) : tCallL i f sp [] E0 t σ H Q := by
  unfold tCallL
  simp only [List.append_nil]
  exact ⟨hs, h⟩
end
end Kt

set_option Elab.async false
set_option linter.all false
set_option maxRecDepth 100000
namespace Kt
open PySem L2 PyProof.Rows
section
variable {K : PySem.W.Frag} {σ : L2.St} {H : Hp} {D : Ends} {Q : VK} {a : Addr} {xs : List V} {Ps : List SP} {g : TG} {tb : TS} {tt : TT} {te : TE} {vs : List Nat} {n : Int}
/-- the turns of a loop, by a word over the slots and the known parts -/
abbrev LW := Nat → L2.St → List SP → Prop
def Nx (J : LW) (i : Nat) : L2.St → Hp → Prop := fun σ H => ∃ Ps, J i σ Ps ∧ Sep Ps H
theorem nx_in {J : LW} {i : Nat} (S : Sep Ps H) (j : J i σ Ps) : Nx J i σ H := ⟨Ps, j, S⟩
abbrev ForW (J : It) (g : TG) (tb : TS) (D : Ends) (σ : L2.St) (H1 : Hp) : Prop := ∃ W : Nat → Nat → L2.St → Hp → Prop, (∃ m, W 0 m σ H1) ∧ ∀ i m σ H, W i m σ H →
  (J.stop i H ∧ D.nx σ H) ∨ (J.go i H ∧ ∃ N : L2.St → Hp → Prop, (∀ σ' H', N σ' H' → ∃ m', m' < m ∧ W (i + 1) m' σ' H') ∧ ∀ x H', J.yld i H x H' → g x σ H' fun σ2 H2 => tb { D with nx := N, ct := N, bk := D.nx } σ2 H2)
theorem r_for_list (J : LW) (S : Sep Ps H) (h0 : J 0 σ Ps) (hl : ∀ i σ Ps H, i ≤ xs.length → J i σ Ps → Sep Ps H → SqL K H a xs)
    (hs : ∀ i x σ Ps H, xs[i]? = some x → J i σ Ps → Sep Ps H → g x σ H fun σ2 H2 => tb { D with nx := Nx J (i + 1), ct := Nx J (i + 1), bk := D.nx } σ2 H2) (hd : ∀ σ Ps H, J xs.length σ Ps → Sep Ps H → D.nx σ H) :
    ∃ a', V.ref a = .ref a' ∧ (∃ xs, SqL K H a' xs) ∧ ForW (Itl K a') g tb D σ H :=
  ⟨a, rfl, ⟨xs, hl 0 σ Ps H (Nat.zero_le _) h0 S⟩, for_list (K := K) (a := a) (xs := xs) (Nx J) ⟨Ps, h0, S⟩ (fun i σ H hi ⟨Ps, j, S⟩ => hl i σ Ps H hi j S) (fun i x σ H hi ⟨Ps, j, S⟩ => hs i x σ Ps H hi j S) fun σ H ⟨Ps, j, S⟩ => hd σ Ps H j S⟩
theorem r_for_tup (J : LW) (S : Sep Ps H) (h0 : J 0 σ Ps) (hl : ∀ i σ Ps H, i ≤ xs.length → J i σ Ps → Sep Ps H → SqT K H a xs)
    (hs : ∀ i x σ Ps H, xs[i]? = some x → J i σ Ps → Sep Ps H → g x σ H fun σ2 H2 => tb { D with nx := Nx J (i + 1), ct := Nx J (i + 1), bk := D.nx } σ2 H2) (hd : ∀ σ Ps H, J xs.length σ Ps → Sep Ps H → D.nx σ H) :
    ∃ a', V.ref a = .ref a' ∧ (∃ xs, SqT K H a' xs) ∧ ForW (Itt K a') g tb D σ H :=
  ⟨a, rfl, ⟨xs, hl 0 σ Ps H (Nat.zero_le _) h0 S⟩, for_tup (K := K) (a := a) (xs := xs) (Nx J) ⟨Ps, h0, S⟩ (fun i σ H hi ⟨Ps, j, S⟩ => hl i σ Ps H hi j S) (fun i x σ H hi ⟨Ps, j, S⟩ => hs i x σ Ps H hi j S) fun σ H ⟨Ps, j, S⟩ => hd σ Ps H j S⟩
/-- over range(n) -/
theorem r_for_rng (J : LW) (S : Sep Ps H) (h1 : -(2 ^ 62) ≤ n) (h2 : n < 2 ^ 62) (h0 : J 0 σ Ps)
    (hs : ∀ (i : Nat) σ Ps H, i < n.toNat → J i σ Ps → Sep Ps H → g (.int (i : Int)) σ H fun σ2 H2 => tb { D with nx := Nx J (i + 1), ct := Nx J (i + 1), bk := D.nx } σ2 H2) (hd : ∀ σ Ps H, J n.toNat σ Ps → Sep Ps H → D.nx σ H) :
    ∃ j : Int, [V.int n] = [.int j] ∧ -(2 ^ 62) ≤ j ∧ j < 2 ^ 62 ∧ ForW (Itr 0 j.toNat) g tb D σ H :=
  ⟨n, rfl, h1, h2, for_range (Nx J) ⟨Ps, h0, S⟩ (fun i σ H hi ⟨Ps, j, S⟩ => by rw [Int.zero_add]; exact hs i σ Ps H hi j S) fun σ H ⟨Ps, j, S⟩ => hd σ Ps H j S⟩
/-! ### comprehensions: J by the turn, what is made, the known parts -/
abbrev CW := Nat → List V → List SP → Prop
abbrev LcW (Jt : It) (g : TG) (tt : TT) (te : TE) (vs : List Nat) (Q : VK) (σ : L2.St) (H1 : Hp) : Prop := ∀ D, H1 D = none → ∃ W : Nat → Nat → Hp → Prop, (∃ m, W 0 m (upd H1 D (.lst []))) ∧ ∀ i m H, W i m H →
  (Jt.stop i H ∧ Q (.ref D) H) ∨ (Jt.go i H ∧ ∃ Nx : Hp → Prop, (∀ H', Nx H' → ∃ m', m' < m ∧ W (i + 1) m' H') ∧ ∀ x H', Jt.yld i H x H' → g x (wipe σ vs) H' fun σ2 H2 => wipe σ2 vs = wipe σ vs ∧ tt σ2 H2 fun b H3 =>
    if b = true then te σ2 H3 fun y H4 => ∃ acc, H4 D = some (.lst acc) ∧ acc.length < sizeLine ∧ Nx (upd H4 D (.lst (acc ++ [y]))) else Nx H3)
def CN (J : CW) (D : Addr) (i : Nat) : Hp → Prop := fun H => ∃ acc Ps, J i acc Ps ∧ Sep (pt D (.lst acc) :: Ps) H
/-- an item is made: the new list holds one more -/
theorem cn_in {J : CW} {D : Addr} {i : Nat} {acc : List V} {y : V} (S : Sep (pt D (.lst acc) :: Ps) H) (hl : acc.length < 100000) (j : J i (acc ++ [y]) Ps) : ∃ acc, H D = some (.lst acc) ∧ acc.length < sizeLine ∧ CN J D i (upd H D (.lst (acc ++ [y]))) :=
  ⟨acc, S.hd_at, Nat.lt_of_lt_of_le hl (by decide), acc ++ [y], Ps, j, S.hd_set _⟩
theorem cn_out {J : CW} {D : Addr} {i : Nat} {acc : List V} (S : Sep (pt D (.lst acc) :: Ps) H) (j : J i acc Ps) : CN J D i H := ⟨acc, Ps, j, S⟩
theorem r_lc (h : ∀ (wi : TI), wi = wi → True) : True := trivial
theorem r_tlc {wi : TI} (h : wi σ H fun Jt H1 => LcW Jt g tt te vs Q σ H1) : tLc wi g tt te vs σ H Q := h
theorem r_lc_list (J : CW) (S : Sep Ps H) (h0 : J 0 [] Ps) (hl : ∀ D i acc Ps H, i ≤ xs.length → J i acc Ps → Sep (pt D (.lst acc) :: Ps) H → SqL K H a xs) (hl0 : SqL K H a xs)
    (hs : ∀ D i x acc Ps H, xs[i]? = some x → J i acc Ps → Sep (pt D (.lst acc) :: Ps) H → g x (wipe σ vs) H fun σ2 H2 => wipe σ2 vs = wipe σ vs ∧ tt σ2 H2 fun b H3 =>
      if b = true then te σ2 H3 fun y H4 => ∃ acc, H4 D = some (.lst acc) ∧ acc.length < sizeLine ∧ CN J D (i + 1) (upd H4 D (.lst (acc ++ [y]))) else CN J D (i + 1) H3)
    (hd : ∀ D acc Ps H, J xs.length acc Ps → Sep (pt D (.lst acc) :: Ps) H → Q (.ref D) H) : ∃ a', V.ref a = .ref a' ∧ (∃ xs, SqL K H a' xs) ∧ LcW (Itl K a') g tt te vs Q σ H :=
  ⟨a, rfl, ⟨xs, hl0⟩, fun D nD => lc_list (K := K) (a := a) (xs := xs) (CN J D) ⟨[], Ps, h0, S.new _ nD⟩ (fun i H hi ⟨acc, Ps, j, S⟩ => hl D i acc Ps H hi j S) (fun i x H hi ⟨acc, Ps, j, S⟩ => hs D i x acc Ps H hi j S) fun H ⟨acc, Ps, j, S⟩ => hd D acc Ps H j S⟩
theorem r_lc_rng (J : CW) (S : Sep Ps H) (h1 : -(2 ^ 62) ≤ n) (h2 : n < 2 ^ 62) (h0 : J 0 [] Ps)
    (hs : ∀ D (i : Nat) acc Ps H, i < n.toNat → J i acc Ps → Sep (pt D (.lst acc) :: Ps) H → g (.int (i : Int)) (wipe σ vs) H fun σ2 H2 => wipe σ2 vs = wipe σ vs ∧ tt σ2 H2 fun b H3 =>
      if b = true then te σ2 H3 fun y H4 => ∃ acc, H4 D = some (.lst acc) ∧ acc.length < sizeLine ∧ CN J D (i + 1) (upd H4 D (.lst (acc ++ [y]))) else CN J D (i + 1) H3)
    (hd : ∀ D acc Ps H, J n.toNat acc Ps → Sep (pt D (.lst acc) :: Ps) H → Q (.ref D) H) : ∃ j : Int, [V.int n] = [.int j] ∧ -(2 ^ 62) ≤ j ∧ j < 2 ^ 62 ∧ LcW (Itr 0 j.toNat) g tt te vs Q σ H :=
  ⟨n, rfl, h1, h2, fun D nD => lc_range (CN J D) ⟨[], Ps, h0, S.new _ nD⟩ (fun i H hi ⟨acc, Ps, j, S⟩ => by rw [Int.zero_add]; exact hs D i acc Ps H hi j S) fun H ⟨acc, Ps, j, S⟩ => hd D acc Ps H j S⟩
theorem r_yes {QT : Bool → Hp → Prop} (h : QT true H) : tYes σ H QT := h
end
end Kt

set_option Elab.async false
set_option linter.all false
set_option maxRecDepth 100000
namespace Kt
open PySem L2 PyProof.Rows
/-! ### data: equal things are equal -/
def Okd (k : Nat) (d : PyData) : Prop := d.canLay0 = true ∧ d.depth ≤ k
theorem okd_int {k : Nat} (i : Int) : Okd k (.int i) := ⟨rfl, Nat.zero_le _⟩
theorem okd_bl {k : Nat} (b : Bool) : Okd k (.bool b) := ⟨rfl, Nat.zero_le _⟩
theorem okd_non {k : Nat} : Okd k .none := ⟨rfl, Nat.zero_le _⟩
theorem okd_all {k : Nat} : ∀ {ds : List PyData}, (∀ d ∈ ds, Okd k d) → PyData.canLayAll0 ds = true ∧ PyData.depthAll ds ≤ k
  | [], _ => ⟨rfl, Nat.zero_le _⟩
  | d :: ds, h => by
    obtain ⟨h1, h2⟩ := okd_all (ds := ds) fun x m => h x (List.mem_cons_of_mem _ m)
    obtain ⟨g1, g2⟩ := h d List.mem_cons_self
    refine ⟨?_, ?_⟩
    · rw [PyData.canLayAll0, g1, h1] <;> rfl
    · rw [PyData.depthAll]; exact Nat.max_le.mpr ⟨g2, h2⟩
theorem okd_list {k : Nat} {ds : List PyData} (h : ∀ d ∈ ds, Okd k d) : Okd (k + 1) (.list ds) := by
  obtain ⟨h1, h2⟩ := okd_all h
  refine ⟨?_, ?_⟩
  · rw [PyData.canLay0]; exact h1
  · rw [PyData.depth]; omega
theorem okd_tuple {k : Nat} {ds : List PyData} (h : ∀ d ∈ ds, Okd k d) : Okd (k + 1) (.tuple ds) := by
  obtain ⟨h1, h2⟩ := okd_all h
  refine ⟨?_, ?_⟩
  · rw [PyData.canLay0]; exact h1
  · rw [PyData.depth]; omega
theorem Okd.shaped {k : Nat} {d : PyData} (h : Okd k d) (hk : k ≤ 64) : SeqAt.shaped d = true := by
  unfold SeqAt.shaped
  rw [h.1, decide_eq_true (Nat.le_trans h.2 hk)]
  rfl
def dInts (ns : List Int) : PyData := .list (ns.map PyData.int)
theorem okd_ints (k : Nat) (ns : List Int) : Okd (k + 1) (dInts ns) := okd_list fun d m => by
  obtain ⟨i, _, rfl⟩ := List.mem_map.mp m
  exact okd_int i
section
variable {K : PySem.W.Frag} {H : Hp} {Q : VK} {x y : V} {a : Addr} {k : Nat} {d : PyData} {n : Int}
theorem dpall_ints : ∀ ns : List Int, DpAll K H (ns.map V.int) (ns.map PyData.int)
  | [] => .nil
  | n :: ns => .cons (.int n) (dpall_ints ns)
theorem dp_ints {ns : List Int} (s : SqL K H a (ns.map V.int)) : Dp K H (.ref a) (dInts ns) := .lst s (dpall_ints ns)
theorem r_eq_same (h1 : Dp K H x d) (h2 : Dp K H y d) (o : Okd k d) (hk : k ≤ 64) (q : Q (.bl true) H) : rEqA K x y H Q := .inr ⟨d, d, h1, h2, o.shaped hk, o.shaped hk, by rw [SeqAt.eqv_refl d o.1]; exact q⟩
theorem r_ne_same (h1 : Dp K H x d) (h2 : Dp K H y d) (o : Okd k d) (hk : k ≤ 64) (q : Q (.bl false) H) : rNeA K x y H Q := .inr ⟨d, d, h1, h2, o.shaped hk, o.shaped hk, by rw [SeqAt.eqv_refl d o.1]; exact q⟩
theorem r_neg (h : Q (.int (-n)) H) : rU (fun i => .int (-i)) (.int n) H Q := ⟨n, rfl, h⟩
end
end Kt

set_option Elab.async false
set_option linter.all false
set_option maxRecDepth 100000
namespace Kt
open PySem L2 PyProof.Rows
/-! ### many lists as one part -/
def big (l : List (Addr × List V)) : SP := Sep (l.map fun p => pt p.1 (.lst p.2))
theorem big_nil {R : List SP} {H : Hp} (S : Sep R H) : Sep (big [] :: R) H := Sep.unflat (As := []) S
theorem pick_mid {A : SP} {Qs : List SP} : ∀ Ps : List SP, Pick A (Ps ++ A :: Qs) (Ps ++ Qs)
  | [] => .hd
  | P :: Ps => .tl (pick_mid Ps)
theorem big_add {l : List (Addr × List V)} {p : Addr} {xs : List V} {R : List SP} {H : Hp} (S : Sep (pt p (.lst xs) :: big l :: R) H) : Sep (big (l ++ [(p, xs)]) :: R) H := by
  have S1 : Sep (pt p (.lst xs) :: ((l.map fun p => pt p.1 (.lst p.2)) ++ R)) H := S.cons_mono fun _ => Sep.flat
  have S2 : Sep ((l.map fun p => pt p.1 (.lst p.2)) ++ pt p (.lst xs) :: R) H := (pick_mid _).back S1
  refine Sep.unflat (As := (l ++ [(p, xs)]).map fun p => pt p.1 (.lst p.2)) ?_
  rw [List.map_append, List.append_assoc]
  exact S2
theorem sep_mem {R : List SP} {H : Hp} : ∀ {l : List (Addr × List V)} {p : Addr} {xs : List V}, Sep ((l.map fun p => pt p.1 (.lst p.2)) ++ R) H → (p, xs) ∈ l → H p = some (.lst xs)
  | [], _, _, _, h => by simp at h
  | q :: l, p, xs, S, h => by
    rcases List.mem_cons.mp h with e | h
    · subst e
      exact Sep.hd_at (Ps := (l.map fun p => pt p.1 (.lst p.2)) ++ R) S
    · exact sep_mem (Sep.tl (Ps := (l.map fun p => pt p.1 (.lst p.2)) ++ R) S) h
theorem big_get {l : List (Addr × List V)} {p : Addr} {xs : List V} {R : List SP} {H : Hp} (S : Sep (big l :: R) H) (h : (p, xs) ∈ l) : H p = some (.lst xs) := sep_mem S.flat h
theorem big_open {l : List (Addr × List V)} {R : List SP} {H : Hp} (S : Sep (big l :: R) H) : Sep ((l.map fun p => pt p.1 (.lst p.2)) ++ R) H := S.flat
section
variable {K : PySem.W.Frag} {H : Hp} {Q : VK} {x y : V} {a : Addr} {xs : List V} {Ps Qs : List SP}
theorem dpall_of {α : Type} (f : α → V) (g : α → PyData) : ∀ {l : List α}, (∀ z ∈ l, Dp K H (f z) (g z)) → DpAll K H (l.map f) (l.map g)
  | [], _ => .nil
  | z :: l, h => .cons (h z List.mem_cons_self) (dpall_of f g fun z m => h z (List.mem_cons_of_mem _ m))
theorem dpall_app : ∀ {xs ys : List V} {ds es : List PyData}, DpAll K H xs ds → DpAll K H ys es → DpAll K H (xs ++ ys) (ds ++ es)
  | _, _, _, _, .nil, h => h
  | _, _, _, _, .cons h t, h2 => .cons h (dpall_app t h2)
theorem r_insert0 (S : Sep Ps H) (r : Repl a (.lst xs) (.lst (y :: xs)) Ps Qs) (hz : xs.length < 100000) (h : ∀ H', Sep Qs H' → Q .non H') : ∃ (l : Addr) (zs : List V) (i : Int) (y' : V), V.ref a = .ref l ∧ [V.int 0, y] = [.int i, y'] ∧ H l = some (.lst zs) ∧ zs.length < sizeLine ∧ 0 ≤ i ∧ i < 2 ^ 63 ∧
    Q .non (upd H l (.lst (zs.take i.toNat ++ y' :: zs.drop i.toNat))) :=
  ⟨a, xs, 0, y, rfl, rfl, by obtain ⟨Rs, p, _⟩ := r.pick; exact S.at_ p, Nat.lt_of_lt_of_le hz (by decide), by decide, by decide, h _ (S.set r)⟩
end
end Kt

set_option Elab.async false
set_option linter.all false
set_option maxRecDepth 100000
namespace Kt
open PySem PySem.Spec PySem.W L2 PyProof.Rows
/-! ### an instance that is called: its class's own __call__ -/
theorem fn_found {K : Frag} {f : Addr} {h : Heap} (X : K.In h) (e : fnIn K f = true) : ∃ (o : Obj) (fd : FuncData), h.get? f = some o ∧ o.data = .func fd := by
  unfold fnIn at e
  split at e
  · rename_i q
    exact ⟨_, _, X _ _ q, rfl⟩
  · cases e
theorem callee_inst {prog : Program} {w : World} {A : Around} {K : Frag} {a C f : Addr} {dx : Addr} {od : Option Obj} {s : Shared} {R : Result → Shared → Prop} {rest : List Value} {kw : List (Str × Value)} {of_ : Obj} {fd : FuncData}
    (X : K.In s.heap) (J : PySem.W.InstAt s.heap a (PySem.W.instObj C dx) C od) (hs : findIn K (.ref C) "__call__" = some (some (.ref f))) (hf : isFn K (.ref f) = true) (hl : s.heap.get? f = some of_) (hd : of_.data = .func fd)
    (h : codeAny (model prog w) A (.call (.ref f) ⟨.ref a :: rest, kw⟩) R s) : codeAny (model prog w) A (.call (.ref a) ⟨rest, kw⟩) R s := by
  have sp : Looks (model prog w) s.heap (specialOf (.ref a) "__call__") (some (.ref f)) := J.type.andThen (looks_findIn X hs)
  have bd : Looks (model prog w) s.heap (bindSpecial (.ref f) (.ref a)) (.ref f, [.ref a]) := bind_fn X _ (beq_iff_eq.mp hf)
  refine codeAny_of_tree ?_
  show wpAny _ _ (callAny (.ref a) _) _ _ _
  refine nd_load J.at_ ?_
  show wpAny _ _ (callAny.viaDunder (.ref a) _) _ _ _
  unfold callAny.viaDunder
  refine wpAny_bind (sp.here ?_)
  refine wpAny_bind (bd.here ?_)
  have pc : Looks (model prog w) s.heap (callAny.plainCallee (.ref f)) true := (Looks.ld (part := none) hl).andThen (by rw [hd]; exact .now)
  refine wpAny_bind (pc.here ?_)
  exact wpAny_pure (a := Fin.again (.call (.ref f) ⟨.ref a :: rest, kw⟩)) (And.intro rfl h)
theorem keeper_inst {M : Model} {a C dx : Addr} {h : Heap} (e : h.get? a = some (PySem.W.instObj C dx)) : Looks M h (keeperOf (.ref a)) Keeper.caller := (Looks.ld (part := none) e).andThen .now
theorem callWith_inst {M : Model} {A : Around} {E : Value → Shared → Prop} {s : Shared} {pos : Pos} {f : Value} {args : List (Bool × Sem Value)} {Q : Value → Shared → Prop} {P : Heap → Prop} (hplain : (args.any (·.1) || ([] : List (Option Str × Sem Value)).any (·.1.isNone)) = false)
    (hk : ∀ h, P h → Looks M h (keeperOf f) Keeper.caller) (h : wpAny M A (evalArgs f true args []) (fun x s1 => P s1.heap ∧ wpAny M A (call f ([] ++ x.pos) x.kw) Q E s1) E s) : wpAny M A (callWith pos f [] args []) Q E s := by
  unfold callWith
  refine wpAny_bind (wpAny_holding (wpAny_mono h (fun x s1 h1 => wpAny_bind (wpAny_standAt ?_)) fun _ _ z => z))
  simp only [hplain]
  refine wpAny_bind ((hk _ h1.1).here ?_)
  dsimp only
  exact wpAny_bind (wpAny_mono (wpAny_operate' h1.2) (fun r s2 hr => wpAny_bind (wpAny_holding (wpAny_point (wpAny_pure hr)))) fun _ _ z => z)
section
variable {X : Cx} {k i : Nat} {x : Str} {C : Addr} {ps : List Str} {sp : Sp} {e : Expr} {es : List Expr} {t : TA} {p pos : Pos}
/-- x(e, ..), the local x holds an instance of C -/
def tCallI (i : Nat) (C : Addr) (sp : Sp) (t : TA) : TE := fun σ H Q => ∃ a, σ[i]? = some (some (.ref a)) ∧ t σ H fun vs H1 => ∃ dx fs, H1 a = some (.ins C dx fs) ∧ sp (.ref a :: vs) H1 Q E0
theorem pe_mfL (M : Mf X.prog X.w X.K X.mg X.base k C "__call__" ps sp) (hfn : ∀ f, findIn X.K (.ref C) "__call__" = some (some (.ref f)) → fnIn X.K f = true) (hr : Room k X.A) (ha : PA X (e :: es) t) (hN : X.N[i]? = some x := by rfl) (hv : Vis X.env.scope x := by first | exact Or.inl rfl | exact Or.inr (Or.inl rfl) | exact Or.inr (Or.inr rfl))
    (hdb : (x == ("__debug__" : Str)) = false := by decide) (hcd : (x == ("__classdict__" : Str)) = false := by decide) (he : starEach (e :: es) X.env = (false, eval e X.env) :: starEach es X.env := by rfl) (hpl : (backTo pos (starEach es X.env)).any (·.1) = false := by rfl) :
    PE X (.Call (.Name x p) (e :: es) [] pos) (tCallI i C sp t) := by
  obtain ⟨f, fd, F, b, hm⟩ := M.fn
  refine ⟨fun pins s σ H Q I h => ?_⟩
  obtain ⟨a, hs, ht⟩ := h
  refine wpAny_Call_Name_kw (thn ((pe_var (pos := p) hN hv hdb hcd).run pins s σ H (fun v H1 => v = .ref a ∧ H1 = H) I ⟨.ref a, hs, rfl, rfl⟩) fun u s1 ⟨v, H1, I1, r1, q1⟩ => ?_)
  obtain ⟨rfl, rfl⟩ := q1
  cases r1
  have h2 : wpAny (model X.prog X.w) X.A (spliced (backTo pos (starEach (e :: es) X.env))) (fun vs s2 => (∃ dx, s2.heap.get? a = some (PySem.W.instObj C dx)) ∧ wpAny (model X.prog X.w) X.A (call (.ref a) ([] ++ vs)) (EP X pins σ Q) X.xe s2) X.xe s1 :=
    thn (ha.run pos pins s1 σ _ _ I1 ht) fun us s2 ⟨vs, H2, I2, r, dx, fs, hH, q⟩ => by
      obtain ⟨mA, O, _⟩ := ins_get I2.hok hH
      refine ⟨⟨dx, O.obj⟩, ?_⟩
      obtain ⟨od, J, _⟩ := O.look
      obtain ⟨of_, fd2, hl, hd2⟩ := fn_found I2.kIn (hfn f hm.at_)
      have rr : Vals (V.ref a :: vs) (Value.ref a :: us) := .cons rfl r
      have ln : (Value.ref a :: us).length = ps.length := by rw [← rr.length]; exact F.len _ _ _ _ q
      have bd := b s2 (.ref a :: us) I2.kIn (by rw [List.append_nil]; exact ln)
      rw [List.append_nil] at bd
      refine wpAny_call (callee_inst I2.kIn J hm.at_ hm.fn hl hd2 (codeAny_mono (F.run X.A X.stack s2 H2 ⟨.ref a :: us, []⟩ (.ref a :: us) (.ref a :: vs) Q E0 hr I2.env0 bd rr q) fun r s' hq => ?_))
      cases r with
      | error z => exact pass0 pins σ H2 s2 z s' I2 hq
      | ok fl => cases fl with
        | ret u => exact I2.after hq
        | _ => exact False.elim hq
  rw [he] at h2 ⊢
  exact callWith_inst (P := fun h => ∃ dx, h.get? a = some (PySem.W.instObj C dx)) (by show ((false || (backTo pos (starEach es X.env)).any (·.1)) || false) = false; rw [hpl]; rfl) (fun h ⟨dx, q⟩ => keeper_inst q) (Calls.evalArgs_plain h2)
/-- an expression read in one of two ways -/
def tEr (t t' : TE) : TE := fun σ H Q => t σ H Q ∨ t' σ H Q
theorem pe_er {e : Expr} {t t' : TE} (h : PE X e t) (h' : PE X e t') : PE X e (tEr t t') := ⟨fun pins s σ H Q I q => q.elim (h.run pins s σ H Q I) (h'.run pins s σ H Q I)⟩
end
end Kt

set_option Elab.async false
set_option linter.all false
set_option maxRecDepth 100000
namespace Kt
open PySem L2 PyProof.Rows
/-! ### properties by name -/
structure Pt (K : PySem.W.Frag) (C : Addr) (m qual : Str) (st : Stmt) (g : Addr) : Prop where
  fn : ∃ fd, Fun K m qual st g fd ∧ Binds K fd ["self"] []
  at_ : ∃ p, PropOf K C m p g
structure Pf (P : Program) (w : World) (K : PySem.W.Frag) (mg : Str → Option Value) (base : Heap) (k : Nat) (C : Addr) (m : Str) (sp : Sp) : Prop where
  fn : ∃ p g fd, FnOk P w K mg base CX0 k g fd ["self"] sp ∧ Binds K fd ["self"] [] ∧ PropOf K C m p g
  cls : Cls K C
theorem Pt.ok {P : Program} {w : World} {K : PySem.W.Frag} {mg : Str → Option Value} {base : Heap} {C : Addr} {x qual : Str} {st : Stmt} {f : Addr} {N : List Str} {k : Nat} {sp : Sp} (T : Pt K C x qual st f) (c : Cls K C) (S : FnScope N ["self"] (defScope st)) (len : ∀ vs H Q E, sp vs H Q E → vs.length = 1)
    (hbody : ∀ (cdv : Value) (A : Around) (outer : List Env) (s : Shared) (H : Hp) (vs : List V) (Q : VK) (E : XK), Room k (A.deeper (envOfC qual (defScope st) s.heap.objs.size f cdv)) → sp vs H Q E →
      ∃ t, PSs (cxOf CX0 P w K mg base N qual (defScope st) f cdv A outer s H E).nox (defBody st) t ∧ t { nx := fun _ H' => Q .non H', rt := Q } (start N vs) H) : Pf P w K mg base (k + 1) C x sp := by
  obtain ⟨fd, F, b⟩ := T.fn
  obtain ⟨p, hp⟩ := T.at_
  exact ⟨⟨p, f, fd, F.ok S len hbody, b, hp⟩, c⟩
theorem pe_pr {X : Cx} {k : Nat} {C : Addr} {f : Str} {sp : Sp} {e : Expr} {pos : Pos} {ta : TE} (M : Pf X.prog X.w X.K X.mg X.base k C f sp) (hr : Room (k + 1) X.A) (he : PE X e ta) (hab : attributeBase e f X.env (eval e X.env) = eval e X.env := by rfl) : PE X (.Attribute e f pos) (tProp C sp [] E0 ta) := by
  obtain ⟨p, g, fd, F, b, hp⟩ := M.fn
  exact pe_prop he M.cls hp F hr b .nil pass0 hab
section
variable {σ : L2.St} {H : Hp} {Q : VK} {C a dx : Addr} {sp : Sp} {ta : TE} {fs : List (Str × V)} {Ps Qs : List SP}
def kProp (C : Addr) (sp : Sp) (Q : VK) : V → Hp → Prop := fun x H1 => ∃ a dx fs, x = .ref a ∧ H1 a = some (.ins C dx fs) ∧ sp [.ref a] H1 Q E0
theorem r_prop (h : ta σ H (kProp C sp Q)) : tProp C sp [] E0 ta σ H Q := h
theorem r_kprop (S : Sep Ps H) (p : Pick (pt a (.ins C dx fs)) Ps Qs) (h : sp [.ref a] H Q E0) : kProp C sp Q (.ref a) H := ⟨a, dx, fs, rfl, S.at_ p, h⟩
end
end Kt

set_option Elab.async false
set_option linter.all false
set_option maxRecDepth 100000
namespace Kt
open PySem PySem.Spec L2 PyProof.Rows
/-! ### promises of defs that are called where no guard stands: what repr of a list asks -/
structure FnG (P : Program) (w : World) (K : PySem.W.Frag) (mg : Str → Option Value) (base : Heap) (k : Nat) (f : Addr) (fd : FuncData) (ps : List Str) (sp : Sp) : Prop where
  len : ∀ vs H Q E, sp vs H Q E → vs.length = ps.length
  run : ∀ (A : Around) (outer : List Env) (s : Shared) (H : Hp) (args : Args) (us : List Value) (vs : List V) (Q : VK) (E : XK), A.guards = some [] → Room k A → Env0 P w K mg base A outer s H → BindsTo s fd args (ps.zip us) → Vals vs us → sp vs H Q E → codeAny (model P w) A (.call (.ref f) args) (CR CX0 outer P w H s Q E) s
section
variable {P : Program} {w : World} {K : PySem.W.Frag} {mg : Str → Option Value} {base : Heap}
theorem fnG_ok {x qual : Str} {st : Stmt} {f : Addr} {fd : FuncData} {N ps : List Str} {k : Nat} {sp : Sp} (F : Fun K x qual st f fd) (S : FnScope N ps (defScope st)) (len : ∀ vs H Q E, sp vs H Q E → vs.length = ps.length)
    (hbody : ∀ (cdv : Value) (A : Around) (outer : List Env) (s : Shared) (H : Hp) (vs : List V) (Q : VK) (E : XK), A.guards = some [] → Room k (A.deeper (envOfC qual (defScope st) s.heap.objs.size f cdv)) → sp vs H Q E →
      ∃ t, PSs (cxOf CX0 P w K mg base N qual (defScope st) f cdv A outer s H E).nox (defBody st) t ∧ t { nx := fun _ H' => Q .non H', rt := Q } (start N vs) H) : FnG P w K mg base (k + 1) f fd ps sp := by
  obtain ⟨oc, od, kV, doc, pm, an, cdv, ct, osl, rfl, lk, hcd⟩ := F.ex
  refine ⟨len, fun A outer s H args us vs Q E hg hr e0 hb r hsp => ?_⟩
  have KX : K.In s.heap := e0.mod.kin.keeps fun b o e => (e0.bs b o e).1
  have lim := e0.mod.nolimit.keeps (h' := s.heap) fun b o e => (e0.bs b o e).1
  have hl : vs.length = ps.length := len vs H Q E hsp
  have kinds : ∀ y ∈ ps.zip us, (defScope st).names.lookup y.1 = some .local ∨ ((defScope st).names.lookup y.1 = some .cell ∧ ((cellsFrom (s.heap.objs.size + 1) (defScope st).names []).lookup y.1).isSome = true) := by
    rintro ⟨n, v⟩ hy
    exact (S.par n (List.of_mem_zip hy).1).imp id fun q => ⟨q, PySem.W.cellsFrom_some _ _ _ (.inl q)⟩
  refine codeAny_call_function hr.depth (KX _ _ lk) rfl S.co S.gen rfl (PySem.W.codeRec_of KX hcd) (hb _ _ _ _ (wpAny_newFunctionEnv_cells S.kind kinds fun env he s1 x => ?_))
  cases he
  refine ⟨lim.keeps x.toInCall.keep, codeAny_func ?_⟩
  obtain ⟨t, ht, hq⟩ := hbody cdv A outer s H vs Q E hg (hr.deeper _) hsp
  refine wpAny_mono (ht.nox.run [] s1 (start N vs) H _ (inv_start S hr.hd e0 hl r x) hq) (fun fl s' hs => ?_) fun _ _ z => z
  rcases fl with u | _ | _ | _
  all_goals first
    | exact (let ⟨v, σ', H', J, rv, q⟩ := hs; ⟨v, H', J.os, J.bare, J.base, J.hok, rv, q⟩)
    | exact (let ⟨σ', H', J, q⟩ := hs; ⟨V.non, H', J.os, J.bare, J.base, J.hok, rfl, q⟩)
    | exact (let ⟨_, _, _, q⟩ := hs; q.elim)
end
/-! ### a def of the text that is called where no guard stands -/
structure Dg (P : Program) (w : World) (K : PySem.W.Frag) (mg : Str → Option Value) (base : Heap) (k : Nat) (x : Str) (f : Addr) (ps : List Str) (sp : Sp) : Prop where
  fn : ∃ fd, FnG P w K mg base k f fd ps sp ∧ Binds K fd ps []
  at_ : mg x = some (.ref f)
  kp : PySem.W.keepIn K (.ref f) = true
theorem Dt.okG {P : Program} {w : World} {K : PySem.W.Frag} {mg : Str → Option Value} {base : Heap} {x : Str} {st : Stmt} {f : Addr} {N ps : List Str} {k : Nat} {sp : Sp} (T : Dt K mg x st ps f) (S : FnScope N ps (defScope st)) (len : ∀ vs H Q E, sp vs H Q E → vs.length = ps.length)
    (hbody : ∀ (cdv : Value) (A : Around) (outer : List Env) (s : Shared) (H : Hp) (vs : List V) (Q : VK) (E : XK), A.guards = some [] → Room k (A.deeper (envOfC x (defScope st) s.heap.objs.size f cdv)) → sp vs H Q E →
      ∃ t, PSs (cxOf CX0 P w K mg base N x (defScope st) f cdv A outer s H E).nox (defBody st) t ∧ t { nx := fun _ H' => Q .non H', rt := Q } (start N vs) H) : Dg P w K mg base (k + 1) x f ps sp := by
  obtain ⟨fd, F, b⟩ := T.fn
  exact ⟨⟨fd, fnG_ok F S len hbody, b⟩, T.at_, F.kp⟩
section
variable {X : Cx} {k : Nat} {x : Str} {f : Addr} {fd : FuncData} {ps : List Str} {sp : Sp} {e : Expr} {es : List Expr} {t : TA} {p pos : Pos}
theorem run_fnG {pins : List (Addr × Obj)} {σ : L2.St} {H : Hp} {s : Shared} {Q : VK} {us : List Value} {vs : List V} (F : FnG X.prog X.w X.K X.mg X.base k f fd ps sp) (hg : X.A.guards = some []) (hr : Room k X.A) (hb : Binds X.K fd ps []) (I : Inv X pins σ H s) (r : Vals vs us) (h : sp vs H Q E0) :
    wpAny (model X.prog X.w) X.A (call (.ref f) us) (EP X pins σ Q) X.xe s := by
  have ln : us.length = ps.length := r.length.symm.trans (F.len _ _ _ _ h)
  have bd := hb s us I.kIn (by rw [List.append_nil]; exact ln)
  rw [List.append_nil] at bd
  refine wpAny_call (codeAny_mono (F.run X.A X.stack s H ⟨us, []⟩ us vs Q E0 hg hr I.env0 bd r h) fun z s' hq => ?_)
  rcases z with z | u | _ | _ | _ <;> first | exact I.after hq | exact pass0 pins σ H s z s' I hq | exact hq.elim
theorem pe_dg (D : Dg X.prog X.w X.K X.mg X.base k x f ps sp) (hg : X.A.guards = some []) (hr : Room k X.A) (ha : PA X (e :: es) t) (hgl : Gl X x := by rfl) (hd : (x == ("__debug__" : Str)) = false := by decide)
    (he : starEach (e :: es) X.env = (false, eval e X.env) :: starEach es X.env := by rfl) (hpl : (backTo pos (starEach es X.env)).any (·.1) = false := by rfl) : PE X (.Call (.Name x p) (e :: es) [] pos) (tCall sp [] E0 t) := by
  obtain ⟨fd, F, b⟩ := D.fn
  refine ⟨fun pins s σ H Q I h => wpAny_Call_Name_kw (ld_glob I hgl D.at_ ?_ hd)⟩
  refine PySem.W.callWith_K (h₀ := X.base) I.ok.mod.kin D.kp (thn (ha.run pos pins s σ H _ I h) fun us s1 ⟨vs, H1, I1, r, q⟩ => ⟨I1.kIn, run_fnG F hg hr b I1 r ?_⟩) he hpl
  have q2 : sp (vs ++ []) H1 Q E0 := q
  rw [List.append_nil] at q2
  exact q2
/-! ### repr of lists and tuples -/
def cRepr (K : PySem.W.Frag) : List V → Hp → VK → Prop := fun xs H Q => ∃ a d, xs = [.ref a] ∧ Dp K H (.ref a) d ∧ d.showable = true ∧ d.hasDict = false ∧ d.depth ≤ 60 ∧ d.shown.length ≤ sizeLine ∧ Q (.str d.shown) H
theorem call_reprA (hg : X.A.guards = some []) (hu : X.A.units + 64 < cLine) : CallR X (.builtin "repr") (cRepr X.K) := by
  intro pins s σ H xs us Q I r h
  obtain ⟨a, d, rfl, hD, hs, hn, hp, hz, q⟩ := h
  obtain ⟨u, rfl, r1⟩ := vals1 r
  cases r1
  obtain ⟨as, rd⟩ := Dp.reads I d _ _ hD rfl
  exact repr_of_reads' rd hs (fun z => by rw [hn] at z; cases z) hg (by omega) (fun _ _ e => e) (fun h' u tk hk => ⟨.str d.shown, H, I.kept hk, ⟨u, rfl⟩, q⟩) hz
end
/-! ### the law itself: it is called where no guard stands -/
section
variable {P : Program} {w : World} {K : PySem.W.Frag} {mg mb : Str → Option Value} {k : Nat} {fa a : Addr} {fd : FuncData} {x : Str} {sp : Sp} {s1 : Shared} {vs : List Value} {ns : List Int}
/-- from a heap in which the script alone may be tracked -/
theorem law_from (KX : K.In s1.heap) (hns : s1.heap.Ns mainGlobals mg) (hb : s1.heap.Ns builtinsNs mb) (hbb : ∀ x : Str, x ≠ "__name__" → mb x = bootBuiltins x) (hlim : s1.heap.NoLimit) (hg : s1.gens = #[])
    (ha : s1.heap.get? a = some { cls := .type "list", data := .seq vs.toArray }) (hr : Room k callerA) (F : ∀ base : Heap, K.In base → base.Ns mainGlobals mg → FnG P w K mg base k fa fd [x] sp) (hbind : ∀ (s : Shared) (u : Value), BindsTo s fd ⟨[u], []⟩ [(x, u)])
    (H : Hp) (hO : Only H) (hq : sp [.ref a] H (fun v _ => v = .bl true) E0) (hok : HOk P w H s1.heap) (hA : ∀ b, H b ≠ none → b = a) (hK : H a ≠ none → K.lookup a = none) :
    codeAny (model P w) callerA (.call (.ref fa) ⟨[.ref a], []⟩) (fun r s' => r = .ok (.ret (.bool true)) ∧ OldK s1.heap s'.heap ∧ s'.os = s1.os ∧ AllBare s'.gens) s1 := by
  have free : ∀ b, b ≠ a → H b = none := fun b nb => by
    cases q : H b with
    | none => rfl
    | some u => exact absurd (hA b (by rw [q]; nofun)) nb
  have dictFree : ∀ {b : Addr} {m : Str → Option Value}, s1.heap.Ns b m → (hidT s1.heap H).Ns b m := by
    rintro b m ⟨o, es, ep, e, d, r⟩
    refine ⟨o, es, ep, hidT_get e (free b ?_), d, r⟩
    rintro rfl
    rw [ha] at e
    cases e
    cases d
  have hKb : K.In (hidT s1.heap H) := fun b o e => hidT_get (KX b o e) (by
    cases q : H b with
    | none => rfl
    | some u =>
      cases hA b (by rw [q]; nofun)
      rw [hK (by rw [q]; nofun)] at e
      cases e)
  obtain ⟨mc, lim1, lim2⟩ := hlim
  have hM : Mod K mg (hidT s1.heap H) := ⟨hKb, dictFree hns, ⟨mb, dictFree hb, hbb⟩, ⟨mc, dictFree lim1, lim2⟩⟩
  have e0 : Env0 P w K mg (hidT s1.heap H) callerA [] s1 H := ⟨rfl, hM, fun b o e => of_hidT e, Nat.le_of_eq (hidT_size _ _), trivial, fun b hb => (List.not_mem_nil (show b ∈ ([] : List Addr) from hb)).elim, hok, .of_eq hg⟩
  refine codeAny_mono ((F _ hKb (dictFree hns)).run callerA [] s1 H ⟨[.ref a], []⟩ [.ref a] [.ref a] _ _ rfl hr e0 (hbind s1 (.ref a)) (.cons rfl .nil) hq) fun r s' h => ?_
  cases r with
  | error e => exact False.elim h
  | ok fl => cases fl with
    | ret u =>
      obtain ⟨v, H', os, bare, un, hok', r', q'⟩ := h
      cases (show v = .bl true from q')
      cases (show u = Value.bool true from r')
      refine ⟨rfl, OldK.of_keep fun b o e => ?_, os, bare⟩
      rcases hO b with z | ⟨ob, xs, z⟩
      · exact un.keep b o e z (fun q => (List.not_mem_nil (show b ∈ ([] : List Addr) from q)).elim) (by simp)
      · obtain ⟨e1, _⟩ := hok b _ z
        obtain ⟨e2, _⟩ := hok' b _ (un.frzs b ob _ z)
        rw [e] at e1
        cases e1
        exact e2
    | _ => exact False.elim h
theorem law_callG (KX : K.In s1.heap) (hns : s1.heap.Ns mainGlobals mg) (hb : s1.heap.Ns builtinsNs mb) (hbb : ∀ x : Str, x ≠ "__name__" → mb x = bootBuiltins x) (hlim : s1.heap.NoLimit) (hg : s1.gens = #[])
    (ha : s1.heap.get? a = some { cls := .type "list", data := .seq vs.toArray }) (hi : IntsAre vs ns) (hl : ns.length ≤ sizeLine) (hr : Room k callerA) (F : ∀ base : Heap, K.In base → base.Ns mainGlobals mg → FnG P w K mg base k fa fd [x] sp)
    (hbind : ∀ (s : Shared) (u : Value), BindsTo s fd ⟨[u], []⟩ [(x, u)]) (hsp : ∀ H : Hp, Only H → SqL K H a (ns.map V.int) → sp [.ref a] H (fun v _ => v = .bl true) E0) :
    codeAny (model P w) callerA (.call (.ref fa) ⟨[.ref a], []⟩) (fun r s' => r = .ok (.ret (.bool true)) ∧ OldK s1.heap s'.heap ∧ s'.os = s1.os ∧ AllBare s'.gens) s1 := by
  have core := law_from (P := P) (w := w) (sp := sp) KX hns hb hbb hlim hg ha hr F hbind
  have lenV := hi.length
  have rv := vals_ints hi
  cases hk : K.lookup a with
  | some o =>
    have e := ha.symm.trans (KX a o hk)
    cases e
    have hO : Only (fun _ => none) := fun _ => .inl rfl
    exact core _ hO (hsp _ hO (.inr ⟨_, vs.toArray, _, hk, rfl, rfl, rfl, by rw [List.size_toArray, lenV]; exact hl, by simpa using rv⟩)) (fun b u z => nomatch (show (none : Option HO) = some u from z)) (fun b z => absurd rfl z) (fun z => absurd rfl z)
  | none =>
    have at_ : (fun b => if b = a then some (HO.frz { cls := .type "list", data := .seq vs.toArray } (.lst (ns.map V.int))) else none : Hp) a = some (HO.frz { cls := .type "list", data := .seq vs.toArray } (.lst (ns.map V.int))) := if_pos rfl
    have off : ∀ b, b ≠ a → (fun b => if b = a then some (HO.frz { cls := .type "list", data := .seq vs.toArray } (.lst (ns.map V.int))) else none : Hp) b = none := fun b nb => if_neg nb
    generalize (fun b => if b = a then some (HO.frz { cls := .type "list", data := .seq vs.toArray } (.lst (ns.map V.int))) else none : Hp) = H at at_ off
    have hO : Only H := fun b => (Decidable.em (b = a)).elim (fun e => .inr ⟨_, _, e ▸ at_⟩) fun e => .inl (off b e)
    refine core H hO (hsp H hO (.inl (.inr ⟨_, at_⟩))) (fun b u z => ?_) (fun b z => Decidable.byContradiction fun e => z (off b e)) fun _ => hk
    obtain rfl : b = a := Decidable.byContradiction fun e => nomatch (off b e).symm.trans z
    cases at_.symm.trans z
    exact ⟨ha, by rw [List.length_map]; exact hl, vs, _, rv, ha⟩
end
theorem walk_G {l : PySem.W.OpenLaw} {n k : Nat} {q : Program} {loose : List Str} {XP : (Str → Option Value) → Heap → Prop} {YP : World → Heap → Prop} {d : DefRec} {K : Params → PySem.W.Frag} {sp : World → Sp} {x : Str} (hn : l.most = some n) (hn2 : n ≤ sizeLine) (hdf : d.params.defaults = []) (hr : Room k callerA)
    (hY : ∀ (w : World) (h : Heap), YP w h → (K w.params).In h) (F : ∀ (w : World) (mg : Str → Option Value) (fa : Addr) (h : Heap), (K w.params).In h → h.Ns mainGlobals mg → mg d.name = some (.ref fa) →
      ∃ fd : FuncData, (∀ (s : Shared) (u : Value), BindsTo s fd ⟨[u], []⟩ [(x, u)]) ∧ ∀ base : Heap, (K w.params).In base → base.Ns mainGlobals mg → FnG l.prog w (K w.params) mg base k fa fd [x] (sp w))
    (hsp : ∀ (w : World) (H : Hp) (a : Addr) (ns : List Int), ns.length ≤ n → (∀ z ∈ ns, Builtin.Int.intBits z ≤ 1048576) → Only H → SqL (K w.params) H a (ns.map V.int) → sp w [.ref a] H (fun v _ => v = .bl true) E0) : PySem.W.WalkO q loose XP YP l.row.toRowW d [] (fun f vs => PySem.call f vs) := by
  refine Att.attach_callB hn hdf fun w s0 s1 mg mb fa o pm cd doc a vs ns G Y ho hd hcd hmg hobj hints hlen hbits hg => ?_
  obtain ⟨fd, hb, hF⟩ := F w mg fa _ (hY w _ Y) G.T.g hmg
  exact law_callG (hY w _ Y) G.T.g G.T.b G.T.builtins G.T.nolimit hg hobj hints (Nat.le_trans hlen hn2) hr hF hb fun H hO hS => hsp w H a ns hlen hbits hO hS
end Kt

set_option Elab.async false
set_option linter.all false
set_option maxRecDepth 100000
namespace Kt
open PySem PySem.Spec L2 PyProof.Rows
/-! ### instances of a class without an own __eq__: == is being the same -/
section
variable {M : Model} {prog : Program} {w : World} {A : Around} {E : Value → Shared → Prop} {s : Shared} {K : PySem.W.Frag} {x y C dx dy : Addr} {od od2 : Option Obj}
theorem isSame_inst {R : Bool → Shared → Prop} (hx : s.heap.get? x = some (PySem.W.instObj C dx)) (hy : s.heap.get? y = some (PySem.W.instObj C dy)) (h : R (decide (x = y)) s) : wpAny M A (isSame (.ref x) (.ref y)) R E s := by
  unfold isSame
  by_cases e : x = y
  · subst e
    rw [decide_eq_true rfl] at h
    refine wpAny_ite_split (fun _ => wpAny_pure h) (fun q => absurd (beq_self_eq_true x) (by simpa using q))
  · rw [decide_eq_false e] at h
    refine wpAny_ite_split (fun q => absurd (beq_iff_eq.mp q) e) (fun _ => ?_)
    refine wpAny_bind (PySem.W.nd_load hx (wpAny_pure ?_))
    refine wpAny_bind (PySem.W.nd_load hy (wpAny_pure ?_))
    exact wpAny_pure h
theorem objEq_inst {Q : Fin → Shared → Prop} (hx : s.heap.get? x = some (PySem.W.instObj C dx)) (hy : s.heap.get? y = some (PySem.W.instObj C dy)) (hq : Q (.done (.ret (if x = y then .bool true else .notImplemented))) s) : wpAny M A (Builtin.«object.__eq__» ⟨[.ref x, .ref y], []⟩) Q E s := by
  unfold Builtin.«object.__eq__»
  repeat (first | with_reducible refine isSame_inst hx hy ?_ | wp_step)
  by_cases e : x = y
  · rw [if_pos e] at hq
    rw [decide_eq_true e]
    exact wpAny_pure hq
  · rw [if_neg e] at hq
    rw [decide_eq_false e]
    exact wpAny_pure hq
theorem try_inst (X : K.In s.heap) (I : PySem.W.InstAt s.heap x (PySem.W.instObj C dx) C od) (hm : PySem.W.mroIn K C (.type "object") = some true) (hs : PySem.W.findIn K (.ref C) "__eq__" = some (some (.builtin "object.__eq__"))) (hy : s.heap.get? y = some (PySem.W.instObj C dy)) :
    wpAny (model prog w) A (tryCompare (.ref x) "__eq__" (.ref y)) (fun r s' => r = (if x = y then some (Value.bool true) else none) ∧ s' = s) E s := by
  unfold tryCompare
  refine wpAny_bind (HN.ifBound_objEq X I hs (wpAny_call (codeAny_call_builtin F.cmp_object.eq.plain F.cmpEntry_eq (PySem.W.check_slot F.cmpKind_eq F.cmpSplit_eq (I.type.andThen (PySem.W.looks_mroIn X hm)) (F.cmpArgs_eq _ _) (objEq_inst I.at_ hy ?_)))))
  by_cases e : x = y
  · rw [if_pos e, if_pos e]
    exact wpAny_pure ⟨rfl, rfl⟩
  · rw [if_neg e, if_neg e]
    exact wpAny_pure ⟨rfl, rfl⟩
theorem rc_inst (hu : A.units < cLine) (X : K.In s.heap) (I : PySem.W.InstAt s.heap x (PySem.W.instObj C dx) C od) (J : PySem.W.InstAt s.heap y (PySem.W.instObj C dy) C od2) (hm : PySem.W.mroIn K C (.type "object") = some true) (hs : PySem.W.findIn K (.ref C) "__eq__" = some (some (.builtin "object.__eq__"))) {Q : Value → Shared → Prop}
    (h : Q (.bool (decide (x = y))) s) : wpAny (model prog w) A (richCompare .Eq (.ref x) (.ref y)) Q E s := by
  simp only [richCompare, cmpInfo_Eq, oneThing_ref]
  refine wpAny_holding (wpAny_bind (wpAny_cRoomFor hu ?_))
  refine wpAny_bind (I.type.here (wpAny_bind (J.type.here ?_)))
  rw [if_neg (by simp)]
  refine wpAny_bind (wpAny_pure ?_)
  simp only [Bool.false_eq_true, if_false, Bool.not_false, if_true]
  refine wpAny_bind (m := tryCompare (.ref x) _ (.ref y)) (wpAny_mono (try_inst X I hm hs J.at_) (fun r s1 z => ?_) fun _ _ e => e)
  obtain ⟨z1, z2⟩ := z
  subst z2
  by_cases e : x = y
  · rw [if_pos e] at z1
    subst z1
    rw [decide_eq_true e] at h
    exact wpAny_pure h
  · rw [if_neg e] at z1
    subst z1
    refine wpAny_bind (m := tryCompare (.ref y) _ (.ref x)) (wpAny_mono (try_inst X J hm hs I.at_) (fun r s2 z => ?_) fun _ _ e => e)
    obtain ⟨z1, z2⟩ := z
    subst z2
    rw [if_neg (fun q => e q.symm)] at z1
    subst z1
    exact wpAny_bind (wpAny_rule (wpAny_bind (isSame_inst I.at_ J.at_ (wpAny_pure h))))
end
def rEqIns (K : PySem.W.Frag) : R2 := fun x y H Q => ∃ a b C dx fs dy gs, x = .ref a ∧ y = .ref b ∧ H a = some (.ins C dx fs) ∧ H b = some (.ins C dy gs) ∧ PySem.W.mroIn K C (.type "object") = some true ∧ PySem.W.findIn K (.ref C) "__eq__" = some (some (.builtin "object.__eq__")) ∧ Q (.bl (decide (a = b))) H
theorem op_eqIns {X : Cx} (hu : X.A.units + 64 < cLine) : OpR X (compareOp .Eq) (rEqIns X.K) := by
  intro pins s σ H x y v u Q I rx ry h
  obtain ⟨a, b, C, dx, fs, dy, gs, rfl, rfl, h1, h2, hm, he, q⟩ := h
  cases (show v = Value.ref a from rx)
  cases (show u = Value.ref b from ry)
  obtain ⟨_, O1, _⟩ := ins_get I.hok h1
  obtain ⟨_, O2, _⟩ := ins_get I.hok h2
  obtain ⟨_, J1, _⟩ := O1.look
  obtain ⟨_, J2, _⟩ := O2.look
  exact rc_inst (by omega) I.kIn J1 J2 hm he ⟨.bl _, H, I, rfl, q⟩
end Kt

set_option Elab.async false
set_option linter.all false
set_option maxRecDepth 100000
namespace Kt
open PySem L2 PyProof.Rows
/-! ### data that may be shown: its texts are short -/
structure Sh (k W : Nat) (d : PyData) : Prop where
  ok : Okd k d
  sh : d.showable = true
  sm : d.leavesShort 64 = true
  wt : d.weight ≤ W
theorem Sh.nd {k W : Nat} {d : PyData} (h : Sh k W d) : d.hasDict = false := PyData.hasDict_of_canLay d h.ok.1
theorem Sh.fits {k W : Nat} {d : PyData} (h : Sh k W d) (hW : W ≤ 200000) : d.shown.length ≤ sizeLine := by
  have h1 := PyData.shown_le 64 (by decide) d h.sm
  have h2 : (64 + 2) * d.weight ≤ 66 * 200000 := Nat.mul_le_mul (by omega) (Nat.le_trans h.wt hW)
  have e : sizeLine = 16777216 := by decide
  omega
theorem Sh.up {k k' W W' : Nat} {d : PyData} (h : Sh k W d) (hk : k ≤ k') (hW : W ≤ W') : Sh k' W' d := ⟨⟨h.ok.1, Nat.le_trans h.ok.2 hk⟩, h.sh, h.sm, Nat.le_trans h.wt hW⟩
theorem sh_int {k : Nat} {i : Int} (h : i.natAbs < 10 ^ 60) : Sh k 200 (.int i) := by
  refine ⟨okd_int i, ?_, ?_, ?_⟩
  · rw [PyData.showable]
    refine decide_eq_true ?_
    have h2 : i.natAbs < 2 ^ 200 := Nat.lt_trans h (by decide)
    by_cases h0 : i.natAbs = 0
    · rw [h0]; decide
    · exact Nat.lt_trans ((Nat.log2_lt h0).mpr h2) (by decide)
  · rw [PyData.leavesShort]
    refine decide_eq_true ?_
    have e := int_text_length_le10 (k := 60) (by decide) h
    show (Str.ofString (toString i)).length ≤ 64
    rw [PySem.ofString_length]
    omega
  · rw [PyData.weight]
    have h2 : i.natAbs < 2 ^ 200 := Nat.lt_trans h (by decide)
    by_cases h0 : i.natAbs = 0
    · rw [h0]
      split
      · decide
      · decide
    · have := (Nat.log2_lt h0).mpr h2
      split
      · decide
      · omega
theorem sh_non {k : Nat} : Sh k 0 .none := ⟨okd_non, rfl, rfl, Nat.le_refl _⟩
theorem sh_bl {k : Nat} (b : Bool) : Sh k 1 (.bool b) := ⟨okd_bl b, rfl, rfl, by cases b <;> decide⟩
theorem sh_all {k W : Nat} : ∀ {ds : List PyData}, (∀ d ∈ ds, Sh k W d) → PyData.showableAll ds = true ∧ PyData.leavesShortAll 64 ds = true ∧ PyData.weightAll ds ≤ ds.length * (W + 1)
  | [], _ => ⟨rfl, rfl, Nat.zero_le _⟩
  | d :: ds, h => by
    obtain ⟨h1, h2, h3⟩ := sh_all (ds := ds) fun x m => h x (List.mem_cons_of_mem _ m)
    have g := h d List.mem_cons_self
    refine ⟨?_, ?_, ?_⟩
    · rw [PyData.showableAll, g.sh, h1]; rfl
    · rw [PyData.leavesShortAll, g.sm, h2]; rfl
    · rw [PyData.weightAll, List.length_cons, Nat.succ_mul]
      have := g.wt
      omega
theorem sh_list {k W : Nat} {ds : List PyData} (h : ∀ d ∈ ds, Sh k W d) : Sh (k + 1) (ds.length * (W + 1)) (.list ds) := by
  obtain ⟨h1, h2, h3⟩ := sh_all h
  exact ⟨okd_list fun d m => (h d m).ok, by rw [PyData.showable]; exact h1, by rw [PyData.leavesShort]; exact h2, by rw [PyData.weight]; exact h3⟩
theorem sh_tuple {k W : Nat} {ds : List PyData} (h : ∀ d ∈ ds, Sh k W d) : Sh (k + 1) (ds.length * (W + 1)) (.tuple ds) := by
  obtain ⟨h1, h2, h3⟩ := sh_all h
  exact ⟨okd_tuple fun d m => (h d m).ok, by rw [PyData.showable]; exact h1, by rw [PyData.leavesShort]; exact h2, by rw [PyData.weight]; exact h3⟩
theorem sh_ints {k : Nat} {ns : List Int} (h : ∀ n ∈ ns, n.natAbs < 10 ^ 60) : Sh (k + 1) (ns.length * 201) (dInts ns) := by
  have := sh_list (k := k) (W := 200) (ds := ns.map PyData.int) fun d m => by
    obtain ⟨i, hi, rfl⟩ := List.mem_map.mp m
    exact sh_int (h i hi)
  rw [List.length_map] at this
  exact this
end Kt

set_option Elab.async false
set_option linter.all false
set_option maxRecDepth 100000
namespace Kt
open PySem PySem.Spec L2 PyProof.Rows
section
variable {X : Cx} {C : Addr} {k : Nat} {ps : List Str} {sp : Sp}
/-! ### own __getitem__, own __len__ -/
def rIxOwn (C : Addr) (sp : Sp) : R2 := fun x y H Q => ∃ a dx fs, x = .ref a ∧ H a = some (.ins C dx fs) ∧ sp [.ref a, y] H Q E0
theorem pe_ixOwn {a b : Expr} {ta tb : TE} {pos : Pos} (M : Mf X.prog X.w X.K X.mg X.base k C "__getitem__" ps sp) (hfn : ∀ f, PySem.W.findIn X.K (.ref C) "__getitem__" = some (some (.ref f)) → PySem.W.fnIn X.K f = true) (hr : Room (k + 1) X.A) (ha : PE X a ta) (hb : PE X b tb)
    (hs : ∀ o i, subscripted b true o i = runValue (.builtin "lifetime.subscript" ⟨[o, i], []⟩) := by exact fun _ _ => rfl) : PE X (.Subscript a b pos) (tOp (rIxOwn C sp) ta tb) := by
  refine ⟨fun pins s σ H Q I h => Subscript_ (binT ha hb I h fun v u s2 x y H2 I2 rx ry q => ?_)⟩
  obtain ⟨o, dx, fs, rfl, ho, q⟩ := q
  cases (show v = Value.ref o from rx)
  obtain ⟨f, fd, F, b, hm⟩ := M.fn
  obtain ⟨ox, od, J⟩ := ins_at I2 ho
  obtain ⟨m, hF⟩ := I2.fr
  have bd := b s2 [.ref o, u] I2.kIn (by rw [List.append_nil]; exact F.len _ _ _ _ q)
  rw [List.append_nil] at bd
  refine PySem.W.sub_K hF I2.ok.mod.kin J hm.at_ (hfn f hm.at_) hm.fn (wpAny_call (codeAny_mono (F.run X.A.in1 X.stack s2 H2 ⟨[.ref o, u], []⟩ [.ref o, u] [.ref o, y] Q E0 hr.in1 I2.env0.in1 bd (.cons rfl (.cons ry .nil)) q) fun z s' hq => ?_)) (hs _ _)
  cases z with
  | error e => exact pass0 pins σ H2 s2 e s' I2 hq
  | ok fl => cases fl with
    | ret u => exact I2.after hq
    | _ => exact False.elim hq
def cLenOwn (C : Addr) (sp : Sp) : List V → Hp → VK → Prop := fun xs H Q => ∃ a dx fs, xs = [.ref a] ∧ H a = some (.ins C dx fs) ∧ sp [.ref a] H (fun v H' => ∃ n : Nat, v = .int n ∧ (n : Int) < 2 ^ 62 ∧ Q (.int n) H') E0
theorem call_lenOwn (M : Mf X.prog X.w X.K X.mg X.base k C "__len__" ps sp) (hr : Room (k + 1) X.A) : CallR X (.builtin "len") (cLenOwn C sp) := by
  intro pins s σ H xs us Q I r h
  obtain ⟨a, dx, fs, rfl, ha, q⟩ := h
  obtain ⟨u, rfl, r1⟩ := vals1 r
  cases r1
  obtain ⟨f, fd, F, b, hm⟩ := M.fn
  obtain ⟨ox, od, J⟩ := ins_at I ha
  obtain ⟨m, hF⟩ := I.fr
  have bd := b s [.ref a] I.kIn (by rw [List.append_nil]; exact F.len _ _ _ _ q)
  rw [List.append_nil] at bd
  refine PySem.W.len_K hF I.ok.mod.kin J hm.at_ hm.fn (wpAny_call (codeAny_mono (F.run X.A.in1 X.stack s H ⟨[.ref a], []⟩ [.ref a] [.ref a] _ E0 hr.in1 I.env0.in1 bd (.cons rfl .nil) q) fun z s' hq => ?_))
  cases z with
  | error e => exact pass0 pins σ H s e s' I hq
  | ok fl => cases fl with
    | ret u =>
      obtain ⟨v, H', I3, rv, n, rfl, hn, q3⟩ := I.after hq
      obtain ⟨t, rfl⟩ := rv
      exact ⟨⟨by omega, by omega⟩, ⟨.int n, H', I3.tok _, ⟨_, rfl⟩, q3⟩⟩
    | _ => exact False.elim hq
/-! ### len(range(n)) -/
def tLenRng (te : TE) : TE := fun σ H Q => te σ H fun x H1 => ∃ n : Nat, x = .int n ∧ (n : Int) < 2 ^ 62 ∧ Q (.int n) H1
theorem pe_lenRng {e : Expr} {te : TE} {p1 p2 pos pos2 : Pos} (he : PE X e te) (g1 : X.mg "len" = none) (g2 : X.mg "range" = none) (l1 : Gl X "len" := by rfl) (l2 : Gl X "range" := by rfl) (h1 : starEach [e] X.env = [(false, eval e X.env)] := by rfl)
    (h2 : starEach [.Call (.Name "range" p2) [e] [] pos2] X.env = (false, eval (.Call (.Name "range" p2) [e] [] pos2) X.env) :: starEach [] X.env := by rfl) (h3 : (backTo pos (starEach [] X.env)).any (·.1) = false := by rfl) :
    PE X (.Call (.Name "len" p1) [.Call (.Name "range" p2) [e] [] pos2] [] pos) (tLenRng te) := by
  refine ⟨fun pins s σ H Q I h => wpAny_Call_Name_kw (ld_blt I l1 g1 PySem.boot_len (callWith_builtin1 ?_ h2 h3))⟩
  rw [h2]
  refine Calls.spliced_cons ?_
  refine Call_ (ld_blt I l2 g2 boot_range (PyProof.Rows.callWith_type1 (e := e) (rest := []) ?_ h1 rfl))
  rw [h1]
  refine Calls.spliced_cons (thn (he.run pins s σ H _ I h) fun u s1 ⟨x, H1, I1, r1, n, e1, hn, q⟩ => ?_)
  subst e1
  obtain ⟨t, rfl⟩ := r1
  refine Calls.spliced_nil (call_range_1 ?_)
  refine Calls.spliced_nil (call_len_range (n := n) (Heap.get?_push_size _ rfl) ?_ (by omega) ⟨.int n, H1, I1.kept fun b o z => Heap.get?_push_of_some _ z, ⟨_, rfl⟩, q⟩)
  rw [rangeSize_one]
  split <;> omega
theorem r_lenRng {σ : L2.St} {H : Hp} {Q : VK} {te : TE} (h : te σ H fun x H1 => ∃ n : Nat, x = .int n ∧ (n : Int) < 2 ^ 62 ∧ Q (.int n) H1) : tLenRng te σ H Q := h
end
end Kt

set_option Elab.async false
set_option linter.all false
set_option maxRecDepth 100000
namespace Kt
open PySem PySem.Spec L2 PyProof.Rows
/-! ### own __eq__ by == and by != -/
section
variable {prog : Program} {w : World} {A : Around} {E : Value → Shared → Prop} {s : Shared} {K : PySem.W.Frag} {x y C f : Addr} {ox oy : Obj} {od od2 : Option Obj}
theorem ifBound_ne {M : Model} {args : List Value} {Q : Option Value → Shared → Prop} (X : K.In s.heap) (I : PySem.W.InstAt s.heap x ox C od) (hs : PySem.W.findIn K (.ref C) "__ne__" = some (some (.builtin "object.__ne__")))
    (h : wpAny M A (call (.builtin "object.__ne__") (.ref x :: args)) (fun v => Q (some v)) E s) : wpAny M A (callSpecialIfBound? (.ref x) "__ne__" args) Q E s := by
  simp only [callSpecialIfBound?, bindSpecialIfBound?]
  refine wpAny_holding (wpAny_bind (wpAny_bind (wpAny_bind (I.type.here ((PySem.W.looks_findIn X hs).here ?_)))))
  refine wpAny_bind (wpAny_askSetting (wpAny_ite ?_))
  have fin : wpAny M A (call (.builtin "object.__ne__") ([.ref x] ++ args) >>= fun v => pure (some v)) Q E s := wpAny_bind (wpAny_mono h (fun v s' h' => wpAny_pure h') fun _ _ h' => h')
  split
  · exact wpAny_bind (wpAny_of_eq (F.cmp_object.ne.bind _) (wpAny_pure (by exact fin)))
  · exact wpAny_tryCatch (wpAny_bind (wpAny_of_eq (F.cmp_object.ne.bind _) (wpAny_pure (by exact fin))))
theorem objNe_own {b : Value} {Q : Fin → Shared → Prop} (hu : A.units < cLine) (X : K.In s.heap) (I : PySem.W.InstAt s.heap x ox C od) (hs : PySem.W.findIn K (.ref C) "__eq__" = some (some (.ref f))) (hf : PySem.W.isFn K (.ref f) = true)
    (hcall : wpAny (model prog w) A (call (.ref f) [.ref x, b]) (fun v s' => ∃ k, v = .bool k ∧ Q (.done (.ret (.bool (!k)))) s') E s) : wpAny (model prog w) A (Builtin.«object.__ne__» ⟨[.ref x, b], []⟩) Q E s := by
  unfold Builtin.«object.__ne__»
  repeat (first
    | with_reducible refine wpAny_cRoomFor hu ?_
    | (refine wpAny_bind (m := callSpecialIfBound? (.ref x) (Str.ofString "__eq__") [b])
        (PySem.W.ifBound_K X I hs hf (wpAny_mono hcall (fun r s' hr => by
          obtain ⟨k, rfl, hq⟩ := hr
          repeat (first | exact hq | exact wpAny_pure hq | exact wpAny_truthy_bool hq | (refine wpAny_bind (m := truthy (.bool _)) (wpAny_truthy_bool ?_)) | wp_step)) fun _ _ e => e)))
    | wp_step)
theorem ne_own {b tb : Value} {Q : Value → Shared → Prop} (hu : A.units + 1 < cLine) (X : K.In s.heap) (I : PySem.W.InstAt s.heap x ox C od) (hb : PySem.W.Looks (model prog w) s.heap (typeOf b) tb) (hn : PySem.W.notFirst K C tb = true)
    (hm : PySem.W.mroIn K C (.type "object") = some true) (hne : PySem.W.findIn K (.ref C) "__ne__" = some (some (.builtin "object.__ne__"))) (hs : PySem.W.findIn K (.ref C) "__eq__" = some (some (.ref f))) (hf : PySem.W.isFn K (.ref f) = true)
    (h : wpAny (model prog w) A.in1 (call (.ref f) [.ref x, b]) (fun v s' => ∃ k, v = .bool k ∧ Q (.bool (!k)) s') E s) : wpAny (model prog w) A (richCompare .NotEq (.ref x) b) Q E s := by
  have one : wpAny (model prog w) A (tryCompare (.ref x) "__ne__" b) (fun r s' => ∃ k, r = some (.bool k) ∧ Q (.bool k) s') E s := by
    unfold tryCompare
    refine wpAny_bind (ifBound_ne X I hne (wpAny_call (codeAny_call_builtin F.cmp_object.ne.plain F.cmpEntry_ne (PySem.W.check_slot F.cmpKind_ne F.cmpSplit_ne (I.type.andThen (PySem.W.looks_mroIn X hm)) (F.cmpArgs_ne _ _)
      (objNe_own (A := A.in1) hu X I hs hf (wpAny_mono h (fun v s' hv => ?_) fun _ _ e => e))))))
    obtain ⟨k, rfl, hq⟩ := hv
    exact ⟨k, rfl, wpAny_pure ⟨_, rfl, hq⟩⟩
  unfold richCompare
  simp only [oneThing_ref]
  refine wpAny_holding (wpAny_bind (wpAny_cRoomFor (by omega) ?_))
  rw [cmpInfo_NotEq]
  refine wpAny_bind (I.type.here (wpAny_bind (hb.here ?_)))
  split
  · rename_i q
    have e : PySem.W.subIn K tb (.ref C) = some false := by
      rcases Bool.or_eq_true_iff.mp hn with e | e
      · rw [beq_iff_eq.mp e] at q; simp at q
      · exact beq_iff_eq.mp e
    refine wpAny_bind ((PySem.W.looks_subIn X e).here ?_)
    simp only [Bool.false_eq_true, if_false]
    refine wpAny_bind (wpAny_mono one (fun r s' z => ?_) fun _ _ e => e)
    obtain ⟨v, rfl, hq⟩ := z
    exact wpAny_pure hq
  · refine wpAny_bind (wpAny_pure ?_)
    simp only [Bool.false_eq_true, if_false]
    refine wpAny_bind (wpAny_mono one (fun r s' z => ?_) fun _ _ e => e)
    obtain ⟨v, rfl, hq⟩ := z
    exact wpAny_pure hq
end
section
variable {X : Cx} {C : Addr} {k : Nat} {ps : List Str} {sp : Sp}
def rEqOwn (C : Addr) (sp : Sp) : R2 := fun x y H Q => ∃ a b dx fs dy gs, x = .ref a ∧ y = .ref b ∧ H a = some (.ins C dx fs) ∧ H b = some (.ins C dy gs) ∧ sp [.ref a, .ref b] H (fun v H' => ∃ k, v = .bl k ∧ Q (.bl k) H') E0
def rNeOwn (C : Addr) (sp : Sp) : R2 := fun x y H Q => ∃ a b dx fs dy gs, x = .ref a ∧ y = .ref b ∧ H a = some (.ins C dx fs) ∧ H b = some (.ins C dy gs) ∧ sp [.ref a, .ref b] H (fun v H' => ∃ k, v = .bl k ∧ Q (.bl (!k)) H') E0
theorem op_eqOwn (M : Mf X.prog X.w X.K X.mg X.base k C "__eq__" ps sp) (hr : Room k X.A) : OpR X (compareOp .Eq) (rEqOwn C sp) := by
  intro pins s σ H x y v u Q I rx ry h
  obtain ⟨a, b, dx, fs, dy, gs, rfl, rfl, ha, hb', q⟩ := h
  cases (show v = Value.ref a from rx)
  cases (show u = Value.ref b from ry)
  obtain ⟨f, fd, F, bb, hm⟩ := M.fn
  obtain ⟨ox, od, J⟩ := ins_at I ha
  obtain ⟨ox', od', J'⟩ := ins_at I hb'
  obtain ⟨m, hF⟩ := I.fr
  refine PySem.W.cmp_K (op := .Eq) (tb := .ref C) hr.units0 hF I.ok.mod.kin J J'.type (by simp [PySem.W.notFirst]) hm.at_ hm.fn ?_
  refine wpAny_mono (run_fn (us := [.ref a, .ref b]) (vs := [.ref a, .ref b]) F hr bb .nil pass0 I (.cons rfl (.cons rfl .nil)) (by rw [List.append_nil]; exact q)) (fun z s' hz => ?_) fun _ _ z => z
  obtain ⟨y', H', I', r', k, rfl, q'⟩ := hz
  cases r'
  exact ⟨.bl k, H', I', rfl, q'⟩
theorem op_neOwn (M : Mf X.prog X.w X.K X.mg X.base k C "__eq__" ps sp) (hr : Room (k + 1) X.A) (hmr : PySem.W.mroIn X.K C (.type "object") = some true) (hne : PySem.W.findIn X.K (.ref C) "__ne__" = some (some (.builtin "object.__ne__"))) : OpR X (compareOp .NotEq) (rNeOwn C sp) := by
  intro pins s σ H x y v u Q I rx ry h
  obtain ⟨a, b, dx, fs, dy, gs, rfl, rfl, ha, hb', q⟩ := h
  cases (show v = Value.ref a from rx)
  cases (show u = Value.ref b from ry)
  obtain ⟨f, fd, F, bb, hm⟩ := M.fn
  obtain ⟨ox, od, J⟩ := ins_at I ha
  obtain ⟨ox', od', J'⟩ := ins_at I hb'
  obtain ⟨m, hF⟩ := I.fr
  have bd := bb s [.ref a, .ref b] I.kIn (by rw [List.append_nil]; exact F.len _ _ _ _ q)
  rw [List.append_nil] at bd
  refine ne_own (tb := .ref C) (by have := hr.units; omega) I.kIn J J'.type (by simp [PySem.W.notFirst]) hmr hne hm.at_ hm.fn ?_
  refine wpAny_call (codeAny_mono (F.run X.A.in1 X.stack s H ⟨[.ref a, .ref b], []⟩ [.ref a, .ref b] [.ref a, .ref b] _ E0 hr.in1 I.env0.in1 bd (.cons rfl (.cons rfl .nil)) q) fun z s' hq => ?_)
  cases z with
  | error e => exact pass0 pins σ H s e s' I hq
  | ok fl => cases fl with
    | ret u =>
      obtain ⟨v, H', I3, rv, k, rfl, q3⟩ := I.after hq
      cases rv
      exact ⟨k, rfl, .bl (!k), H', I3, rfl, q3⟩
    | _ => exact False.elim hq
end
end Kt

set_option Elab.async false
set_option linter.all false
set_option maxRecDepth 100000
namespace Kt
open PySem L2 PyProof.Rows
section
variable {K : PySem.W.Frag} {σ : L2.St} {H : Hp} {D : Ends} {Q : VK} {a b : Addr} {xs ys : List V} {Ps : List SP} {g : TG} {tb : TS} {tr : TA}
def kZip (K : PySem.W.Frag) (R : It → Hp → Prop) : List V → Hp → Prop := fun vs H1 => ∃ a b xs ys, vs = [.ref a, .ref b] ∧ SqL K H1 a xs ∧ SqL K H1 b ys ∧ R (Itz K a b) H1
theorem r_izip {R : It → Hp → Prop} (h : tr σ H (kZip K R)) : iZip K tr σ H R := h
theorem r_for_zip (J : LW) (hlen : xs.length = ys.length) (S : Sep Ps H) (h0 : J 0 σ Ps) (hl : ∀ i σ Ps H, J i σ Ps → Sep Ps H → SqL K H a xs ∧ SqL K H b ys)
    (hs : ∀ i x y T σ Ps H, xs[i]? = some x → ys[i]? = some y → J i σ Ps → Sep (pt T (.tup [x, y]) :: Ps) H → g (.ref T) σ H fun σ2 H2 => tb { D with nx := Nx J (i + 1), ct := Nx J (i + 1), bk := D.nx } σ2 H2) (hd : ∀ σ Ps H, J xs.length σ Ps → Sep Ps H → D.nx σ H) :
    kZip K (fun Jt H1 => ForW Jt g tb D σ H1) [.ref a, .ref b] H :=
  ⟨a, b, xs, ys, rfl, (hl 0 σ Ps H h0 S).1, (hl 0 σ Ps H h0 S).2, RZ.for_zipL (K := K) (a := a) (b := b) hlen (Nx J) ⟨Ps, h0, S⟩ (fun i σ H ⟨Ps, j, S⟩ => hl i σ Ps H j S) (fun i x y T σ H hx hy ⟨Ps, j, S⟩ hT => hs i x y T σ Ps _ hx hy j (S.new _ hT)) fun σ H ⟨Ps, j, S⟩ => hd σ Ps H j S⟩
end
theorem pi_zipK {X : Cx} (K : PySem.W.Frag) {e e2 : Expr} {ta : TA} {p pos tpos : Pos} {elts : List Expr} {kk : Nat} (hg : Gl X "zip") (hm : X.mg "zip" = none) (ha : PA X [e, e2] ta) (hK : X.K = K := by rfl)
    (hs : starEach [e, e2] X.env = (false, eval e X.env) :: starEach [e2] X.env := by rfl) (hpl : (backTo pos (starEach [e2] X.env)).any (·.1) = false := by rfl) :
    PI X (.Tuple elts kk tpos) (.Call (.Name "zip" p) [e, e2] [] pos) (iZip K ta) := hK ▸ pi_zip hg hm ha hs hpl
section
variable {K : PySem.W.Frag} {σ : L2.St} {H : Hp} {D : Ends} {Q : VK} {a b : Addr} {xs ys : List V} {Ps : List SP} {g : TG} {tb : TS} {tr : TA}
theorem eqvAll_ints : ∀ a b : List Int, PyData.eqvAll (a.map PyData.int) (b.map PyData.int) = decide (a = b)
  | [], [] => by simp [PyData.eqvAll]
  | [], y :: b => by simp [PyData.eqvAll]
  | x :: a, [] => by simp [PyData.eqvAll]
  | x :: a, y :: b => by
    simp only [List.map_cons, PyData.eqvAll, eqvAll_ints a b, PyData.eqv]
    by_cases h : x = y
    · subst h
      simp
    · simp [h]
theorem eqv_ints (a b : List Int) : PyData.eqv (dInts a) (dInts b) = decide (a = b) := by
  unfold dInts
  rw [PyData.eqv]
  exact eqvAll_ints a b
theorem r_eq_ints {p q : Addr} {m1 m2 : List Int} (s1 : SqL K H p (m1.map V.int)) (s2 : SqL K H q (m2.map V.int)) (h : Q (.bl (decide (m1 = m2))) H) : rEqA K (.ref p) (.ref q) H Q :=
  .inr ⟨_, _, dp_ints s1, dp_ints s2, (okd_ints 0 _).shaped (by decide), (okd_ints 0 _).shaped (by decide), by rw [eqv_ints]; exact h⟩
theorem r_ne_ints {p q : Addr} {m1 m2 : List Int} (s1 : SqL K H p (m1.map V.int)) (s2 : SqL K H q (m2.map V.int)) (h : Q (.bl (!decide (m1 = m2))) H) : rNeA K (.ref p) (.ref q) H Q :=
  .inr ⟨_, _, dp_ints s1, dp_ints s2, (okd_ints 0 _).shaped (by decide), (okd_ints 0 _).shaped (by decide), by rw [eqv_ints]; exact h⟩
theorem r_par3 {i j l : Nat} (h : tr σ H fun vs H1 => ∃ u v w, vs = [u, v, w] ∧ D.nx (((σ.set i (some u)).set j (some v)).set l (some w)) H1) : tPar3 i j l tr D σ H := h
theorem r_parA3 {i j l : Nat} {x y z : V} {p : L2.St → Hp → Prop} (h : p (((σ.set i (some x)).set j (some y)).set l (some z)) H) : ∃ u v w, [x, y, z] = [u, v, w] ∧ p (((σ.set i (some u)).set j (some v)).set l (some w)) H := ⟨x, y, z, rfl, h⟩
def kRng2 (R : It → Hp → Prop) : List V → Hp → Prop := fun vs H1 => ∃ i j : Int, vs = [.int i, .int j] ∧ (-(2 ^ 62) ≤ i ∧ i < 2 ^ 62 ∧ -(2 ^ 62) ≤ j ∧ j < 2 ^ 62) ∧ R (Itr i (j - i).toNat) H1
theorem r_irng2 {R : It → Hp → Prop} (h : tr σ H (kRng2 R)) : iRng2 tr σ H R := h
theorem r_rep {n : Int} (S : Sep Ps H) (s : H a = some (.lst xs)) (h1 : 0 ≤ n) (h2 : n ≤ 1000) (hz : xs.length ≤ 1000) (h : ∀ p H', Sep (pt p (.lst (List.replicate n.toNat xs).flatten) :: Ps) H' → Q (.ref p) H') : rMulA (.ref a) (.int n) H Q :=
  .inr ⟨a, n, xs, rfl, rfl, s, by omega, by omega, Nat.le_trans (Nat.mul_le_mul hz (show n.toNat ≤ 1000 by omega)) (by decide), fun p np => h p _ (S.new _ np)⟩
theorem r_lc_itr {lo : Int} {n : Nat} {tt : TT} {te : TE} {vs : List Nat} (J : CW) (S : Sep Ps H) (h0 : J 0 [] Ps)
    (hs : ∀ D (i : Nat) acc Ps H, i < n → J i acc Ps → Sep (pt D (.lst acc) :: Ps) H → g (.int (lo + (i : Int))) (wipe σ vs) H fun σ2 H2 => wipe σ2 vs = wipe σ vs ∧ tt σ2 H2 fun b H3 =>
      if b = true then te σ2 H3 fun y H4 => ∃ acc, H4 D = some (.lst acc) ∧ acc.length < sizeLine ∧ CN J D (i + 1) (upd H4 D (.lst (acc ++ [y]))) else CN J D (i + 1) H3)
    (hd : ∀ D acc Ps H, J n acc Ps → Sep (pt D (.lst acc) :: Ps) H → Q (.ref D) H) : LcW (Itr lo n) g tt te vs Q σ H :=
  fun D nD => lc_range (CN J D) ⟨[], Ps, h0, S.new _ nD⟩ (fun i H hi ⟨acc, Ps, j, S⟩ => hs D i acc Ps H hi j S) fun H ⟨acc, Ps, j, S⟩ => hd D acc Ps H j S
theorem q_neB {x y : Bool} (h : Q (.bl (x != y)) H) : rNeA K (.bl x) (.bl y) H Q := .inl ⟨rfl, by
  have e : (!decide (V.bl x = V.bl y)) = (x != y) := by cases x <;> cases y <;> rfl
  rw [e]
  exact h⟩
theorem q_eqB {x y : Bool} (h : Q (.bl (x == y)) H) : rEqA K (.bl x) (.bl y) H Q := .inl ⟨rfl, by
  have e : decide (V.bl x = V.bl y) = (x == y) := by cases x <;> cases y <;> rfl
  rw [e]
  exact h⟩
end
end Kt

set_option Elab.async false
set_option linter.all false
set_option maxRecDepth 100000
namespace Kt
open PySem L2 PyProof.Rows
/-! ### data as parts of the heap -/
section
variable {K : PySem.W.Frag}
theorem Rd.le {G H : Hp} (l : Le G H) {a : Addr} {o : HO} (h : Rd G a o) : Rd H a o := by
  rcases h with h | ⟨ob, h⟩
  · exact .inl (l _ _ h)
  · exact .inr ⟨ob, l _ _ h⟩
theorem SqL.le {G H : Hp} (l : Le G H) {a : Addr} {xs : List V} (h : SqL K G a xs) : SqL K H a xs := h.imp (Rd.le l) id
theorem SqT.le {G H : Hp} (l : Le G H) {a : Addr} {xs : List V} (h : SqT K G a xs) : SqT K H a xs := h.imp (Rd.le l) id
mutual
theorem Dp.le {G H : Hp} (l : Le G H) : ∀ (d : PyData) (v : V), Dp K G v d → Dp K H v d
  | .none, _, h => by cases h; exact .non
  | .bool b, _, h => by cases h; exact .bl b
  | .int i, _, h => by cases h; exact .int i
  | .str x, _, h => by cases h; exact .str x
  | .list ds, _, h => by
    cases h with
    | lst s t => exact .lst (SqL.le l s) (DpAll.le l ds _ t)
  | .tuple ds, _, h => by
    cases h with
    | tup s t => exact .tup (SqT.le l s) (DpAll.le l ds _ t)
  | .dict _, _, h => by cases h
theorem DpAll.le {G H : Hp} (l : Le G H) : ∀ (ds : List PyData) (vs : List V), DpAll K G vs ds → DpAll K H vs ds
  | [], _, h => by cases h; exact .nil
  | d :: ds, _, h => by
    cases h with
    | cons h t => exact .cons (Dp.le l d _ h) (DpAll.le l ds _ t)
end
def dat (K : PySem.W.Frag) (p : Addr) (d : PyData) : SP := fun G => Dp K G (.ref p) d
def dall (K : PySem.W.Frag) (vs : List V) (ds : List PyData) : SP := fun G => DpAll K G vs ds
theorem Sep.join {P Q X : SP} {R : List SP} {H : Hp} (f : ∀ G1 G2 G, Le G1 G → Le G2 G → P G1 → Q G2 → X G) (S : Sep (P :: Q :: R) H) : Sep (X :: R) H :=
  (Sep.unflat (As := [P, Q]) S).hd_mono fun G ⟨G1, l1, p, G2, l2, q, _⟩ => f G1 G2 G l1 (fun a o e => (sub_some (l2 a o e)).2) p q
theorem dat_dp {p : Addr} {d : PyData} {R : List SP} {H : Hp} : Sep (dat K p d :: R) H → Dp K H (.ref p) d := fun ⟨_, l, h, _⟩ => Dp.le l d _ h
theorem dat_list {p : Addr} {vs : List V} {ds : List PyData} {R : List SP} {H : Hp} (S : Sep (pt p (.lst vs) :: dall K vs ds :: R) H) : Sep (dat K p (.list ds) :: R) H :=
  Sep.join (fun G1 G2 G l1 l2 h1 h2 => .lst (SqL.of (l1 _ _ h1)) (DpAll.le l2 _ _ h2)) S
theorem dat_flat {p : Addr} {vs : List V} {ds : List PyData} {R : List SP} {H : Hp} (h : ∀ G, DpAll K G vs ds) (S : Sep (pt p (.lst vs) :: R) H) : Sep (dat K p (.list ds) :: R) H :=
  S.hd_mono fun G e => .lst (SqL.of e) (h G)
theorem dall_nil {R : List SP} {H : Hp} (S : Sep R H) : Sep (dall K [] [] :: R) H :=
  ⟨fun _ => none, fun _ _ (e : (none : Option HO) = some _) => (Option.noConfusion rfl (heq_of_eq e)), .nil, S.mono fun a o e => by rw [sub_of rfl]; exact e⟩
theorem dall_flat {vs : List V} {ds : List PyData} {R : List SP} {H : Hp} (h : ∀ G, DpAll K G vs ds) (S : Sep R H) : Sep (dall K vs ds :: R) H :=
  ⟨fun _ => none, fun _ _ (e : (none : Option HO) = some _) => (Option.noConfusion rfl (heq_of_eq e)), h _, S.mono fun a o e => by rw [sub_of rfl]; exact e⟩
theorem dall_add {p : Addr} {d : PyData} {vs : List V} {ds : List PyData} {R : List SP} {H : Hp} (S : Sep (dat K p d :: dall K vs ds :: R) H) : Sep (dall K (vs ++ [.ref p]) (ds ++ [d]) :: R) H :=
  Sep.join (fun G1 G2 G l1 l2 h1 h2 => dpall_app (DpAll.le l2 _ _ h2) (.cons (Dp.le l1 _ _ h1) .nil)) S
theorem dall_cons {p : Addr} {d : PyData} {vs : List V} {ds : List PyData} {R : List SP} {H : Hp} (S : Sep (dat K p d :: dall K vs ds :: R) H) : Sep (dall K (.ref p :: vs) (d :: ds) :: R) H :=
  Sep.join (fun G1 G2 G l1 l2 h1 h2 => .cons (Dp.le l1 _ _ h1) (DpAll.le l2 _ _ h2)) S
theorem dpall_bls {G : Hp} : ∀ bs : List Bool, DpAll K G (bs.map V.bl) (bs.map PyData.bool)
  | [] => .nil
  | b :: bs => .cons (.bl b) (dpall_bls bs)
end
theorem sh_cons {k W W2 : Nat} {d : PyData} {ds : List PyData} (h : Sh k W d) (t : Sh (k + 1) W2 (.list ds)) : Sh (k + 1) (W + 1 + W2) (.list (d :: ds)) := by
  refine ⟨⟨?_, ?_⟩, ?_, ?_, ?_⟩
  · have := t.ok.1
    rw [PyData.canLay0] at this ⊢
    rw [PyData.canLayAll0, h.ok.1, this]; rfl
  · have h1 := t.ok.2
    have h2 := h.ok.2
    rw [PyData.depth] at h1 ⊢
    rw [PyData.depthAll]
    omega
  · have := t.sh
    rw [PyData.showable] at this ⊢
    rw [PyData.showableAll, h.sh, this]; rfl
  · have := t.sm
    rw [PyData.leavesShort] at this ⊢
    rw [PyData.leavesShortAll, h.sm, this]; rfl
  · have h1 := t.wt
    have h2 := h.wt
    rw [PyData.weight] at h1 ⊢
    rw [PyData.weightAll]
    omega
theorem sh_nil {k : Nat} : Sh (k + 1) 0 (.list []) := ⟨⟨rfl, by show PyData.depth (.list []) ≤ _; rw [PyData.depth]; exact Nat.succ_le_succ (Nat.zero_le _)⟩, rfl, rfl, by rw [PyData.weight]; exact Nat.le_refl _⟩
end Kt

set_option Elab.async false
set_option linter.all false
set_option maxRecDepth 100000
set_option maxHeartbeats 4000000
namespace Pf
open PySem L2 Kt
set_option hygiene false
local macro_rules | `(tactic| walk_at "mem") => `(tactic| (with_reducible (repeat (first | exact Pick.hd | apply Pick.tl)); done))
local macro_rules | `(tactic| walk_at "rep") => `(tactic| (with_reducible (repeat (first | exact Repl.hd | apply Repl.tl)); done))
local macro_rules | `(tactic| walk_at "sel") => `(tactic| ((repeat (with_reducible apply Sel.cons; (focus walk_at "mem"))); (with_reducible apply Sel.nil); (with_reducible (repeat (first | exact Dr.all | apply Dr.skip)); done)))
local macro_rules | `(tactic| walk_at "at") => `(tactic| (refine' Sep.at_ (by assumption) ?kkpk; (case kkpk => walk_at "mem")))
local macro_rules | `(tactic| walk_at "sq") => `(tactic| first | assumption | (refine' Sep.sq (by assumption) ?kkpk; (case kkpk => walk_at "mem")))
local macro_rules | `(tactic| walk_at "st") => `(tactic| first | assumption | (refine' Sep.st (by assumption) ?kkpk; (case kkpk => walk_at "mem")))
local macro_rules | `(tactic| walk_at "lk") => `(tactic| (repeat (first | (with_reducible exact lk_eq) | exact rfl | refine (lk_ne (by decide +kernel)).trans ?_)))
local macro_rules | `(tactic| walk_at "pf") => `(tactic| (repeat (first | (with_reducible exact pf_nil) | (with_reducible exact pf_eq) | (apply pf_ne; (focus decide +kernel)))))
local macro_rules | `(tactic| walk_at "ty") => `(tactic| first | exact ty_int | (refine' ty_lst ?kkh; (case kkh => walk_at "at")))
local macro_rules | `(tactic| walk_at "k1") => `(tactic| with_reducible first
  | refine q_seq ?_ | refine q_set ?_ | refine q_asg ?_ | refine q_ret ?_ | refine q_drop ?_ | refine q_next ?_ | refine q_c ?_ | refine q_op ?_ | refine q_un ?_ | refine q_nil ?_ | refine q_cons ?_ | refine q_cb ?_
  | refine q_call ?_ | refine q_ifs ?_ | refine q_if ?_ | refine q_test ?_ | refine q_tb ?_ | refine q_bl ?_ | refine q_notT ?_ | refine q_andT ?_ | refine q_orT ?_ | refine q_andV ?_ | refine q_orV ?_ | refine q_notV ?_
  | refine q_addA ?_ | refine q_subI ?_ | refine q_ltI ?_ | refine q_leI ?_ | refine q_gtI ?_ | refine q_geI ?_ | refine q_eqI ?_ | refine q_neI ?_ | refine q_abs ?_ | refine q_int ?_ | refine q_intB ?_ | refine q_max ?_ | refine q_min ?_
  | refine q_ipAdd ?_ | refine q_ipSub ?_ | refine q_gsub ?_ | refine q_augs ?_ | refine q_lst ?_ | refine q_tup ?_ | refine q_blI ?_ | refine iteT ?_ | refine iteF ?_ | refine iteNT ?_ | refine iteNF ?_
  | refine r_prop ?_ | refine r_fld ?_ | refine r_sfld ?_ | refine r_meth ?_ | refine r_make ?_ | refine r_sl ?_ | refine r_nopart ?_ | refine r_part ?_ | refine r_parti ?_ | refine r_gsl ?_ | refine r_bm ?_ | refine r_bm0 ?_ | refine r_for ?_ | refine r_ilist ?_ | refine r_irng ?_
  | refine r_gname ?_ | refine r_gcons ?_ | refine r_gnil ?_ | refine r_par ?_ | refine r_parA ?_ | refine r_chain ?_ | refine r_isN ?_ | refine r_tlc ?_ | refine r_yes ?_ | refine r_makek ?_ | refine r_neg ?_)
local macro_rules | `(tactic| walk_at "k2") => `(tactic| first
  | ((with_reducible refine' q_var ?kke ?_); (case kke => rfl))
  | ((with_reducible refine' q_aug ?kke ?_); (case kke => rfl))
  | ((with_reducible refine' q_ixL ?kks ?kke ?_); (case kks => walk_at "sq"); (case kke => first | rfl | assumption))
  | ((with_reducible refine' q_ixT ?kks ?kke ?_); (case kks => walk_at "st"); (case kke => first | rfl | assumption))
  | ((with_reducible refine' q_ixLL ?kks ?kke ?_); (case kks => walk_at "sq"); (case kke => first | rfl | assumption))
  | ((with_reducible refine' q_lenL ?kks ?_); (case kks => walk_at "sq"))
  | ((with_reducible refine' q_mulI ?kkc ?_); (case kkc => first | exact .inl (by omega) | exact .inr (by omega)))
  | ((with_reducible refine' q_modI ?kkc ?_); (case kkc => omega))
  | ((with_reducible refine' q_divI ?kkc ?_); (case kkc => exact ⟨by omega, by omega⟩))
  | ((with_reducible refine' q_powI ?kkc ?_); (case kkc => exact ⟨by decide, by decide, by decide⟩))
  | ((with_reducible refine' r_kfld ?kkS ?kkp ?kkc ?kkn ?kkl ?_); (case kkS => assumption); (case kkp => walk_at "mem"); (case kkc => walk_at "cls"); (case kkn => walk_at "na"); (case kkl => walk_at "lk"))
  | ((with_reducible refine' r_kprop ?kkS ?kkp ?_); (case kkS => assumption); (case kkp => walk_at "mem"))
  | ((with_reducible refine' r_kmeth ?kkS ?kkp ?kkl ?_); (case kkS => assumption); (case kkp => walk_at "mem"); (case kkl => walk_at "lk"))
  | ((with_reducible refine' r_calll ?kks ?_); (case kks => rfl))
  | ((with_reducible refine' r_tyl ?kks ?_); (case kks => walk_at "sq"))
  | ((with_reducible refine' r_isi (k := true) ?kkt ?kke ?_); (case kkt => walk_at "ty"); (case kke => decide +kernel))
  | ((with_reducible refine' r_isi (k := false) ?kkt ?kke ?_); (case kkt => walk_at "ty"); (case kke => decide +kernel)))
local macro_rules | `(tactic| walk_at "k3") => `(tactic| first
  | ((with_reducible refine' q_setS ?kkS ?kkr ?kke ?_); (case kkS => assumption); (case kkr => walk_at "rep"); (case kke => rfl); intro H S)
  | ((with_reducible refine' r_kset ?kkS ?kkr ?kkc ?kkn ?kkl ?kke ?_); (case kkS => assumption); (case kkr => walk_at "rep"); (case kkc => walk_at "cls"); (case kkn => walk_at "na"); (case kkl => first | exact Nat.le_of_ble_eq_true rfl | assumption | omega | (simp; done) | (simp; omega)); (case kke => walk_at "pf"); intro H S)
  | ((with_reducible refine' q_new ?kkS ?kkl ?_); (case kkS => assumption); (case kkl => first | exact Nat.le_of_ble_eq_true rfl | assumption | omega | (simp; done) | (simp; omega)); intro p H S)
  | ((with_reducible refine' q_newT ?kkS ?kkl ?_); (case kkS => assumption); (case kkl => first | exact Nat.le_of_ble_eq_true rfl | assumption | omega | (simp; done) | (simp; omega)); intro p H S)
  | ((with_reducible refine' r_knew ?kkS ?_); (case kkS => assumption); intro x dx H S)
  | ((with_reducible refine' r_knewk ?kkS ?kkl1 ?kkl2 ?_); (case kkS => assumption); (case kkl1 => rfl); (case kkl2 => rfl); intro x dx H S)
  | ((with_reducible refine' r_ksl ?kkS ?kks ?_); (case kkS => assumption); (case kks => walk_at "sq"); intro p H S)
  | ((with_reducible refine' r_list ?kkS ?kks ?_); (case kkS => assumption); (case kks => walk_at "sq"); intro p H S)
  | ((with_reducible refine' r_cat ?kkS ?kks1 ?kks2 ?kkz ?_); (case kkS => assumption); (case kks1 => walk_at "at"); (case kks2 => walk_at "at"); (case kkz => first | omega | (simp; omega)); intro p H S)
  | ((with_reducible refine' r_append ?kkS ?kkr ?kkz ?_); (case kkS => assumption); (case kkr => walk_at "rep"); (case kkz => first | omega | (simp; omega)); intro H S)
  | ((with_reducible refine' r_reverse ?kkS ?kkr ?_); (case kkS => assumption); (case kkr => walk_at "rep"); intro H S)
  | ((with_reducible refine' r_clear ?kkS ?kkr ?_); (case kkS => assumption); (case kkr => walk_at "rep"); intro H S))
local macro_rules | `(tactic| walk_at "gn") => `(tactic| repeat (first | walk_at "k1" | walk_at "k2"))
local macro_rules | `(tactic| walk_at "go") => `(tactic| repeat (first | walk_at "k1" | walk_at "k2" | walk_at "k3"))

def top (i : Nat) : Stmt := PySem.Challenge.pw_sparetails_k20_windows_told.main.body.getD i (.Pass ⟨0, 0, 0, 0⟩)
abbrev s_Wrong_init : Stmt := inClass (top 2) 0
abbrev N_Wrong_init : List Str := ["self", "place"]
abbrev s_NoCell_init : Stmt := inClass (top 3) 0
abbrev N_NoCell_init : List Str := ["self", "at"]
abbrev s_BadRoom_init : Stmt := inClass (top 4) 0
abbrev N_BadRoom_init : List Str := ["self", "size"]
abbrev s_is_integer : Stmt := top 6
abbrev N_is_integer : List Str := ["thing"]
abbrev s_is_number : Stmt := top 7
abbrev N_is_number : List Str := ["many", "thing"]
abbrev s_Array_init : Stmt := inClass (top 9) 0
abbrev N_Array_init : List Str := ["self", "cells", "size"]
abbrev s_are_marks : Stmt := top 10
abbrev N_are_marks : List Str := ["thing", "mark"]
abbrev s_Window_init : Stmt := inClass (top 11) 0
abbrev N_Window_init : List Str := ["self", "marks", "rule"]
abbrev s_Window_len : Stmt := inClass (top 11) 1
abbrev N_Window_len : List Str := ["self"]
abbrev s_Window_eq : Stmt := inClass (top 11) 2
abbrev N_Window_eq : List Str := ["self", "other"]
abbrev s_Window_contains : Stmt := inClass (top 11) 3
abbrev N_Window_contains : List Str := ["self", "x"]
abbrev s_Window_iter : Stmt := inClass (top 11) 4
abbrev N_Window_iter : List Str := ["self"]
abbrev s_Window_getitem : Stmt := inClass (top 11) 5
abbrev N_Window_getitem : List Str := ["self", "at"]
abbrev s_Window_setitem : Stmt := inClass (top 11) 6
abbrev N_Window_setitem : List Str := ["self", "at", "worth"]
abbrev s_Window_iadd : Stmt := inClass (top 11) 7
abbrev N_Window_iadd : List Str := ["self", "other"]
abbrev s_Window_room : Stmt := inClass (top 11) 8
abbrev N_Window_room : List Str := ["self"]
abbrev s_Window_spare : Stmt := inClass (top 11) 9
abbrev N_Window_spare : List Str := ["self"]
abbrev s_Window_seen : Stmt := inClass (top 11) 10
abbrev N_Window_seen : List Str := ["self"]
abbrev s_Window_on : Stmt := inClass (top 11) 11
abbrev N_Window_on : List Str := ["self", "array", "length", "told"]
abbrev s_Window_size_for : Stmt := inClass (top 11) 12
abbrev N_Window_size_for : List Str := ["self", "needed", "rule", "size"]
abbrev s_Window_marks : Stmt := inClass (top 11) 13
abbrev N_Window_marks : List Str := ["self"]
abbrev s_Window_shares : Stmt := inClass (top 11) 14
abbrev N_Window_shares : List Str := ["self", "other"]
abbrev s_Window_cut : Stmt := inClass (top 11) 15
abbrev N_Window_cut : List Str := ["self", "many"]
abbrev s_Window_copied : Stmt := inClass (top 11) 16
abbrev N_Window_copied : List Str := ["self"]
abbrev s_Window_put : Stmt := inClass (top 11) 17
abbrev N_Window_put : List Str := ["self", "marks", "needed", "size"]
abbrev s_exact : Stmt := top 13
abbrev N_exact : List Str := ["room", "needed"]
abbrev s_doubled : Stmt := top 14
abbrev N_doubled : List Str := ["room", "needed"]
abbrev s_Told_init : Stmt := inClass (top 15) 0
abbrev N_Told_init : List Str := ["self", "rooms", "room"]
abbrev s_Told_call : Stmt := inClass (top 15) 1
abbrev N_Told_call : List Str := ["self", "room", "needed", "at"]
abbrev s_Told_asked : Stmt := inClass (top 15) 2
abbrev N_Told_asked : List Str := ["self"]
abbrev s_Told_left : Stmt := inClass (top 15) 3
abbrev N_Told_left : List Str := ["self"]
abbrev s_l_bag : Stmt := top 17
abbrev N_l_bag : List Str := ["_law_script", "_law_cell"]
abbrev s_l_take : Stmt := top 18
abbrev N_l_take : List Str := ["_law_bag_here", "_law_many", "_law_cell", "_law_mixed", "_law_value", "_law_begin", "_law_second"]
abbrev s_l_alike : Stmt := top 19
abbrev N_l_alike : List Str := ["_law_found", "_law_due"]
abbrev s_l_draw_marks : Stmt := top 20
abbrev N_l_draw_marks : List Str := ["_law_bag_here", "_law_many", "_law_some", "_law_k"]
abbrev s_l_new_room : Stmt := top 21
abbrev N_l_new_room : List Str := ["_law_kind", "_law_kit", "_law_room", "_law_needed"]
abbrev s_l_own_put : Stmt := top 22
abbrev N_l_own_put : List Str := ["_law_own", "_law_kind", "_law_kit", "_law_spot", "_law_marks", "_law_array", "_law_length", "_law_held", "_law_room", "_law_needed"]
abbrev s_l_rule_of : Stmt := top 23
abbrev N_l_rule_of : List Str := ["_law_kind", "_law_rooms"]
abbrev s_l_sees : Stmt := top 24
abbrev N_l_sees : List Str := ["_law_own", "_law_spot"]
abbrev s_l_one_right : Stmt := top 25
abbrev N_l_one_right : List Str := ["_law_own", "_law_spot", "_law_window", "_law_marks", "_law_room", "_law_told", "_law_k"]
abbrev s_l_all_right : Stmt := top 26
abbrev N_l_all_right : List Str := ["_law_own", "_law_spots", "_law_windows", "_law_one", "_law_window", "_law_other", "_law_its", "_law_same", "_law_told"]
abbrev s_l_done : Stmt := top 27
abbrev N_l_done : List Str := ["_law_bag_here", "_law_own", "_law_kind", "_law_kit", "_law_spots", "_law_windows", "_law_at", "_law_way", "_law_spot", "_law_window", "_law_marks", "_law_many", "_law_k", "_law_mark"]
abbrev s_law : Stmt := top 28
abbrev N_law : List Str := ["_law_script", "_law_bag_here", "_law_turn", "_law_kind", "_law_lots", "_law_rooms", "_law_handed", "_law_one_rule", "_law_windows", "_law_own", "_law_spots", "_law_kit", "_law_step", "_law_due", "_law_k", "_law_marks"]
structure Txt (K : PySem.W.Frag) (mg : Str → Option Value) (c_Array c_Window c_Told f_doubled f_exact : Addr) : Prop where
  z_len : mg "len" = none
  z_int : mg "int" = none
  z_abs : mg "abs" = none
  z_list : mg "list" = none
  z_max : mg "max" = none
  z_min : mg "min" = none
  z_isinstance : mg "isinstance" = none
  z_all : mg "all" = none
  z_bool : mg "bool" = none
  z_range : mg "range" = none
  z_repr : mg "repr" = none
  z_sorted : mg "sorted" = none
  z_zip : mg "zip" = none
  z_tuple : mg "tuple" = none
  z_str : mg "str" = none
  z_any : mg "any" = none
  z_sum : mg "sum" = none
  cl_Array : Cls K c_Array
  na_Array_cells : NoAttr K c_Array "cells"
  na_Array_size : NoAttr K c_Array "size"
  cl_Window : Cls K c_Window
  na_Window__array : NoAttr K c_Window "_array"
  na_Window__length : NoAttr K c_Window "_length"
  na_Window__rule : NoAttr K c_Window "_rule"
  cl_Told : Cls K c_Told
  na_Told__rooms : NoAttr K c_Told "_rooms"
  na_Told__asked : NoAttr K c_Told "_asked"
  g_doubled : mg "doubled" = some (.ref f_doubled)
  g_exact : mg "exact" = some (.ref f_exact)
local macro_rules | `(tactic| walk_at "cls") => `(tactic| with_reducible first | assumption | exact Txt.cl_Array (by assumption) | exact Txt.cl_Window (by assumption) | exact Txt.cl_Told (by assumption))
local macro_rules | `(tactic| walk_at "na") => `(tactic| with_reducible first | assumption | exact Txt.na_Array_cells (by assumption) | exact Txt.na_Array_size (by assumption) | exact Txt.na_Window__array (by assumption) | exact Txt.na_Window__length (by assumption) | exact Txt.na_Window__rule (by assumption) | exact Txt.na_Told__rooms (by assumption) | exact Txt.na_Told__asked (by assumption))
abbrev Tx (K : PySem.W.Frag) (mg : Str → Option Value) (c_Array c_Window c_Told f_doubled f_exact : Addr) := Txt K mg c_Array c_Window c_Told f_doubled f_exact
section
variable {P : Program} {w : World} {K : PySem.W.Frag} {mg : Str → Option Value} {base : Heap} {c_Array c_Window c_Told f_doubled f_exact : Addr}
theorem sc_is_integer : FnScope N_is_integer ["thing"] (defScope s_is_integer) := ⟨rfl, rfl, rfl, by decide +kernel, rfl, by decide +kernel, by decide +kernel⟩
def spIsInt : Sp := fun vs H Q _ => ∃ i : Int, vs = [.int i] ∧ Q (.bl true) H
theorem ok_is_integer {f : Addr} (F : Dt K mg "is_integer" s_is_integer ["thing"] f) (T : Txt K mg c_Array c_Window c_Told f_doubled f_exact) : Df P w K mg base 1 "is_integer" f ["thing"] spIsInt := by
  refine F.ok sc_is_integer (fun vs H Q E h => ?_) (fun cdv A outer s H vs Q E hr h => ?_)
  · obtain ⟨i, rfl, _⟩ := h
    rfl
  obtain ⟨i, rfl, q⟩ := h
  refine ⟨_, (pss_one (ps_ret (pe_and (pe_callB (r := rIsi K) call_isi (by rfl) T.z_isinstance (by decide +kernel) (pa_cons (pv 0) (pa_cons (pe_bltn (v := .ty "int") (by rfl) T.z_int (by decide +kernel) rfl) pa_nil))) (pe_one (pe_not (pe_callB (r := rIsi K) call_isi (by rfl) T.z_isinstance (by decide +kernel) (pa_cons (pv 0) (pa_cons (pe_bltn (v := .ty "bool") (by rfl) T.z_bool (by decide +kernel) rfl) pa_nil)))))))), ?_⟩
  walk_at "go"
  exact q
theorem sc_Array_init : FnScope N_Array_init ["self", "cells", "size"] (defScope s_Array_init) := ⟨rfl, rfl, rfl, by decide +kernel, rfl, by decide +kernel, by decide +kernel⟩
def spArr (c_Array : Addr) : Sp := fun vs H Q _ => ∃ (a dx : Addr) (x y : V) (R : List SP), vs = [.ref a, x, y] ∧ Sep (pt a (.ins c_Array dx []) :: R) H ∧ ∀ H', Sep (pt a (.ins c_Array dx [("cells", x), ("size", y)]) :: R) H' → Q .non H'
theorem ok_Array_init {f : Addr} (F : Mt K c_Array "__init__" "Array.__init__" s_Array_init ["self", "cells", "size"] f) (T : Txt K mg c_Array c_Window c_Told f_doubled f_exact) : Mf P w K mg base 1 c_Array "__init__" ["self", "cells", "size"] (spArr c_Array) := by
  refine F.ok T.cl_Array sc_Array_init (fun vs H Q E h => ?_) (fun cdv A outer s H vs Q E hr h => ?_)
  · obtain ⟨a, dx, x, y, R, rfl, _⟩ := h
    rfl
  obtain ⟨a, dx, x, y, R, rfl, S, q⟩ := h
  refine ⟨_, (pss_cons (ps_fldK K (pv 0) (pv 1))
      (pss_one (ps_fldK K (pv 0) (pv 2)))), ?_⟩
  walk_at "go"
  exact q _ S
theorem sc_are_marks : FnScope N_are_marks ["thing"] (defScope s_are_marks) := ⟨rfl, rfl, rfl, by decide +kernel, rfl, by decide +kernel, by decide +kernel⟩
def spMarks : Sp := fun vs H Q _ => ∃ (a : Addr) (ns : List Int) (R : List SP), vs = [.ref a] ∧ ns ≠ [] ∧ ns.length ≤ 10000 ∧ Sep (pt a (.lst (ns.map V.int)) :: R) H ∧ ∀ H', Sep (pt a (.lst (ns.map V.int)) :: R) H' → Q (.bl true) H'
theorem ok_are_marks {f f1 : Addr} (F : Dt K mg "_are_marks" s_are_marks ["thing"] f) (T : Txt K mg c_Array c_Window c_Told f_doubled f_exact) (D_is_integer : Df P w K mg base 1 "is_integer" f1 ["thing"] spIsInt) : Df P w K mg base 2 "_are_marks" f ["thing"] spMarks := by
  refine F.ok sc_are_marks (fun vs H Q E h => ?_) (fun cdv A outer s H vs Q E hr h => ?_)
  · obtain ⟨a, ns, R, rfl, _⟩ := h
    rfl
  obtain ⟨a, ns, R, rfl, h0, hl, S, q⟩ := h
  refine ⟨_, (pss_one (ps_ret (pe_and (pe_callB (r := rIsi K) call_isi (by rfl) T.z_isinstance (by decide +kernel) (pa_cons (pv 0) (pa_cons (pe_bltn (v := .ty "list") (by rfl) T.z_list (by decide +kernel) rfl) pa_nil))) (pe_and (pe_cmpR (r := rGtI) op_gt (pe_callB (r := cOr (cLenQ K) cLenS) call_lenA (by rfl) T.z_len (by decide +kernel) (pa_cons (pv 0) pa_nil)) pe_int (nomark _)) (pe_one (pe_callB (r := rAll K) (cr_all rfl) (by rfl) T.z_all (by decide +kernel) (pa_cons (pe_lc (own := [("mark", 1)]) rfl sc_are_marks.nd (pi_listK K (pv 0)) (blkOk_by (own := [("mark", 1)]) (N := N_are_marks) (sc := defScope s_are_marks) (by decide +kernel)) (fun _ _ _ _ _ => (pg_name (i := 1) sc_are_marks.nd rfl (by first | exact Or.inl rfl | exact Or.inr rfl))) (fun _ _ _ _ _ => pts_nil) (fun _ _ _ _ _ => (pe_df D_is_integer (hr.mono (by decide)) (pa_cons (pv 1) pa_nil)))) pa_nil))))))), ?_⟩
  have hpos : 0 < ns.length := List.length_pos_iff.mpr h0
  walk_at "go"
  refine q_ite (fun hx => ?_) (fun hx => absurd (by rw [List.length_map]; omega) hx)
  walk_at "go"
  refine r_lc_list (xs := ns.map V.int) (fun i acc Ps => acc = (List.replicate i true).map V.bl ∧ Ps = pt a (.lst (ns.map V.int)) :: R) S ⟨rfl, rfl⟩ (fun D i acc Ps H hi ⟨_, e⟩ S => by subst e; walk_at "sq") (by walk_at "sq") ?_ ?_
  · rintro D i x acc Ps H hi ⟨rfl, rfl⟩ S
    obtain ⟨z, hz, rfl⟩ : ∃ z, ns[i]? = some z ∧ V.int z = x := by
      rw [List.getElem?_map] at hi
      cases e : ns[i]? with
      | none => rw [e] at hi; cases hi
      | some z => rw [e] at hi; exact ⟨z, rfl, Option.some.inj hi⟩
    walk_at "go"
    refine ⟨rfl, ?_⟩
    walk_at "go"
    refine ⟨_, rfl, ?_⟩
    have hi' := (List.getElem?_eq_some_iff.mp hz).1
    refine cn_in S (by simp; omega) ⟨?_, rfl⟩
    rw [List.replicate_succ', List.map_append]
    rfl
  · rintro D acc Ps H ⟨rfl, rfl⟩ S
    walk_at "go"
    refine r_all (by walk_at "sq") ?_
    have e : (List.replicate (ns.map V.int).length true).all id = true := by simp
    rw [e]
    exact q _ S.tl
/-! ### arrays and windows -/
def arP (c_Array A L : Addr) (ms : List Int) (s : Int) : SP := fun G => ∃ dx, Sep [pt A (.ins c_Array dx [("cells", .ref L), ("size", .int s)]), pt L (.lst (ms.map V.int))] G
def wnP (c_Window W A : Addr) (n : Nat) (r : V) : SP := fun G => ∃ dx, pt W (.ins c_Window dx [("_array", .ref A), ("_length", .int n), ("_rule", r)]) G
theorem ar_open {A L : Addr} {ms : List Int} {s : Int} {R : List SP} {H : Hp} (S : Sep (arP c_Array A L ms s :: R) H) : ∃ dx, Sep (pt A (.ins c_Array dx [("cells", .ref L), ("size", .int s)]) :: pt L (.lst (ms.map V.int)) :: R) H := by
  obtain ⟨dx, S⟩ := S.ex
  exact ⟨dx, S.flat⟩
theorem ar_shut {A L dx : Addr} {ms : List Int} {s : Int} {R : List SP} {H : Hp} (S : Sep (pt A (.ins c_Array dx [("cells", .ref L), ("size", .int s)]) :: pt L (.lst (ms.map V.int)) :: R) H) : Sep (arP c_Array A L ms s :: R) H :=
  Sep.ex_in dx (Sep.unflat (As := [_, _]) S)
theorem wn_open {W A : Addr} {n : Nat} {r : V} {R : List SP} {H : Hp} (S : Sep (wnP c_Window W A n r :: R) H) : ∃ dx, Sep (pt W (.ins c_Window dx [("_array", .ref A), ("_length", .int n), ("_rule", r)]) :: R) H := S.ex
theorem wn_shut {W A dx : Addr} {n : Nat} {r : V} {R : List SP} {H : Hp} (S : Sep (pt W (.ins c_Window dx [("_array", .ref A), ("_length", .int n), ("_rule", r)]) :: R) H) : Sep (wnP c_Window W A n r :: R) H := Sep.ex_in dx S
theorem wa_open {W A L : Addr} {n : Nat} {r : V} {ms : List Int} {s : Int} {R : List SP} {H : Hp} (S : Sep (wnP c_Window W A n r :: arP c_Array A L ms s :: R) H) : ∃ dw da, Sep (pt W (.ins c_Window dw [("_array", .ref A), ("_length", .int n), ("_rule", r)]) :: pt A (.ins c_Array da [("cells", .ref L), ("size", .int s)]) :: pt L (.lst (ms.map V.int)) :: R) H := by
  obtain ⟨dw, S⟩ := wn_open S
  obtain ⟨da, S⟩ := ar_open S.swap
  exact ⟨dw, da, S.s3 (by walk_at "sel")⟩
theorem wa_shut {W A L dw da : Addr} {n : Nat} {r : V} {ms : List Int} {s : Int} {R : List SP} {H : Hp} (S : Sep (pt W (.ins c_Window dw [("_array", .ref A), ("_length", .int n), ("_rule", r)]) :: pt A (.ins c_Array da [("cells", .ref L), ("size", .int s)]) :: pt L (.lst (ms.map V.int)) :: R) H) : Sep (wnP c_Window W A n r :: arP c_Array A L ms s :: R) H :=
  wn_shut (S.cons_mono fun _ => ar_shut)
theorem cut_take {xs : List V} {n : Nat} : cutV xs none (some (n : Int)) = xs.take n := by
  unfold cutV HT.sIx
  simp only [List.drop_zero, Nat.sub_zero]
  rw [if_neg (by omega), Int.toNat_natCast, List.take_eq_take_iff]
  omega
/-- self's cells up to its length, as a new list -/
def spSeen (c_Array c_Window : Addr) : Sp := fun vs H Q _ => ∃ (W A L : Addr) (n : Nat) (r : V) (ms : List Int) (s : Int) (R : List SP), vs = [.ref W] ∧ Sep (wnP c_Window W A n r :: arP c_Array A L ms s :: R) H ∧
  ∀ p H', Sep (pt p (.lst ((ms.take n).map V.int)) :: wnP c_Window W A n r :: arP c_Array A L ms s :: R) H' → Q (.ref p) H'
theorem sc_Window_seen : FnScope N_Window_seen ["self"] (defScope s_Window_seen) := ⟨rfl, rfl, rfl, by decide +kernel, rfl, by decide +kernel, by decide +kernel⟩
theorem ok_Window_seen {f : Addr} (F : Mt K c_Window "_seen" "Window._seen" s_Window_seen ["self"] f) (T : Txt K mg c_Array c_Window c_Told f_doubled f_exact) : Mf P w K mg base 1 c_Window "_seen" ["self"] (spSeen c_Array c_Window) := by
  refine F.ok T.cl_Window sc_Window_seen (fun vs H Q E h => ?_) (fun cdv A outer s H vs Q E hr h => ?_)
  · obtain ⟨W, A, L, n, r, ms, s, R, rfl, _⟩ := h
    rfl
  obtain ⟨W, A, L, n, r, ms, s, R, rfl, S, q⟩ := h
  refine ⟨_, (pss_one (ps_ret (pe_slice (r := rSlL K) sl_list (pe_fldK K (pe_fldK K (pv 0))) po_none (po_some (pe_fldK K (pv 0)))))), ?_⟩
  obtain ⟨dw, da, S⟩ := wa_open S
  walk_at "go"
  rw [cut_take, ← List.map_take] at S
  exact q _ _ ((S.s4 (by walk_at "sel")).cons_mono fun _ => wa_shut)
theorem sc_Window_marks : FnScope N_Window_marks ["self"] (defScope s_Window_marks) := ⟨rfl, rfl, rfl, by decide +kernel, rfl, by decide +kernel, by decide +kernel⟩
theorem ok_Window_marks {f : Addr} (F : Mt K c_Window "marks" "Window.marks" s_Window_marks ["self"] f) (T : Txt K mg c_Array c_Window c_Told f_doubled f_exact) (M_seen : Mf P w K mg base 1 c_Window "_seen" ["self"] (spSeen c_Array c_Window)) : Mf P w K mg base 2 c_Window "marks" ["self"] (spSeen c_Array c_Window) := by
  refine F.ok T.cl_Window sc_Window_marks (fun vs H Q E h => ?_) (fun cdv A outer s H vs Q E hr h => ?_)
  · obtain ⟨W, A, L, n, r, ms, s, R, rfl, _⟩ := h
    rfl
  obtain ⟨W, A, L, n, r, ms, s, R, rfl, S, q⟩ := h
  refine ⟨_, (pss_one (ps_ret (pe_mf0 M_seen (hr.mono (by decide)) (pv 0)))), ?_⟩
  obtain ⟨dw, S0⟩ := wn_open S
  walk_at "go"
  exact ⟨W, A, L, n, r, ms, s, R, rfl, S, q⟩
abbrev gRule : List V → List V → List V := fun vs zs => vs ++ zs
abbrev CfW (P : Program) (w : World) (K : PySem.W.Frag) (mg : Str → Option Value) (base : Heap) (k : Nat) (c_Window : Addr) (sp : Sp) := Cfk P w K mg base k "Window" c_Window ["self", "marks", "rule"] 1 ["rule"] gRule sp
/-- a new window on a new array -/
def spNewW (c_Array c_Window : Addr) : Sp := fun vs H Q _ => ∃ (W dx M : Addr) (r : V) (ns : List Int) (R : List SP), vs = [.ref W, .ref M, r] ∧ ns ≠ [] ∧ ns.length ≤ 10000 ∧ Sep (pt W (.ins c_Window dx []) :: pt M (.lst (ns.map V.int)) :: R) H ∧
  ∀ A L H', Sep (wnP c_Window W A ns.length r :: arP c_Array A L ns ns.length :: pt M (.lst (ns.map V.int)) :: R) H' → Q .non H'
theorem sc_Window_init : FnScope N_Window_init ["self", "marks", "rule"] (defScope s_Window_init) := ⟨rfl, rfl, rfl, by decide +kernel, rfl, by decide +kernel, by decide +kernel⟩
theorem ok_Window_init {f f1 : Addr} (F : Mtk K c_Window "Window.__init__" s_Window_init ["self", "marks", "rule"] 1 ["rule"] gRule f) (T : Txt K mg c_Array c_Window c_Told f_doubled f_exact) (gW : mg "Window" = some (.ref c_Window)) (D_are_marks : Df P w K mg base 2 "_are_marks" f1 ["thing"] spMarks)
    (M_Array : Cf P w K mg base 1 "Array" c_Array ["self", "cells", "size"] (spArr c_Array)) : CfW P w K mg base 3 c_Window (spNewW c_Array c_Window) := by
  refine F.ok gW sc_Window_init (fun vs H Q E h => ?_) (fun cdv A outer s H vs Q E hr h => ?_)
  · obtain ⟨W, dx, M, r, ns, R, rfl, _⟩ := h
    rfl
  obtain ⟨W, dx, M, r, ns, R, rfl, h0, hl, S, q⟩ := h
  refine ⟨_, (pss_cons (ps_if (pt_not (pt_val (pe_df D_are_marks (hr.mono (by decide)) (pa_cons (pv 1) pa_nil)))) (pss_one ps_never) pss_nil)
      (pss_cons (ps_fldK K (pv 0) (pe_cf M_Array (hr.mono (by decide)) (pa_cons (pe_callTy (r := cList K) call_list_of (by rfl) T.z_list (by decide +kernel) (pa_cons (pv 1) pa_nil)) (pa_cons (pe_callB (r := cOr (cLenQ K) cLenS) call_lenA (by rfl) T.z_len (by decide +kernel) (pa_cons (pv 1) pa_nil)) pa_nil))))
      (pss_cons (ps_fldK K (pv 0) (pe_callB (r := cOr (cLenQ K) cLenS) call_lenA (by rfl) T.z_len (by decide +kernel) (pa_cons (pv 1) pa_nil)))
      (pss_one (ps_fldK K (pv 0) (pv 2)))))), ?_⟩
  walk_at "go"
  refine ⟨M, ns, _, rfl, h0, hl, S.s1 (by walk_at "sel"), fun H S => ?_⟩
  walk_at "go"
  refine ⟨_, _, _, _, _, rfl, S, fun H S => ⟨rfl, ?_⟩⟩
  walk_at "go"
  walk_at "go"
  walk_at "go"
  rw [List.length_map] at S
  exact q x p _ (wa_shut (S.s4 (by walk_at "sel")))
theorem sc_is_number : FnScope N_is_number ["many", "thing"] (defScope s_is_number) := ⟨rfl, rfl, rfl, by decide +kernel, rfl, by decide +kernel, by decide +kernel⟩
def spIsNum : Sp := fun vs H Q _ => ∃ n i : Int, vs = [.int n, .int i] ∧ Q (.bl (decide (0 ≤ i ∧ i < n))) H
theorem ok_is_number {f f1 : Addr} (F : Dt K mg "is_number" s_is_number ["many", "thing"] f) (T : Txt K mg c_Array c_Window c_Told f_doubled f_exact) (D_is_integer : Df P w K mg base 1 "is_integer" f1 ["thing"] spIsInt) : Df P w K mg base 2 "is_number" f ["many", "thing"] spIsNum := by
  refine F.ok sc_is_number (fun vs H Q E h => ?_) (fun cdv A outer s H vs Q E hr h => ?_)
  · obtain ⟨n, i, rfl, _⟩ := h
    rfl
  obtain ⟨n, i, rfl, q⟩ := h
  refine ⟨_, (pss_one (ps_ret (pe_and (pe_df D_is_integer (hr.mono (by decide)) (pa_cons (pv 1) pa_nil)) (pe_one (pe_chain (r := rLeI) (r' := rLtI) op_le op_lt pe_int (pv 1) (pv 0)))))), ?_⟩
  walk_at "go"
  refine ⟨i, rfl, ?_⟩
  walk_at "go"
  refine q_ite (fun h0 => ?_) (fun h0 => ?_)
  · walk_at "go"
    have e : decide (0 ≤ i ∧ i < n) = decide (i < n) := by simp [h0]
    rw [e] at q
    exact q
  · have e : decide (0 ≤ i ∧ i < n) = false := decide_eq_false fun h => h0 h.1
    rw [e] at q
    exact q
theorem sc_Window_on : FnScope N_Window_on ["self", "array", "length"] (defScope s_Window_on) := ⟨rfl, rfl, rfl, by decide +kernel, rfl, by decide +kernel, by decide +kernel⟩
def spOn (c_Array c_Window : Addr) : Sp := fun vs H Q _ => ∃ (W A0 A : Addr) (n0 n : Nat) (r : V) (R : List SP), vs = [.ref W, .ref A, .int n] ∧ Sep (wnP c_Window W A0 n0 r :: R) H ∧ ∀ W' H', Sep (wnP c_Window W' A n r :: wnP c_Window W A0 n0 r :: R) H' → Q (.ref W') H'
theorem ok_Window_on {f : Addr} (F : Mt K c_Window "_on" "Window._on" s_Window_on ["self", "array", "length"] f) (T : Txt K mg c_Array c_Window c_Told f_doubled f_exact) (M_Window : CfW P w K mg base 3 c_Window (spNewW c_Array c_Window)) : Mf P w K mg base 5 c_Window "_on" ["self", "array", "length"] (spOn c_Array c_Window) := by
  refine F.ok T.cl_Window sc_Window_on (fun vs H Q E h => ?_) (fun cdv A outer s H vs Q E hr h => ?_)
  · obtain ⟨W, A0, A, n0, n, r, R, rfl, _⟩ := h
    rfl
  obtain ⟨W, A0, A, n0, n, r, R, rfl, S, q⟩ := h
  refine ⟨_, (pss_cons (ps_set (i := 3) sc_Window_on.nd rfl (by first | exact Or.inl rfl | exact Or.inr rfl) (pe_cfk M_Window (hr.mono (by decide)) (pa_cons (pe_lst (pa_cons pe_int pa_nil)) pa_nil) (pk_cons (pe_fldK K (pv 0)) pk_nil)))
      (pss_cons (ps_fldK K (pv 3) (pv 1))
      (pss_cons (ps_fldK K (pv 3) (pv 2))
      (pss_one (ps_ret (pv 3)))))), ?_⟩
  obtain ⟨dw, S⟩ := wn_open S
  walk_at "go"
  refine ⟨x, dx, p, r, [0], _, rfl, by simp, by simp, S, fun A' L' H S => ⟨rfl, ?_⟩⟩
  obtain ⟨d2, S⟩ := wn_open S
  walk_at "go"
  exact q _ _ (Sep.cons_mono (fun _ => wn_shut) (wn_shut (S.s2 (by walk_at "sel"))))
theorem sc_doubled : FnScope N_doubled ["room", "needed"] (defScope s_doubled) := ⟨rfl, rfl, rfl, by decide +kernel, rfl, by decide +kernel, by decide +kernel⟩
def spDoubled : Sp := fun vs H Q _ => ∃ s n : Int, vs = [.int s, .int n] ∧ Q (.int (if 2 * s > n then 2 * s else n)) H
theorem ok_doubled (F : Dt K mg "doubled" s_doubled ["room", "needed"] f_doubled) (T : Txt K mg c_Array c_Window c_Told f_doubled f_exact) : Df P w K mg base 1 "doubled" f_doubled ["room", "needed"] spDoubled := by
  refine F.ok sc_doubled (fun vs H Q E h => ?_) (fun cdv A outer s H vs Q E hr h => ?_)
  · obtain ⟨s, n, rfl, _⟩ := h
    rfl
  obtain ⟨s, n, rfl, q⟩ := h
  refine ⟨_, (pss_one (ps_ret (pe_callB (r := cMax2) (call_max2 rfl) (by rfl) T.z_max (by decide +kernel) (pa_cons (pv 1) (pa_cons (pe_op (r := rMulA) op_mulA pe_int (pv 0)) pa_nil))))), ?_⟩
  walk_at "go"
  exact q
theorem sc_exact : FnScope N_exact ["room", "needed"] (defScope s_exact) := ⟨rfl, rfl, rfl, by decide +kernel, rfl, by decide +kernel, by decide +kernel⟩
def spExact : Sp := fun vs H Q _ => ∃ s n : Int, vs = [.int s, .int n] ∧ Q (.int n) H
theorem ok_exact (F : Dt K mg "exact" s_exact ["room", "needed"] f_exact) (T : Tx K mg c_Array c_Window c_Told f_doubled f_exact) : Df P w K mg base 1 "exact" f_exact ["room", "needed"] spExact := by
  refine F.ok sc_exact (fun vs H Q E h => ?_) (fun cdv A outer s H vs Q E hr h => ?_)
  · obtain ⟨s, n, rfl, _⟩ := h
    rfl
  obtain ⟨s, n, rfl, q⟩ := h
  refine ⟨_, (pss_one (ps_ret (pv 1))), ?_⟩
  walk_at "go"
  exact q
/-! ### rooms that are told -/
def toP (c_Told a : Addr) (rooms : List Int) (ts : List Addr) : SP := fun G => ∃ (dx L M : Addr), Sep [pt a (.ins c_Told dx [("_rooms", .ref L), ("_asked", .ref M)]), pt L (.lst (rooms.map V.int)), pt M (.lst (ts.map V.ref))] G
theorem to_open {a : Addr} {rooms : List Int} {ts : List Addr} {R : List SP} {H : Hp} (S : Sep (toP c_Told a rooms ts :: R) H) : ∃ (dx L M : Addr), Sep (pt a (.ins c_Told dx [("_rooms", .ref L), ("_asked", .ref M)]) :: pt L (.lst (rooms.map V.int)) :: pt M (.lst (ts.map V.ref)) :: R) H := by
  obtain ⟨dx, S⟩ := S.ex
  obtain ⟨L, S⟩ := S.ex
  obtain ⟨M, S⟩ := S.ex
  exact ⟨dx, L, M, S.flat⟩
theorem to_shut {a dx L M : Addr} {rooms : List Int} {ts : List Addr} {R : List SP} {H : Hp} (S : Sep (pt a (.ins c_Told dx [("_rooms", .ref L), ("_asked", .ref M)]) :: pt L (.lst (rooms.map V.int)) :: pt M (.lst (ts.map V.ref)) :: R) H) : Sep (toP c_Told a rooms ts :: R) H :=
  Sep.ex_in dx (Sep.ex_in L (Sep.ex_in M (Sep.unflat (As := [_, _, _]) S)))
def spTold (c_Told : Addr) : Sp := fun vs H Q _ => ∃ (a dx M : Addr) (rooms : List Int) (R : List SP), vs = [.ref a, .ref M] ∧ rooms.length ≤ 10000 ∧ Sep (pt a (.ins c_Told dx []) :: pt M (.lst (rooms.map V.int)) :: R) H ∧ ∀ H', Sep (toP c_Told a rooms [] :: pt M (.lst (rooms.map V.int)) :: R) H' → Q .non H'
theorem sc_Told_init : FnScope N_Told_init ["self", "rooms"] (defScope s_Told_init) := ⟨rfl, rfl, rfl, by decide +kernel, rfl, by decide +kernel, by decide +kernel⟩
theorem ok_Told_init {f f1 : Addr} (F : Mt K c_Told "__init__" "Told.__init__" s_Told_init ["self", "rooms"] f) (T : Tx K mg c_Array c_Window c_Told f_doubled f_exact) (D_is_integer : Df P w K mg base 1 "is_integer" f1 ["thing"] spIsInt) : Mf P w K mg base 2 c_Told "__init__" ["self", "rooms"] (spTold c_Told) := by
  refine F.ok T.cl_Told sc_Told_init (fun vs H Q E h => ?_) (fun cdv A outer s H vs Q E hr h => ?_)
  · obtain ⟨a, dx, M, rooms, R, rfl, _⟩ := h
    rfl
  obtain ⟨a, dx, M, rooms, R, rfl, hl, S, q⟩ := h
  refine ⟨_, (pss_cons (ps_if (PW.pt (pw_or (pt_not (pt_val (pe_callB (r := rIsi K) call_isi (by rfl) T.z_isinstance (by decide +kernel) (pa_cons (pv 1) (pa_cons (pe_bltn (v := .ty "list") (by rfl) T.z_list (by decide +kernel) rfl) pa_nil))))) (pw_or1 (pt_not (pt_val (pe_callB (r := rAll K) (cr_all rfl) (by rfl) T.z_all (by decide +kernel) (pa_cons (pe_lc (own := [("room", 2)]) rfl sc_Told_init.nd (pi_listK K (pv 1)) (blkOk_by (own := [("room", 2)]) (N := N_Told_init) (sc := defScope s_Told_init) (by decide +kernel)) (fun _ _ _ _ _ => (pg_name (i := 2) sc_Told_init.nd rfl (by first | exact Or.inl rfl | exact Or.inr rfl))) (fun _ _ _ _ _ => pts_nil) (fun _ _ _ _ _ => (pe_df D_is_integer (hr.mono (by decide)) (pa_cons (pv 2) pa_nil)))) pa_nil))))))) (pss_one ps_never) pss_nil)
      (pss_cons (ps_fldK K (pv 0) (pe_callTy (r := cList K) call_list_of (by rfl) T.z_list (by decide +kernel) (pa_cons (pv 1) pa_nil)))
      (pss_one (ps_fldK K (pv 0) (pe_lst pa_nil))))), ?_⟩
  walk_at "go"
  refine r_lc_list (xs := rooms.map V.int) (fun i acc Ps => acc = (List.replicate i true).map V.bl ∧ Ps = pt a (.ins c_Told dx []) :: pt M (.lst (rooms.map V.int)) :: R) S ⟨rfl, rfl⟩ (fun D i acc Ps H hi ⟨_, e⟩ S => by subst e; walk_at "sq") (by walk_at "sq") ?_ ?_
  · rintro D i x acc Ps H hi ⟨rfl, rfl⟩ S
    obtain ⟨z, hz, rfl⟩ : ∃ z, rooms[i]? = some z ∧ V.int z = x := by
      rw [List.getElem?_map] at hi
      cases e : rooms[i]? with
      | none => rw [e] at hi; cases hi
      | some z => rw [e] at hi; exact ⟨z, rfl, Option.some.inj hi⟩
    walk_at "go"
    refine ⟨rfl, ?_⟩
    walk_at "go"
    refine ⟨_, rfl, ?_⟩
    have hi' := (List.getElem?_eq_some_iff.mp hz).1
    refine cn_in S (by simp; omega) ⟨?_, rfl⟩
    rw [List.replicate_succ', List.map_append]
    rfl
  · rintro D acc Ps H ⟨rfl, rfl⟩ S
    walk_at "go"
    refine r_all (by walk_at "sq") ?_
    have e : (List.replicate (rooms.map V.int).length true).all id = true := by simp
    rw [e]
    walk_at "go"
    walk_at "go"
    exact q _ (to_shut (ts := []) (S.s4 (C := pt _ (.lst [])) (by walk_at "sel")))
def spToldC (c_Told : Addr) : Sp := fun vs H Q _ => ∃ (a : Addr) (rooms : List Int) (ts : List Addr) (s n : Int) (R : List SP), vs = [.ref a, .int s, .int n] ∧ ts.length < 10000 ∧ Sep (toP c_Told a rooms ts :: R) H ∧ ∀ t H', Sep (pt t (.tup [.int s, .int n]) :: toP c_Told a rooms (ts ++ [t]) :: R) H' → Q (.int (rooms[ts.length]?.getD n)) H'
theorem sc_Told_call : FnScope N_Told_call ["self", "room", "needed"] (defScope s_Told_call) := ⟨rfl, rfl, rfl, by decide +kernel, rfl, by decide +kernel, by decide +kernel⟩
theorem ok_Told_call {f : Addr} (F : Mt K c_Told "__call__" "Told.__call__" s_Told_call ["self", "room", "needed"] f) (T : Tx K mg c_Array c_Window c_Told f_doubled f_exact) : Mf P w K mg base 1 c_Told "__call__" ["self", "room", "needed"] (spToldC c_Told) := by
  refine F.ok T.cl_Told sc_Told_call (fun vs H Q E h => ?_) (fun cdv A outer s H vs Q E hr h => ?_)
  · obtain ⟨a, rooms, ts, s, n, R, rfl, _⟩ := h
    rfl
  obtain ⟨a, rooms, ts, s, n, R, rfl, hj, S, q⟩ := h
  refine ⟨_, (pss_cons (ps_set (i := 3) sc_Told_call.nd rfl (by first | exact Or.inl rfl | exact Or.inr rfl) (pe_callB (r := cOr (cLenQ K) cLenS) call_lenA (by rfl) T.z_len (by decide +kernel) (pa_cons (pe_fldK K (pv 0)) pa_nil)))
      (pss_cons (ps_expr (pe_bmK K PySem.F.plainAttrs_list PySem.F.slot_list_append PySem.F.type_list_append mt_append (pe_fldK K (pv 0)) (pa_cons (pe_tup (pa_cons (pv 1) (pa_cons (pv 2) pa_nil))) pa_nil)))
      (pss_one (ps_ret (pe_ifExp (pt_cmpR (r := rLtI) op_lt (pv 3) (pe_callB (r := cOr (cLenQ K) cLenS) call_lenA (by rfl) T.z_len (by decide +kernel) (pa_cons (pe_fldK K (pv 0)) pa_nil)) (nomark _)) (pe_ix (r := rIx K) ix_seq (pe_fldK K (pv 0)) (pv 3) (fun _ _ => rfl)) (pv 2)))))), ?_⟩
  obtain ⟨dx, L, M, S⟩ := to_open S
  have hx : (ts.map V.ref).length = ts.length := List.length_map ..
  walk_at "go"
  have fin : Unit → Sep (pt p (.tup [.int s, .int n]) :: toP c_Told a rooms (ts ++ [p]) :: R) H := fun _ => by
    have S := S.s4 (A := pt p (.tup [.int s, .int n])) (B := pt a (.ins c_Told dx [("_rooms", .ref L), ("_asked", .ref M)])) (C := pt L (.lst (rooms.map V.int))) (D := pt M (.lst (ts.map V.ref ++ [.ref p]))) (by walk_at "sel")
    have e : ts.map V.ref ++ [.ref p] = (ts ++ [p]).map V.ref := by simp
    rw [e] at S
    exact S.cons_mono fun _ => to_shut
  refine q_ite (fun hx2 => ?_) (fun hx2 => ?_)
  · walk_at "go"
    rw [List.length_map, List.length_map] at hx2
    have hr2 : rooms[ts.length]? = some (rooms[ts.length]'(by omega)) := List.getElem?_eq_getElem (by omega)
    have key : atI (rooms.map V.int) (((ts.map V.ref).length : Nat) : Int) = some (V.int (rooms[ts.length]'(by omega))) := by
      rw [hx]
      exact atI_nat (by rw [List.getElem?_map, hr2]; rfl)
    refine q_ixL (by walk_at "sq") key ?_
    rw [hr2] at q
    exact q _ _ (fin ())
  · walk_at "go"
    rw [List.length_map, List.length_map] at hx2
    rw [List.getElem?_eq_none (by omega)] at q
    exact q _ _ (fin ())
/-! ### the rules that are served -/
inductive RK where
  | no | ex | db | to (a : Addr) (rooms : List Int) (ts : List Addr)
def RK.v (f_doubled f_exact : Addr) : RK → V
  | .no => .non
  | .ex => .ref f_exact
  | .db => .ref f_doubled
  | .to a _ _ => .ref a
def RK.nx : RK → Addr → RK
  | .to a rooms ts, t => .to a rooms (ts ++ [t])
  | r, _ => r
def exP : RK → Addr → Int → Int → SP
  | .to _ _ _, t, s, n => pt t (.tup [.int s, .int n])
  | _, _, _, _ => Sep []
def RK.grow (r : RK) (s n : Int) : Int := match r with
  | .db => if 2 * s > n then 2 * s else n
  | .to _ rooms ts => rooms[ts.length]?.getD n
  | _ => n
def ruP (c_Told : Addr) : RK → SP
  | .to a rooms ts => toP c_Told a rooms ts
  | _ => Sep []
theorem rkv_nx (fd fe : Addr) (r : RK) (t : Addr) : (r.nx t).v fd fe = r.v fd fe := by cases r <;> rfl
def spSize (c_Array c_Window c_Told f_doubled f_exact : Addr) : Sp := fun vs H Q _ => ∃ (W A L : Addr) (k : Nat) (r : RK) (ms : List Int) (s n : Int) (R : List SP), vs = [.ref W, .int n] ∧ n ≤ r.grow s n ∧ (∀ a rooms ts, r = .to a rooms ts → ts.length < 1000) ∧ Sep (ruP c_Told r :: wnP c_Window W A k (r.v f_doubled f_exact) :: arP c_Array A L ms s :: R) H ∧
  ∀ t H', Sep (exP r t s n :: ruP c_Told (r.nx t) :: wnP c_Window W A k (r.v f_doubled f_exact) :: arP c_Array A L ms s :: R) H' → Q (.int (r.grow s n)) H'
theorem sc_Window_size_for : FnScope N_Window_size_for ["self", "needed"] (defScope s_Window_size_for) := ⟨rfl, rfl, rfl, by decide +kernel, rfl, by decide +kernel, by decide +kernel⟩
theorem ok_Window_size_for {f f1 : Addr} (F : Mt K c_Window "_size_for" "Window._size_for" s_Window_size_for ["self", "needed"] f) (T : Tx K mg c_Array c_Window c_Told f_doubled f_exact) (D_is_integer : Df P w K mg base 1 "is_integer" f1 ["thing"] spIsInt) (D_doubled : Df P w K mg base 1 "doubled" f_doubled ["room", "needed"] spDoubled) (D_exact : Df P w K mg base 1 "exact" f_exact ["room", "needed"] spExact)
    (M_call : Mf P w K mg base 1 c_Told "__call__" ["self", "room", "needed"] (spToldC c_Told)) (hcall : ∀ f, PySem.W.findIn K (.ref c_Told) "__call__" = some (some (.ref f)) → PySem.W.fnIn K f = true) :
    Mf P w K mg base 2 c_Window "_size_for" ["self", "needed"] (spSize c_Array c_Window c_Told f_doubled f_exact) := by
  refine F.ok T.cl_Window sc_Window_size_for (fun vs H Q E h => ?_) (fun cdv A outer s H vs Q E hr h => ?_)
  · obtain ⟨W, A, L, k, r, ms, s, n, R, rfl, _⟩ := h
    rfl
  obtain ⟨W, A, L, k, r, ms, s, n, R, rfl, hg, hj, S, q⟩ := h
  refine ⟨_, (pss_cons (ps_set (i := 2) sc_Window_size_for.nd rfl (by first | exact Or.inl rfl | exact Or.inr rfl) (pe_fldK K (pv 0)))
      (pss_cons (ps_if (pt_cmpR (r := rIsN) op_isN (pv 2) pe_non (nomark _)) (pss_one (ps_ret (pv 1))) pss_nil)
      (pss_cons (ps_set (i := 3) sc_Window_size_for.nd rfl (by first | exact Or.inl rfl | exact Or.inr rfl) (pe_er (pe_er (pe_dfL (i := 2) D_exact (hr.mono (by decide)) (pa_cons (pe_fldK K (pe_fldK K (pv 0))) (pa_cons (pv 1) pa_nil))) (pe_dfL (i := 2) D_doubled (hr.mono (by decide)) (pa_cons (pe_fldK K (pe_fldK K (pv 0))) (pa_cons (pv 1) pa_nil)))) (pe_mfL (i := 2) M_call hcall (hr.mono (by decide)) (pa_cons (pe_fldK K (pe_fldK K (pv 0))) (pa_cons (pv 1) pa_nil)))))
      (pss_cons (ps_if (PW.pt (pw_or (pt_not (pt_val (pe_df D_is_integer (hr.mono (by decide)) (pa_cons (pv 3) pa_nil)))) (pw_or1 (pt_cmpR (r := rLtI) op_lt (pv 3) (pv 1) (nomark _))))) (pss_one ps_never) pss_nil)
      (pss_one (ps_ret (pv 3))))))), ?_⟩
  have S := S.s3 (A := wnP c_Window W A k (r.v f_doubled f_exact)) (B := arP c_Array A L ms s) (C := ruP c_Told r) (by walk_at "sel")
  obtain ⟨dw, da, S⟩ := wa_open S
  walk_at "go"
  have fin : ∀ t H', Sep (pt W (.ins c_Window dw [("_array", .ref A), ("_length", .int k), ("_rule", r.v f_doubled f_exact)]) :: pt A (.ins c_Array da [("cells", .ref L), ("size", .int s)]) :: pt L (.lst (ms.map V.int)) :: ruP c_Told (r.nx t) :: exP r t s n :: R) H' → Q (.int (r.grow s n)) H' := fun t H' S => by
    have S := wa_shut S
    exact q t _ (S.s4 (by walk_at "sel"))
  clear q
  cases r with
  | no =>
    refine q_ite (fun hx => ?_) (fun hx => absurd rfl hx)
    walk_at "go"
    exact fin 0 _ (S.cons_mono fun _ S => S.cons_mono fun _ S => S.cons_mono fun _ S => S.cons_mono fun _ S => Sep.unflat (As := []) S)
  | ex =>
    refine q_ite (fun hx => nomatch hx) (fun hx => ?_)
    walk_at "go"
    refine .inl (.inl (r_calll rfl ?_))
    walk_at "go"
    refine ⟨_, _, rfl, ?_⟩
    walk_at "go"
    refine ⟨_, rfl, ?_⟩
    walk_at "go"
    refine q_ite (fun hx => absurd hx (by omega)) (fun hx => ?_)
    walk_at "go"
    exact fin 0 _ (S.cons_mono fun _ S => S.cons_mono fun _ S => S.cons_mono fun _ S => S.cons_mono fun _ S => Sep.unflat (As := []) S)
  | db =>
    refine q_ite (fun hx => nomatch hx) (fun hx => ?_)
    walk_at "go"
    refine .inl (.inr (r_calll rfl ?_))
    walk_at "go"
    refine ⟨_, _, rfl, ?_⟩
    rw [show (if 2 * s > n then 2 * s else n) = RK.db.grow s n from rfl]
    generalize hz : RK.db.grow s n = z at fin hg
    walk_at "go"
    refine ⟨_, rfl, ?_⟩
    walk_at "go"
    refine q_ite (fun hx => absurd hx (by omega)) (fun hx => ?_)
    walk_at "go"
    exact fin 0 _ (S.cons_mono fun _ S => S.cons_mono fun _ S => S.cons_mono fun _ S => S.cons_mono fun _ S => Sep.unflat (As := []) S)
  | to a rooms ts =>
    refine q_ite (fun hx => nomatch hx) (fun hx => ?_)
    walk_at "go"
    refine .inr ⟨a, rfl, ?_⟩
    walk_at "go"
    have S : Sep (pt W (.ins c_Window dw [("_array", .ref A), ("_length", .int k), ("_rule", .ref a)]) :: pt A (.ins c_Array da [("cells", .ref L), ("size", .int s)]) :: pt L (.lst (ms.map V.int)) :: toP c_Told a rooms ts :: R) H := S
    obtain ⟨dt, Lt, Mt, St⟩ := to_open (S.s1 (A := toP c_Told a rooms ts) (by walk_at "sel"))
    have hj1 := hj _ _ _ rfl
    refine ⟨_, _, St.hd_at, a, rooms, ts, s, n, _, rfl, by omega, S.s1 (A := toP c_Told a rooms ts) (by walk_at "sel"), fun t H S => ?_⟩
    have fin : ∀ H', Sep (pt W (.ins c_Window dw [("_array", .ref A), ("_length", .int k), ("_rule", .ref a)]) :: pt A (.ins c_Array da [("cells", .ref L), ("size", .int s)]) :: pt L (.lst (ms.map V.int)) :: toP c_Told a rooms (ts ++ [t]) :: pt t (.tup [.int s, .int n]) :: R) H' → Q (.int (rooms[ts.length]?.getD n)) H' := fin t
    have hg : n ≤ rooms[ts.length]?.getD n := hg
    generalize rooms[ts.length]?.getD n = z at fin hg
    walk_at "go"
    refine ⟨_, rfl, ?_⟩
    walk_at "go"
    refine q_ite (fun hx => absurd hx (by omega)) (fun hx => ?_)
    walk_at "go"
    exact fin _ (S.s5 (by walk_at "sel"))
/-- put: where it stays, where it moves -/
def spPut (c_Array c_Window c_Told f_doubled f_exact : Addr) : Sp := fun vs H Q _ => ∃ (W A L M : Addr) (n : Nat) (r : RK) (ms xs : List Int) (s : Int) (R : List SP), vs = [.ref W, .ref M] ∧ n ≤ ms.length ∧ (ms.length : Int) ≤ s ∧ xs ≠ [] ∧ xs.length ≤ 10000 ∧ ms.length ≤ 10000 ∧
  Sep (ruP c_Told r :: wnP c_Window W A n (r.v f_doubled f_exact) :: arP c_Array A L ms s :: pt M (.lst (xs.map V.int)) :: R) H ∧
  (((n + xs.length : Nat) : Int) ≤ s → ∀ W' H', Sep (ruP c_Told r :: wnP c_Window W' A (n + xs.length) (r.v f_doubled f_exact) :: wnP c_Window W A n (r.v f_doubled f_exact) :: arP c_Array A L (ms.take n ++ xs ++ ms.drop (n + xs.length)) s :: pt M (.lst (xs.map V.int)) :: R) H' → Q (.ref W') H') ∧
  (s < ((n + xs.length : Nat) : Int) → ((n + xs.length : Nat) : Int) ≤ r.grow s ((n + xs.length : Nat) : Int) ∧ (∀ a rooms ts, r = .to a rooms ts → ts.length < 1000) ∧
    ∀ t W' A' L' H', Sep (ruP c_Told (r.nx t) :: wnP c_Window W' A' (n + xs.length) (r.v f_doubled f_exact) :: arP c_Array A' L' (ms.take n ++ xs) (r.grow s ((n + xs.length : Nat) : Int)) :: wnP c_Window W A n (r.v f_doubled f_exact) :: arP c_Array A L ms s :: pt M (.lst (xs.map V.int)) :: exP r t s ((n + xs.length : Nat) : Int) :: R) H' → Q (.ref W') H')
theorem sc_Window_put : FnScope N_Window_put ["self", "marks"] (defScope s_Window_put) := ⟨rfl, rfl, rfl, by decide +kernel, rfl, by decide +kernel, by decide +kernel⟩
theorem ok_Window_put {f : Addr} (F : Mt K c_Window "put" "Window.put" s_Window_put ["self", "marks"] f) (T : Tx K mg c_Array c_Window c_Told f_doubled f_exact) (M_seen : Mf P w K mg base 1 c_Window "_seen" ["self"] (spSeen c_Array c_Window)) (M_on : Mf P w K mg base 5 c_Window "_on" ["self", "array", "length"] (spOn c_Array c_Window))
    (M_size_for : Mf P w K mg base 2 c_Window "_size_for" ["self", "needed"] (spSize c_Array c_Window c_Told f_doubled f_exact)) (M_Array : Cf P w K mg base 1 "Array" c_Array ["self", "cells", "size"] (spArr c_Array)) : Mf P w K mg base 6 c_Window "put" ["self", "marks"] (spPut c_Array c_Window c_Told f_doubled f_exact) := by
  refine F.ok T.cl_Window sc_Window_put (fun vs H Q E h => ?_) (fun cdv A outer s H vs Q E hr h => ?_)
  · obtain ⟨W, A, L, M, n, r, ms, xs, s, R, rfl, _⟩ := h
    rfl
  obtain ⟨W, A, L, M, n, r, ms, xs, s, R, rfl, hn, hs, h0, hl, hm, S, q1, q2⟩ := h
  refine ⟨_, (pss_cons (ps_set (i := 2) sc_Window_put.nd rfl (by first | exact Or.inl rfl | exact Or.inr rfl) (pe_op (r := rAddA) op_addA (pe_fldK K (pv 0)) (pe_callB (r := cOr (cLenQ K) cLenS) call_lenA (by rfl) T.z_len (by decide +kernel) (pa_cons (pv 1) pa_nil))))
      (pss_cons (ps_if (pt_cmpR (r := rLeI) op_le (pv 2) (pe_fldK K (pe_fldK K (pv 0))) (nomark _)) (pss_cons (ps_asg (pe_callTy (r := cList K) call_list_of (by rfl) T.z_list (by decide +kernel) (pa_cons (pv 1) pa_nil)) (pg_slice (pe_fldK K (pe_fldK K (pv 0))) (po_some (pe_fldK K (pv 0))) (po_some (pv 2))))
      (pss_one (ps_ret (pe_mf M_on (hr.mono (by decide)) (pv 0) (pa_cons (pe_fldK K (pv 0)) (pa_cons (pv 2) pa_nil)))))) pss_nil)
      (pss_cons (ps_set (i := 3) sc_Window_put.nd rfl (by first | exact Or.inl rfl | exact Or.inr rfl) (pe_mf M_size_for (hr.mono (by decide)) (pv 0) (pa_cons (pv 2) pa_nil)))
      (pss_one (ps_ret (pe_mf M_on (hr.mono (by decide)) (pv 0) (pa_cons (pe_cf M_Array (hr.mono (by decide)) (pa_cons (pe_op (r := rAddA) op_addA (pe_mf0 M_seen (hr.mono (by decide)) (pv 0)) (pe_callTy (r := cList K) call_list_of (by rfl) T.z_list (by decide +kernel) (pa_cons (pv 1) pa_nil))) (pa_cons (pv 3) pa_nil))) (pa_cons (pv 2) pa_nil)))))))), ?_⟩
  have S := S.s4 (A := wnP c_Window W A n (r.v f_doubled f_exact)) (B := arP c_Array A L ms s) (C := ruP c_Told r) (D := pt M (.lst (xs.map V.int))) (by walk_at "sel")
  obtain ⟨dw, da, S⟩ := wa_open S
  walk_at "go"
  have ez : (n : Int) + ((xs.map V.int).length : Int) = ((n + xs.length : Nat) : Int) := by simp
  rw [ez]
  refine q_ite (fun hx => ?_) (fun hx => ?_)
  · walk_at "go"
    have ne : L ≠ p := Sep.ne (S.s2 (A := pt L _) (B := pt p _) (by walk_at "sel"))
    refine ⟨L, p, ms.map V.int, xs.map V.int, n, n + xs.length, rfl, rfl, rfl, rfl, by walk_at "at", by walk_at "at", ne, by simpa using hn, by omega, Nat.le_trans (by simp; omega : _ ≤ 20000) (by decide), ?_⟩
    have el : (ms.map V.int).take n ++ xs.map V.int ++ (ms.map V.int).drop (n + xs.length) = (ms.take n ++ xs ++ ms.drop (n + xs.length)).map V.int := by simp
    rw [el]
    have S := S.set (a := L) (o' := .lst ((ms.take n ++ xs ++ ms.drop (n + xs.length)).map V.int)) (by walk_at "rep")
    generalize upd H L _ = H at S
    walk_at "go"
    refine ⟨W, A, A, n, n + xs.length, r.v f_doubled f_exact, _, rfl, wn_shut (S.s1 (by walk_at "sel")), fun W' H S => ?_⟩
    have S := ar_shut (A := A) (L := L) (S.s2 (by walk_at "sel"))
    exact q1 hx _ _ (S.s5 (by walk_at "sel"))
  · walk_at "go"
    obtain ⟨g1, g2, q2⟩ := q2 (by omega)
    have S := wa_shut S
    refine ⟨W, A, L, n, r, ms, s, _, _, rfl, g1, g2, S.s3 (A := ruP c_Told r) (by walk_at "sel"), fun t H S => ?_⟩
    have S := S.s3 (A := wnP c_Window W A n (r.v f_doubled f_exact)) (B := arP c_Array A L ms s) (C := ruP c_Told (r.nx t)) (by walk_at "sel")
    obtain ⟨dw, da, S⟩ := wa_open S
    walk_at "go"
    refine ⟨W, A, L, n, r.v f_doubled f_exact, ms, s, _, rfl, wa_shut (S.s3 (by walk_at "sel")), fun p H S => ?_⟩
    obtain ⟨dw, da, S⟩ := wa_open (S.s2 (by walk_at "sel"))
    walk_at "go"
    refine ⟨x, dx, _, _, _, rfl, S, fun H S => ⟨rfl, ?_⟩⟩
    walk_at "go"
    refine ⟨W, A, x, n, n + xs.length, r.v f_doubled f_exact, _, rfl, wn_shut (S.s1 (by walk_at "sel")), fun W' H S => ?_⟩
    rw [← List.map_append] at S
    have S1 := ar_shut (A := x) (L := p) (S.s2 (by walk_at "sel"))
    have S2 := ar_shut (A := A) (L := L) (S1.s2 (by walk_at "sel"))
    exact q2 t W' x p _ (S2.s7 (by walk_at "sel"))
end

section
variable {P : Program} {w : World} {K : PySem.W.Frag} {mg : Str → Option Value} {base : Heap} {c_Array c_Window c_Told f_doubled f_exact : Addr}
/-- window.spare -/
def spSpare (c_Array c_Window : Addr) : Sp := fun vs H Q _ => ∃ (W A L : Addr) (n : Nat) (r : V) (ms : List Int) (s : Int) (R : List SP), vs = [.ref W] ∧ Sep (wnP c_Window W A n r :: arP c_Array A L ms s :: R) H ∧ Q (.int (s - n)) H
theorem sc_Window_spare : FnScope N_Window_spare ["self"] (defScope s_Window_spare) := ⟨rfl, rfl, rfl, by decide +kernel, rfl, by decide +kernel, by decide +kernel⟩
theorem ok_Window_spare {f : Addr} (F : Pt K c_Window "spare" "Window.spare" s_Window_spare f) (T : Tx K mg c_Array c_Window c_Told f_doubled f_exact) : Pf P w K mg base 1 c_Window "spare" (spSpare c_Array c_Window) := by
  refine F.ok T.cl_Window sc_Window_spare (fun vs H Q E h => ?_) (fun cdv A outer s H vs Q E hr h => ?_)
  · obtain ⟨W, A, L, n, r, ms, s, R, rfl, _⟩ := h
    rfl
  obtain ⟨W, A, L, n, r, ms, s, R, rfl, S, q⟩ := h
  refine ⟨_, (pss_one (ps_ret (pe_op (r := rSubI) op_sub (pe_fldK K (pe_fldK K (pv 0))) (pe_fldK K (pv 0))))), ?_⟩
  obtain ⟨dw, da, S⟩ := wa_open S
  walk_at "go"
  exact q
end

section
variable {P : Program} {w : World} {K : PySem.W.Frag} {mg : Str → Option Value} {base : Heap} {c_Array c_Window c_Told f_doubled f_exact : Addr}
/-- window.room -/
def spRoom (c_Array c_Window : Addr) : Sp := fun vs H Q _ => ∃ (W A L : Addr) (n : Nat) (r : V) (ms : List Int) (s : Int) (R : List SP), vs = [.ref W] ∧ Sep (wnP c_Window W A n r :: arP c_Array A L ms s :: R) H ∧ Q (.int s) H
theorem sc_Window_room : FnScope N_Window_room ["self"] (defScope s_Window_room) := ⟨rfl, rfl, rfl, by decide +kernel, rfl, by decide +kernel, by decide +kernel⟩
theorem ok_Window_room {f : Addr} (F : Pt K c_Window "room" "Window.room" s_Window_room f) (T : Tx K mg c_Array c_Window c_Told f_doubled f_exact) : Pf P w K mg base 1 c_Window "room" (spRoom c_Array c_Window) := by
  refine F.ok T.cl_Window sc_Window_room (fun vs H Q E h => ?_) (fun cdv A outer s H vs Q E hr h => ?_)
  · obtain ⟨W, A, L, n, r, ms, s, R, rfl, _⟩ := h
    rfl
  obtain ⟨W, A, L, n, r, ms, s, R, rfl, S, q⟩ := h
  refine ⟨_, (pss_one (ps_ret (pe_fldK K (pe_fldK K (pv 0))))), ?_⟩
  obtain ⟨dw, da, S⟩ := wa_open S
  walk_at "go"
  exact q
end

section
variable {P : Program} {w : World} {K : PySem.W.Frag} {mg : Str → Option Value} {base : Heap} {c_Array c_Window c_Told f_doubled f_exact : Addr}
/-- window.shares(other) -/
def spShares (c_Array c_Window : Addr) : Sp := fun vs H Q _ => ∃ (W1 A1 W2 A2 d1 d2 e1 e2 : Addr) (n1 n2 : Nat) (r1 r2 : V) (f1 f2 : List (Str × V)), vs = [.ref W1, .ref W2] ∧ H W1 = some (.ins c_Window d1 [("_array", .ref A1), ("_length", .int n1), ("_rule", r1)]) ∧ H W2 = some (.ins c_Window d2 [("_array", .ref A2), ("_length", .int n2), ("_rule", r2)]) ∧
  H A1 = some (.ins c_Array e1 f1) ∧ H A2 = some (.ins c_Array e2 f2) ∧ Q (.bl (decide (A1 = A2))) H
theorem sc_Window_shares : FnScope N_Window_shares ["self", "other"] (defScope s_Window_shares) := ⟨rfl, rfl, rfl, by decide +kernel, rfl, by decide +kernel, by decide +kernel⟩
theorem ok_Window_shares {f : Addr} (F : Mt K c_Window "shares" "Window.shares" s_Window_shares ["self", "other"] f) (T : Tx K mg c_Array c_Window c_Told f_doubled f_exact) (hm : PySem.W.mroIn K c_Array (.type "object") = some true) (he : PySem.W.findIn K (.ref c_Array) "__eq__" = some (some (.builtin "object.__eq__"))) :
    Mf P w K mg base 1 c_Window "shares" ["self", "other"] (spShares c_Array c_Window) := by
  refine F.ok T.cl_Window sc_Window_shares (fun vs H Q E h => ?_) (fun cdv A outer s H vs Q E hr h => ?_)
  · obtain ⟨W1, A1, W2, A2, d1, d2, e1, e2, n1, n2, r1, r2, f1, f2, rfl, _⟩ := h
    rfl
  obtain ⟨W1, A1, W2, A2, d1, d2, e1, e2, n1, n2, r1, r2, f1, f2, rfl, h1, h2, h3, h4, q⟩ := h
  refine ⟨_, (pss_one (ps_ret (pe_cmpR (r := rEqIns K) (op_eqIns hr.units) (pe_fldK K (pv 0)) (pe_fldK K (pv 1)) (nomark _)))), ?_⟩
  walk_at "go"
  refine ⟨W1, _, d1, _, _, rfl, h1, T.cl_Window, T.na_Window__array, (by walk_at "lk"), ?_⟩
  walk_at "go"
  refine ⟨W2, _, d2, _, _, rfl, h2, T.cl_Window, T.na_Window__array, (by walk_at "lk"), ?_⟩
  exact ⟨A1, A2, c_Array, e1, f1, e2, f2, rfl, rfl, h3, h4, hm, he, q⟩
end

section
variable {P : Program} {w : World} {K : PySem.W.Frag} {mg : Str → Option Value} {base : Heap} {c_Array c_Window c_Told f_doubled f_exact : Addr}
/-- a window on its own array, as many cells as there is room -/
def spCopied (c_Array c_Window : Addr) : Sp := fun vs H Q _ => ∃ (W A L : Addr) (n : Nat) (r : V) (ms : List Int) (s : Int) (R : List SP), vs = [.ref W] ∧ Sep (wnP c_Window W A n r :: arP c_Array A L ms s :: R) H ∧
  ∀ W' A' L' H', Sep (wnP c_Window W' A' n r :: arP c_Array A' L' (ms.take n) n :: wnP c_Window W A n r :: arP c_Array A L ms s :: R) H' → Q (.ref W') H'
theorem sc_Window_copied : FnScope N_Window_copied ["self"] (defScope s_Window_copied) := ⟨rfl, rfl, rfl, by decide +kernel, rfl, by decide +kernel, by decide +kernel⟩
theorem ok_Window_copied {f : Addr} (F : Mt K c_Window "copied" "Window.copied" s_Window_copied ["self"] f) (T : Tx K mg c_Array c_Window c_Told f_doubled f_exact) (M_seen : Mf P w K mg base 1 c_Window "_seen" ["self"] (spSeen c_Array c_Window)) (M_on : Mf P w K mg base 5 c_Window "_on" ["self", "array", "length"] (spOn c_Array c_Window))
    (M_Array : Cf P w K mg base 1 "Array" c_Array ["self", "cells", "size"] (spArr c_Array)) : Mf P w K mg base 6 c_Window "copied" ["self"] (spCopied c_Array c_Window) := by
  refine F.ok T.cl_Window sc_Window_copied (fun vs H Q E h => ?_) (fun cdv A outer s H vs Q E hr h => ?_)
  · obtain ⟨W, A, L, n, r, ms, s, R, rfl, _⟩ := h
    rfl
  obtain ⟨W, A, L, n, r, ms, s, R, rfl, S, q⟩ := h
  refine ⟨_, (pss_one (ps_ret (pe_mf M_on (hr.mono (by decide)) (pv 0) (pa_cons (pe_cf M_Array (hr.mono (by decide)) (pa_cons (pe_mf0 M_seen (hr.mono (by decide)) (pv 0)) (pa_cons (pe_fldK K (pv 0)) pa_nil))) (pa_cons (pe_fldK K (pv 0)) pa_nil))))), ?_⟩
  obtain ⟨dw, da, S⟩ := wa_open S
  walk_at "go"
  refine ⟨W, A, L, n, r, ms, s, _, rfl, wa_shut (S.s3 (by walk_at "sel")), fun p H S => ?_⟩
  obtain ⟨dw, da, S⟩ := wa_open (S.s2 (by walk_at "sel"))
  walk_at "go"
  refine ⟨x, dx, _, _, _, rfl, S, fun H S => ⟨rfl, ?_⟩⟩
  walk_at "go"
  refine ⟨W, A, x, n, n, r, _, rfl, wn_shut (S.s1 (by walk_at "sel")), fun W' H S => ?_⟩
  have S1 := ar_shut (A := x) (L := p) (S.s2 (by walk_at "sel"))
  have S2 := ar_shut (A := A) (L := L) (S1.s2 (by walk_at "sel"))
  exact q W' x p _ (S2.s4 (by walk_at "sel"))
end

section
variable {P : Program} {w : World} {K : PySem.W.Frag} {mg : Str → Option Value} {base : Heap} {c_Array c_Window c_Told f_doubled f_exact : Addr}
/-- len(window) -/
def spLen (c_Window : Addr) : Sp := fun vs H Q _ => ∃ (W A : Addr) (n : Nat) (r : V) (R : List SP), vs = [.ref W] ∧ n ≤ 1000000 ∧ Sep (wnP c_Window W A n r :: R) H ∧ Q (.int n) H
theorem sc_Window_len : FnScope N_Window_len ["self"] (defScope s_Window_len) := ⟨rfl, rfl, rfl, by decide +kernel, rfl, by decide +kernel, by decide +kernel⟩
theorem ok_Window_len {f : Addr} (F : Mt K c_Window "__len__" "Window.__len__" s_Window_len ["self"] f) (T : Tx K mg c_Array c_Window c_Told f_doubled f_exact) : Mf P w K mg base 1 c_Window "__len__" ["self"] (spLen c_Window) := by
  refine F.ok T.cl_Window sc_Window_len (fun vs H Q E h => ?_) (fun cdv A outer s H vs Q E hr h => ?_)
  · obtain ⟨W, A, n, r, R, rfl, _⟩ := h
    rfl
  obtain ⟨W, A, n, r, R, rfl, hn, S, q⟩ := h
  refine ⟨_, (pss_one (ps_ret (pe_lenRng (pe_fldK K (pv 0)) T.z_len T.z_range))), ?_⟩
  obtain ⟨dw, S⟩ := wn_open S
  walk_at "go"
  refine r_lenRng ?_
  walk_at "go"
  exact ⟨n, rfl, by omega, q⟩
end

section
variable {P : Program} {w : World} {K : PySem.W.Frag} {mg : Str → Option Value} {base : Heap} {c_Array c_Window c_Told f_doubled f_exact : Addr}
/-- window[k] -/
def spGet (c_Array c_Window : Addr) : Sp := fun vs H Q _ => ∃ (W A L : Addr) (n k : Nat) (r : V) (ms : List Int) (s z : Int) (R : List SP), vs = [.ref W, .int k] ∧ k < n ∧ ms[k]? = some z ∧ Sep (wnP c_Window W A n r :: arP c_Array A L ms s :: R) H ∧ Q (.int z) H
theorem sc_Window_getitem : FnScope N_Window_getitem ["self", "at"] (defScope s_Window_getitem) := ⟨rfl, rfl, rfl, by decide +kernel, rfl, by decide +kernel, by decide +kernel⟩
theorem ok_Window_getitem {f f1 : Addr} (F : Mt K c_Window "__getitem__" "Window.__getitem__" s_Window_getitem ["self", "at"] f) (T : Tx K mg c_Array c_Window c_Told f_doubled f_exact) (D_is_number : Df P w K mg base 2 "is_number" f1 ["many", "thing"] spIsNum) : Mf P w K mg base 3 c_Window "__getitem__" ["self", "at"] (spGet c_Array c_Window) := by
  refine F.ok T.cl_Window sc_Window_getitem (fun vs H Q E h => ?_) (fun cdv A outer s H vs Q E hr h => ?_)
  · obtain ⟨W, A, L, n, k, r, ms, s, z, R, rfl, _⟩ := h
    rfl
  obtain ⟨W, A, L, n, k, r, ms, s, z, R, rfl, hk, hz, S, q⟩ := h
  refine ⟨_, (pss_cons (ps_if (pt_not (pt_val (pe_df D_is_number (hr.mono (by decide)) (pa_cons (pe_fldK K (pv 0)) (pa_cons (pv 1) pa_nil))))) (pss_one ps_never) pss_nil)
      (pss_one (ps_ret (pe_ix (r := rIx K) ix_seq (pe_fldK K (pe_fldK K (pv 0))) (pv 1) (fun _ _ => rfl))))), ?_⟩
  obtain ⟨dw, da, S⟩ := wa_open S
  walk_at "go"
  refine ⟨_, _, rfl, ?_⟩
  rw [decide_eq_true (show (0 : Int) ≤ (k : Int) ∧ (k : Int) < (n : Int) by omega)]
  walk_at "go"
  refine q_ixL (by walk_at "sq") (atI_nat (v := V.int z) (by rw [List.getElem?_map, hz]; rfl)) ?_
  exact q
end

section
variable {P : Program} {w : World} {K : PySem.W.Frag} {mg : Str → Option Value} {base : Heap} {c_Array c_Window c_Told f_doubled f_exact : Addr}
/-- window.cut(many) -/
def spCut (c_Array c_Window : Addr) : Sp := fun vs H Q _ => ∃ (W A : Addr) (n m : Nat) (r : V) (R : List SP), vs = [.ref W, .int m] ∧ 1 ≤ m ∧ m ≤ n ∧ Sep (wnP c_Window W A n r :: R) H ∧ ∀ W' H', Sep (wnP c_Window W' A m r :: wnP c_Window W A n r :: R) H' → Q (.ref W') H'
theorem sc_Window_cut : FnScope N_Window_cut ["self", "many"] (defScope s_Window_cut) := ⟨rfl, rfl, rfl, by decide +kernel, rfl, by decide +kernel, by decide +kernel⟩
theorem ok_Window_cut {f f1 : Addr} (F : Mt K c_Window "cut" "Window.cut" s_Window_cut ["self", "many"] f) (T : Tx K mg c_Array c_Window c_Told f_doubled f_exact) (D_is_integer : Df P w K mg base 1 "is_integer" f1 ["thing"] spIsInt) (M_on : Mf P w K mg base 5 c_Window "_on" ["self", "array", "length"] (spOn c_Array c_Window)) : Mf P w K mg base 6 c_Window "cut" ["self", "many"] (spCut c_Array c_Window) := by
  refine F.ok T.cl_Window sc_Window_cut (fun vs H Q E h => ?_) (fun cdv A outer s H vs Q E hr h => ?_)
  · obtain ⟨W, A, n, m, r, R, rfl, _⟩ := h
    rfl
  obtain ⟨W, A, n, m, r, R, rfl, h1, h2, S, q⟩ := h
  refine ⟨_, (pss_cons (ps_if (PW.pt (pw_or (pt_not (pt_val (pe_df D_is_integer (hr.mono (by decide)) (pa_cons (pv 1) pa_nil)))) (pw_or1 (pt_not (pt_chain (r := rLeI) (r' := rLeI) op_le op_le pe_int (pv 1) (pe_fldK K (pv 0))))))) (pss_one ps_never) pss_nil)
      (pss_one (ps_ret (pe_mf M_on (hr.mono (by decide)) (pv 0) (pa_cons (pe_fldK K (pv 0)) (pa_cons (pv 1) pa_nil)))))), ?_⟩
  obtain ⟨dw, S⟩ := wn_open S
  walk_at "go"
  refine ⟨_, rfl, ?_⟩
  walk_at "go"
  refine q_ite (fun hx => ?_) (fun hx => absurd (by omega) hx)
  walk_at "go"
  rw [decide_eq_true (show (m : Int) ≤ (n : Int) by omega)]
  walk_at "go"
  exact ⟨W, A, A, n, m, r, _, rfl, wn_shut S, fun W' H S => q W' H S⟩
end

section
variable {P : Program} {w : World} {K : PySem.W.Frag} {mg : Str → Option Value} {base : Heap} {c_Array c_Window c_Told f_doubled f_exact : Addr}
/-- window[k] = mark -/
def spSetW (c_Array c_Window : Addr) : Sp := fun vs H Q _ => ∃ (W A L : Addr) (n k : Nat) (r : V) (ms : List Int) (s z : Int) (R : List SP), vs = [.ref W, .int k, .int z] ∧ k < n ∧ n ≤ ms.length ∧ Sep (wnP c_Window W A n r :: arP c_Array A L ms s :: R) H ∧
  ∀ H', Sep (wnP c_Window W A n r :: arP c_Array A L (ms.set k z) s :: R) H' → Q .non H'
theorem sc_Window_setitem : FnScope N_Window_setitem ["self", "at", "worth"] (defScope s_Window_setitem) := ⟨rfl, rfl, rfl, by decide +kernel, rfl, by decide +kernel, by decide +kernel⟩
theorem ok_Window_setitem {f f1 : Addr} (F : Mt K c_Window "__setitem__" "Window.__setitem__" s_Window_setitem ["self", "at", "worth"] f) (T : Tx K mg c_Array c_Window c_Told f_doubled f_exact) (D_is_number : Df P w K mg base 2 "is_number" f1 ["many", "thing"] spIsNum) : Mf P w K mg base 3 c_Window "__setitem__" ["self", "at", "worth"] (spSetW c_Array c_Window) := by
  refine F.ok T.cl_Window sc_Window_setitem (fun vs H Q E h => ?_) (fun cdv A outer s H vs Q E hr h => ?_)
  · obtain ⟨W, A, L, n, k, r, ms, s, z, R, rfl, _⟩ := h
    rfl
  obtain ⟨W, A, L, n, k, r, ms, s, z, R, rfl, hk, hn, S, q⟩ := h
  refine ⟨_, (pss_cons (ps_if (pt_not (pt_val (pe_df D_is_number (hr.mono (by decide)) (pa_cons (pe_fldK K (pv 0)) (pa_cons (pv 1) pa_nil))))) (pss_one ps_never) pss_nil)
      (pss_one (ps_asg (pv 2) (pg_sub (pe_fldK K (pe_fldK K (pv 0))) (pv 1) set_list)))), ?_⟩
  obtain ⟨dw, da, S⟩ := wa_open S
  walk_at "go"
  refine ⟨_, _, rfl, ?_⟩
  rw [decide_eq_true (show (0 : Int) ≤ (k : Int) ∧ (k : Int) < (n : Int) by omega)]
  walk_at "go"
  have ix : ixN (ms.map V.int).length (k : Int) = some k := by
    unfold ixN
    rw [if_pos (by omega), if_pos (by rw [List.length_map]; omega), Int.toNat_natCast]
  refine q_setS S (by walk_at "rep") ix fun H S => ?_
  rw [← List.map_set] at S
  walk_at "go"
  exact q _ (wa_shut (S.s3 (by walk_at "sel")))
end

/-- what isinstance asks of an own class -/
structure OwnC (K : PySem.W.Frag) (C : Addr) : Prop where
  ha : PySem.W.findIn K (.ref C) "__class__" = some (some (.builtin "object.__class__"))
  hn : PySem.W.specialIn K (.builtin "object.__class__") "__get__" = some (some (.builtin "getset_descriptor.__get__"))
  ht : PySem.W.takesIn K (.builtin "object.__class__") = some true
  hm : PySem.W.mroIn K C (.type "object") = some true
  k1 : PySem.W.kitOne K (.ref C) (.ref C) = some true
  ne : PySem.W.findIn K (.ref C) "__ne__" = some (some (.builtin "object.__ne__"))
section
variable {P : Program} {w : World} {K : PySem.W.Frag} {mg : Str → Option Value} {base : Heap} {c_Array c_Window c_Told f_doubled f_exact : Addr}
/-- window == window -/
def spEqW (K : PySem.W.Frag) (c_Array c_Window : Addr) : Sp := fun vs H Q _ => ∃ (W1 W2 dx dy : Addr) (fs gs : List (Str × V)), vs = [.ref W1, .ref W2] ∧ H W1 = some (.ins c_Window dx fs) ∧ fs.lookup ("_seen" : Str) = none ∧ H W2 = some (.ins c_Window dy gs) ∧
  spSeen c_Array c_Window [.ref W1] H (fun v H1 => ∃ (dy : Addr) (gs : List (Str × V)), H1 W2 = some (.ins c_Window dy gs) ∧ gs.lookup ("_seen" : Str) = none ∧ spSeen c_Array c_Window [.ref W2] H1 (fun v2 H2 => ∃ (p q : Addr) (m1 m2 : List Int), v = .ref p ∧ v2 = .ref q ∧ SqL K H2 p (m1.map V.int) ∧ SqL K H2 q (m2.map V.int) ∧ Q (.bl (decide (m1 = m2))) H2) E0) E0
theorem sc_Window_eq : FnScope N_Window_eq ["self", "other"] (defScope s_Window_eq) := ⟨rfl, rfl, rfl, by decide +kernel, rfl, by decide +kernel, by decide +kernel⟩
theorem ok_Window_eq {f : Addr} (F : Mt K c_Window "__eq__" "Window.__eq__" s_Window_eq ["self", "other"] f) (T : Tx K mg c_Array c_Window c_Told f_doubled f_exact) (gW : mg "Window" = some (.ref c_Window)) (oc : OwnC K c_Window) (M_seen : Mf P w K mg base 1 c_Window "_seen" ["self"] (spSeen c_Array c_Window)) :
    Mf P w K mg base 2 c_Window "__eq__" ["self", "other"] (spEqW K c_Array c_Window) := by
  refine F.ok T.cl_Window sc_Window_eq (fun vs H Q E h => ?_) (fun cdv A outer s H vs Q E hr h => ?_)
  · obtain ⟨W1, W2, dx, dy, fs, gs, rfl, _⟩ := h
    rfl
  obtain ⟨W1, W2, dx, dy, fs, gs, rfl, h1, hl, h2, q⟩ := h
  refine ⟨_, (pss_one (ps_ret (pe_and (pe_callB (r := rIsi K) call_isi (by rfl) T.z_isinstance (by decide +kernel) (pa_cons (pv 1) (pa_cons (pe_glob (v := .ref c_Window) rfl gW rfl) pa_nil))) (pe_one (pe_cmpR (r := rEqA K) (op_eqA hr.units) (pe_mf0 M_seen (hr.mono (by decide)) (pv 0)) (pe_mf0 M_seen (hr.mono (by decide)) (pv 1)) (nomark _)))))), ?_⟩
  walk_at "go"
  refine ⟨_, _, _, _, true, rfl, .own c_Window, .base (.ins h2 T.cl_Window oc.ha oc.hn oc.ht oc.hm), oc.k1, ?_⟩
  walk_at "go"
  refine ⟨W1, dx, fs, rfl, h1, hl, ?_⟩
  walk_at "go"
  obtain ⟨W', A', L', n', r', ms', s', R', e1, S1, k1⟩ := q
  refine ⟨W', A', L', n', r', ms', s', R', e1, S1, fun p H' S => ?_⟩
  obtain ⟨dy, gs, h3, hl3, q2⟩ := k1 p H' S
  walk_at "go"
  refine ⟨W2, dy, gs, rfl, h3, hl3, ?_⟩
  walk_at "go"
  obtain ⟨W'', A'', L'', n'', r'', ms'', s'', R'', e2, S2, k2⟩ := q2
  refine ⟨W'', A'', L'', n'', r'', ms'', s'', R'', e2, S2, fun p2 H2 S => ?_⟩
  obtain ⟨p3, q3, m1, m2, e3, e4, l1, l2, q4⟩ := k2 p2 H2 S
  cases e3
  cases e4
  refine r_eq_ints l1 l2 ?_
  exact q4
end

section
variable {P : Program} {w : World} {K : PySem.W.Frag} {mg : Str → Option Value} {base : Heap} {c_Array c_Window c_Told f_doubled f_exact : Addr}
theorem sc_Window_iadd : FnScope N_Window_iadd ["self", "other"] (defScope s_Window_iadd) := ⟨rfl, rfl, rfl, by decide +kernel, rfl, by decide +kernel, by decide +kernel⟩
theorem ok_Window_iadd {f : Addr} (F : Mt K c_Window "__iadd__" "Window.__iadd__" s_Window_iadd ["self", "other"] f) (T : Tx K mg c_Array c_Window c_Told f_doubled f_exact) (M_put : Mf P w K mg base 6 c_Window "put" ["self", "marks"] (spPut c_Array c_Window c_Told f_doubled f_exact)) : Mf P w K mg base 7 c_Window "__iadd__" ["self", "other"] (spPut c_Array c_Window c_Told f_doubled f_exact) := by
  refine F.ok T.cl_Window sc_Window_iadd (fun vs H Q E h => ?_) (fun cdv A outer s H vs Q E hr h => ?_)
  · obtain ⟨W, A, L, M, n, r, ms, xs, s, R, rfl, _⟩ := h
    rfl
  obtain ⟨W, A, L, M, n, r, ms, xs, s, R, rfl, hn, hs, h0, hl, hm, S, q1, q2⟩ := h
  refine ⟨_, (pss_one (ps_ret (pe_mf M_put (hr.mono (by decide)) (pv 0) (pa_cons (pv 1) pa_nil)))), ?_⟩
  walk_at "go"
  obtain ⟨dw, Sw⟩ := wn_open (S.s1 (A := wnP c_Window W A n (r.v f_doubled f_exact)) (by walk_at "sel"))
  refine ⟨W, _, _, rfl, Sw.hd_at, rfl, ?_⟩
  walk_at "go"
  exact ⟨W, A, L, M, n, r, ms, xs, s, R, rfl, hn, hs, h0, hl, hm, S, q1, q2⟩
end

/-- the drawing bag at b -/
def bag (b : Addr) : SP := fun G => ∃ (x y z : Int) (c : Addr) (ns : List Int), 0 ≤ z ∧ Sep [pt b (.lst [.int x, .int y, .int z, .ref c]), pt c (.lst (ns.map V.int))] G
def spTake : Sp := fun vs H Q _ => ∃ (b : Addr) (n : Int) (R : List SP), vs = [.ref b, .int n] ∧ 0 < n ∧ n < 1073741824 ∧ Sep (bag b :: R) H ∧ ∀ v H', 0 ≤ v → v < n → Sep (bag b :: R) H' → Q (.int v) H'
def spBag (K : PySem.W.Frag) : Sp := fun vs H Q _ => ∃ (a : Addr) (ns : List Int) (R : List SP), vs = [.ref a] ∧ SqL K H a (ns.map V.int) ∧ ns.length ≤ 63 ∧ Sep R H ∧ ∀ b H', Sep (bag b :: R) H' → Q (.ref b) H'
theorem bag_open {b : Addr} {R : List SP} {H : Hp} (S : Sep (bag b :: R) H) : ∃ (x y z : Int) (c : Addr) (ns : List Int), 0 ≤ z ∧ Sep (pt b (.lst [.int x, .int y, .int z, .ref c]) :: pt c (.lst (ns.map V.int)) :: R) H := by
  obtain ⟨x, S⟩ := S.ex
  obtain ⟨y, S⟩ := S.ex
  obtain ⟨z, S⟩ := S.ex
  obtain ⟨c, S⟩ := S.ex
  obtain ⟨ns, S⟩ := S.ex
  obtain ⟨hz, S⟩ := S.pure
  exact ⟨x, y, z, c, ns, hz, S.flat⟩
theorem bag_shut {b : Addr} {R : List SP} {H : Hp} {x y z : Int} {c : Addr} {ns : List Int} (hz : 0 ≤ z) (S : Sep (pt b (.lst [.int x, .int y, .int z, .ref c]) :: pt c (.lst (ns.map V.int)) :: R) H) : Sep (bag b :: R) H :=
  Sep.ex_in x (Sep.ex_in y (Sep.ex_in z (Sep.ex_in c (Sep.ex_in ns (Sep.pure_in hz (Sep.unflat (As := [_, _]) S))))))
section
variable {P : Program} {w : World} {K : PySem.W.Frag} {mg : Str → Option Value} {base : Heap}
theorem sc_l_take : FnScope N_l_take ["_law_bag_here", "_law_many"] (defScope s_l_take) := ⟨rfl, rfl, rfl, by decide +kernel, rfl, by decide +kernel, by decide +kernel⟩
theorem ok_l_take {c_Array c_Window f_doubled : Addr} {f : Addr} (F : Dt K mg "_law_take" s_l_take ["_law_bag_here", "_law_many"] f) (T : Txt K mg c_Array c_Window c_Told f_doubled f_exact) : Df P w K mg base 1 "_law_take" f ["_law_bag_here", "_law_many"] spTake := by
  refine F.ok sc_l_take (fun vs H Q E h => ?_) (fun cdv A outer s H vs Q E hr h => ?_)
  · obtain ⟨b, n, R, rfl, _⟩ := h
    rfl
  obtain ⟨b, n, R, rfl, h0, h1, S, q⟩ := h
  refine ⟨_, (C8.pss_cut (ps_if (pt_cmpR (r := rEqA K) (op_eqA hr.units) (pe_ix (r := rIx K) ix_seq (pv 0) pe_int (fun _ _ => rfl)) pe_int (nomark _)) (pss_cons (ps_set (i := 2) sc_l_take.nd rfl (by first | exact Or.inl rfl | exact Or.inr rfl) pe_int)
      (C8.pss_cut (ps_if (pt_cmpR (r := rLtI) op_lt (pe_ix (r := rIx K) ix_seq (pv 0) pe_int (fun _ _ => rfl)) (pe_callB (r := cOr (cLenQ K) cLenS) call_lenA (by rfl) T.z_len (by decide +kernel) (pa_cons (pe_ix (r := rIx K) ix_seq (pv 0) pe_int (fun _ _ => rfl)) pa_nil)) (nomark _)) (pss_one (ps_set (i := 2) sc_l_take.nd rfl (by first | exact Or.inl rfl | exact Or.inr rfl) (pe_ix (r := rIx K) ix_seq (pe_ix (r := rIx K) ix_seq (pv 0) pe_int (fun _ _ => rfl)) (pe_ix (r := rIx K) ix_seq (pv 0) pe_int (fun _ _ => rfl)) (fun _ _ => rfl)))) pss_nil)
      (pss_cons (ps_augS (tget := rIxL K) (pv 0) pe_int get_list pe_int ip_add set_list)
      (C8.pss_cut (ps_if (pt_cmpR (r := rGeI) op_ge (pv 2) pe_int (nomark _)) (pss_one (ps_asg (pv 2) (pg_sub (pv 0) pe_int set_list))) pss_nil)
      (pss_cons (ps_set (i := 3) sc_l_take.nd rfl (by first | exact Or.inl rfl | exact Or.inr rfl) (pe_op (r := rAddA) op_addA (pe_op (r := rAddA) op_addA (pe_op (r := rMulA) op_mulA (pe_ix (r := rIx K) ix_seq (pv 0) pe_int (fun _ _ => rfl)) pe_int) (pe_op (r := rModI) op_mod (pe_callTy (r := cInt) call_int1 (by rfl) T.z_int (by decide +kernel) (pa_cons (pv 2) pa_nil)) pe_int)) (pe_op (r := rMulA) op_mulA pe_int (pe_ix (r := rIx K) ix_seq (pv 0) pe_int (fun _ _ => rfl)))))
      (pss_one (ps_asg (pe_op (r := rModI) op_mod (pe_callTy (r := cInt) call_int1 (by rfl) T.z_int (by decide +kernel) (pa_cons (pv 3) pa_nil)) pe_int) (pg_sub (pv 0) pe_int set_list)))))))) pss_nil)
      (pss_cons (ps_if (pt_cmpR (r := rGtI) op_gt (pe_ix (r := rIx K) ix_seq (pv 0) pe_int (fun _ _ => rfl)) pe_int (nomark _)) (pss_cons (ps_set (i := 4) sc_l_take.nd rfl (by first | exact Or.inl rfl | exact Or.inr rfl) (pe_op (r := rModI) op_mod (pe_callTy (r := cInt) call_int1 (by rfl) T.z_int (by decide +kernel) (pa_cons (pe_ix (r := rIx K) ix_seq (pv 0) pe_int (fun _ _ => rfl)) pa_nil)) (pv 1)))
      (pss_cons (ps_asg (pe_op (r := rDivI) op_fdiv (pe_ix (r := rIx K) ix_seq (pv 0) pe_int (fun _ _ => rfl)) (pv 1)) (pg_sub (pv 0) pe_int set_list))
      (pss_one (ps_ret (pv 4))))) pss_nil)
      (pss_cons (ps_set (i := 5) sc_l_take.nd rfl (by first | exact Or.inl rfl | exact Or.inr rfl) (pe_op (r := rModI) op_mod (pe_callTy (r := cInt) call_int1 (by rfl) T.z_int (by decide +kernel) (pa_cons (pe_op (r := rMulA) op_mulA (pe_op (r := rAddA) op_addA (pe_ix (r := rIx K) ix_seq (pv 0) pe_int (fun _ _ => rfl)) pe_int) pe_int) pa_nil)) pe_int))
      (pss_cons (ps_set (i := 6) sc_l_take.nd rfl (by first | exact Or.inl rfl | exact Or.inr rfl) (pe_op (r := rModI) op_mod (pe_callTy (r := cInt) call_int1 (by rfl) T.z_int (by decide +kernel) (pa_cons (pe_op (r := rMulA) op_mulA (pe_op (r := rModI) op_mod (pe_callTy (r := cInt) call_int1 (by rfl) T.z_int (by decide +kernel) (pa_cons (pe_op (r := rMulA) op_mulA (pv 5) (pv 5)) pa_nil)) pe_int) pe_int) pa_nil)) pe_int))
      (pss_cons (ps_if (pt_cmpR (r := rGtI) op_gt (pv 1) pe_int (nomark _)) (pss_one (ps_ret (pe_op (r := rModI) op_mod (pe_callTy (r := cInt) call_int1 (by rfl) T.z_int (by decide +kernel) (pa_cons (pe_op (r := rAddA) op_addA (pe_op (r := rMulA) op_mulA (pv 6) pe_int) (pv 5)) pa_nil)) (pv 1)))) pss_nil)
      (pss_one (ps_ret (pe_op (r := rModI) op_mod (pe_callTy (r := cInt) call_int1 (by rfl) T.z_int (by decide +kernel) (pa_cons (pe_op (r := rDivI) op_fdiv (pv 6) pe_int) pa_nil)) (pv 1))))))))), ?_⟩
  obtain ⟨x, y, z, c, ns, hz, S⟩ := bag_open S
  refine q_cut (Mid := fun σ H => ∃ u2 u3, σ = [some (.ref b), some (.int n), u2, u3, none, none, none] ∧ ∃ (x y z : Int) (c : Addr) (ns : List Int), 0 ≤ z ∧ Sep (pt b (.lst [.int x, .int y, .int z, .ref c]) :: pt c (.lst (ns.map V.int)) :: R) H) ?_ ?_
  · walk_at "go"
    refine q_ite (fun hx => ?_) (fun hx => ?_)
    · walk_at "go"
      refine q_cut (Mid := fun σ H => ∃ u, σ = [some (.ref b), some (.int n), some (.int u), none, none, none, none] ∧ Sep (pt b (.lst [.int x, .int y, .int z, .ref c]) :: pt c (.lst (ns.map V.int)) :: R) H) ?_ ?_
      · walk_at "go"
        refine q_ite (fun hl => ?_) (fun hl => ?_)
        · walk_at "go"
          rw [List.length_map] at hl
          obtain ⟨j, rfl⟩ := Int.eq_ofNat_of_zero_le hz
          refine q_ixL (by walk_at "sq") (atI_nat (v := V.int (ns[j]'(by omega))) (by simp)) ?_
          exact ⟨_, rfl, S⟩
        · exact ⟨_, rfl, S⟩
      rintro σ H ⟨u, rfl, S⟩
      walk_at "go"
      refine q_cut (Mid := fun σ H => σ = [some (.ref b), some (.int n), some (.int u), none, none, none, none] ∧ ∃ x', Sep (pt b (.lst [.int x', .int y, .int (z + 1), .ref c]) :: pt c (.lst (ns.map V.int)) :: R) H) ?_ ?_
      · walk_at "go"
        refine q_ite (fun hu => ?_) (fun hu => ?_)
        · walk_at "go"
          exact ⟨rfl, _, S⟩
        · exact ⟨rfl, _, S⟩
      rintro σ H ⟨rfl, x', S⟩
      walk_at "go"
      exact ⟨_, _, rfl, _, _, _, _, _, by omega, S⟩
    · exact ⟨_, _, rfl, _, _, _, _, _, hz, S⟩
  rintro σ H ⟨u2, u3, rfl, x, y, z, c, ns, hz, S⟩
  walk_at "go"
  refine q_ite (fun hx => ?_) (fun hx => ?_)
  · walk_at "go"
    exact q _ _ (Int.emod_nonneg _ (by omega)) (Int.emod_lt_of_pos _ h0) (bag_shut hz S)
  · walk_at "go"
    refine q_ite (fun hm => ?_) (fun hm => ?_)
    · walk_at "go"
      exact q _ _ (Int.emod_nonneg _ (by omega)) (Int.emod_lt_of_pos _ h0) (bag_shut hz S)
    · walk_at "go"
      exact q _ _ (Int.emod_nonneg _ (by omega)) (Int.emod_lt_of_pos _ h0) (bag_shut hz S)
theorem sc_l_bag : FnScope N_l_bag ["_law_script"] (defScope s_l_bag) := ⟨rfl, rfl, rfl, by decide +kernel, rfl, by decide +kernel, by decide +kernel⟩
theorem ok_l_bag {c_Array c_Window f_doubled : Addr} {f : Addr} (F : Dt K mg "_law_bag" s_l_bag ["_law_script"] f) (T : Txt K mg c_Array c_Window c_Told f_doubled f_exact) : Df P w K mg base 1 "_law_bag" f ["_law_script"] (spBag K) := by
  refine F.ok sc_l_bag (fun vs H Q E h => ?_) (fun cdv A outer s H vs Q E hr h => ?_)
  · obtain ⟨a, ns, R, rfl, _⟩ := h
    rfl
  obtain ⟨a, ns, R, rfl, hq, hl, S, q⟩ := h
  refine ⟨_, (pss_one (ps_ret (pe_lst (pa_cons pe_int (pa_cons pe_int (pa_cons pe_int (pa_cons (pe_lc (own := [("_law_cell", 1)]) rfl sc_l_bag.nd (pi_listK K (pe_slice (r := rSlL K) sl_list (pv 0) po_none (po_some pe_int))) (blkOk_by (own := [("_law_cell", 1)]) (N := N_l_bag) (sc := defScope s_l_bag) (by decide +kernel)) (fun _ _ _ _ _ => (pg_name (i := 1) sc_l_bag.nd rfl (by first | exact Or.inl rfl | exact Or.inr rfl))) (fun _ _ _ _ _ => pts_nil) (fun _ _ _ _ _ => (pe_callB (r := cAbs) call_abs (by rfl) T.z_abs (by decide +kernel) (pa_cons (pv 1) pa_nil)))) pa_nil))))))), ?_⟩
  walk_at "go"
  have ec : cutV (ns.map V.int) none (some (63 : Int)) = (ns.take 63).map V.int := by
    have := cut_take (xs := ns.map V.int) (n := 63)
    rw [List.map_take]
    exact this
  rw [ec] at S
  have hm : (ns.take 63).length ≤ 63 := by simp; omega
  generalize ns.take 63 = ms at S hm
  refine r_lc_list (xs := ms.map V.int) (fun i acc Ps => ∃ zs : List Int, acc = zs.map V.int ∧ zs.length = i ∧ Ps = pt p (.lst (ms.map V.int)) :: R) S ⟨[], rfl, rfl, rfl⟩ (fun D i acc Ps H hi ⟨_, _, _, e⟩ S => by subst e; walk_at "sq") (by walk_at "sq") ?_ ?_
  · rintro D i x acc Ps H hi ⟨zs, rfl, ez, rfl⟩ S
    obtain ⟨z, hz, rfl⟩ : ∃ z, ms[i]? = some z ∧ V.int z = x := by
      rw [List.getElem?_map] at hi
      cases e : ms[i]? with
      | none => rw [e] at hi; cases hi
      | some z => rw [e] at hi; exact ⟨z, rfl, Option.some.inj hi⟩
    walk_at "go"
    refine ⟨rfl, ?_⟩
    walk_at "go"
    have hi' := (List.getElem?_eq_some_iff.mp hz).1
    refine cn_in S (by rw [List.length_map]; omega) ⟨zs ++ [if z < 0 then -z else z], by simp, by simp [ez], rfl⟩
  · rintro D acc Ps H ⟨zs, rfl, ez, rfl⟩ S
    walk_at "go"
    exact q _ _ (bag_shut (x := 0) (y := 1234567891) (z := 0) (c := D) (ns := zs) (by decide) (S.s2 (by walk_at "sel")))
end

section
variable {P : Program} {w : World} {K : PySem.W.Frag} {mg : Str → Option Value} {base : Heap} {c_Array c_Window c_Told f_doubled f_exact : Addr}
/-- a new list of one to n ints -/
def spDraw : Sp := fun vs H Q _ => ∃ (b : Addr) (n : Int) (R : List SP), vs = [.ref b, .int n] ∧ 0 < n ∧ n ≤ 1000 ∧ Sep (bag b :: R) H ∧ ∀ p (ns : List Int) H', ns ≠ [] → (ns.length : Int) ≤ n → (∀ z ∈ ns, z.natAbs < 10 ^ 60) → Sep (pt p (.lst (ns.map V.int)) :: bag b :: R) H' → Q (.ref p) H'
theorem sc_l_draw_marks : FnScope N_l_draw_marks ["_law_bag_here", "_law_many"] (defScope s_l_draw_marks) := ⟨rfl, rfl, rfl, by decide +kernel, rfl, by decide +kernel, by decide +kernel⟩
theorem ok_l_draw_marks {f f1 : Addr} (F : Dt K mg "_law_draw_marks" s_l_draw_marks ["_law_bag_here", "_law_many"] f) (T : Tx K mg c_Array c_Window c_Told f_doubled f_exact) (D_l_take : Df P w K mg base 1 "_law_take" f1 ["_law_bag_here", "_law_many"] spTake) :
    Df P w K mg base 2 "_law_draw_marks" f ["_law_bag_here", "_law_many"] spDraw := by
  refine F.ok sc_l_draw_marks (fun vs H Q E h => ?_) (fun cdv A outer s H vs Q E hr h => ?_)
  · obtain ⟨b, n, R, rfl, _⟩ := h
    rfl
  obtain ⟨b, n, R, rfl, h0, h1, S, q⟩ := h
  refine ⟨_, (pss_cons (ps_set (i := 2) sc_l_draw_marks.nd rfl (by first | exact Or.inl rfl | exact Or.inr rfl) (pe_lst (pa_cons pe_int (pa_cons pe_int (pa_cons pe_int (pa_cons pe_int (pa_cons pe_int (pa_cons (pe_un un_neg pe_int) (pa_cons pe_int (pa_cons (pe_op (r := rPowI) op_pow pe_int pe_int) (pa_cons (pe_un un_neg (pe_op (r := rPowI) op_pow pe_int pe_int)) pa_nil)))))))))))
      (pss_one (ps_ret (pe_lc (own := [("_law_k", 3)]) rfl sc_l_draw_marks.nd (pi_range1 rfl T.z_range (pa_cons (pe_op (r := rAddA) op_addA pe_int (pe_df D_l_take (hr.mono (by decide)) (pa_cons (pv 0) (pa_cons (pv 1) pa_nil)))) pa_nil)) (blkOk_by (own := [("_law_k", 3)]) (N := N_l_draw_marks) (sc := defScope s_l_draw_marks) (by decide +kernel)) (fun _ _ _ _ _ => (pg_name (i := 3) sc_l_draw_marks.nd rfl (by first | exact Or.inl rfl | exact Or.inr rfl))) (fun _ _ _ _ _ => pts_nil) (fun _ _ _ _ _ => (pe_ix (r := rIx K) ix_seq (pv 2) (pe_df D_l_take (hr.mono (by decide)) (pa_cons (pv 0) (pa_cons pe_int pa_nil))) (fun _ _ => rfl))))))), ?_⟩
  walk_at "go"
  generalize he : [V.int 0, V.int 1, V.int 2, V.int 3, V.int 3, V.int (-1), V.int 7, V.int (10 ^ (39 : Int).toNat), V.int (-10 ^ (20 : Int).toNat)] = es at S
  have hes : es.length = 9 := by rw [← he]; rfl
  have hints9 : ∀ x ∈ es, ∃ z : Int, x = .int z ∧ z.natAbs < 10 ^ 60 := by
    rw [← he]
    intro x hx
    simp only [List.mem_cons, List.not_mem_nil, or_false] at hx
    rcases hx with h | h | h | h | h | h | h | h | h <;> exact ⟨_, h, by decide⟩
  walk_at "go"
  refine ⟨b, n, _, rfl, h0, by omega, S.s1 (by walk_at "sel"), fun v H hv0 hv1 S => ?_⟩
  walk_at "go"
  refine r_lc_rng (fun i acc Ps => ∃ zs : List Int, acc = zs.map V.int ∧ zs.length = i ∧ (∀ z ∈ zs, z.natAbs < 10 ^ 60) ∧ Ps = bag b :: pt p (.lst es) :: R) S (by omega) (by omega) ⟨[], rfl, rfl, by simp, rfl⟩ ?_ ?_
  · rintro D i acc Ps H hi ⟨zs, rfl, ez, hz, rfl⟩ S
    walk_at "go"
    refine ⟨rfl, ?_⟩
    walk_at "go"
    refine ⟨b, 9, _, rfl, by decide, by decide, S.s1 (by walk_at "sel"), fun u H hu0 hu1 S => ?_⟩
    obtain ⟨x, hx, hm⟩ := at_i (xs := es) hu0 (by omega)
    obtain ⟨z, rfl, hz6⟩ := hints9 _ hm
    refine q_ixL (by walk_at "sq") hx ?_
    refine cn_in (S.s3 (by walk_at "sel")) (by rw [List.length_map]; omega) ⟨zs ++ [z], by simp, by simp [ez], fun z' hz' => (List.mem_append.mp hz').elim (hz z') (fun h => List.mem_singleton.mp h ▸ hz6), rfl⟩
  · rintro D acc Ps H ⟨zs, rfl, ez, hz, rfl⟩ S
    refine q _ zs _ (fun e => by rw [e] at ez; simp at ez; omega) (by omega) hz (S.s2 (by walk_at "sel"))
end

section
variable {P : Program} {w : World} {K : PySem.W.Frag} {mg : Str → Option Value} {base : Heap} {c_Array c_Window c_Told f_doubled f_exact : Addr}
/-! ### two things that are equal, and shown alike -/
def spAlike (K : PySem.W.Frag) : Sp := fun vs H Q _ => ∃ (a b : Addr) (d : PyData), vs = [.ref a, .ref b] ∧ Dp K H (.ref a) d ∧ Dp K H (.ref b) d ∧ Okd 60 d ∧ d.showable = true ∧ d.hasDict = false ∧ d.shown.length ≤ sizeLine ∧ Q (.bl true) H
theorem sc_l_alike : FnScope N_l_alike ["_law_found", "_law_due"] (defScope s_l_alike) := ⟨rfl, rfl, rfl, by decide +kernel, rfl, by decide +kernel, by decide +kernel⟩
theorem ok_l_alike {f : Addr} (F : Dt K mg "_law_alike" s_l_alike ["_law_found", "_law_due"] f) (T : Tx K mg c_Array c_Window c_Told f_doubled f_exact) : Dg P w K mg base 1 "_law_alike" f ["_law_found", "_law_due"] (spAlike K) := by
  refine F.okG sc_l_alike (fun vs H Q E h => ?_) (fun cdv A outer s H vs Q E hg hr h => ?_)
  · obtain ⟨a, b, d, rfl, _⟩ := h
    rfl
  obtain ⟨a, b, d, rfl, h1, h2, ok, hs, hn, hz, q⟩ := h
  refine ⟨_, (pss_one (ps_ret (pe_and (pe_cmpR (r := rEqA K) (op_eqA hr.units) (pv 0) (pv 1) (nomark _)) (pe_one (pe_cmpR (r := rEqA K) (op_eqA hr.units) (pe_callB (r := cRepr K) (call_reprA hg hr.units) (by rfl) T.z_repr (by decide +kernel) (pa_cons (pv 0) pa_nil)) (pe_callB (r := cRepr K) (call_reprA hg hr.units) (by rfl) T.z_repr (by decide +kernel) (pa_cons (pv 1) pa_nil)) (nomark _)))))), ?_⟩
  walk_at "go"
  refine r_eq_same h1 h2 ok (by decide) ?_
  walk_at "go"
  refine ⟨a, d, rfl, h1, hs, hn, ok.2, hz, ?_⟩
  walk_at "go"
  refine ⟨b, d, rfl, h2, hs, hn, ok.2, hz, ?_⟩
  refine .inl ⟨rfl, ?_⟩
  rw [decide_eq_true (rfl : V.str d.shown = V.str d.shown)]
  exact q
end

end Pf

set_option Elab.async false
set_option linter.all false
set_option maxRecDepth 100000
set_option maxHeartbeats 16000000
namespace Pf
open PySem L2 Kt
set_option hygiene false
local macro_rules | `(tactic| walk_at "mem") => `(tactic| (with_reducible (repeat (first | exact Pick.hd | apply Pick.tl)); done))
local macro_rules | `(tactic| walk_at "rep") => `(tactic| (with_reducible (repeat (first | exact Repl.hd | apply Repl.tl)); done))
local macro_rules | `(tactic| walk_at "sel") => `(tactic| ((repeat (with_reducible apply Sel.cons; (focus walk_at "mem"))); (with_reducible apply Sel.nil); (with_reducible (repeat (first | exact Dr.all | apply Dr.skip)); done)))
local macro_rules | `(tactic| walk_at "at") => `(tactic| (refine' Sep.at_ (by assumption) ?kkpk; (case kkpk => walk_at "mem")))
local macro_rules | `(tactic| walk_at "sq") => `(tactic| first | assumption | (refine' Sep.sq (by assumption) ?kkpk; (case kkpk => walk_at "mem")))
local macro_rules | `(tactic| walk_at "st") => `(tactic| first | assumption | (refine' Sep.st (by assumption) ?kkpk; (case kkpk => walk_at "mem")))
local macro_rules | `(tactic| walk_at "lk") => `(tactic| (repeat (first | (with_reducible exact lk_eq) | exact rfl | refine (lk_ne (by decide +kernel)).trans ?_)))
local macro_rules | `(tactic| walk_at "pf") => `(tactic| (repeat (first | (with_reducible exact pf_nil) | (with_reducible exact pf_eq) | (apply pf_ne; (focus decide +kernel)))))
local macro_rules | `(tactic| walk_at "ty") => `(tactic| first | exact ty_int | (refine' ty_lst ?kkh; (case kkh => walk_at "at")))
local macro_rules | `(tactic| walk_at "k1") => `(tactic| with_reducible first
  | refine q_seq ?_ | refine q_set ?_ | refine q_asg ?_ | refine q_ret ?_ | refine q_drop ?_ | refine q_next ?_ | refine q_c ?_ | refine q_op ?_ | refine q_un ?_ | refine q_nil ?_ | refine q_cons ?_ | refine q_cb ?_
  | refine q_call ?_ | refine q_ifs ?_ | refine q_if ?_ | refine q_test ?_ | refine q_tb ?_ | refine q_bl ?_ | refine q_notT ?_ | refine q_andT ?_ | refine q_orT ?_ | refine q_andV ?_ | refine q_orV ?_ | refine q_notV ?_
  | refine q_addA ?_ | refine q_subI ?_ | refine q_ltI ?_ | refine q_leI ?_ | refine q_gtI ?_ | refine q_geI ?_ | refine q_eqI ?_ | refine q_neI ?_ | refine q_abs ?_ | refine q_int ?_ | refine q_intB ?_ | refine q_max ?_ | refine q_min ?_
  | refine q_ipAdd ?_ | refine q_ipSub ?_ | refine q_gsub ?_ | refine q_augs ?_ | refine q_lst ?_ | refine q_tup ?_ | refine q_blI ?_ | refine iteT ?_ | refine iteF ?_ | refine iteNT ?_ | refine iteNF ?_
  | refine r_prop ?_ | refine r_fld ?_ | refine r_sfld ?_ | refine r_meth ?_ | refine r_make ?_ | refine r_sl ?_ | refine r_nopart ?_ | refine r_part ?_ | refine r_parti ?_ | refine r_gsl ?_ | refine r_bm ?_ | refine r_bm0 ?_ | refine r_for ?_ | refine r_ilist ?_ | refine r_irng ?_
  | refine r_gname ?_ | refine r_gcons ?_ | refine r_gnil ?_ | refine r_par ?_ | refine r_parA ?_ | refine r_chain ?_ | refine r_isN ?_ | refine r_tlc ?_ | refine r_yes ?_ | refine r_makek ?_ | refine r_neg ?_)
local macro_rules | `(tactic| walk_at "k2") => `(tactic| first
  | ((with_reducible refine' q_var ?kke ?_); (case kke => rfl))
  | ((with_reducible refine' q_aug ?kke ?_); (case kke => rfl))
  | ((with_reducible refine' q_ixL ?kks ?kke ?_); (case kks => walk_at "sq"); (case kke => first | rfl | assumption))
  | ((with_reducible refine' q_ixT ?kks ?kke ?_); (case kks => walk_at "st"); (case kke => first | rfl | assumption))
  | ((with_reducible refine' q_ixLL ?kks ?kke ?_); (case kks => walk_at "sq"); (case kke => first | rfl | assumption))
  | ((with_reducible refine' q_lenL ?kks ?_); (case kks => walk_at "sq"))
  | ((with_reducible refine' q_mulI ?kkc ?_); (case kkc => first | exact .inl (by omega) | exact .inr (by omega)))
  | ((with_reducible refine' q_modI ?kkc ?_); (case kkc => omega))
  | ((with_reducible refine' q_divI ?kkc ?_); (case kkc => exact ⟨by omega, by omega⟩))
  | ((with_reducible refine' q_powI ?kkc ?_); (case kkc => exact ⟨by decide, by decide, by decide⟩))
  | ((with_reducible refine' r_kfld ?kkS ?kkp ?kkc ?kkn ?kkl ?_); (case kkS => assumption); (case kkp => walk_at "mem"); (case kkc => walk_at "cls"); (case kkn => walk_at "na"); (case kkl => walk_at "lk"))
  | ((with_reducible refine' r_kprop ?kkS ?kkp ?_); (case kkS => assumption); (case kkp => walk_at "mem"))
  | ((with_reducible refine' r_kmeth ?kkS ?kkp ?kkl ?_); (case kkS => assumption); (case kkp => walk_at "mem"); (case kkl => walk_at "lk"))
  | ((with_reducible refine' r_calll ?kks ?_); (case kks => rfl))
  | ((with_reducible refine' r_tyl ?kks ?_); (case kks => walk_at "sq"))
  | ((with_reducible refine' r_isi (k := true) ?kkt ?kke ?_); (case kkt => walk_at "ty"); (case kke => decide +kernel))
  | ((with_reducible refine' r_isi (k := false) ?kkt ?kke ?_); (case kkt => walk_at "ty"); (case kke => decide +kernel)))
local macro_rules | `(tactic| walk_at "k3") => `(tactic| first
  | ((with_reducible refine' q_setS ?kkS ?kkr ?kke ?_); (case kkS => assumption); (case kkr => walk_at "rep"); (case kke => rfl); intro H S)
  | ((with_reducible refine' r_kset ?kkS ?kkr ?kkc ?kkn ?kkl ?kke ?_); (case kkS => assumption); (case kkr => walk_at "rep"); (case kkc => walk_at "cls"); (case kkn => walk_at "na"); (case kkl => first | exact Nat.le_of_ble_eq_true rfl | assumption | omega | (simp; done) | (simp; omega)); (case kke => walk_at "pf"); intro H S)
  | ((with_reducible refine' q_new ?kkS ?kkl ?_); (case kkS => assumption); (case kkl => first | exact Nat.le_of_ble_eq_true rfl | assumption | omega | (simp; done) | (simp; omega)); intro p H S)
  | ((with_reducible refine' q_newT ?kkS ?kkl ?_); (case kkS => assumption); (case kkl => first | exact Nat.le_of_ble_eq_true rfl | assumption | omega | (simp; done) | (simp; omega)); intro p H S)
  | ((with_reducible refine' r_knew ?kkS ?_); (case kkS => assumption); intro x dx H S)
  | ((with_reducible refine' r_knewk ?kkS ?kkl1 ?kkl2 ?_); (case kkS => assumption); (case kkl1 => rfl); (case kkl2 => rfl); intro x dx H S)
  | ((with_reducible refine' r_ksl ?kkS ?kks ?_); (case kkS => assumption); (case kks => walk_at "sq"); intro p H S)
  | ((with_reducible refine' r_list ?kkS ?kks ?_); (case kkS => assumption); (case kks => walk_at "sq"); intro p H S)
  | ((with_reducible refine' r_cat ?kkS ?kks1 ?kks2 ?kkz ?_); (case kkS => assumption); (case kks1 => walk_at "at"); (case kks2 => walk_at "at"); (case kkz => first | omega | (simp; omega)); intro p H S)
  | ((with_reducible refine' r_append ?kkS ?kkr ?kkz ?_); (case kkS => assumption); (case kkr => walk_at "rep"); (case kkz => first | omega | (simp; omega)); intro H S)
  | ((with_reducible refine' r_reverse ?kkS ?kkr ?_); (case kkS => assumption); (case kkr => walk_at "rep"); intro H S)
  | ((with_reducible refine' r_clear ?kkS ?kkr ?_); (case kkS => assumption); (case kkr => walk_at "rep"); intro H S))
local macro_rules | `(tactic| walk_at "gn") => `(tactic| repeat (first | walk_at "k1" | walk_at "k2"))
local macro_rules | `(tactic| walk_at "go") => `(tactic| repeat (first | walk_at "k1" | walk_at "k2" | walk_at "k3"))

local macro_rules | `(tactic| walk_at "cls") => `(tactic| with_reducible first | assumption | exact Txt.cl_Array (by assumption) | exact Txt.cl_Window (by assumption) | exact Txt.cl_Told (by assumption))
local macro_rules | `(tactic| walk_at "na") => `(tactic| with_reducible first | assumption | exact Txt.na_Array_cells (by assumption) | exact Txt.na_Array_size (by assumption) | exact Txt.na_Window__array (by assumption) | exact Txt.na_Window__length (by assumption) | exact Txt.na_Window__rule (by assumption))
/-! ### many parts as one -/
theorem Sep.b_nil {R : List SP} {H : Hp} (S : Sep R H) : Sep (Sep [] :: R) H := Sep.unflat (As := []) S
theorem Sep.b_add {P : SP} {Ps R : List SP} {H : Hp} (S : Sep (P :: Sep Ps :: R) H) : Sep (Sep (Ps ++ [P]) :: R) H := by
  have S1 : Sep (P :: (Ps ++ R)) H := S.cons_mono fun _ => Sep.flat
  have S2 : Sep (Ps ++ P :: R) H := (pick_mid _).back S1
  refine Sep.unflat (As := Ps ++ [P]) ?_
  rw [List.append_assoc]
  exact S2
theorem Sep.b_open {P : SP} {Ps Qs R : List SP} {H : Hp} (S : Sep (Sep (Ps ++ P :: Qs) :: R) H) : Sep (P :: Sep (Ps ++ Qs) :: R) H := by
  have S1 : Sep (Ps ++ P :: (Qs ++ R)) H := by
    have S0 := S.flat
    rw [List.append_assoc] at S0
    exact S0
  have S2 : Sep (P :: (Ps ++ (Qs ++ R))) H := (pick_mid _).go S1
  rw [← List.append_assoc] at S2
  exact S2.cons_mono fun _ => Sep.unflat
theorem Sep.b_shut {P : SP} {Ps Qs R : List SP} {H : Hp} (S : Sep (P :: Sep (Ps ++ Qs) :: R) H) : Sep (Sep (Ps ++ P :: Qs) :: R) H := by
  have S1 : Sep (P :: (Ps ++ (Qs ++ R))) H := by
    rw [← List.append_assoc]
    exact S.cons_mono fun _ => Sep.flat
  have S2 : Sep (Ps ++ P :: (Qs ++ R)) H := (pick_mid _).back S1
  refine Sep.unflat (As := Ps ++ P :: Qs) ?_
  rw [List.append_assoc]
  exact S2

section
variable {P : Program} {w : World} {K : PySem.W.Frag} {mg : Str → Option Value} {base : Heap} {c_Array c_Window c_Told f_doubled f_exact : Addr}
/-! ### the rule by its number -/
def rkOf (kind : Int) (a : Addr) (rooms : List Int) : RK := if kind = 0 then .no else if kind = 1 then .ex else if kind = 2 then .db else .to a rooms []
def spRuleOf (c_Told f_doubled f_exact : Addr) : Sp := fun vs H Q _ => ∃ (kind : Int) (M : Addr) (rooms : List Int) (R : List SP), vs = [.int kind, .ref M] ∧ 0 ≤ kind ∧ kind ≤ 3 ∧ rooms.length ≤ 10000 ∧ Sep (pt M (.lst (rooms.map V.int)) :: R) H ∧
  ∀ a H', Sep (ruP c_Told (rkOf kind a rooms) :: pt M (.lst (rooms.map V.int)) :: R) H' → Q ((rkOf kind a rooms).v f_doubled f_exact) H'
theorem sc_l_rule_of : FnScope N_l_rule_of ["_law_kind", "_law_rooms"] (defScope s_l_rule_of) := ⟨rfl, rfl, rfl, by decide +kernel, rfl, by decide +kernel, by decide +kernel⟩
theorem ok_l_rule_of {f : Addr} (F : Dt K mg "_law_rule_of" s_l_rule_of ["_law_kind", "_law_rooms"] f) (T : Tx K mg c_Array c_Window c_Told f_doubled f_exact) (M_Told : Cf P w K mg base 2 "Told" c_Told ["self", "rooms"] (spTold c_Told)) : Df P w K mg base 4 "_law_rule_of" f ["_law_kind", "_law_rooms"] (spRuleOf c_Told f_doubled f_exact) := by
  refine F.ok sc_l_rule_of (fun vs H Q E h => ?_) (fun cdv A outer s H vs Q E hr h => ?_)
  · obtain ⟨kind, M, rooms, R, rfl, _⟩ := h
    rfl
  obtain ⟨kind, M, rooms, R, rfl, h0, h3, hl, S, q⟩ := h
  refine ⟨_, (pss_cons (ps_if (pt_cmpR (r := rEqA K) (op_eqA hr.units) (pv 0) pe_int (nomark _)) (pss_one (ps_ret (pe_cf M_Told (hr.mono (by decide)) (pa_cons (pv 1) pa_nil)))) pss_nil)
      (pss_one (ps_ret (pe_ix (r := rIx K) ix_seq (pe_lst (pa_cons pe_non (pa_cons (pe_glob (v := .ref f_exact) rfl T.g_exact rfl) (pa_cons (pe_glob (v := .ref f_doubled) rfl T.g_doubled rfl) pa_nil)))) (pv 0) (fun _ _ => rfl))))), ?_⟩
  walk_at "go"
  refine q_ite (fun hx => ?_) (fun hx => ?_)
  · walk_at "go"
    subst hx
    exact ⟨_, _, _, _, _, rfl, hl, S, fun H S => ⟨rfl, q x _ S⟩⟩
  · walk_at "go"
    obtain rfl | rfl | rfl : kind = 0 ∨ kind = 1 ∨ kind = 2 := by omega
    · walk_at "go"
      exact q 0 _ (Sep.b_nil S.tl)
    · walk_at "go"
      exact q 0 _ (Sep.b_nil S.tl)
    · walk_at "go"
      exact q 0 _ (Sep.b_nil S.tl)
end

/-! ### many windows on many arrays -/
structure AS where
  L : Addr
  cs : List Int
  s : Int
abbrev GS := Addr → AS
def up (G : GS) (A : Addr) (x : AS) : GS := fun B => if B = A then x else G B
theorem up_same {G : GS} {A : Addr} {x : AS} : up G A x A = x := if_pos rfl
theorem up_ne {G : GS} {A B : Addr} {x : AS} (h : B ≠ A) : up G A x B = G B := if_neg h
theorem up_id {G : GS} {A : Addr} : up G A (G A) = G := funext fun B => by
  by_cases h : B = A
  · subst h; exact up_same
  · exact up_ne h
structure Wi where
  W : Addr
  A : Addr
  n : Nat
def ars (c_Array : Addr) (as : List Addr) (G : GS) : SP := Sep (as.map fun A => arP c_Array A (G A).L (G A).cs (G A).s)
def wis (c_Window : Addr) (rv : V) (ws : List Wi) : SP := Sep (ws.map fun w => wnP c_Window w.W w.A w.n rv)
/-- what a window sees -/
def sees (G : GS) (w : Wi) : List Int := (G w.A).cs.take w.n
structure WF (as : List Addr) (G : GS) (ws : List Wi) : Prop where
  nd : as.Nodup
  ok : ∀ w ∈ ws, w.A ∈ as ∧ 1 ≤ w.n ∧ w.n ≤ (G w.A).cs.length
  rm : ∀ A ∈ as, ((G A).cs.length : Int) ≤ (G A).s
  sm : ∀ A ∈ as, (G A).cs.length ≤ 5000
section
variable {P : Program} {w : World} {K : PySem.W.Frag} {mg : Str → Option Value} {base : Heap} {c_Array c_Window c_Told f_doubled f_exact : Addr}
theorem ars_congr {as : List Addr} {G G' : GS} (h : ∀ A ∈ as, G A = G' A) : ars c_Array as G = ars c_Array as G' := by
  unfold ars
  congr 1
  exact List.map_congr_left fun A hA => by rw [h A hA]
theorem ars_open {as : List Addr} {G : GS} {A : Addr} {R : List SP} {H : Hp} (S : Sep (ars c_Array as G :: R) H) (hA : A ∈ as) : ∃ a1 a2, as = a1 ++ A :: a2 ∧ Sep (arP c_Array A (G A).L (G A).cs (G A).s :: ars c_Array (a1 ++ a2) G :: R) H := by
  obtain ⟨a1, a2, rfl⟩ := List.append_of_mem hA
  refine ⟨a1, a2, rfl, ?_⟩
  unfold ars at S ⊢
  rw [List.map_append] at S ⊢
  exact Sep.b_open S
theorem ars_shut {a1 a2 : List Addr} {G : GS} {A : Addr} {x : AS} {R : List SP} {H : Hp} (nd : (a1 ++ A :: a2).Nodup) (S : Sep (arP c_Array A x.L x.cs x.s :: ars c_Array (a1 ++ a2) G :: R) H) : Sep (ars c_Array (a1 ++ A :: a2) (up G A x) :: R) H := by
  have e : ars c_Array (a1 ++ a2) G = ars c_Array (a1 ++ a2) (up G A x) := ars_congr fun B hB => by
    refine (up_ne fun q => ?_).symm
    subst q
    obtain ⟨_, h1, h2⟩ := List.nodup_append.mp nd
    rcases List.mem_append.mp hB with hB | hB
    · exact h2 _ hB _ List.mem_cons_self rfl
    · exact (List.nodup_cons.mp h1).1 hB
  rw [e] at S
  have S : Sep (arP c_Array A (up G A x A).L (up G A x A).cs (up G A x A).s :: ars c_Array (a1 ++ a2) (up G A x) :: R) H := by
    rw [up_same]; exact S
  unfold ars at S ⊢
  rw [List.map_append] at S ⊢
  exact Sep.b_shut S
theorem ars_fresh {as : List Addr} {G : GS} {A L : Addr} {ms : List Int} {s : Int} {R : List SP} {H : Hp} (S : Sep (arP c_Array A L ms s :: ars c_Array as G :: R) H) : A ∉ as := fun hA => by
  obtain ⟨a1, a2, _, S2⟩ := ars_open S.swap hA
  obtain ⟨d1, S2⟩ := ar_open S2
  have S2 := S2.swap.tl
  obtain ⟨d2, S2⟩ := ar_open (S2.s1 (A := arP c_Array A L ms s) (by walk_at "sel"))
  exact S2.cons_mono (fun _ S => S.tl) |>.ne rfl
theorem ars_add {as : List Addr} {G : GS} {A : Addr} {x : AS} {R : List SP} {H : Hp} (S : Sep (arP c_Array A x.L x.cs x.s :: ars c_Array as G :: R) H) : A ∉ as ∧ Sep (ars c_Array (as ++ [A]) (up G A x) :: R) H := by
  have hA := ars_fresh S
  refine ⟨hA, ?_⟩
  have e : ars c_Array as G = ars c_Array as (up G A x) := ars_congr fun B hB => (up_ne (by intro q; subst q; exact hA hB)).symm
  rw [e] at S
  have S : Sep (arP c_Array A (up G A x A).L (up G A x A).cs (up G A x A).s :: ars c_Array as (up G A x) :: R) H := by
    rw [up_same]; exact S
  unfold ars at S ⊢
  rw [List.map_append]
  exact Sep.b_add S
theorem wis_open {rv : V} {ws : List Wi} {x : Wi} {R : List SP} {H : Hp} (S : Sep (wis c_Window rv ws :: R) H) (hx : x ∈ ws) : ∃ w1 w2, ws = w1 ++ x :: w2 ∧ Sep (wnP c_Window x.W x.A x.n rv :: wis c_Window rv (w1 ++ w2) :: R) H := by
  obtain ⟨a1, a2, rfl⟩ := List.append_of_mem hx
  refine ⟨a1, a2, rfl, ?_⟩
  unfold wis at S ⊢
  rw [List.map_append] at S ⊢
  exact Sep.b_open S
theorem wis_shut {rv : V} {w1 w2 : List Wi} {x : Wi} {R : List SP} {H : Hp} (S : Sep (wnP c_Window x.W x.A x.n rv :: wis c_Window rv (w1 ++ w2) :: R) H) : Sep (wis c_Window rv (w1 ++ x :: w2) :: R) H := by
  unfold wis at S ⊢
  rw [List.map_append] at S ⊢
  exact Sep.b_shut S
theorem wis_add {rv : V} {ws : List Wi} (x : Wi) {R : List SP} {H : Hp} (S : Sep (wnP c_Window x.W x.A x.n rv :: wis c_Window rv ws :: R) H) : Sep (wis c_Window rv (ws ++ [x]) :: R) H := by
  unfold wis at S ⊢
  rw [List.map_append]
  exact Sep.b_add S
theorem w_focus {rv : V} {as : List Addr} {G : GS} {ws : List Wi} {x : Wi} {R : List SP} {H : Hp} (wf : WF as G ws) (hx : x ∈ ws) (S : Sep (ars c_Array as G :: wis c_Window rv ws :: R) H) : ∃ F : SP, Sep (wnP c_Window x.W x.A x.n rv :: arP c_Array x.A (G x.A).L (G x.A).cs (G x.A).s :: F :: R) H ∧
    ∀ (R' : List SP) (y : AS) H', Sep (wnP c_Window x.W x.A x.n rv :: arP c_Array x.A y.L y.cs y.s :: F :: R') H' → Sep (ars c_Array as (up G x.A y) :: wis c_Window rv ws :: R') H' := by
  obtain ⟨a1, a2, ea, S⟩ := ars_open S (wf.ok x hx).1
  have S : Sep (wis c_Window rv ws :: arP c_Array x.A (G x.A).L (G x.A).cs (G x.A).s :: ars c_Array (a1 ++ a2) G :: R) H := S.s3 (A := wis c_Window rv ws) (by walk_at "sel")
  obtain ⟨w1, w2, ew, S⟩ := wis_open S hx
  have S : Sep (Sep [ars c_Array (a1 ++ a2) G, wis c_Window rv (w1 ++ w2)] :: wnP c_Window x.W x.A x.n rv :: arP c_Array x.A (G x.A).L (G x.A).cs (G x.A).s :: R) H := Sep.unflat (As := [ars c_Array (a1 ++ a2) G, wis c_Window rv (w1 ++ w2)]) (S.s4 (by walk_at "sel"))
  refine ⟨Sep [ars c_Array (a1 ++ a2) G, wis c_Window rv (w1 ++ w2)], S.s3 (by walk_at "sel"), fun R' y H' S' => ?_⟩
  have S' : Sep (ars c_Array (a1 ++ a2) G :: wis c_Window rv (w1 ++ w2) :: wnP c_Window x.W x.A x.n rv :: arP c_Array x.A y.L y.cs y.s :: R') H' := Sep.flat (As := [ars c_Array (a1 ++ a2) G, wis c_Window rv (w1 ++ w2)]) (S'.s3 (A := Sep [ars c_Array (a1 ++ a2) G, wis c_Window rv (w1 ++ w2)]) (by walk_at "sel"))
  have S1 : Sep (wis c_Window rv ws :: arP c_Array x.A y.L y.cs y.s :: ars c_Array (a1 ++ a2) G :: R') H' := by
    rw [ew]
    exact wis_shut (S'.s4 (A := wnP c_Window x.W x.A x.n rv) (B := wis c_Window rv (w1 ++ w2)) (C := arP c_Array x.A y.L y.cs y.s) (D := ars c_Array (a1 ++ a2) G) (by walk_at "sel"))
  have nd := wf.nd
  rw [ea] at nd
  rw [ea]
  exact ars_shut nd (S1.s3 (A := arP c_Array x.A y.L y.cs y.s) (B := ars c_Array (a1 ++ a2) G) (C := wis c_Window rv ws) (by walk_at "sel"))
theorem w_focus1 {rv : V} {as : List Addr} {G : GS} {ws : List Wi} {x : Wi} {R : List SP} {H : Hp} (wf : WF as G ws) (hx : x ∈ ws) (S : Sep (ars c_Array as G :: wis c_Window rv ws :: R) H) : ∃ F : SP, Sep (wnP c_Window x.W x.A x.n rv :: arP c_Array x.A (G x.A).L (G x.A).cs (G x.A).s :: F :: R) H ∧
    (∀ (R' : List SP) H', Sep (wnP c_Window x.W x.A x.n rv :: arP c_Array x.A (G x.A).L (G x.A).cs (G x.A).s :: F :: R') H' → Sep (ars c_Array as G :: wis c_Window rv ws :: R') H') ∧
    ∀ (R' : List SP) (y : AS) H', Sep (wnP c_Window x.W x.A x.n rv :: arP c_Array x.A y.L y.cs y.s :: F :: R') H' → Sep (ars c_Array as (up G x.A y) :: wis c_Window rv ws :: R') H' := by
  obtain ⟨F, S, k⟩ := w_focus wf hx S
  exact ⟨F, S, fun R' H' S' => by have := k R' (G x.A) H' S'; rw [up_id] at this; exact this, k⟩
section
variable {rv : V} {as : List Addr} {G : GS} {ws : List Wi} {x y : Wi} {Ps Rs : List SP} {H : Hp} {Q : VK} {σ : L2.St} {E : XK}
theorem wl_at (wf : WF as G ws) (hx : x ∈ ws) (S : Sep Ps H) (p : Sel [ars c_Array as G, wis c_Window rv ws] Ps Rs) : ∃ dw, H x.W = some (.ins c_Window dw [("_array", .ref x.A), ("_length", .int x.n), ("_rule", rv)]) := by
  obtain ⟨F, S, _⟩ := w_focus wf hx (S.s2 p)
  obtain ⟨dw, S⟩ := wn_open S
  exact ⟨dw, S.hd_at⟩
theorem wl_atA (wf : WF as G ws) (hx : x ∈ ws) (S : Sep Ps H) (p : Sel [ars c_Array as G, wis c_Window rv ws] Ps Rs) : ∃ da fs, H x.A = some (.ins c_Array da fs) := by
  obtain ⟨F, S, _⟩ := w_focus wf hx (S.s2 p)
  obtain ⟨da, S⟩ := ar_open S.tl
  exact ⟨da, _, S.hd_at⟩
/-- a method of a window is called -/
theorem wl_meth {m : Str} {sp : Sp} {tr : TA} (wf : WF as G ws) (hx : x ∈ ws) (S : Sep Ps H) (p : Sel [ars c_Array as G, wis c_Window rv ws] Ps Rs) (l : ∀ a b c : V, List.lookup m [(("_array" : Str), a), (("_length" : Str), b), (("_rule" : Str), c)] = none) (h : tr σ H fun vs H2 => sp (.ref x.W :: vs) H2 Q E0) : kMeth c_Window m sp tr σ Q (.ref x.W) H := by
  obtain ⟨dw, hw⟩ := wl_at wf hx S p
  exact ⟨x.W, dw, _, rfl, hw, l _ _ _, h⟩
theorem wl_prop {sp : Sp} (wf : WF as G ws) (hx : x ∈ ws) (S : Sep Ps H) (p : Sel [ars c_Array as G, wis c_Window rv ws] Ps Rs) (h : sp [.ref x.W] H Q E0) : kProp c_Window sp Q (.ref x.W) H := by
  obtain ⟨dw, hw⟩ := wl_at wf hx S p
  exact ⟨x.W, dw, _, rfl, hw, h⟩
theorem wl_room (wf : WF as G ws) (hx : x ∈ ws) (S : Sep Ps H) (p : Sel [ars c_Array as G, wis c_Window rv ws] Ps Rs) (h : Q (.int (G x.A).s) H) : spRoom c_Array c_Window [.ref x.W] H Q E := by
  obtain ⟨F, S, _⟩ := w_focus wf hx (S.s2 p)
  exact ⟨_, _, _, _, _, _, _, _, rfl, S, h⟩
theorem wl_spare (wf : WF as G ws) (hx : x ∈ ws) (S : Sep Ps H) (p : Sel [ars c_Array as G, wis c_Window rv ws] Ps Rs) (h : Q (.int ((G x.A).s - x.n)) H) : spSpare c_Array c_Window [.ref x.W] H Q E := by
  obtain ⟨F, S, _⟩ := w_focus wf hx (S.s2 p)
  exact ⟨_, _, _, _, _, _, _, _, rfl, S, h⟩
theorem wl_n (wf : WF as G ws) (hx : x ∈ ws) : 1 ≤ x.n ∧ x.n ≤ 5000 := by
  obtain ⟨h1, h2, h3⟩ := wf.ok x hx
  have := wf.sm x.A h1
  omega
theorem wl_len (wf : WF as G ws) (hx : x ∈ ws) (S : Sep Ps H) (p : Sel [ars c_Array as G, wis c_Window rv ws] Ps Rs) (h : Q (.int x.n) H) : cLenOwn c_Window (spLen c_Window) [.ref x.W] H Q := by
  obtain ⟨F, S1, _⟩ := w_focus wf hx (S.s2 p)
  obtain ⟨dw, hw⟩ := wl_at wf hx S p
  have := wl_n wf hx
  exact ⟨x.W, dw, _, rfl, hw, x.W, x.A, x.n, rv, _, rfl, by omega, S1, x.n, rfl, by omega, h⟩
theorem wl_shares (wf : WF as G ws) (hx : x ∈ ws) (hy : y ∈ ws) (S : Sep Ps H) (p : Sel [ars c_Array as G, wis c_Window rv ws] Ps Rs) (h : Q (.bl (decide (x.A = y.A))) H) : spShares c_Array c_Window [.ref x.W, .ref y.W] H Q E := by
  obtain ⟨d1, h1⟩ := wl_at wf hx S p
  obtain ⟨d2, h2⟩ := wl_at wf hy S p
  obtain ⟨e1, f1, g1⟩ := wl_atA wf hx S p
  obtain ⟨e2, f2, g2⟩ := wl_atA wf hy S p
  exact ⟨_, _, _, _, _, _, _, _, _, _, _, _, _, _, rfl, h1, h2, g1, g2, h⟩
theorem wl_seen (wf : WF as G ws) (hx : x ∈ ws) (S : Sep Ps H) (p : Sel [ars c_Array as G, wis c_Window rv ws] Ps Rs) (h : ∀ t H', Sep (pt t (.lst ((sees G x).map V.int)) :: ars c_Array as G :: wis c_Window rv ws :: Rs) H' → Q (.ref t) H') : spSeen c_Array c_Window [.ref x.W] H Q E := by
  obtain ⟨F, S, k, _⟩ := w_focus1 wf hx (S.s2 p)
  exact ⟨_, _, _, _, _, _, _, _, rfl, S, fun t H' S => h t H' (S.cons_mono fun _ => k _ _)⟩
theorem wl_get {k : Nat} {z : Int} (wf : WF as G ws) (hx : x ∈ ws) (hk : k < x.n) (hz : (G x.A).cs[k]? = some z) (S : Sep Ps H) (p : Sel [ars c_Array as G, wis c_Window rv ws] Ps Rs) (h : Q (.int z) H) : rIxOwn c_Window (spGet c_Array c_Window) (.ref x.W) (.int k) H Q := by
  obtain ⟨F, S1, _⟩ := w_focus wf hx (S.s2 p)
  obtain ⟨dw, hw⟩ := wl_at wf hx S p
  exact ⟨x.W, dw, _, rfl, hw, x.W, x.A, _, x.n, k, rv, _, _, z, _, rfl, hk, hz, S1, h⟩
theorem wl_cut {m : Nat} (wf : WF as G ws) (hx : x ∈ ws) (h1 : 1 ≤ m) (h2 : m ≤ x.n) (S : Sep Ps H) (p : Sel [ars c_Array as G, wis c_Window rv ws] Ps Rs) (h : ∀ W' H', Sep (ars c_Array as G :: wis c_Window rv (ws ++ [⟨W', x.A, m⟩]) :: Rs) H' → Q (.ref W') H') : spCut c_Array c_Window [.ref x.W, .int m] H Q E := by
  obtain ⟨F, S, k, _⟩ := w_focus1 wf hx (S.s2 p)
  refine ⟨x.W, x.A, x.n, m, rv, _, rfl, h1, h2, S, fun W' H' S => h W' H' ?_⟩
  have S := (S.cons_mono fun _ => k _ _).s3 (A := wnP c_Window W' x.A m rv) (B := wis c_Window rv ws) (C := ars c_Array as G) (Rs := Rs) (by walk_at "sel")
  exact (wis_add ⟨W', x.A, m⟩ S).swap
theorem wl_copied (wf : WF as G ws) (hx : x ∈ ws) (S : Sep Ps H) (p : Sel [ars c_Array as G, wis c_Window rv ws] Ps Rs) (h : ∀ W' A' L' H', A' ∉ as → Sep (ars c_Array (as ++ [A']) (up G A' ⟨L', sees G x, (x.n : Int)⟩) :: wis c_Window rv (ws ++ [⟨W', A', x.n⟩]) :: Rs) H' → Q (.ref W') H') : spCopied c_Array c_Window [.ref x.W] H Q E := by
  obtain ⟨F, S, k, _⟩ := w_focus1 wf hx (S.s2 p)
  refine ⟨x.W, x.A, _, x.n, rv, _, _, _, rfl, S, fun W' A' L' H' S => ?_⟩
  have S : Sep (wnP c_Window W' A' x.n rv :: arP c_Array A' L' (sees G x) x.n :: ars c_Array as G :: wis c_Window rv ws :: Rs) H' := S.cons_mono fun _ S => S.cons_mono fun _ => k _ _
  have S := wis_add ⟨W', A', x.n⟩ (S.s4 (A := wnP c_Window W' A' x.n rv) (B := wis c_Window rv ws) (C := arP c_Array A' L' (sees G x) x.n) (D := ars c_Array as G) (Rs := Rs) (by walk_at "sel"))
  obtain ⟨nA, S⟩ := ars_add (x := ⟨L', sees G x, (x.n : Int)⟩) (S.s3 (A := arP c_Array A' L' (sees G x) x.n) (B := ars c_Array as G) (C := wis c_Window rv (ws ++ [⟨W', A', x.n⟩])) (Rs := Rs) (by walk_at "sel"))
  exact h W' A' L' H' nA S
theorem wl_set {k : Nat} {z : Int} (wf : WF as G ws) (hx : x ∈ ws) (hk : k < x.n) (S : Sep Ps H) (p : Sel [ars c_Array as G, wis c_Window rv ws] Ps Rs) (h : ∀ H', Sep (ars c_Array as (up G x.A ⟨(G x.A).L, (G x.A).cs.set k z, (G x.A).s⟩) :: wis c_Window rv ws :: Rs) H' → Q .non H') : spSetW c_Array c_Window [.ref x.W, .int k, .int z] H Q E := by
  obtain ⟨F, S, _, k'⟩ := w_focus1 wf hx (S.s2 p)
  exact ⟨x.W, x.A, _, x.n, k, rv, _, _, z, _, rfl, hk, (wf.ok x hx).2.2, S, fun H' S => h H' (k' _ ⟨(G x.A).L, (G x.A).cs.set k z, (G x.A).s⟩ H' S)⟩
theorem wl_put {M : Addr} {xs : List Int} {r : RK} (wf : WF as G ws) (hx : x ∈ ws) (h0 : xs ≠ []) (hl : xs.length ≤ 1000) (S : Sep Ps H) (hr : r.v f_doubled f_exact = rv) (p : Sel [ars c_Array as G, wis c_Window rv ws, ruP c_Told r, pt M (.lst (xs.map V.int))] Ps Rs)
    (h1 : ((x.n + xs.length : Nat) : Int) ≤ (G x.A).s → ∀ W' H', Sep (ars c_Array as (up G x.A ⟨(G x.A).L, (G x.A).cs.take x.n ++ xs ++ (G x.A).cs.drop (x.n + xs.length), (G x.A).s⟩) :: wis c_Window rv (ws ++ [⟨W', x.A, x.n + xs.length⟩]) :: ruP c_Told r :: pt M (.lst (xs.map V.int)) :: Rs) H' → Q (.ref W') H')
    (h2 : (G x.A).s < ((x.n + xs.length : Nat) : Int) → ((x.n + xs.length : Nat) : Int) ≤ r.grow (G x.A).s ((x.n + xs.length : Nat) : Int) ∧ (∀ a rooms ts, r = .to a rooms ts → ts.length < 1000) ∧
      ∀ t W' A' L' H', A' ∉ as → Sep (ars c_Array (as ++ [A']) (up G A' ⟨L', sees G x ++ xs, r.grow (G x.A).s ((x.n + xs.length : Nat) : Int)⟩) :: wis c_Window rv (ws ++ [⟨W', A', x.n + xs.length⟩]) :: ruP c_Told (r.nx t) :: pt M (.lst (xs.map V.int)) :: exP r t (G x.A).s ((x.n + xs.length : Nat) : Int) :: Rs) H' → Q (.ref W') H') :
    spPut c_Array c_Window c_Told f_doubled f_exact [.ref x.W, .ref M] H Q E := by
  subst hr
  obtain ⟨F, S, k, k'⟩ := w_focus1 wf hx (S.s4 p)
  obtain ⟨g1, g2, g3⟩ := wf.ok x hx
  have g4 := wf.sm x.A g1
  refine ⟨x.W, x.A, _, M, x.n, r, _, xs, _, _, rfl, g3, wf.rm x.A g1, h0, by omega, by omega, S.s4 (A := ruP c_Told r) (D := pt M (.lst (xs.map V.int))) (by walk_at "sel"), fun hs W' H' S => h1 hs W' H' ?_, fun hs => ⟨(h2 hs).1, (h2 hs).2.1, fun t W' A' L' H' S => ?_⟩⟩
  · have S := S.sel (As := [wnP c_Window W' x.A (x.n + xs.length) (r.v f_doubled f_exact), wnP c_Window x.W x.A x.n (r.v f_doubled f_exact), arP c_Array x.A (G x.A).L ((G x.A).cs.take x.n ++ xs ++ (G x.A).cs.drop (x.n + xs.length)) (G x.A).s, F, ruP c_Told r, pt M (.lst (xs.map V.int))]) (Rs := Rs) (by walk_at "sel")
    have S := S.cons_mono fun _ => k' (ruP c_Told r :: pt M (.lst (xs.map V.int)) :: Rs) ⟨(G x.A).L, (G x.A).cs.take x.n ++ xs ++ (G x.A).cs.drop (x.n + xs.length), (G x.A).s⟩ _
    exact (wis_add ⟨W', x.A, x.n + xs.length⟩ (S.cons_mono fun _ S => S.swap)).swap
  · have S := S.sel (As := [arP c_Array A' L' ((G x.A).cs.take x.n ++ xs) (r.grow (G x.A).s ((x.n + xs.length : Nat) : Int)), wnP c_Window W' A' (x.n + xs.length) (r.v f_doubled f_exact), wnP c_Window x.W x.A x.n (r.v f_doubled f_exact), arP c_Array x.A (G x.A).L (G x.A).cs (G x.A).s, F, ruP c_Told (r.nx t), pt M (.lst (xs.map V.int)), exP r t (G x.A).s ((x.n + xs.length : Nat) : Int)]) (Rs := Rs) (by walk_at "sel")
    have S := S.cons_mono fun _ S => wis_add ⟨W', A', x.n + xs.length⟩ ((S.cons_mono fun _ => k (ruP c_Told (r.nx t) :: pt M (.lst (xs.map V.int)) :: exP r t (G x.A).s ((x.n + xs.length : Nat) : Int) :: Rs) _).cons_mono fun _ S => S.swap)
    obtain ⟨nA, S⟩ := ars_add (x := ⟨L', sees G x ++ xs, r.grow (G x.A).s ((x.n + xs.length : Nat) : Int)⟩) (S.cons_mono fun _ S => S.swap)
    exact (h2 hs).2.2 t W' A' L' H' nA S
theorem wl_eqsp (wf : WF as G ws) (hx : x ∈ ws) (hy : y ∈ ws) (S : Sep Ps H) (p : Sel [ars c_Array as G, wis c_Window rv ws] Ps Rs) (h : ∀ H', Sep (ars c_Array as G :: wis c_Window rv ws :: Rs) H' → Q (.bl (decide (sees G x = sees G y))) H') : spEqW K c_Array c_Window [.ref x.W, .ref y.W] H Q E := by
  obtain ⟨d1, h1⟩ := wl_at wf hx S p
  obtain ⟨d2, h2⟩ := wl_at wf hy S p
  refine ⟨x.W, y.W, d1, d2, _, _, rfl, h1, rfl, h2, wl_seen wf hx S p fun t H1 S1 => ?_⟩
  obtain ⟨d3, h3⟩ := wl_at wf hy S1 (Ps := pt t (.lst ((sees G x).map V.int)) :: ars c_Array as G :: wis c_Window rv ws :: Rs) (by walk_at "sel")
  refine ⟨d3, _, h3, rfl, wl_seen wf hy S1 (by walk_at "sel") fun t2 H2 S2 => ⟨t, t2, sees G x, sees G y, rfl, rfl, by walk_at "sq", by walk_at "sq", h _ (S2.s2 (by walk_at "sel"))⟩⟩
theorem wl_ne (wf : WF as G ws) (hx : x ∈ ws) (hy : y ∈ ws) (S : Sep Ps H) (p : Sel [ars c_Array as G, wis c_Window rv ws] Ps Rs) (h : ∀ H', Sep (ars c_Array as G :: wis c_Window rv ws :: Rs) H' → Q (.bl (!decide (sees G x = sees G y))) H') : rNeOwn c_Window (spEqW K c_Array c_Window) (.ref x.W) (.ref y.W) H Q := by
  obtain ⟨d1, h1⟩ := wl_at wf hx S p
  obtain ⟨d2, h2⟩ := wl_at wf hy S p
  exact ⟨x.W, y.W, d1, _, d2, _, rfl, rfl, h1, h2, wl_eqsp wf hx hy S p fun H' S => ⟨_, rfl, h H' S⟩⟩
theorem wl_eq (wf : WF as G ws) (hx : x ∈ ws) (hy : y ∈ ws) (S : Sep Ps H) (p : Sel [ars c_Array as G, wis c_Window rv ws] Ps Rs) (h : ∀ H', Sep (ars c_Array as G :: wis c_Window rv ws :: Rs) H' → Q (.bl (decide (sees G x = sees G y))) H') : rEqOwn c_Window (spEqW K c_Array c_Window) (.ref x.W) (.ref y.W) H Q := by
  obtain ⟨d1, h1⟩ := wl_at wf hx S p
  obtain ⟨d2, h2⟩ := wl_at wf hy S p
  exact ⟨x.W, y.W, d1, _, d2, _, rfl, rfl, h1, h2, wl_eqsp wf hx hy S p fun H' S => ⟨_, rfl, h H' S⟩⟩
theorem wl_setown {k : Nat} {z : Int} {QH : Hp → Prop} (wf : WF as G ws) (hx : x ∈ ws) (hk : k < x.n) (S : Sep Ps H) (p : Sel [ars c_Array as G, wis c_Window rv ws] Ps Rs) (h : ∀ H', Sep (ars c_Array as (up G x.A ⟨(G x.A).L, (G x.A).cs.set k z, (G x.A).s⟩) :: wis c_Window rv ws :: Rs) H' → QH H') : rSetOwn c_Window (spSetW c_Array c_Window) (.ref x.W) (.int k) (.int z) H QH := by
  obtain ⟨d1, h1⟩ := wl_at wf hx S p
  exact ⟨x.W, d1, _, rfl, h1, wl_set wf hx hk S p h⟩
end
end


end Pf

set_option Elab.async false
set_option linter.all false
set_option maxRecDepth 100000
set_option maxHeartbeats 16000000
namespace Pf
open PySem L2 Kt
set_option hygiene false
local macro_rules | `(tactic| walk_at "mem") => `(tactic| (with_reducible (repeat (first | exact Pick.hd | apply Pick.tl)); done))
local macro_rules | `(tactic| walk_at "rep") => `(tactic| (with_reducible (repeat (first | exact Repl.hd | apply Repl.tl)); done))
local macro_rules | `(tactic| walk_at "sel") => `(tactic| ((repeat (with_reducible apply Sel.cons; (focus walk_at "mem"))); (with_reducible apply Sel.nil); (with_reducible (repeat (first | exact Dr.all | apply Dr.skip)); done)))
local macro_rules | `(tactic| walk_at "at") => `(tactic| (refine' Sep.at_ (by assumption) ?kkpk; (case kkpk => walk_at "mem")))
local macro_rules | `(tactic| walk_at "sq") => `(tactic| first | assumption | (refine' Sep.sq (by assumption) ?kkpk; (case kkpk => walk_at "mem")))
local macro_rules | `(tactic| walk_at "st") => `(tactic| first | assumption | (refine' Sep.st (by assumption) ?kkpk; (case kkpk => walk_at "mem")))
local macro_rules | `(tactic| walk_at "lk") => `(tactic| (repeat (first | (with_reducible exact lk_eq) | exact rfl | refine (lk_ne (by decide +kernel)).trans ?_)))
local macro_rules | `(tactic| walk_at "pf") => `(tactic| (repeat (first | (with_reducible exact pf_nil) | (with_reducible exact pf_eq) | (apply pf_ne; (focus decide +kernel)))))
local macro_rules | `(tactic| walk_at "ty") => `(tactic| first | exact ty_int | (refine' ty_lst ?kkh; (case kkh => walk_at "at")))
local macro_rules | `(tactic| walk_at "k1") => `(tactic| with_reducible first
  | refine q_seq ?_ | refine q_set ?_ | refine q_asg ?_ | refine q_ret ?_ | refine q_drop ?_ | refine q_next ?_ | refine q_c ?_ | refine q_op ?_ | refine q_un ?_ | refine q_nil ?_ | refine q_cons ?_ | refine q_cb ?_
  | refine q_call ?_ | refine q_ifs ?_ | refine q_if ?_ | refine q_test ?_ | refine q_tb ?_ | refine q_bl ?_ | refine q_notT ?_ | refine q_andT ?_ | refine q_orT ?_ | refine q_andV ?_ | refine q_orV ?_ | refine q_notV ?_
  | refine q_addA ?_ | refine q_subI ?_ | refine q_ltI ?_ | refine q_leI ?_ | refine q_gtI ?_ | refine q_geI ?_ | refine q_eqI ?_ | refine q_neI ?_ | refine q_abs ?_ | refine q_int ?_ | refine q_intB ?_ | refine q_max ?_ | refine q_min ?_
  | refine q_ipAdd ?_ | refine q_ipSub ?_ | refine q_gsub ?_ | refine q_augs ?_ | refine q_lst ?_ | refine q_tup ?_ | refine q_blI ?_ | refine iteT ?_ | refine iteF ?_ | refine iteNT ?_ | refine iteNF ?_
  | refine r_prop ?_ | refine r_fld ?_ | refine r_sfld ?_ | refine r_meth ?_ | refine r_make ?_ | refine r_sl ?_ | refine r_nopart ?_ | refine r_part ?_ | refine r_parti ?_ | refine r_gsl ?_ | refine r_bm ?_ | refine r_bm0 ?_ | refine r_for ?_ | refine r_ilist ?_ | refine r_irng ?_
  | refine r_gname ?_ | refine r_gcons ?_ | refine r_gnil ?_ | refine r_par ?_ | refine r_parA ?_ | refine r_chain ?_ | refine r_isN ?_ | refine r_tlc ?_ | refine r_yes ?_ | refine r_makek ?_ | refine r_neg ?_)
local macro_rules | `(tactic| walk_at "k2") => `(tactic| first
  | ((with_reducible refine' q_var ?kke ?_); (case kke => rfl))
  | ((with_reducible refine' q_aug ?kke ?_); (case kke => rfl))
  | ((with_reducible refine' q_ixL ?kks ?kke ?_); (case kks => walk_at "sq"); (case kke => first | rfl | assumption))
  | ((with_reducible refine' q_ixT ?kks ?kke ?_); (case kks => walk_at "st"); (case kke => first | rfl | assumption))
  | ((with_reducible refine' q_ixLL ?kks ?kke ?_); (case kks => walk_at "sq"); (case kke => first | rfl | assumption))
  | ((with_reducible refine' q_lenL ?kks ?_); (case kks => walk_at "sq"))
  | ((with_reducible refine' q_mulI ?kkc ?_); (case kkc => first | exact .inl (by omega) | exact .inr (by omega)))
  | ((with_reducible refine' q_modI ?kkc ?_); (case kkc => omega))
  | ((with_reducible refine' q_divI ?kkc ?_); (case kkc => exact ⟨by omega, by omega⟩))
  | ((with_reducible refine' q_powI ?kkc ?_); (case kkc => exact ⟨by decide, by decide, by decide⟩))
  | ((with_reducible refine' r_kfld ?kkS ?kkp ?kkc ?kkn ?kkl ?_); (case kkS => assumption); (case kkp => walk_at "mem"); (case kkc => walk_at "cls"); (case kkn => walk_at "na"); (case kkl => walk_at "lk"))
  | ((with_reducible refine' r_kprop ?kkS ?kkp ?_); (case kkS => assumption); (case kkp => walk_at "mem"))
  | ((with_reducible refine' r_kmeth ?kkS ?kkp ?kkl ?_); (case kkS => assumption); (case kkp => walk_at "mem"); (case kkl => walk_at "lk"))
  | ((with_reducible refine' r_calll ?kks ?_); (case kks => rfl))
  | ((with_reducible refine' r_tyl ?kks ?_); (case kks => walk_at "sq"))
  | ((with_reducible refine' r_isi (k := true) ?kkt ?kke ?_); (case kkt => walk_at "ty"); (case kke => decide +kernel))
  | ((with_reducible refine' r_isi (k := false) ?kkt ?kke ?_); (case kkt => walk_at "ty"); (case kke => decide +kernel)))
local macro_rules | `(tactic| walk_at "k3") => `(tactic| first
  | ((with_reducible refine' q_setS ?kkS ?kkr ?kke ?_); (case kkS => assumption); (case kkr => walk_at "rep"); (case kke => rfl); intro H S)
  | ((with_reducible refine' r_kset ?kkS ?kkr ?kkc ?kkn ?kkl ?kke ?_); (case kkS => assumption); (case kkr => walk_at "rep"); (case kkc => walk_at "cls"); (case kkn => walk_at "na"); (case kkl => first | exact Nat.le_of_ble_eq_true rfl | assumption | omega | (simp; done) | (simp; omega)); (case kke => walk_at "pf"); intro H S)
  | ((with_reducible refine' q_new ?kkS ?kkl ?_); (case kkS => assumption); (case kkl => first | exact Nat.le_of_ble_eq_true rfl | assumption | omega | (simp; done) | (simp; omega)); intro p H S)
  | ((with_reducible refine' q_newT ?kkS ?kkl ?_); (case kkS => assumption); (case kkl => first | exact Nat.le_of_ble_eq_true rfl | assumption | omega | (simp; done) | (simp; omega)); intro p H S)
  | ((with_reducible refine' r_knew ?kkS ?_); (case kkS => assumption); intro x dx H S)
  | ((with_reducible refine' r_knewk ?kkS ?kkl1 ?kkl2 ?_); (case kkS => assumption); (case kkl1 => rfl); (case kkl2 => rfl); intro x dx H S)
  | ((with_reducible refine' r_ksl ?kkS ?kks ?_); (case kkS => assumption); (case kks => walk_at "sq"); intro p H S)
  | ((with_reducible refine' r_list ?kkS ?kks ?_); (case kkS => assumption); (case kks => walk_at "sq"); intro p H S)
  | ((with_reducible refine' r_cat ?kkS ?kks1 ?kks2 ?kkz ?_); (case kkS => assumption); (case kks1 => walk_at "at"); (case kks2 => walk_at "at"); (case kkz => first | omega | (simp; omega)); intro p H S)
  | ((with_reducible refine' r_append ?kkS ?kkr ?kkz ?_); (case kkS => assumption); (case kkr => walk_at "rep"); (case kkz => first | omega | (simp; omega)); intro H S)
  | ((with_reducible refine' r_reverse ?kkS ?kkr ?_); (case kkS => assumption); (case kkr => walk_at "rep"); intro H S)
  | ((with_reducible refine' r_clear ?kkS ?kkr ?_); (case kkS => assumption); (case kkr => walk_at "rep"); intro H S))
local macro_rules | `(tactic| walk_at "gn") => `(tactic| repeat (first | walk_at "k1" | walk_at "k2"))
local macro_rules | `(tactic| walk_at "go") => `(tactic| repeat (first | walk_at "k1" | walk_at "k2" | walk_at "k3"))

local macro_rules | `(tactic| walk_at "k1") => `(tactic| with_reducible first | refine r_par3 ?_ | refine r_parA3 ?_ | refine r_izip ?_ | refine r_irng2 ?_)

local macro_rules | `(tactic| walk_at "cls") => `(tactic| with_reducible first | assumption | exact Txt.cl_Array (by assumption) | exact Txt.cl_Window (by assumption) | exact Txt.cl_Told (by assumption))
local macro_rules | `(tactic| walk_at "na") => `(tactic| with_reducible first | assumption | exact Txt.na_Array_cells (by assumption) | exact Txt.na_Array_size (by assumption) | exact Txt.na_Window__array (by assumption) | exact Txt.na_Window__length (by assumption) | exact Txt.na_Window__rule (by assumption) | exact Txt.na_Told__rooms (by assumption) | exact Txt.na_Told__asked (by assumption))
section
variable {P : Program} {w : World} {K : PySem.W.Frag} {mg : Str → Option Value} {base : Heap} {c_Array c_Window c_Told f_doubled f_exact : Addr}
/-- told.asked() -/
def spAsked (c_Told : Addr) : Sp := fun vs H Q _ => ∃ (a : Addr) (rooms : List Int) (ts : List Addr) (R : List SP), vs = [.ref a] ∧ Sep (toP c_Told a rooms ts :: R) H ∧ ∀ D H', Sep (pt D (.lst (ts.map V.ref)) :: toP c_Told a rooms ts :: R) H' → Q (.ref D) H'
theorem sc_Told_asked : FnScope N_Told_asked ["self"] (defScope s_Told_asked) := ⟨rfl, rfl, rfl, by decide +kernel, rfl, by decide +kernel, by decide +kernel⟩
theorem ok_Told_asked {f : Addr} (F : Mt K c_Told "asked" "Told.asked" s_Told_asked ["self"] f) (T : Tx K mg c_Array c_Window c_Told f_doubled f_exact) : Mf P w K mg base 1 c_Told "asked" ["self"] (spAsked c_Told) := by
  refine F.ok T.cl_Told sc_Told_asked (fun vs H Q E h => ?_) (fun cdv A outer s H vs Q E hr h => ?_)
  · obtain ⟨a, rooms, ts, R, rfl, _⟩ := h
    rfl
  obtain ⟨a, rooms, ts, R, rfl, S, q⟩ := h
  refine ⟨_, (pss_one (ps_ret (pe_callTy (r := cList K) call_list_of (by rfl) T.z_list (by decide +kernel) (pa_cons (pe_fldK K (pv 0)) pa_nil)))), ?_⟩
  obtain ⟨dx, L, M, S⟩ := to_open S
  walk_at "go"
  exact q _ _ ((S.s4 (by walk_at "sel")).cons_mono fun _ => to_shut)
/-- told.left -/
def spLeft (c_Told : Addr) : Sp := fun vs H Q _ => ∃ (a : Addr) (rooms : List Int) (ts : List Addr) (R : List SP), vs = [.ref a] ∧ Sep (toP c_Told a rooms ts :: R) H ∧ Q (.int ((rooms.length - ts.length : Nat) : Int)) H
theorem sc_Told_left : FnScope N_Told_left ["self"] (defScope s_Told_left) := ⟨rfl, rfl, rfl, by decide +kernel, rfl, by decide +kernel, by decide +kernel⟩
theorem ok_Told_left {f : Addr} (F : Pt K c_Told "left" "Told.left" s_Told_left f) (T : Tx K mg c_Array c_Window c_Told f_doubled f_exact) : Pf P w K mg base 1 c_Told "left" (spLeft c_Told) := by
  refine F.ok T.cl_Told sc_Told_left (fun vs H Q E h => ?_) (fun cdv A outer s H vs Q E hr h => ?_)
  · obtain ⟨a, rooms, ts, R, rfl, _⟩ := h
    rfl
  obtain ⟨a, rooms, ts, R, rfl, S, q⟩ := h
  refine ⟨_, (pss_one (ps_ret (pe_callB (r := cMax2) (call_max2 rfl) (by rfl) T.z_max (by decide +kernel) (pa_cons pe_int (pa_cons (pe_op (r := rSubI) op_sub (pe_callB (r := cOr (cLenQ K) cLenS) call_lenA (by rfl) T.z_len (by decide +kernel) (pa_cons (pe_fldK K (pv 0)) pa_nil)) (pe_callB (r := cOr (cLenQ K) cLenS) call_lenA (by rfl) T.z_len (by decide +kernel) (pa_cons (pe_fldK K (pv 0)) pa_nil))) pa_nil))))), ?_⟩
  obtain ⟨dx, L, M, S⟩ := to_open S
  walk_at "go"
  rw [List.length_map, List.length_map]
  rw [show (if (rooms.length : Int) - (ts.length : Int) > 0 then (rooms.length : Int) - (ts.length : Int) else 0) = ((rooms.length - ts.length : Nat) : Int) from by split <;> omega]
  exact q
/-! ### pairs in tuples -/
abbrev TP := Addr × Int × Int
def tups (l : List TP) : SP := Sep (l.map fun e => pt e.1 (.tup [.int e.2.1, .int e.2.2]))
theorem tups_nil {R : List SP} {H : Hp} (S : Sep R H) : Sep (tups [] :: R) H := Sep.b_nil S
theorem tups_add {l : List TP} {p : Addr} {x y : Int} {R : List SP} {H : Hp} (S : Sep (pt p (.tup [.int x, .int y]) :: tups l :: R) H) : Sep (tups (l ++ [(p, x, y)]) :: R) H := by
  unfold tups at S ⊢
  rw [List.map_append]
  exact Sep.b_add S
theorem tups_mem {l : List TP} {e : TP} {R : List SP} {H : Hp} (S : Sep (tups l :: R) H) (h : e ∈ l) : H e.1 = some (.tup [.int e.2.1, .int e.2.2]) := by
  obtain ⟨l1, l2, rfl⟩ := List.append_of_mem h
  unfold tups at S
  rw [List.map_append] at S
  exact (Sep.b_open S).hd_at
/-! ### the law's own dict and its own arrays -/
def kitP (Kd : Addr) (ka : List TP) (ls : List Int) : SP := fun G => ∃ Lf Ak : Addr, Sep [pt Kd (.dK [(.inr "left", .ref Lf), (.inr "asked", .ref Ak)]), pt Ak (.lst (ka.map fun e => .ref e.1)), tups ka, pt Lf (.lst (ls.map V.int))] G
theorem kit_open {Kd : Addr} {ka : List TP} {ls : List Int} {R : List SP} {H : Hp} (S : Sep (kitP Kd ka ls :: R) H) : ∃ Lf Ak : Addr, Sep (pt Kd (.dK [(.inr "left", .ref Lf), (.inr "asked", .ref Ak)]) :: pt Ak (.lst (ka.map fun e => .ref e.1)) :: tups ka :: pt Lf (.lst (ls.map V.int)) :: R) H := by
  obtain ⟨Lf, S⟩ := S.ex
  obtain ⟨Ak, S⟩ := S.ex
  exact ⟨Lf, Ak, S.flat⟩
theorem kit_shut {Kd Lf Ak : Addr} {ka : List TP} {ls : List Int} {R : List SP} {H : Hp} (S : Sep (pt Kd (.dK [(.inr "left", .ref Lf), (.inr "asked", .ref Ak)]) :: pt Ak (.lst (ka.map fun e => .ref e.1)) :: tups ka :: pt Lf (.lst (ls.map V.int)) :: R) H) : Sep (kitP Kd ka ls :: R) H :=
  Sep.ex_in Lf (Sep.ex_in Ak (Sep.unflat (As := [_, _, _, _]) S))
theorem kit_asks {Kd Lf Ak p : Addr} {room needed : Int} {ka : List TP} {ls : List Int} {R : List SP} {H : Hp} (S : Sep (pt p (.tup [.int room, .int needed]) :: pt Kd (.dK [(.inr "left", .ref Lf), (.inr "asked", .ref Ak)]) :: pt Ak (.lst ((ka.map fun e : TP => V.ref e.1) ++ [.ref p])) :: tups ka :: pt Lf (.lst (ls.map V.int)) :: R) H) : Sep (kitP Kd (ka ++ [(p, room, needed)]) ls :: R) H := by
  have S := S.s5 (A := pt p (.tup [.int room, .int needed])) (B := tups ka) (C := pt Kd (.dK [(.inr "left", .ref Lf), (.inr "asked", .ref Ak)])) (D := pt Ak (.lst ((ka.map fun e : TP => V.ref e.1) ++ [.ref p]))) (E := pt Lf (.lst (ls.map V.int))) (by walk_at "sel")
  have S := tups_add S
  have e : (ka.map fun e : TP => V.ref e.1) ++ [.ref p] = (ka ++ [(p, room, needed)]).map fun e : TP => V.ref e.1 := by simp
  rw [e] at S
  exact kit_shut (S.s4 (A := pt Kd (.dK [(.inr "left", .ref Lf), (.inr "asked", .ref Ak)])) (B := pt Ak (.lst ((ka ++ [(p, room, needed)]).map fun e : TP => V.ref e.1))) (C := tups (ka ++ [(p, room, needed)])) (by walk_at "sel"))
theorem kit_asked {x y : V} : valV [((.inr "left" : Key), x), (.inr "asked", y)] (.inr "asked") = some y := by
  have h : ¬ ((.inr "left" : Key) = .inr "asked") := by decide
  unfold valV
  rw [List.find?_cons_of_neg (by simpa using h), List.find?_cons_of_pos (by simp)]
  rfl
theorem kit_left {x y : V} : valV [((.inr "left" : Key), x), (.inr "asked", y)] (.inr "left") = some x := by
  unfold valV
  rw [List.find?_cons_of_pos (by simp)]
  rfl
theorem q_asked {Kd Lf Ak : Addr} {H : Hp} {Q : VK} {σ : L2.St} {i : Nat} (hv : σ[i]? = some (some (.ref Kd))) (hd : H Kd = some (.dK [(.inr "left", .ref Lf), (.inr "asked", .ref Ak)])) (h : Q (.ref Ak) H) : tDGet (tVar i) (tC (.str "asked")) σ H Q :=
  q_var hv (q_c ⟨Kd, _, rfl, .inl ⟨_, .inr "asked", .inl hd, rfl, kit_asked.symm⟩, h⟩)
theorem q_left {Kd Lf Ak : Addr} {H : Hp} {Q : VK} {σ : L2.St} {i : Nat} (hv : σ[i]? = some (some (.ref Kd))) (hd : H Kd = some (.dK [(.inr "left", .ref Lf), (.inr "asked", .ref Ak)])) (h : Q (.ref Lf) H) : tDGet (tVar i) (tC (.str "left")) σ H Q :=
  q_var hv (q_c ⟨Kd, _, rfl, .inl ⟨_, .inr "left", .inl hd, rfl, kit_left.symm⟩, h⟩)
structure OW where
  e : Addr
  c : Addr
  cs : List Int
  s : Int
def ownP (l : List OW) : SP := Sep (l.map fun x => Sep [pt x.e (.lst [.ref x.c, .int x.s]), pt x.c (.lst (x.cs.map V.int))])
abbrev owr (l : List OW) : List V := l.map fun x => .ref x.e
theorem own_open {l1 l2 : List OW} {x : OW} {R : List SP} {H : Hp} (S : Sep (ownP (l1 ++ x :: l2) :: R) H) : Sep (pt x.e (.lst [.ref x.c, .int x.s]) :: pt x.c (.lst (x.cs.map V.int)) :: ownP (l1 ++ l2) :: R) H := by
  unfold ownP at S ⊢
  rw [List.map_append] at S ⊢
  exact Sep.flat (As := [_, _]) (Sep.b_open S)
theorem own_shut {l1 l2 : List OW} {x : OW} {R : List SP} {H : Hp} (S : Sep (pt x.e (.lst [.ref x.c, .int x.s]) :: pt x.c (.lst (x.cs.map V.int)) :: ownP (l1 ++ l2) :: R) H) : Sep (ownP (l1 ++ x :: l2) :: R) H := by
  unfold ownP at S ⊢
  rw [List.map_append] at S ⊢
  exact Sep.b_shut (Sep.unflat (As := [pt x.e (.lst [.ref x.c, .int x.s]), pt x.c (.lst (x.cs.map V.int))]) S)
theorem own_add {l : List OW} {x : OW} {R : List SP} {H : Hp} (S : Sep (pt x.e (.lst [.ref x.c, .int x.s]) :: pt x.c (.lst (x.cs.map V.int)) :: ownP l :: R) H) : Sep (ownP (l ++ [x]) :: R) H := by
  unfold ownP at S ⊢
  rw [List.map_append]
  exact Sep.b_add (Sep.unflat (As := [pt x.e (.lst [.ref x.c, .int x.s]), pt x.c (.lst (x.cs.map V.int))]) S)
theorem eqv_nil (l : List Int) : PyData.eqv (dInts l) (.list []) = l.isEmpty := by
  cases l <;> simp [dInts, PyData.eqv, PyData.eqvAll]
def grw (kind : Int) (ls : List Int) (room needed : Int) : Int := if kind = 2 then (if 2 * room > needed then 2 * room else needed) else if kind = 3 then ls.headD needed else needed
def spNewRoom : Sp := fun vs H Q _ => ∃ (kind : Int) (Kd : Addr) (room needed : Int) (ka : List TP) (ls : List Int) (R : List SP), vs = [.int kind, .ref Kd, .int room, .int needed] ∧ ka.length < 1000 ∧ Sep (kitP Kd ka ls :: R) H ∧
  ∀ t H', Sep (kitP Kd (ka ++ [(t, room, needed)]) (if kind = 3 then ls.tail else ls) :: R) H' → Q (.int (grw kind ls room needed)) H'
theorem sc_l_new_room : FnScope N_l_new_room ["_law_kind", "_law_kit", "_law_room", "_law_needed"] (defScope s_l_new_room) := ⟨rfl, rfl, rfl, by decide +kernel, rfl, by decide +kernel, by decide +kernel⟩
theorem ok_l_new_room {f : Addr} (F : Dt K mg "_law_new_room" s_l_new_room ["_law_kind", "_law_kit", "_law_room", "_law_needed"] f) (T : Tx K mg c_Array c_Window c_Told f_doubled f_exact) : Df P w K mg base 1 "_law_new_room" f ["_law_kind", "_law_kit", "_law_room", "_law_needed"] spNewRoom := by
  refine F.ok sc_l_new_room (fun vs H Q E h => ?_) (fun cdv A outer s H vs Q E hr h => ?_)
  · obtain ⟨kind, Kd, room, needed, ka, ls, R, rfl, _⟩ := h
    rfl
  obtain ⟨kind, Kd, room, needed, ka, ls, R, rfl, hka, S, q⟩ := h
  refine ⟨_, (pss_cons (ps_expr (pe_bmK K PySem.F.plainAttrs_list PySem.F.slot_list_append PySem.F.type_list_append mt_append (pe_dget (Nat.lt_of_le_of_lt (Nat.add_le_add_left (by decide) _) hr.units) (pv 1) pe_str (by first | rfl | trivial | exact fun _ _ => rfl)) (pa_cons (pe_tup (pa_cons (pv 2) (pa_cons (pv 3) pa_nil))) pa_nil)))
      (pss_cons (ps_if (pt_cmpR (r := rEqA K) (op_eqA hr.units) (pv 0) pe_int (nomark _)) (pss_one (ps_ret (pe_callB (r := cMax2) (call_max2 rfl) (by rfl) T.z_max (by decide +kernel) (pa_cons (pv 3) (pa_cons (pe_op (r := rMulA) op_mulA pe_int (pv 2)) pa_nil))))) pss_nil)
      (pss_one (ps_ret (pe_ifExp (PW.pt (pw_and (pt_cmpR (r := rEqA K) (op_eqA hr.units) (pv 0) pe_int (nomark _)) (pw_and1 (pt_cmpR (r := rNeA K) (op_neA hr.units) (pe_dget (Nat.lt_of_le_of_lt (Nat.add_le_add_left (by decide) _) hr.units) (pv 1) pe_str (by first | rfl | trivial | exact fun _ _ => rfl)) (pe_lst pa_nil) (nomark _))))) (pe_bmK K PySem.F.plainAttrs_list PySem.F.slot_list_pop PySem.F.type_list_pop mt_popAt (pe_dget (Nat.lt_of_le_of_lt (Nat.add_le_add_left (by decide) _) hr.units) (pv 1) pe_str (by first | rfl | trivial | exact fun _ _ => rfl)) (pa_cons pe_int pa_nil)) (pv 3)))))), ?_⟩
  obtain ⟨Lf, Ak, S⟩ := kit_open S
  have hl9 : (ka.map fun e : TP => V.ref e.1).length < 100000 := by rw [List.length_map]; omega
  walk_at "go"
  refine q_asked rfl (by walk_at "at") ?_
  walk_at "go"
  obtain ⟨t, ht⟩ : ∃ t, t = p := ⟨p, rfl⟩
  subst ht
  refine q_ite (fun h2 => ?_) (fun h2 => ?_)
  · walk_at "go"
    have e : grw kind ls room needed = if 2 * room > needed then 2 * room else needed := by unfold grw; rw [if_pos h2]
    rw [e, if_neg (by omega)] at q
    exact q t _ (kit_asks S)
  · walk_at "go"
    refine q_ite (fun h3 => ?_) (fun h3 => ?_)
    · walk_at "go"
      rw [if_pos h3] at q
      refine q_left rfl (by walk_at "at") ?_
      walk_at "go"
      refine .inr ⟨dInts ls, .list [], dp_ints (by walk_at "sq"), .lst (by walk_at "sq") .nil, (okd_ints 0 ls).shaped (by decide), (okd_list (k := 0) (ds := []) (by simp)).shaped (by decide), ?_⟩
      rw [eqv_nil]
      have e : grw kind ls room needed = ls.headD needed := by unfold grw; rw [if_neg h2, if_pos h3]
      rw [e] at q
      cases ls with
      | nil =>
        walk_at "go"
        simp only [List.isEmpty_nil, Bool.not_true]
        walk_at "go"
        exact q t _ (kit_asks S.tl)
      | cons y ls =>
        walk_at "go"
        simp only [List.isEmpty_cons, Bool.not_false]
        rw [if_pos trivial]
        walk_at "go"
        refine q_left rfl (by walk_at "at") ?_
        walk_at "go"
        refine ⟨Lf, _, 0, 0, .int y, rfl, rfl, by walk_at "at", by decide, by decide, seqIndex_of (by decide) (by simp), rfl, ?_⟩
        have S := (S.set (a := Lf) (o' := .lst (ls.map V.int)) (by walk_at "rep")).tl
        exact q t _ (kit_asks S)
    · walk_at "go"
      have e : grw kind ls room needed = needed := by unfold grw; rw [if_neg h2, if_neg h3]
      rw [e, if_neg h3] at q
      exact q t _ (kit_asks S)
def spOwnPut : Sp := fun vs H Q _ => ∃ (Ow Kd sT M : Addr) (kind : Int) (l1 l2 : List OW) (x : OW) (n : Nat) (xs ls : List Int) (ka pl : List TP) (R : List SP), vs = [.ref Ow, .int kind, .ref Kd, .ref sT, .ref M] ∧ (sT, (l1.length : Int), (n : Int)) ∈ pl ∧ n ≤ x.cs.length ∧ x.cs.length ≤ 1000 ∧ xs.length ≤ 1000 ∧ ka.length < 1000 ∧ (l1 ++ x :: l2).length ≤ 1000 ∧
  Sep (pt Ow (.lst (owr (l1 ++ x :: l2))) :: ownP (l1 ++ x :: l2) :: kitP Kd ka ls :: tups pl :: pt M (.lst (xs.map V.int)) :: R) H ∧
  (((n + xs.length : Nat) : Int) ≤ x.s → ∀ T H', Sep (pt T (.tup [.int (l1.length : Int), .int ((n + xs.length : Nat) : Int)]) :: pt Ow (.lst (owr (l1 ++ x :: l2))) :: ownP (l1 ++ ⟨x.e, x.c, x.cs.take n ++ xs ++ x.cs.drop (n + xs.length), x.s⟩ :: l2) :: kitP Kd ka ls :: tups pl :: pt M (.lst (xs.map V.int)) :: R) H' → Q (.ref T) H') ∧
  (x.s < ((n + xs.length : Nat) : Int) → ∀ T e c t H', Sep (pt T (.tup [.int ((l1 ++ x :: l2).length : Int), .int ((n + xs.length : Nat) : Int)]) :: pt Ow (.lst (owr ((l1 ++ x :: l2) ++ [⟨e, c, x.cs.take n ++ xs, grw kind ls x.s ((n + xs.length : Nat) : Int)⟩]))) :: ownP ((l1 ++ x :: l2) ++ [⟨e, c, x.cs.take n ++ xs, grw kind ls x.s ((n + xs.length : Nat) : Int)⟩]) ::
    kitP Kd (ka ++ [(t, x.s, ((n + xs.length : Nat) : Int))]) (if kind = 3 then ls.tail else ls) :: tups pl :: pt M (.lst (xs.map V.int)) :: R) H' → Q (.ref T) H')
theorem sc_l_own_put : FnScope N_l_own_put ["_law_own", "_law_kind", "_law_kit", "_law_spot", "_law_marks"] (defScope s_l_own_put) := ⟨rfl, rfl, rfl, by decide +kernel, rfl, by decide +kernel, by decide +kernel⟩
theorem ok_l_own_put {f f1 : Addr} (F : Dt K mg "_law_own_put" s_l_own_put ["_law_own", "_law_kind", "_law_kit", "_law_spot", "_law_marks"] f) (T : Tx K mg c_Array c_Window c_Told f_doubled f_exact) (D_l_new_room : Df P w K mg base 1 "_law_new_room" f1 ["_law_kind", "_law_kit", "_law_room", "_law_needed"] spNewRoom) : Df P w K mg base 2 "_law_own_put" f ["_law_own", "_law_kind", "_law_kit", "_law_spot", "_law_marks"] spOwnPut := by
  refine F.ok sc_l_own_put (fun vs H Q E h => ?_) (fun cdv A outer s H vs Q E hr h => ?_)
  · obtain ⟨Ow, Kd, sT, M, kind, l1, l2, x, n, xs, ls, ka, pl, R, rfl, _⟩ := h
    rfl
  obtain ⟨Ow, Kd, sT, M, kind, l1, l2, x, n, xs, ls, ka, pl, R, rfl, hsT, hn, hc, hx, hka, hol, S, q1, q2⟩ := h
  refine ⟨_, (pss_cons (ps_asg (pv 3) (pg_tupK K rfl (pgs_cons (pg_name (i := 5) sc_l_own_put.nd rfl (by first | exact Or.inl rfl | exact Or.inr rfl)) (pgs_cons (pg_name (i := 6) sc_l_own_put.nd rfl (by first | exact Or.inl rfl | exact Or.inr rfl)) pgs_nil))))
      (pss_cons (ps_asg (pe_ix (r := rIx K) ix_seq (pv 0) (pv 5) (fun _ _ => rfl)) (pg_unlK K rfl (pgs_cons (pg_name (i := 7) sc_l_own_put.nd rfl (by first | exact Or.inl rfl | exact Or.inr rfl)) (pgs_cons (pg_name (i := 8) sc_l_own_put.nd rfl (by first | exact Or.inl rfl | exact Or.inr rfl)) pgs_nil))))
      (pss_cons (ps_set (i := 9) sc_l_own_put.nd rfl (by first | exact Or.inl rfl | exact Or.inr rfl) (pe_op (r := rAddA) op_addA (pv 6) (pe_callB (r := cOr (cLenQ K) cLenS) call_lenA (by rfl) T.z_len (by decide +kernel) (pa_cons (pv 4) pa_nil))))
      (pss_cons (ps_if (pt_cmpR (r := rLeI) op_le (pv 9) (pv 8) (nomark _)) (pss_cons (ps_asg (pe_callTy (r := cList K) call_list_of (by rfl) T.z_list (by decide +kernel) (pa_cons (pv 4) pa_nil)) (pg_slice (pe_ix (r := rIx K) ix_seq (pe_ix (r := rIx K) ix_seq (pv 0) (pv 5) (fun _ _ => rfl)) pe_int (fun _ _ => rfl)) (po_some (pv 6)) (po_some (pv 9))))
      (pss_one (ps_ret (pe_tup (pa_cons (pv 5) (pa_cons (pv 9) pa_nil)))))) pss_nil)
      (pss_cons (ps_expr (pe_bmK K PySem.F.plainAttrs_list PySem.F.slot_list_append PySem.F.type_list_append mt_append (pv 0) (pa_cons (pe_lst (pa_cons (pe_op (r := rAddA) op_addA (pe_slice (r := rSlL K) sl_list (pv 7) po_none (po_some (pv 6))) (pe_callTy (r := cList K) call_list_of (by rfl) T.z_list (by decide +kernel) (pa_cons (pv 4) pa_nil))) (pa_cons (pe_df D_l_new_room (hr.mono (by decide)) (pa_cons (pv 1) (pa_cons (pv 2) (pa_cons (pv 8) (pa_cons (pv 9) pa_nil))))) pa_nil))) pa_nil)))
      (pss_one (ps_ret (pe_tup (pa_cons (pe_op (r := rSubI) op_sub (pe_callB (r := cOr (cLenQ K) cLenS) call_lenA (by rfl) T.z_len (by decide +kernel) (pa_cons (pv 0) pa_nil)) pe_int) (pa_cons (pv 9) pa_nil)))))))))), ?_⟩
  have hsT' := tups_mem (S.s1 (A := tups pl) (by walk_at "sel")) hsT
  walk_at "go"
  refine r_gtup (xs := [.int (l1.length : Int), .int (n : Int)]) (SqT.of hsT') rfl ?_
  walk_at "go"
  have hxr : (owr (l1 ++ x :: l2))[l1.length]? = some (V.ref x.e) := by simp [owr]
  refine q_ixL (by walk_at "sq") (atI_nat hxr) ?_
  have So : Sep (pt x.e (.lst [.ref x.c, .int x.s]) :: pt x.c (.lst (x.cs.map V.int)) :: ownP (l1 ++ l2) :: pt Ow (.lst (owr (l1 ++ x :: l2))) :: kitP Kd ka ls :: tups pl :: pt M (.lst (xs.map V.int)) :: R) H := own_open (S.s5 (A := ownP (l1 ++ x :: l2)) (B := pt Ow (.lst (owr (l1 ++ x :: l2)))) (C := kitP Kd ka ls) (D := tups pl) (E := pt M (.lst (xs.map V.int))) (by walk_at "sel"))
  clear S
  obtain S := So
  refine r_gunl (by walk_at "sq") rfl ?_
  walk_at "go"
  rw [List.length_map, show (n : Int) + (xs.length : Int) = ((n + xs.length : Nat) : Int) by omega]
  refine q_ite (fun h => ?_) (fun h => ?_)
  · walk_at "go"
    refine q_ixL (by walk_at "sq") (atI_nat hxr) ?_
    walk_at "go"
    have ne : x.c ≠ p := Sep.ne (S.s2 (A := pt x.c _) (B := pt p _) (by walk_at "sel"))
    refine ⟨x.c, p, x.cs.map V.int, xs.map V.int, n, n + xs.length, rfl, rfl, rfl, rfl, by walk_at "at", by walk_at "at", ne, by simpa using hn, by omega, Nat.le_trans (by simp; omega : _ ≤ 20000) (by decide), ?_⟩
    have el : (x.cs.map V.int).take n ++ xs.map V.int ++ (x.cs.map V.int).drop (n + xs.length) = (x.cs.take n ++ xs ++ x.cs.drop (n + xs.length)).map V.int := by simp
    rw [el]
    have S := S.set (a := x.c) (o' := .lst ((x.cs.take n ++ xs ++ x.cs.drop (n + xs.length)).map V.int)) (by walk_at "rep")
    generalize upd H x.c _ = H at S
    walk_at "go"
    have S := S.s8 (A := pt x.e (.lst [.ref x.c, .int x.s])) (B := pt x.c (.lst ((x.cs.take n ++ xs ++ x.cs.drop (n + xs.length)).map V.int))) (C := ownP (l1 ++ l2)) (D := pt p (.tup [.int (l1.length : Int), .int ((n + xs.length : Nat) : Int)])) (E := pt Ow (.lst (owr (l1 ++ x :: l2)))) (F := kitP Kd ka ls) (G := tups pl) (I := pt M (.lst (xs.map V.int))) (Rs := R) (by walk_at "sel")
    have S := own_shut (x := ⟨x.e, x.c, x.cs.take n ++ xs ++ x.cs.drop (n + xs.length), x.s⟩) S
    exact q1 h p _ (S.s6 (by walk_at "sel"))
  · walk_at "go"
    refine r_cat S (by walk_at "at") (by walk_at "at") (by rw [cut_take]; simp; omega) fun c H S => ?_
    rw [cut_take, ← List.map_take, ← List.map_append] at S
    walk_at "go"
    refine ⟨kind, Kd, x.s, _, ka, ls, _, rfl, hka, S.s1 (A := kitP Kd ka ls) (by walk_at "sel"), fun t H S => ?_⟩
    have ho9 : (owr (l1 ++ x :: l2)).length < 100000 := by rw [List.length_map]; omega
    walk_at "go"
    walk_at "go"
    rename_i pe _ _ _ _
    generalize hg : grw kind ls x.s ((n + xs.length : Nat) : Int) = g at S q2
    have e1 : ((owr (l1 ++ x :: l2) ++ [V.ref pe]).length : Int) - 1 = ((l1 ++ x :: l2).length : Int) := by simp; omega
    rw [e1] at S
    have S : Sep (pt x.e (.lst [.ref x.c, .int x.s]) :: pt x.c (.lst (x.cs.map V.int)) :: ownP (l1 ++ l2) :: pt pe (.lst [.ref c, .int g]) :: pt c (.lst ((x.cs.take n ++ xs).map V.int)) :: pt p (.tup [.int ((l1 ++ x :: l2).length : Int), .int ((n + xs.length : Nat) : Int)]) :: pt Ow (.lst (owr (l1 ++ x :: l2) ++ [V.ref pe])) :: kitP Kd (ka ++ [(t, x.s, ((n + xs.length : Nat) : Int))]) (if kind = 3 then ls.tail else ls) :: tups pl :: pt M (.lst (xs.map V.int)) :: R) H := S.sel (As := [pt x.e (.lst [.ref x.c, .int x.s]), pt x.c (.lst (x.cs.map V.int)), ownP (l1 ++ l2), pt pe (.lst [.ref c, .int g]), pt c (.lst ((x.cs.take n ++ xs).map V.int)), pt p (.tup [.int ((l1 ++ x :: l2).length : Int), .int ((n + xs.length : Nat) : Int)]), pt Ow (.lst (owr (l1 ++ x :: l2) ++ [V.ref pe])), kitP Kd (ka ++ [(t, x.s, ((n + xs.length : Nat) : Int))]) (if kind = 3 then ls.tail else ls), tups pl, pt M (.lst (xs.map V.int))]) (Rs := R) (by walk_at "sel")
    have S := (own_shut S).s3 (A := pt pe (.lst [.ref c, .int g])) (B := pt c (.lst ((x.cs.take n ++ xs).map V.int))) (C := ownP (l1 ++ x :: l2)) (by walk_at "sel")
    have S := own_add (x := ⟨pe, c, x.cs.take n ++ xs, g⟩) S
    have e2 : owr (l1 ++ x :: l2) ++ [.ref pe] = owr ((l1 ++ x :: l2) ++ [⟨pe, c, x.cs.take n ++ xs, g⟩]) := by simp [owr]
    rw [e2] at S
    exact q2 (by omega) p pe c t _ (S.s6 (by walk_at "sel"))
/-- what an own window sees, as a new list -/
def spSees : Sp := fun vs H Q _ => ∃ (Ow sT : Addr) (l1 l2 : List OW) (x : OW) (n : Nat) (pl : List TP) (R : List SP), vs = [.ref Ow, .ref sT] ∧ (sT, (l1.length : Int), (n : Int)) ∈ pl ∧ Sep (pt Ow (.lst (owr (l1 ++ x :: l2))) :: ownP (l1 ++ x :: l2) :: tups pl :: R) H ∧
  ∀ D H', Sep (pt D (.lst ((x.cs.take n).map V.int)) :: pt Ow (.lst (owr (l1 ++ x :: l2))) :: ownP (l1 ++ x :: l2) :: tups pl :: R) H' → Q (.ref D) H'
theorem sc_l_sees : FnScope N_l_sees ["_law_own", "_law_spot"] (defScope s_l_sees) := ⟨rfl, rfl, rfl, by decide +kernel, rfl, by decide +kernel, by decide +kernel⟩
theorem ok_l_sees {f : Addr} (F : Dt K mg "_law_sees" s_l_sees ["_law_own", "_law_spot"] f) (T : Tx K mg c_Array c_Window c_Told f_doubled f_exact) : Df P w K mg base 1 "_law_sees" f ["_law_own", "_law_spot"] spSees := by
  refine F.ok sc_l_sees (fun vs H Q E h => ?_) (fun cdv A outer s H vs Q E hr h => ?_)
  · obtain ⟨Ow, sT, l1, l2, x, n, pl, R, rfl, _⟩ := h
    rfl
  obtain ⟨Ow, sT, l1, l2, x, n, pl, R, rfl, hsT, S, q⟩ := h
  refine ⟨_, (pss_one (ps_ret (pe_slice (r := rSlL K) sl_list (pe_ix (r := rIx K) ix_seq (pe_ix (r := rIx K) ix_seq (pv 0) (pe_ix (r := rIx K) ix_seq (pv 1) pe_int (fun _ _ => rfl)) (fun _ _ => rfl)) pe_int (fun _ _ => rfl)) po_none (po_some (pe_ix (r := rIx K) ix_seq (pv 1) pe_int (fun _ _ => rfl)))))), ?_⟩
  have hsT' : SqT K H sT [.int (l1.length : Int), .int (n : Int)] := SqT.of (tups_mem (S.s1 (A := tups pl) (by walk_at "sel")) hsT)
  have hxr : (owr (l1 ++ x :: l2))[l1.length]? = some (V.ref x.e) := by simp [owr]
  have So := own_open (S.s3 (A := ownP (l1 ++ x :: l2)) (B := pt Ow (.lst (owr (l1 ++ x :: l2)))) (C := tups pl) (by walk_at "sel"))
  clear S
  obtain S := So
  walk_at "go"
  refine q_ixL (by walk_at "sq") (atI_nat hxr) ?_
  walk_at "go"
  rw [cut_take, ← List.map_take] at S
  have S := (S.s5 (A := pt p (.lst ((x.cs.take n).map V.int))) (B := pt Ow (.lst (owr (l1 ++ x :: l2)))) (C := pt x.e (.lst [.ref x.c, .int x.s])) (D := pt x.c (.lst (x.cs.map V.int))) (E := ownP (l1 ++ l2)) (by walk_at "sel")).cons_mono fun _ S => S.cons_mono fun _ S => own_shut S
  exact q p _ S
end

end Pf

set_option Elab.async false
set_option linter.all false
set_option maxRecDepth 100000
set_option maxHeartbeats 16000000
namespace Pf
open PySem L2 Kt
set_option hygiene false
local macro_rules | `(tactic| walk_at "mem") => `(tactic| (with_reducible (repeat (first | exact Pick.hd | apply Pick.tl)); done))
local macro_rules | `(tactic| walk_at "rep") => `(tactic| (with_reducible (repeat (first | exact Repl.hd | apply Repl.tl)); done))
local macro_rules | `(tactic| walk_at "sel") => `(tactic| ((repeat (with_reducible apply Sel.cons; (focus walk_at "mem"))); (with_reducible apply Sel.nil); (with_reducible (repeat (first | exact Dr.all | apply Dr.skip)); done)))
local macro_rules | `(tactic| walk_at "at") => `(tactic| (refine' Sep.at_ (by assumption) ?kkpk; (case kkpk => walk_at "mem")))
local macro_rules | `(tactic| walk_at "sq") => `(tactic| first | assumption | (refine' Sep.sq (by assumption) ?kkpk; (case kkpk => walk_at "mem")))
local macro_rules | `(tactic| walk_at "st") => `(tactic| first | assumption | (refine' Sep.st (by assumption) ?kkpk; (case kkpk => walk_at "mem")))
local macro_rules | `(tactic| walk_at "lk") => `(tactic| (repeat (first | (with_reducible exact lk_eq) | exact rfl | refine (lk_ne (by decide +kernel)).trans ?_)))
local macro_rules | `(tactic| walk_at "pf") => `(tactic| (repeat (first | (with_reducible exact pf_nil) | (with_reducible exact pf_eq) | (apply pf_ne; (focus decide +kernel)))))
local macro_rules | `(tactic| walk_at "ty") => `(tactic| first | exact ty_int | (refine' ty_lst ?kkh; (case kkh => walk_at "at")))
local macro_rules | `(tactic| walk_at "k1") => `(tactic| with_reducible first
  | refine q_seq ?_ | refine q_set ?_ | refine q_asg ?_ | refine q_ret ?_ | refine q_drop ?_ | refine q_next ?_ | refine q_c ?_ | refine q_op ?_ | refine q_un ?_ | refine q_nil ?_ | refine q_cons ?_ | refine q_cb ?_
  | refine q_call ?_ | refine q_ifs ?_ | refine q_if ?_ | refine q_test ?_ | refine q_tb ?_ | refine q_bl ?_ | refine q_notT ?_ | refine q_andT ?_ | refine q_orT ?_ | refine q_andV ?_ | refine q_orV ?_ | refine q_notV ?_
  | refine q_addA ?_ | refine q_subI ?_ | refine q_ltI ?_ | refine q_leI ?_ | refine q_gtI ?_ | refine q_geI ?_ | refine q_eqI ?_ | refine q_neI ?_ | refine q_abs ?_ | refine q_int ?_ | refine q_intB ?_ | refine q_max ?_ | refine q_min ?_
  | refine q_ipAdd ?_ | refine q_ipSub ?_ | refine q_gsub ?_ | refine q_augs ?_ | refine q_lst ?_ | refine q_tup ?_ | refine q_blI ?_ | refine iteT ?_ | refine iteF ?_ | refine iteNT ?_ | refine iteNF ?_
  | refine r_prop ?_ | refine r_fld ?_ | refine r_sfld ?_ | refine r_meth ?_ | refine r_make ?_ | refine r_sl ?_ | refine r_nopart ?_ | refine r_part ?_ | refine r_parti ?_ | refine r_gsl ?_ | refine r_bm ?_ | refine r_bm0 ?_ | refine r_for ?_ | refine r_ilist ?_ | refine r_irng ?_
  | refine r_gname ?_ | refine r_gcons ?_ | refine r_gnil ?_ | refine r_par ?_ | refine r_parA ?_ | refine r_chain ?_ | refine r_isN ?_ | refine r_tlc ?_ | refine r_yes ?_ | refine r_makek ?_ | refine r_neg ?_)
local macro_rules | `(tactic| walk_at "k2") => `(tactic| first
  | ((with_reducible refine' q_var ?kke ?_); (case kke => rfl))
  | ((with_reducible refine' q_aug ?kke ?_); (case kke => rfl))
  | ((with_reducible refine' q_ixL ?kks ?kke ?_); (case kks => walk_at "sq"); (case kke => first | rfl | assumption))
  | ((with_reducible refine' q_ixT ?kks ?kke ?_); (case kks => walk_at "st"); (case kke => first | rfl | assumption))
  | ((with_reducible refine' q_ixLL ?kks ?kke ?_); (case kks => walk_at "sq"); (case kke => first | rfl | assumption))
  | ((with_reducible refine' q_lenL ?kks ?_); (case kks => walk_at "sq"))
  | ((with_reducible refine' q_mulI ?kkc ?_); (case kkc => first | exact .inl (by omega) | exact .inr (by omega)))
  | ((with_reducible refine' q_modI ?kkc ?_); (case kkc => omega))
  | ((with_reducible refine' q_divI ?kkc ?_); (case kkc => exact ⟨by omega, by omega⟩))
  | ((with_reducible refine' q_powI ?kkc ?_); (case kkc => exact ⟨by decide, by decide, by decide⟩))
  | ((with_reducible refine' r_kfld ?kkS ?kkp ?kkc ?kkn ?kkl ?_); (case kkS => assumption); (case kkp => walk_at "mem"); (case kkc => walk_at "cls"); (case kkn => walk_at "na"); (case kkl => walk_at "lk"))
  | ((with_reducible refine' r_kprop ?kkS ?kkp ?_); (case kkS => assumption); (case kkp => walk_at "mem"))
  | ((with_reducible refine' r_kmeth ?kkS ?kkp ?kkl ?_); (case kkS => assumption); (case kkp => walk_at "mem"); (case kkl => walk_at "lk"))
  | ((with_reducible refine' r_calll ?kks ?_); (case kks => rfl))
  | ((with_reducible refine' r_tyl ?kks ?_); (case kks => walk_at "sq"))
  | ((with_reducible refine' r_isi (k := true) ?kkt ?kke ?_); (case kkt => walk_at "ty"); (case kke => decide +kernel))
  | ((with_reducible refine' r_isi (k := false) ?kkt ?kke ?_); (case kkt => walk_at "ty"); (case kke => decide +kernel)))
local macro_rules | `(tactic| walk_at "k3") => `(tactic| first
  | ((with_reducible refine' q_setS ?kkS ?kkr ?kke ?_); (case kkS => assumption); (case kkr => walk_at "rep"); (case kke => rfl); intro H S)
  | ((with_reducible refine' r_kset ?kkS ?kkr ?kkc ?kkn ?kkl ?kke ?_); (case kkS => assumption); (case kkr => walk_at "rep"); (case kkc => walk_at "cls"); (case kkn => walk_at "na"); (case kkl => first | exact Nat.le_of_ble_eq_true rfl | assumption | omega | (simp; done) | (simp; omega)); (case kke => walk_at "pf"); intro H S)
  | ((with_reducible refine' q_new ?kkS ?kkl ?_); (case kkS => assumption); (case kkl => first | exact Nat.le_of_ble_eq_true rfl | assumption | omega | (simp; done) | (simp; omega)); intro p H S)
  | ((with_reducible refine' q_newT ?kkS ?kkl ?_); (case kkS => assumption); (case kkl => first | exact Nat.le_of_ble_eq_true rfl | assumption | omega | (simp; done) | (simp; omega)); intro p H S)
  | ((with_reducible refine' r_knew ?kkS ?_); (case kkS => assumption); intro x dx H S)
  | ((with_reducible refine' r_knewk ?kkS ?kkl1 ?kkl2 ?_); (case kkS => assumption); (case kkl1 => rfl); (case kkl2 => rfl); intro x dx H S)
  | ((with_reducible refine' r_ksl ?kkS ?kks ?_); (case kkS => assumption); (case kks => walk_at "sq"); intro p H S)
  | ((with_reducible refine' r_list ?kkS ?kks ?_); (case kkS => assumption); (case kks => walk_at "sq"); intro p H S)
  | ((with_reducible refine' r_cat ?kkS ?kks1 ?kks2 ?kkz ?_); (case kkS => assumption); (case kks1 => walk_at "at"); (case kks2 => walk_at "at"); (case kkz => first | omega | (simp; omega)); intro p H S)
  | ((with_reducible refine' r_append ?kkS ?kkr ?kkz ?_); (case kkS => assumption); (case kkr => walk_at "rep"); (case kkz => first | omega | (simp; omega)); intro H S)
  | ((with_reducible refine' r_reverse ?kkS ?kkr ?_); (case kkS => assumption); (case kkr => walk_at "rep"); intro H S)
  | ((with_reducible refine' r_clear ?kkS ?kkr ?_); (case kkS => assumption); (case kkr => walk_at "rep"); intro H S))
local macro_rules | `(tactic| walk_at "gn") => `(tactic| repeat (first | walk_at "k1" | walk_at "k2"))
local macro_rules | `(tactic| walk_at "go") => `(tactic| repeat (first | walk_at "k1" | walk_at "k2" | walk_at "k3"))

local macro_rules | `(tactic| walk_at "k1") => `(tactic| with_reducible first | refine r_par3 ?_ | refine r_parA3 ?_ | refine r_izip ?_ | refine r_irng2 ?_)

local macro_rules | `(tactic| walk_at "cls") => `(tactic| with_reducible first | assumption | exact Txt.cl_Array (by assumption) | exact Txt.cl_Window (by assumption) | exact Txt.cl_Told (by assumption))
local macro_rules | `(tactic| walk_at "na") => `(tactic| with_reducible first | assumption | exact Txt.na_Array_cells (by assumption) | exact Txt.na_Array_size (by assumption) | exact Txt.na_Window__array (by assumption) | exact Txt.na_Window__length (by assumption) | exact Txt.na_Window__rule (by assumption) | exact Txt.na_Told__rooms (by assumption) | exact Txt.na_Told__asked (by assumption))
abbrev wr (l : List Wi) : List V := l.map fun x => .ref x.W
theorem wr_get {l : List Wi} {i : Nat} {v : V} (h : (wr l)[i]? = some v) : ∃ x, l[i]? = some x ∧ v = .ref x.W := by
  rw [List.getElem?_map] at h
  cases e : l[i]? with
  | none => rw [e] at h; cases h
  | some z => rw [e] at h; exact ⟨z, rfl, (Option.some.inj h).symm⟩
abbrev tr (l : List TP) : List V := l.map fun e => .ref e.1
theorem tr_get {l : List TP} {i : Nat} {v : V} (h : (tr l)[i]? = some v) : ∃ x, l[i]? = some x ∧ v = .ref x.1 := by
  rw [List.getElem?_map] at h
  cases e : l[i]? with
  | none => rw [e] at h; cases h
  | some z => rw [e] at h; exact ⟨z, rfl, (Option.some.inj h).symm⟩
theorem split_at {α : Type} : ∀ {l : List α} {k : Nat} {e : α}, l[k]? = some e → ∃ l1 l2, l = l1 ++ e :: l2 ∧ l1.length = k
  | [], k, e, h => by simp at h
  | a :: l, 0, e, h => ⟨[], l, by simp at h; simp [h], rfl⟩
  | a :: l, k + 1, e, h => by
    obtain ⟨l1, l2, h1, h2⟩ := split_at (l := l) (k := k) (e := e) (by simpa using h)
    exact ⟨a :: l1, l2, by simp [h1], by simp [h2]⟩
/-- the own arrays and spots tell of the windows -/
structure RelO (as : List Addr) (G : GS) (l : List Wi) (ol : List OW) (sp : List TP) : Prop where
  o : ol.map (fun x => (x.cs, x.s)) = as.map (fun A => ((G A).cs, (G A).s))
  ln : sp.length = l.length
  s : ∀ (i : Nat) (x : Wi) (e : TP), l[i]? = some x → sp[i]? = some e → ∃ k : Nat, e.2 = ((k : Int), (x.n : Int)) ∧ as[k]? = some x.A
theorem RelO.get {as : List Addr} {G : GS} {l : List Wi} {ol : List OW} {sp : List TP} (h : RelO as G l ol sp) {i : Nat} {x : Wi} {e : TP} (hx : l[i]? = some x) (he : sp[i]? = some e) : ∃ l1 ow l2, ol = l1 ++ ow :: l2 ∧ as[l1.length]? = some x.A ∧ e.2 = ((l1.length : Int), (x.n : Int)) ∧ ow.cs = (G x.A).cs ∧ ow.s = (G x.A).s := by
  obtain ⟨k, h1, h2⟩ := h.s i x e hx he
  have h3 := congrArg (fun z => z[k]?) h.o
  simp only [List.getElem?_map, h2, Option.map_some] at h3
  cases e4 : ol[k]? with
  | none => rw [e4] at h3; cases h3
  | some ow =>
    rw [e4] at h3
    obtain ⟨l1, l2, h5, h6⟩ := split_at e4
    have h7 := Option.some.inj h3
    exact ⟨l1, ow, l2, h5, by rw [h6]; exact h2, by rw [h6]; exact h1, congrArg Prod.fst h7, congrArg Prod.snd h7⟩
section
variable {P : Program} {w : World} {K : PySem.W.Frag} {mg : Str → Option Value} {base : Heap} {c_Array c_Window c_Told f_doubled f_exact : Addr}
def spOneR (c_Array c_Window : Addr) : Sp := fun vs H Q _ => ∃ (Ow sT : Addr) (as : List Addr) (G : GS) (ws : List Wi) (x : Wi) (l1 l2 : List OW) (ow : OW) (pl : List TP) (rv : V) (R : List SP), vs = [.ref Ow, .ref sT, .ref x.W] ∧ WF as G ws ∧ x ∈ ws ∧ (sT, (l1.length : Int), (x.n : Int)) ∈ pl ∧ ow.cs = (G x.A).cs ∧ ow.s = (G x.A).s ∧
  (∀ z ∈ ow.cs, z.natAbs < 10 ^ 60) ∧ ow.cs.length ≤ 100 ∧ ow.s ≤ 1000 ∧ Sep (pt Ow (.lst (owr (l1 ++ ow :: l2))) :: ownP (l1 ++ ow :: l2) :: tups pl :: ars c_Array as G :: wis c_Window rv ws :: R) H ∧
  ∀ H', Sep (pt Ow (.lst (owr (l1 ++ ow :: l2))) :: ownP (l1 ++ ow :: l2) :: tups pl :: ars c_Array as G :: wis c_Window rv ws :: R) H' → Q (.bl true) H'
theorem sc_l_one_right : FnScope N_l_one_right ["_law_own", "_law_spot", "_law_window"] (defScope s_l_one_right) := ⟨rfl, rfl, rfl, by decide +kernel, rfl, by decide +kernel, by decide +kernel⟩
theorem ok_l_one_right {f f1 f2 : Addr} (F : Dt K mg "_law_one_right" s_l_one_right ["_law_own", "_law_spot", "_law_window"] f) (T : Tx K mg c_Array c_Window c_Told f_doubled f_exact) (M_getitem : Mf P w K mg base 3 c_Window "__getitem__" ["self", "at"] (spGet c_Array c_Window)) (hget : ∀ f, PySem.W.findIn K (.ref c_Window) "__getitem__" = some (some (.ref f)) → PySem.W.fnIn K f = true)
    (M_len : Mf P w K mg base 1 c_Window "__len__" ["self"] (spLen c_Window)) (M_room : Pf P w K mg base 1 c_Window "room" (spRoom c_Array c_Window)) (M_spare : Pf P w K mg base 1 c_Window "spare" (spSpare c_Array c_Window)) (M_marks : Mf P w K mg base 2 c_Window "marks" ["self"] (spSeen c_Array c_Window))
    (D_l_sees : Df P w K mg base 1 "_law_sees" f1 ["_law_own", "_law_spot"] spSees) (D_l_alike : Dg P w K mg base 1 "_law_alike" f2 ["_law_found", "_law_due"] (spAlike K)) : Dg P w K mg base 5 "_law_one_right" f ["_law_own", "_law_spot", "_law_window"] (spOneR c_Array c_Window) := by
  refine F.okG sc_l_one_right (fun vs H Q E h => ?_) (fun cdv A outer s H vs Q E hg hr h => ?_)
  · obtain ⟨Ow, sT, as, G, ws, x, l1, l2, ow, pl, rv, R, rfl, _⟩ := h
    rfl
  obtain ⟨Ow, sT, as, G, ws, x, l1, l2, ow, pl, rv, R, rfl, wf, hxw, hsT, hc, hs, hvb, hl, hrb, S, q⟩ := h
  refine ⟨_, (pss_cons (ps_par (i := 3) (j := 4) rfl sc_l_one_right.nd rfl rfl (by decide) rfl rfl (pa_cons (pe_df D_l_sees (hr.mono (by decide)) (pa_cons (pv 0) (pa_cons (pv 1) pa_nil))) (pa_cons (pe_ix (r := rIx K) ix_seq (pe_ix (r := rIx K) ix_seq (pv 0) (pe_ix (r := rIx K) ix_seq (pv 1) pe_int (fun _ _ => rfl)) (fun _ _ => rfl)) pe_int (fun _ _ => rfl)) pa_nil)) rfl)
      (pss_cons (ps_set (i := 5) sc_l_one_right.nd rfl (by first | exact Or.inl rfl | exact Or.inr rfl) (pe_lst (pa_cons (pe_mf0 M_marks (hr.mono (by decide)) (pv 2)) (pa_cons (pe_callB (r := cLenOwn c_Window (spLen c_Window)) (call_lenOwn M_len (hr.mono (by decide))) (by rfl) T.z_len (by decide +kernel) (pa_cons (pv 2) pa_nil)) (pa_cons (pe_pr M_room (hr.mono (by decide)) (pv 2)) (pa_cons (pe_pr M_spare (hr.mono (by decide)) (pv 2)) (pa_cons (pe_lc (own := [("_law_k", 6)]) rfl sc_l_one_right.nd (pi_range1 rfl T.z_range (pa_cons (pe_ix (r := rIx K) ix_seq (pv 1) pe_int (fun _ _ => rfl)) pa_nil)) (blkOk_by (own := [("_law_k", 6)]) (N := N_l_one_right) (sc := defScope s_l_one_right) (by decide +kernel)) (fun _ _ _ _ _ => (pg_name (i := 6) sc_l_one_right.nd rfl (by first | exact Or.inl rfl | exact Or.inr rfl))) (fun _ _ _ _ _ => pts_nil) (fun _ _ _ _ _ => (pe_ixOwn M_getitem hget (hr.mono (by decide)) (pv 2) (pv 6)))) pa_nil)))))))
      (pss_one (ps_ret (pe_dg D_l_alike hg (hr.mono (by decide)) (pa_cons (pv 5) (pa_cons (pe_lst (pa_cons (pv 3) (pa_cons (pe_ix (r := rIx K) ix_seq (pv 1) pe_int (fun _ _ => rfl)) (pa_cons (pv 4) (pa_cons (pe_op (r := rSubI) op_sub (pv 4) (pe_ix (r := rIx K) ix_seq (pv 1) pe_int (fun _ _ => rfl))) (pa_cons (pv 3) pa_nil)))))) pa_nil))))))), ?_⟩
  obtain ⟨hx1, hx2, hx3⟩ := wf.ok x hxw
  have hx5 := wf.rm x.A hx1
  rw [hc] at hl hvb
  rw [hs] at hrb
  have hsl : (sees G x).length = x.n := by
    show ((G x.A).cs.take x.n).length = x.n
    rw [List.length_take]
    omega
  walk_at "go"
  refine ⟨Ow, sT, l1, l2, ow, x.n, pl, _, rfl, hsT, S.s3 (by walk_at "sel"), fun m1 H S => ?_⟩
  rw [hc] at S
  have S : Sep (ownP (l1 ++ ow :: l2) :: pt m1 (.lst ((sees G x).map V.int)) :: pt Ow (.lst (owr (l1 ++ ow :: l2))) :: tups pl :: ars c_Array as G :: wis c_Window rv ws :: R) H := S.s6 (A := ownP (l1 ++ ow :: l2)) (B := pt m1 (.lst (((G x.A).cs.take x.n).map V.int))) (C := pt Ow (.lst (owr (l1 ++ ow :: l2)))) (D := tups pl) (E := ars c_Array as G) (F := wis c_Window rv ws) (by walk_at "sel")
  have hstup : SqT K H sT [.int (l1.length : Int), .int (x.n : Int)] := SqT.of (tups_mem (S.s1 (A := tups pl) (by walk_at "sel")) hsT)
  have hxr : (owr (l1 ++ ow :: l2))[l1.length]? = some (V.ref ow.e) := by simp [owr]
  have S := own_open S
  walk_at "go"
  refine q_ixL (by walk_at "sq") (atI_nat hxr) ?_
  walk_at "go"
  rw [hs]
  have S := own_shut S
  have S : Sep (pt m1 (.lst ((sees G x).map V.int)) :: ownP (l1 ++ ow :: l2) :: pt Ow (.lst (owr (l1 ++ ow :: l2))) :: tups pl :: ars c_Array as G :: wis c_Window rv ws :: R) H := S.swap
  walk_at "go"
  refine wl_meth wf hxw S (by walk_at "sel") (fun _ _ _ => rfl) ?_
  walk_at "go"
  refine wl_seen wf hxw S (by walk_at "sel") fun m2 H S => ?_
  walk_at "go"
  refine wl_len wf hxw S (by walk_at "sel") ?_
  walk_at "go"
  refine wl_prop wf hxw S (by walk_at "sel") ?_
  refine wl_room wf hxw S (by walk_at "sel") ?_
  walk_at "go"
  refine wl_prop wf hxw S (by walk_at "sel") ?_
  refine wl_spare wf hxw S (by walk_at "sel") ?_
  walk_at "go"
  have hstup : SqT K H sT [.int (l1.length : Int), .int (x.n : Int)] := SqT.of (tups_mem (S.s1 (A := tups pl) (by walk_at "sel")) hsT)
  walk_at "go"
  clear hstup
  refine r_lc_rng (fun j acc Ps => acc = ((sees G x).take j).map V.int ∧ Ps = pt m2 (.lst ((sees G x).map V.int)) :: ars c_Array as G :: wis c_Window rv ws :: pt m1 (.lst ((sees G x).map V.int)) :: ownP (l1 ++ ow :: l2) :: pt Ow (.lst (owr (l1 ++ ow :: l2))) :: tups pl :: R) S (by omega) (by omega) ⟨rfl, rfl⟩ ?_ ?_
  · rintro D j acc Ps H hj ⟨rfl, rfl⟩ S
    rw [Int.toNat_natCast] at hj
    have hz : (sees G x)[j]? = some ((sees G x)[j]'(by omega)) := List.getElem?_eq_getElem (by omega)
    generalize (sees G x)[j]'(by omega) = z at hz
    have hz2 : (G x.A).cs[j]? = some z := by
      have h : ((G x.A).cs.take x.n)[j]? = some z := hz
      rw [List.getElem?_take_of_lt hj] at h
      exact h
    walk_at "go"
    refine ⟨rfl, ?_⟩
    walk_at "go"
    refine wl_get wf hxw hj hz2 S (by walk_at "sel") ?_
    refine cn_in S (by rw [List.length_map, List.length_take]; omega) ⟨?_, rfl⟩
    rw [List.take_add_one, hz]
    simp
  rintro D acc Ps H ⟨rfl, rfl⟩ S
  rw [Int.toNat_natCast, List.take_of_length_le (by omega)] at S
  have hstup : SqT K H sT [.int (l1.length : Int), .int (x.n : Int)] := SqT.of (tups_mem (S.s1 (A := tups pl) (by walk_at "sel")) hsT)
  walk_at "go"
  have hstup : SqT K H sT [.int (l1.length : Int), .int (x.n : Int)] := SqT.of (tups_mem (S.s1 (A := tups pl) (by walk_at "sel")) hsT)
  walk_at "go"
  have sh : Sh 60 200000 (.list [dInts (sees G x), .int x.n, .int (G x.A).s, .int ((G x.A).s - x.n), dInts (sees G x)]) := by
    have hz : ∀ z : Int, z.natAbs ≤ 2000 → Sh 2 200 (.int z) := fun z hz => sh_int (Nat.lt_of_le_of_lt hz (by decide))
    have m : Sh 2 (100 * 201) (dInts (sees G x)) := (sh_ints (k := 1) fun z hz => hvb z (List.mem_of_mem_take hz)).up (Nat.le_refl _) (by show (sees G x).length * 201 ≤ _; omega)
    exact (sh_cons m (sh_cons (hz _ (by omega)) (sh_cons (hz _ (by omega)) (sh_cons (hz _ (by omega)) (sh_cons m sh_nil))))).up (by decide) (by decide)
  refine ⟨_, p, _, rfl, .lst (by walk_at "sq") (.cons (dp_ints (by walk_at "sq")) (.cons (.int _) (.cons (.int _) (.cons (.int _) (.cons (dp_ints (by walk_at "sq")) .nil))))), .lst (by walk_at "sq") (.cons (dp_ints (a := m1) (by walk_at "sq")) (.cons (.int _) (.cons (.int _) (.cons (.int _) (.cons (dp_ints (a := m1) (by walk_at "sq")) .nil))))), sh.ok, sh.sh, sh.nd, sh.fits (Nat.le_refl _), ?_⟩
  exact q _ (S.s5 (by walk_at "sel"))
theorem nd_idx {as : List Addr} {i j : Nat} {a b : Addr} (nd : as.Nodup) (h1 : as[i]? = some a) (h2 : as[j]? = some b) : (a = b) ↔ i = j :=
  ⟨fun e => (List.getElem?_inj (List.getElem?_eq_some_iff.mp h1).1 nd).mp (by rw [h1, h2, e]), fun e => by rw [e, h2] at h1; exact (Option.some.inj h1).symm⟩
def spAllR (c_Array c_Window : Addr) : Sp := fun vs H Q _ => ∃ (Ow Sp Lw : Addr) (as : List Addr) (G : GS) (ws l : List Wi) (ol : List OW) (sp pl : List TP) (rv : V) (R : List SP), vs = [.ref Ow, .ref Sp, .ref Lw] ∧ WF as G ws ∧ (∀ x ∈ l, x ∈ ws) ∧ RelO as G l ol sp ∧ (∀ e ∈ sp, e ∈ pl) ∧ l.length ≤ 100 ∧
  (∀ A ∈ as, ∀ z ∈ (G A).cs, z.natAbs < 10 ^ 60) ∧ (∀ A ∈ as, (G A).cs.length ≤ 100) ∧ (∀ A ∈ as, (G A).s ≤ 1000) ∧
  Sep (pt Ow (.lst (owr ol)) :: ownP ol :: tups pl :: ars c_Array as G :: wis c_Window rv ws :: pt Sp (.lst (tr sp)) :: pt Lw (.lst (wr l)) :: R) H ∧
  ∀ H', Sep (pt Ow (.lst (owr ol)) :: ownP ol :: tups pl :: ars c_Array as G :: wis c_Window rv ws :: pt Sp (.lst (tr sp)) :: pt Lw (.lst (wr l)) :: R) H' → Q (.bl true) H'
theorem sc_l_all_right : FnScope N_l_all_right ["_law_own", "_law_spots", "_law_windows"] (defScope s_l_all_right) := ⟨rfl, rfl, rfl, by decide +kernel, rfl, by decide +kernel, by decide +kernel⟩
theorem ok_l_all_right {f f1 f2 f3 : Addr} (F : Dt K mg "_law_all_right" s_l_all_right ["_law_own", "_law_spots", "_law_windows"] f) (T : Tx K mg c_Array c_Window c_Told f_doubled f_exact) (oc : OwnC K c_Window) (M_shares : Mf P w K mg base 1 c_Window "shares" ["self", "other"] (spShares c_Array c_Window)) (M_eq : Mf P w K mg base 2 c_Window "__eq__" ["self", "other"] (spEqW K c_Array c_Window))
    (D_l_sees : Df P w K mg base 1 "_law_sees" f1 ["_law_own", "_law_spot"] spSees) (D_l_alike : Dg P w K mg base 1 "_law_alike" f2 ["_law_found", "_law_due"] (spAlike K)) (D_l_one_right : Dg P w K mg base 5 "_law_one_right" f3 ["_law_own", "_law_spot", "_law_window"] (spOneR c_Array c_Window)) : Dg P w K mg base 6 "_law_all_right" f ["_law_own", "_law_spots", "_law_windows"] (spAllR c_Array c_Window) := by
  refine F.okG sc_l_all_right (fun vs H Q E h => ?_) (fun cdv A outer s H vs Q E hg hr h => ?_)
  · obtain ⟨Ow, Sp, Lw, as, G, ws, l, ol, sp, pl, rv, R, rfl, _⟩ := h
    rfl
  obtain ⟨Ow, Sp, Lw, as, G, ws, l, ol, sp, pl, rv, R, rfl, wf, hsub, hro, hpl, hl, hvb, hn, hrb, S, q⟩ := h
  refine ⟨_, (pss_cons (ps_for PassesOwn.never rfl (pi_zipK K (by rfl) T.z_zip (pa_cons (pv 1) (pa_cons (pv 2) pa_nil))) (pg_tupK K rfl (pgs_cons (pg_name (i := 3) sc_l_all_right.nd rfl (by first | exact Or.inl rfl | exact Or.inr rfl)) (pgs_cons (pg_name (i := 4) sc_l_all_right.nd rfl (by first | exact Or.inl rfl | exact Or.inr rfl)) pgs_nil))) (pss_cons (ps_if (pt_not (pt_val (pe_dg D_l_one_right hg (hr.mono (by decide)) (pa_cons (pv 0) (pa_cons (pv 3) (pa_cons (pv 4) pa_nil)))))) (pss_one (ps_ret pe_bl)) pss_nil)
      (pss_one (ps_for PassesOwn.never rfl (pi_zipK K (by rfl) T.z_zip (pa_cons (pv 1) (pa_cons (pv 2) pa_nil))) (pg_tupK K rfl (pgs_cons (pg_name (i := 5) sc_l_all_right.nd rfl (by first | exact Or.inl rfl | exact Or.inr rfl)) (pgs_cons (pg_name (i := 6) sc_l_all_right.nd rfl (by first | exact Or.inl rfl | exact Or.inr rfl)) pgs_nil))) (pss_cons (ps_set (i := 7) sc_l_all_right.nd rfl (by first | exact Or.inl rfl | exact Or.inr rfl) (pe_cmpR (r := rEqA K) (op_eqA hr.units) (pe_df D_l_sees (hr.mono (by decide)) (pa_cons (pv 0) (pa_cons (pv 3) pa_nil))) (pe_df D_l_sees (hr.mono (by decide)) (pa_cons (pv 0) (pa_cons (pv 5) pa_nil))) (nomark _)))
      (pss_cons (ps_set (i := 8) sc_l_all_right.nd rfl (by first | exact Or.inl rfl | exact Or.inr rfl) (pe_lst (pa_cons (pe_mf M_shares (hr.mono (by decide)) (pv 4) (pa_cons (pv 6) pa_nil)) (pa_cons (pe_cmpR (r := rEqOwn c_Window (spEqW K c_Array c_Window)) (op_eqOwn M_eq (hr.mono (by decide))) (pv 4) (pv 6) (nomark _)) (pa_cons (pe_cmpR (r := rNeOwn c_Window (spEqW K c_Array c_Window)) (op_neOwn M_eq (hr.mono (by decide)) oc.hm oc.ne) (pv 4) (pv 6) (nomark _)) pa_nil)))))
      (pss_one (ps_if (pt_not (pt_val (pe_dg D_l_alike hg (hr.mono (by decide)) (pa_cons (pv 8) (pa_cons (pe_lst (pa_cons (pe_cmpR (r := rEqA K) (op_eqA hr.units) (pe_ix (r := rIx K) ix_seq (pv 3) pe_int (fun _ _ => rfl)) (pe_ix (r := rIx K) ix_seq (pv 5) pe_int (fun _ _ => rfl)) (nomark _)) (pa_cons (pv 7) (pa_cons (pe_not (pv 7)) pa_nil)))) pa_nil))))) (pss_one (ps_ret pe_bl)) pss_nil))))))))
      (pss_one (ps_ret pe_bl))), ?_⟩
  have hln := hro.ln
  walk_at "go"
  refine r_for_zip (xs := tr sp) (ys := wr l) (fun i σ Ps => ∃ u3 u4 u5 u6 u7 u8, σ = [some (.ref Ow), some (.ref Sp), some (.ref Lw), u3, u4, u5, u6, u7, u8] ∧ Ps = pt Ow (.lst (owr ol)) :: ownP ol :: tups pl :: ars c_Array as G :: wis c_Window rv ws :: pt Sp (.lst (tr sp)) :: pt Lw (.lst (wr l)) :: R) (by simp [hln]) S ⟨_, _, _, _, _, _, rfl, rfl⟩ ?_ ?_ ?_
  · rintro i σ Ps H ⟨u3, u4, u5, u6, u7, u8, rfl, rfl⟩ S
    exact ⟨by walk_at "sq", by walk_at "sq"⟩
  · rintro i e0 x0 T0 σ Ps H he hx ⟨u3, u4, u5, u6, u7, u8, rfl, rfl⟩ S
    obtain ⟨e, he1, rfl⟩ := tr_get he
    obtain ⟨x, hx1, rfl⟩ := wr_get hx
    clear he hx
    have hxw := hsub x (List.mem_of_getElem? hx1)
    obtain ⟨g1, g2, g3⟩ := wf.ok x hxw
    obtain ⟨l1, ow, l2, hol, ho2, ho3, ho4, ho5⟩ := hro.get hx1 he1
    have hep := hpl e (List.mem_of_getElem? he1)
    obtain ⟨te, ke, ne⟩ := e
    obtain ⟨rfl, rfl⟩ : ke = (l1.length : Int) ∧ ne = (x.n : Int) := ⟨congrArg Prod.fst ho3, congrArg Prod.snd ho3⟩
    refine r_gtup (by walk_at "st") rfl ?_
    walk_at "go"
    refine ⟨Ow, te, as, G, ws, x, l1, l2, ow, pl, rv, _, rfl, wf, hxw, hep, ho4, ho5, by rw [ho4]; exact hvb _ g1, by rw [ho4]; exact hn _ g1, by rw [ho5]; exact hrb _ g1, hol ▸ S.s5 (A := pt Ow (.lst (owr ol))) (B := ownP ol) (C := tups pl) (D := ars c_Array as G) (E := wis c_Window rv ws) (by walk_at "sel"), fun H S => ?_⟩
    rw [← hol] at S
    walk_at "go"
    have S : Sep (pt Ow (.lst (owr ol)) :: ownP ol :: tups pl :: ars c_Array as G :: wis c_Window rv ws :: pt Sp (.lst (tr sp)) :: pt Lw (.lst (wr l)) :: R) H := S.s7 (by walk_at "sel")
    refine r_for_zip (xs := tr sp) (ys := wr l) (fun m σ Ps => ∃ u5 u6 u7 u8, σ = [some (.ref Ow), some (.ref Sp), some (.ref Lw), some (.ref te), some (.ref x.W), u5, u6, u7, u8] ∧ Ps = pt Ow (.lst (owr ol)) :: ownP ol :: tups pl :: ars c_Array as G :: wis c_Window rv ws :: pt Sp (.lst (tr sp)) :: pt Lw (.lst (wr l)) :: R) (by simp [hln]) S ⟨_, _, _, _, rfl, rfl⟩ ?_ ?_ ?_
    · rintro m σ Ps H ⟨u5, u6, u7, u8, rfl, rfl⟩ S
      exact ⟨by walk_at "sq", by walk_at "sq"⟩
    · rintro m e1 x1 T1 σ Ps H he hx ⟨u5, u6, u7, u8, rfl, rfl⟩ S
      obtain ⟨d, hd1, rfl⟩ := tr_get he
      obtain ⟨y, hy1, rfl⟩ := wr_get hx
      clear he hx
      have hyw := hsub y (List.mem_of_getElem? hy1)
      obtain ⟨f1', f2', f3'⟩ := wf.ok y hyw
      obtain ⟨m1, ow2, m2, hom, po2, po3, po4, po5⟩ := hro.get hy1 hd1
      have hdp := hpl d (List.mem_of_getElem? hd1)
      obtain ⟨td, kd, nd⟩ := d
      obtain ⟨rfl, rfl⟩ : kd = (m1.length : Int) ∧ nd = (y.n : Int) := ⟨congrArg Prod.fst po3, congrArg Prod.snd po3⟩
      refine r_gtup (by walk_at "st") rfl ?_
      walk_at "go"
      refine ⟨Ow, te, l1, l2, ow, x.n, pl, _, rfl, hep, hol ▸ S.s3 (A := pt Ow (.lst (owr ol))) (B := ownP ol) (C := tups pl) (by walk_at "sel"), fun q1 H S => ?_⟩
      rw [← hol] at S
      walk_at "go"
      refine ⟨Ow, td, m1, m2, ow2, y.n, pl, _, rfl, hdp, hom ▸ S.s3 (A := pt Ow (.lst (owr ol))) (B := ownP ol) (C := tups pl) (by walk_at "sel"), fun q2 H S => ?_⟩
      rw [← hom] at S
      refine r_eq_ints (by walk_at "sq") (by walk_at "sq") ?_
      rw [ho4, po4]
      have es : decide ((G x.A).cs.take x.n = (G y.A).cs.take y.n) = decide (sees G x = sees G y) := rfl
      rw [es]
      walk_at "go"
      refine wl_meth wf hxw S (by walk_at "sel") (fun _ _ _ => rfl) ?_
      walk_at "go"
      refine wl_shares wf hxw hyw S (by walk_at "sel") ?_
      walk_at "go"
      refine wl_eq wf hxw hyw S (by walk_at "sel") fun H S => ?_
      walk_at "go"
      refine wl_ne wf hxw hyw S (by walk_at "sel") fun H S => ?_
      walk_at "go"
      have st1 : SqT K H te [.int (l1.length : Int), .int (x.n : Int)] := SqT.of (tups_mem (S.s1 (A := tups pl) (by walk_at "sel")) hep)
      have st2 : SqT K H td [.int (m1.length : Int), .int (y.n : Int)] := SqT.of (tups_mem (S.s1 (A := tups pl) (by walk_at "sel")) hdp)
      walk_at "go"
      have ed : decide ((l1.length : Int) = (m1.length : Int)) = decide (x.A = y.A) := decide_eq_decide.mpr ⟨fun e => (nd_idx wf.nd ho2 po2).mpr (by omega), fun e => by have := (nd_idx wf.nd ho2 po2).mp e; omega⟩
      rw [ed] at S
      have sh : Sh 60 200000 (.list [.bool (decide (x.A = y.A)), .bool (decide (sees G x = sees G y)), .bool (!decide (sees G x = sees G y))]) := (sh_cons (k := 0) (sh_bl _) (sh_cons (sh_bl _) (sh_cons (sh_bl _) sh_nil))).up (by decide) (by decide)
      refine ⟨_, p, _, rfl, .lst (by walk_at "sq") (.cons (.bl _) (.cons (.bl _) (.cons (.bl _) .nil))), .lst (by walk_at "sq") (.cons (.bl _) (.cons (.bl _) (.cons (.bl _) .nil))), sh.ok, sh.sh, sh.nd, sh.fits (Nat.le_refl _), ?_⟩
      walk_at "go"
      exact ⟨_, ⟨_, _, _, _, rfl, rfl⟩, S.s7 (by walk_at "sel")⟩
    · rintro σ Ps H ⟨u5, u6, u7, u8, rfl, rfl⟩ S
      walk_at "go"
      exact ⟨_, ⟨_, _, _, _, _, _, rfl, rfl⟩, S⟩
  · rintro σ Ps H ⟨u3, u4, u5, u6, u7, u8, rfl, rfl⟩ S
    walk_at "go"
    exact q _ S
end

end Pf

set_option Elab.async false
set_option linter.all false
set_option maxRecDepth 100000
set_option maxHeartbeats 16000000
namespace Pf
open PySem L2 Kt
set_option hygiene false
local macro_rules | `(tactic| walk_at "mem") => `(tactic| (with_reducible (repeat (first | exact Pick.hd | apply Pick.tl)); done))
local macro_rules | `(tactic| walk_at "rep") => `(tactic| (with_reducible (repeat (first | exact Repl.hd | apply Repl.tl)); done))
local macro_rules | `(tactic| walk_at "sel") => `(tactic| ((repeat (with_reducible apply Sel.cons; (focus walk_at "mem"))); (with_reducible apply Sel.nil); (with_reducible (repeat (first | exact Dr.all | apply Dr.skip)); done)))
local macro_rules | `(tactic| walk_at "at") => `(tactic| (refine' Sep.at_ (by assumption) ?kkpk; (case kkpk => walk_at "mem")))
local macro_rules | `(tactic| walk_at "sq") => `(tactic| first | assumption | (refine' Sep.sq (by assumption) ?kkpk; (case kkpk => walk_at "mem")))
local macro_rules | `(tactic| walk_at "st") => `(tactic| first | assumption | (refine' Sep.st (by assumption) ?kkpk; (case kkpk => walk_at "mem")))
local macro_rules | `(tactic| walk_at "lk") => `(tactic| (repeat (first | (with_reducible exact lk_eq) | exact rfl | refine (lk_ne (by decide +kernel)).trans ?_)))
local macro_rules | `(tactic| walk_at "pf") => `(tactic| (repeat (first | (with_reducible exact pf_nil) | (with_reducible exact pf_eq) | (apply pf_ne; (focus decide +kernel)))))
local macro_rules | `(tactic| walk_at "ty") => `(tactic| first | exact ty_int | (refine' ty_lst ?kkh; (case kkh => walk_at "at")))
local macro_rules | `(tactic| walk_at "k1") => `(tactic| with_reducible first
  | refine q_seq ?_ | refine q_set ?_ | refine q_asg ?_ | refine q_ret ?_ | refine q_drop ?_ | refine q_next ?_ | refine q_c ?_ | refine q_op ?_ | refine q_un ?_ | refine q_nil ?_ | refine q_cons ?_ | refine q_cb ?_
  | refine q_call ?_ | refine q_ifs ?_ | refine q_if ?_ | refine q_test ?_ | refine q_tb ?_ | refine q_bl ?_ | refine q_notT ?_ | refine q_andT ?_ | refine q_orT ?_ | refine q_andV ?_ | refine q_orV ?_ | refine q_notV ?_
  | refine q_addA ?_ | refine q_subI ?_ | refine q_ltI ?_ | refine q_leI ?_ | refine q_gtI ?_ | refine q_geI ?_ | refine q_eqI ?_ | refine q_neI ?_ | refine q_abs ?_ | refine q_int ?_ | refine q_intB ?_ | refine q_max ?_ | refine q_min ?_
  | refine q_ipAdd ?_ | refine q_ipSub ?_ | refine q_gsub ?_ | refine q_augs ?_ | refine q_lst ?_ | refine q_tup ?_ | refine q_blI ?_ | refine iteT ?_ | refine iteF ?_ | refine iteNT ?_ | refine iteNF ?_
  | refine r_prop ?_ | refine r_fld ?_ | refine r_sfld ?_ | refine r_meth ?_ | refine r_make ?_ | refine r_sl ?_ | refine r_nopart ?_ | refine r_part ?_ | refine r_parti ?_ | refine r_gsl ?_ | refine r_bm ?_ | refine r_bm0 ?_ | refine r_for ?_ | refine r_ilist ?_ | refine r_irng ?_
  | refine r_gname ?_ | refine r_gcons ?_ | refine r_gnil ?_ | refine r_par ?_ | refine r_parA ?_ | refine r_chain ?_ | refine r_isN ?_ | refine r_tlc ?_ | refine r_yes ?_ | refine r_makek ?_ | refine r_neg ?_)
local macro_rules | `(tactic| walk_at "k2") => `(tactic| first
  | ((with_reducible refine' q_var ?kke ?_); (case kke => rfl))
  | ((with_reducible refine' q_aug ?kke ?_); (case kke => rfl))
  | ((with_reducible refine' q_ixL ?kks ?kke ?_); (case kks => walk_at "sq"); (case kke => first | rfl | assumption))
  | ((with_reducible refine' q_ixT ?kks ?kke ?_); (case kks => walk_at "st"); (case kke => first | rfl | assumption))
  | ((with_reducible refine' q_ixLL ?kks ?kke ?_); (case kks => walk_at "sq"); (case kke => first | rfl | assumption))
  | ((with_reducible refine' q_lenL ?kks ?_); (case kks => walk_at "sq"))
  | ((with_reducible refine' q_mulI ?kkc ?_); (case kkc => first | exact .inl (by omega) | exact .inr (by omega)))
  | ((with_reducible refine' q_modI ?kkc ?_); (case kkc => omega))
  | ((with_reducible refine' q_divI ?kkc ?_); (case kkc => exact ⟨by omega, by omega⟩))
  | ((with_reducible refine' q_powI ?kkc ?_); (case kkc => exact ⟨by decide, by decide, by decide⟩))
  | ((with_reducible refine' r_kfld ?kkS ?kkp ?kkc ?kkn ?kkl ?_); (case kkS => assumption); (case kkp => walk_at "mem"); (case kkc => walk_at "cls"); (case kkn => walk_at "na"); (case kkl => walk_at "lk"))
  | ((with_reducible refine' r_kprop ?kkS ?kkp ?_); (case kkS => assumption); (case kkp => walk_at "mem"))
  | ((with_reducible refine' r_kmeth ?kkS ?kkp ?kkl ?_); (case kkS => assumption); (case kkp => walk_at "mem"); (case kkl => walk_at "lk"))
  | ((with_reducible refine' r_calll ?kks ?_); (case kks => rfl))
  | ((with_reducible refine' r_tyl ?kks ?_); (case kks => walk_at "sq"))
  | ((with_reducible refine' r_isi (k := true) ?kkt ?kke ?_); (case kkt => walk_at "ty"); (case kke => decide +kernel))
  | ((with_reducible refine' r_isi (k := false) ?kkt ?kke ?_); (case kkt => walk_at "ty"); (case kke => decide +kernel)))
local macro_rules | `(tactic| walk_at "k3") => `(tactic| first
  | ((with_reducible refine' q_setS ?kkS ?kkr ?kke ?_); (case kkS => assumption); (case kkr => walk_at "rep"); (case kke => rfl); intro H S)
  | ((with_reducible refine' r_kset ?kkS ?kkr ?kkc ?kkn ?kkl ?kke ?_); (case kkS => assumption); (case kkr => walk_at "rep"); (case kkc => walk_at "cls"); (case kkn => walk_at "na"); (case kkl => first | exact Nat.le_of_ble_eq_true rfl | assumption | omega | (simp; done) | (simp; omega)); (case kke => walk_at "pf"); intro H S)
  | ((with_reducible refine' q_new ?kkS ?kkl ?_); (case kkS => assumption); (case kkl => first | exact Nat.le_of_ble_eq_true rfl | assumption | omega | (simp; done) | (simp; omega)); intro p H S)
  | ((with_reducible refine' q_newT ?kkS ?kkl ?_); (case kkS => assumption); (case kkl => first | exact Nat.le_of_ble_eq_true rfl | assumption | omega | (simp; done) | (simp; omega)); intro p H S)
  | ((with_reducible refine' r_knew ?kkS ?_); (case kkS => assumption); intro x dx H S)
  | ((with_reducible refine' r_knewk ?kkS ?kkl1 ?kkl2 ?_); (case kkS => assumption); (case kkl1 => rfl); (case kkl2 => rfl); intro x dx H S)
  | ((with_reducible refine' r_ksl ?kkS ?kks ?_); (case kkS => assumption); (case kks => walk_at "sq"); intro p H S)
  | ((with_reducible refine' r_list ?kkS ?kks ?_); (case kkS => assumption); (case kks => walk_at "sq"); intro p H S)
  | ((with_reducible refine' r_cat ?kkS ?kks1 ?kks2 ?kkz ?_); (case kkS => assumption); (case kks1 => walk_at "at"); (case kks2 => walk_at "at"); (case kkz => first | omega | (simp; omega)); intro p H S)
  | ((with_reducible refine' r_append ?kkS ?kkr ?kkz ?_); (case kkS => assumption); (case kkr => walk_at "rep"); (case kkz => first | omega | (simp; omega)); intro H S)
  | ((with_reducible refine' r_reverse ?kkS ?kkr ?_); (case kkS => assumption); (case kkr => walk_at "rep"); intro H S)
  | ((with_reducible refine' r_clear ?kkS ?kkr ?_); (case kkS => assumption); (case kkr => walk_at "rep"); intro H S))
local macro_rules | `(tactic| walk_at "gn") => `(tactic| repeat (first | walk_at "k1" | walk_at "k2"))
local macro_rules | `(tactic| walk_at "go") => `(tactic| repeat (first | walk_at "k1" | walk_at "k2" | walk_at "k3"))

local macro_rules | `(tactic| walk_at "k1") => `(tactic| with_reducible first | refine r_par3 ?_ | refine r_parA3 ?_ | refine r_izip ?_ | refine r_irng2 ?_)

local macro_rules | `(tactic| walk_at "cls") => `(tactic| with_reducible first | assumption | exact Txt.cl_Array (by assumption) | exact Txt.cl_Window (by assumption) | exact Txt.cl_Told (by assumption))
local macro_rules | `(tactic| walk_at "na") => `(tactic| with_reducible first | assumption | exact Txt.na_Array_cells (by assumption) | exact Txt.na_Array_size (by assumption) | exact Txt.na_Window__array (by assumption) | exact Txt.na_Window__length (by assumption) | exact Txt.na_Window__rule (by assumption) | exact Txt.na_Told__rooms (by assumption) | exact Txt.na_Told__asked (by assumption))
theorem ixNn {n j : Nat} (hj : j < n) : ixN n (j : Int) = some j := by
  unfold ixN
  rw [if_pos (by omega), if_pos (by omega)]
  rfl
theorem mem_snoc {α : Type} {l : List α} {x y : α} (h : x ∈ l ++ [y]) : x ∈ l ∨ x = y := (List.mem_append.mp h).imp id List.mem_singleton.mp
theorem get_snoc {α : Type} {l : List α} {f x : α} {i : Nat} (h : (l ++ [f])[i]? = some x) : l[i]? = some x ∨ (i = l.length ∧ x = f) := by
  by_cases hi : i < l.length
  · rw [List.getElem?_append_left hi] at h
    exact .inl h
  · rw [List.getElem?_append_right (by omega)] at h
    cases e : i - l.length with
    | zero =>
      rw [e] at h
      exact .inr ⟨by omega, (Option.some.inj h).symm⟩
    | succ n =>
      rw [e] at h
      simp at h
structure KA (as : List Addr) (G : GS) (ws : List Wi) (i : Nat) : Prop where
  wf : WF as G ws
  vb : ∀ A ∈ as, ∀ z ∈ (G A).cs, z.natAbs < 10 ^ 60
  n3 : ∀ A ∈ as, (G A).cs.length ≤ 4 * (i + 1)
  rb : ∀ A ∈ as, (G A).s ≤ 100
theorem ka_cut {as : List Addr} {G : GS} {ws : List Wi} {i : Nat} (k : KA as G ws i) {x : Wi} (hx : x ∈ ws) {m : Nat} (h1 : 1 ≤ m) (h2 : m ≤ x.n) (W' : Addr) : KA as G (ws ++ [⟨W', x.A, m⟩]) (i + 1) := by
  obtain ⟨g1, g2, g3⟩ := k.wf.ok x hx
  refine ⟨⟨k.wf.nd, fun y hy => ?_, k.wf.rm, k.wf.sm⟩, k.vb, fun A hA => Nat.le_trans (k.n3 A hA) (by omega), k.rb⟩
  rcases mem_snoc hy with hy | rfl
  · exact k.wf.ok y hy
  · exact ⟨g1, h1, show m ≤ (G x.A).cs.length by omega⟩
theorem ka_new {as : List Addr} {G : GS} {ws : List Wi} {i : Nat} (k : KA as G ws i) {A' L' W' : Addr} (nA : A' ∉ as) {ms : List Int} {s : Int} (h0 : 1 ≤ ms.length) (h1 : ∀ z ∈ ms, z.natAbs < 10 ^ 60) (h2 : ms.length ≤ 4 * (i + 2)) (hi : i < 9) (h3 : (ms.length : Int) ≤ s) (h4 : s ≤ 100) :
    KA (as ++ [A']) (up G A' ⟨L', ms, s⟩) (ws ++ [⟨W', A', ms.length⟩]) (i + 1) := by
  have ol : ∀ A ∈ as, up G A' ⟨L', ms, s⟩ A = G A := fun A hA => up_ne (by intro q; subst q; exact nA hA)
  refine ⟨⟨List.nodup_append.mpr ⟨k.wf.nd, by simp, fun a ha b hb e => ?_⟩, fun y hy => ?_, fun A hA => ?_, fun A hA => ?_⟩, fun A hA z hz => ?_, fun A hA => ?_, fun A hA => ?_⟩
  · rw [List.mem_singleton.mp hb] at e
    subst e
    exact nA ha
  · rcases mem_snoc hy with hy | rfl
    · obtain ⟨g1, g2, g3⟩ := k.wf.ok y hy
      exact ⟨List.mem_append_left _ g1, g2, by rw [ol _ g1]; exact g3⟩
    · exact ⟨List.mem_append_right _ List.mem_cons_self, h0, by rw [up_same]; exact Nat.le_refl _⟩
  · rcases mem_snoc hA with hA | rfl
    · rw [ol _ hA]; exact k.wf.rm A hA
    · rw [up_same]; exact h3
  · rcases mem_snoc hA with hA | rfl
    · rw [ol _ hA]; exact k.wf.sm A hA
    · rw [up_same]; show ms.length ≤ 5000; omega
  · rcases mem_snoc hA with hA | rfl
    · rw [ol _ hA] at hz
      exact k.vb A hA z hz
    · rw [up_same] at hz
      exact h1 z hz
  · rcases mem_snoc hA with hA | rfl
    · rw [ol _ hA]
      have := k.n3 A hA
      omega
    · rw [up_same]; show ms.length ≤ _; omega
  · rcases mem_snoc hA with hA | rfl
    · rw [ol _ hA]; exact k.rb A hA
    · rw [up_same]; exact h4
theorem ka_put {as : List Addr} {G : GS} {ws : List Wi} {i : Nat} (k : KA as G ws i) (hi : i < 9) {x : Wi} (hx : x ∈ ws) {cs' : List Int} (f : Wi) (hf : f.A = x.A) (hn0 : 1 ≤ f.n) (hn1 : f.n ≤ cs'.length) (hl : (G x.A).cs.length ≤ cs'.length) (h1 : ∀ z ∈ cs', z.natAbs < 10 ^ 60) (h2 : cs'.length ≤ 4 * (i + 2)) (h3 : (cs'.length : Int) ≤ (G x.A).s) :
    KA as (up G x.A ⟨(G x.A).L, cs', (G x.A).s⟩) (ws ++ [f]) (i + 1) := by
  obtain ⟨g1, g2, g3⟩ := k.wf.ok x hx
  refine ⟨⟨k.wf.nd, fun y hy => ?_, fun A hA => ?_, fun A hA => ?_⟩, fun A hA z hz => ?_, fun A hA => ?_, fun A hA => ?_⟩
  · rcases mem_snoc hy with hy | rfl
    · obtain ⟨q1, q2, q3⟩ := k.wf.ok y hy
      refine ⟨q1, q2, ?_⟩
      by_cases e : y.A = x.A
      · rw [e, up_same]; rw [e] at q3; exact Nat.le_trans q3 hl
      · rw [up_ne e]; exact q3
    · exact ⟨hf ▸ g1, hn0, by rw [hf, up_same]; exact hn1⟩
  · by_cases e : A = x.A
    · subst e; rw [up_same]; exact h3
    · rw [up_ne e]; exact k.wf.rm A hA
  · by_cases e : A = x.A
    · subst e; rw [up_same]; show cs'.length ≤ 5000; omega
    · rw [up_ne e]; exact k.wf.sm A hA
  · by_cases e : A = x.A
    · subst e
      rw [up_same] at hz
      exact h1 z hz
    · rw [up_ne e] at hz
      exact k.vb A hA z hz
  · by_cases e : A = x.A
    · subst e; rw [up_same]; show cs'.length ≤ _; omega
    · rw [up_ne e]
      have := k.n3 A hA
      omega
  · by_cases e : A = x.A
    · subst e; rw [up_same]; exact k.rb _ g1
    · rw [up_ne e]; exact k.rb A hA
theorem ka_drop {as : List Addr} {G : GS} {ws : List Wi} {i : Nat} {x : Wi} (k : KA as G (ws ++ [x]) i) : KA as G ws i := ⟨⟨k.wf.nd, fun y hy => k.wf.ok y (List.mem_append_left _ hy), k.wf.rm, k.wf.sm⟩, k.vb, k.n3, k.rb⟩
theorem relO_put {as : List Addr} {G : GS} {l : List Wi} {l1 l2 : List OW} {ow : OW} {sp : List TP} {A L' : Addr} {cs' : List Int} {s' : Int} (h : RelO as G l (l1 ++ ow :: l2) sp) (nd : as.Nodup) (ha : as[l1.length]? = some A) : RelO as (up G A ⟨L', cs', s'⟩) l (l1 ++ ⟨ow.e, ow.c, cs', s'⟩ :: l2) sp := by
  refine ⟨List.ext_getElem? fun n => ?_, h.ln, h.s⟩
  have h0 := congrArg (fun z => z[n]?) h.o
  simp only [List.getElem?_map] at h0 ⊢
  by_cases hn : n = l1.length
  · subst hn
    rw [ha, List.getElem?_append_right (Nat.le_refl _), Nat.sub_self]
    simp [up_same]
  · have e1 : (l1 ++ (⟨ow.e, ow.c, cs', s'⟩ : OW) :: l2)[n]? = (l1 ++ ow :: l2)[n]? := by
      by_cases hlt : n < l1.length
      · rw [List.getElem?_append_left hlt, List.getElem?_append_left hlt]
      · rw [List.getElem?_append_right (by omega), List.getElem?_append_right (by omega)]
        cases e : n - l1.length with
        | zero => omega
        | succ m => rfl
    rw [e1, h0]
    cases ea : as[n]? with
    | none => rfl
    | some B =>
      have : B ≠ A := fun q => hn ((nd_idx nd ea ha).mp q)
      simp [up_ne this]
theorem relO_new {as : List Addr} {G : GS} {l : List Wi} {ol : List OW} {sp : List TP} {A' L' e c : Addr} {cs' : List Int} {s' : Int} (h : RelO as G l ol sp) (nA : A' ∉ as) : RelO (as ++ [A']) (up G A' ⟨L', cs', s'⟩) l (ol ++ [⟨e, c, cs', s'⟩]) sp := by
  refine ⟨?_, h.ln, fun i x d hx hd => ?_⟩
  · rw [List.map_append, List.map_append, h.o]
    congr 1
    · refine List.map_congr_left fun B hB => ?_
      rw [up_ne (by intro q; subst q; exact nA hB)]
    · simp [up_same]
  · obtain ⟨k, h1, h2⟩ := h.s i x d hx hd
    refine ⟨k, h1, ?_⟩
    rw [List.getElem?_append_left (List.getElem?_eq_some_iff.mp h2).1]
    exact h2
theorem relO_add {as : List Addr} {G : GS} {l : List Wi} {ol : List OW} {sp : List TP} {f : Wi} {T : Addr} {k : Nat} (h : RelO as G l ol sp) (ha : as[k]? = some f.A) : RelO as G (l ++ [f]) ol (sp ++ [(T, (k : Int), (f.n : Int))]) := by
  have hln := h.ln
  refine ⟨h.o, by simp [hln], fun i x d hx hd => ?_⟩
  rcases get_snoc hx with hx1 | ⟨hi, e1⟩
  · have := (List.getElem?_eq_some_iff.mp hx1).1
    rcases get_snoc hd with hd1 | ⟨hi', _⟩
    · exact h.s i x d hx1 hd1
    · omega
  · rcases get_snoc hd with hd1 | ⟨_, e2⟩
    · have := (List.getElem?_eq_some_iff.mp hd1).1
      omega
    · subst e1
      subst e2
      exact ⟨k, rfl, ha⟩
theorem relO_set {as : List Addr} {G : GS} {l : List Wi} {ol : List OW} {sp : List TP} {f : Wi} {T : Addr} {k at_ : Nat} (h : RelO as G l ol sp) (ha : as[k]? = some f.A) : RelO as G (l.set at_ f) ol (sp.set at_ (T, (k : Int), (f.n : Int))) := by
  have hln := h.ln
  refine ⟨h.o, by simp [hln], fun i x d hx hd => ?_⟩
  by_cases hi : at_ = i
  · subst hi
    have h1 := (List.getElem?_eq_some_iff.mp hx).1
    rw [List.length_set] at h1
    rw [List.getElem?_set_self h1] at hx
    rw [List.getElem?_set_self (by omega)] at hd
    cases hx
    cases hd
    exact ⟨k, rfl, ha⟩
  · rw [List.getElem?_set_ne hi] at hx hd
    exact h.s i x d hx hd
/-- the rule, told rooms and what was asked -/
def RT (kind : Int) (rooms ls : List Int) (ta ka : List TP) (r : RK) : Prop := (∀ x ∈ rooms, 45 ≤ x ∧ x ≤ 80) ∧
  ((kind = 3 ∧ (∃ a, r = .to a rooms (ta.map (·.1))) ∧ ls = rooms.drop ta.length ∧ ta.map (·.2) = ka.map (·.2)) ∨ (kind = 2 ∧ r = .db) ∨ (kind = 1 ∧ r = .ex) ∨ (kind = 0 ∧ r = .no))
theorem rt_grw {kind : Int} {rooms ls : List Int} {ta ka : List TP} {r : RK} (h : RT kind rooms ls ta ka r) (s n : Int) : grw kind ls s n = r.grow s n := by
  unfold grw
  rcases h.2 with ⟨rfl, ⟨a, rfl⟩, rfl, _⟩ | ⟨rfl, rfl⟩ | ⟨rfl, rfl⟩ | ⟨rfl, rfl⟩
  · rw [if_neg (by decide), if_pos rfl]
    show _ = rooms[(ta.map (·.1)).length]?.getD n
    rw [List.length_map]
    cases e : rooms[ta.length]? with
    | none => rw [List.drop_eq_nil_of_le (List.getElem?_eq_none_iff.mp e)]; rfl
    | some z =>
      obtain ⟨h1, h2⟩ := List.getElem?_eq_some_iff.mp e
      rw [List.drop_eq_getElem_cons h1, h2]
      rfl
  · rw [if_pos rfl]; rfl
  · rw [if_neg (by decide), if_neg (by decide)]; rfl
  · rw [if_neg (by decide), if_neg (by decide)]; rfl
theorem rt_move {kind : Int} {rooms ls : List Int} {ta ka : List TP} {r : RK} {i n : Nat} {s : Int} (h : RT kind rooms ls ta ka r) (hka : ka.length ≤ i) (hi : i < 9) (hn : n ≤ 40) (hs : s < (n : Int)) : (n : Int) ≤ r.grow s n ∧ r.grow s n ≤ 100 ∧ (∀ a rooms ts, r = .to a rooms ts → ts.length < 1000) := by
  rcases h.2 with ⟨rfl, ⟨a, rfl⟩, rfl, ht⟩ | ⟨rfl, rfl⟩ | ⟨rfl, rfl⟩ | ⟨rfl, rfl⟩
  · have hl := congrArg List.length ht
    rw [List.length_map, List.length_map] at hl
    refine ⟨?_, ?_, fun _ _ _ h => by cases h; rw [List.length_map]; omega⟩
    · show _ ≤ rooms[(ta.map (·.1)).length]?.getD _
      cases e : rooms[(ta.map (·.1)).length]? with
      | none => exact Int.le_refl _
      | some z =>
        have := h.1 z (List.mem_of_getElem? e)
        show _ ≤ z
        omega
    · show rooms[(ta.map (·.1)).length]?.getD _ ≤ 100
      cases e : rooms[(ta.map (·.1)).length]? with
      | none => show (n : Int) ≤ 100; omega
      | some z =>
        have := h.1 z (List.mem_of_getElem? e)
        show z ≤ 100
        omega
  · refine ⟨?_, ?_, fun _ _ _ h => by cases h⟩
    · show _ ≤ (if 2 * s > (n : Int) then 2 * s else (n : Int))
      split <;> omega
    · show (if 2 * s > (n : Int) then 2 * s else (n : Int)) ≤ 100
      split <;> omega
  · exact ⟨Int.le_refl _, show (n : Int) ≤ 100 by omega, fun _ _ _ h => by cases h⟩
  · exact ⟨Int.le_refl _, show (n : Int) ≤ 100 by omega, fun _ _ _ h => by cases h⟩
/-- what was asked is told -/
theorem rt_ask {kind : Int} {rooms ls : List Int} {ta ka : List TP} {r : RK} {t tk : Addr} {s n : Int} {R : List SP} {H : Hp} {c_Told : Addr} (h : RT kind rooms ls ta ka r) (S : Sep (exP r t s n :: tups ta :: R) H) : ∃ ta', RT kind rooms (if kind = 3 then ls.tail else ls) ta' (ka ++ [(tk, s, n)]) (r.nx t) ∧ Sep (tups ta' :: R) H := by
  rcases h.2 with ⟨rfl, ⟨a, rfl⟩, rfl, ht⟩ | ⟨rfl, rfl⟩ | ⟨rfl, rfl⟩ | ⟨rfl, rfl⟩
  · refine ⟨ta ++ [(t, s, n)], ⟨h.1, .inl ⟨rfl, ⟨a, ?_⟩, ?_, ?_⟩⟩, tups_add S⟩
    · show RK.to a rooms (ta.map (·.1) ++ [t]) = _
      rw [List.map_append]
      rfl
    · rw [if_pos rfl, List.tail_drop, List.length_append]
      rfl
    · rw [List.map_append, List.map_append, ht]
      rfl
  · exact ⟨ta, ⟨h.1, .inr (.inl ⟨rfl, rfl⟩)⟩, S.tl⟩
  · exact ⟨ta, ⟨h.1, .inr (.inr (.inl ⟨rfl, rfl⟩))⟩, S.tl⟩
  · exact ⟨ta, ⟨h.1, .inr (.inr (.inr ⟨rfl, rfl⟩))⟩, S.tl⟩
theorem sub_snoc {α : Type} {l ws : List α} {f : α} (h : ∀ x ∈ l, x ∈ ws) : ∀ x ∈ l ++ [f], x ∈ ws ++ [f] := fun x hx => by
  rcases mem_snoc hx with hx | rfl
  · exact List.mem_append_left _ (h x hx)
  · exact List.mem_append_right _ List.mem_cons_self
theorem sub_set {α : Type} {l ws : List α} {f : α} {k : Nat} (h : ∀ x ∈ l, x ∈ ws) : ∀ x ∈ l.set k f, x ∈ ws ++ [f] := fun x hx => by
  rcases List.mem_or_eq_of_mem_set hx with hx | rfl
  · exact List.mem_append_left _ (h x hx)
  · exact List.mem_append_right _ List.mem_cons_self
theorem _root_.Kt.Sep.s11 {A B C D E F G I J L M : SP} {Ps Rs : List SP} {H : Hp} (h : Sep Ps H) (p : Sel [A, B, C, D, E, F, G, I, J, L, M] Ps Rs) : Sep (A :: B :: C :: D :: E :: F :: G :: I :: J :: L :: M :: Rs) H := h.sel p
structure KD (kind : Int) (rooms : List Int) (as : List Addr) (G : GS) (ws l : List Wi) (r : RK) (ol : List OW) (sp pl ta ka : List TP) (ls : List Int) (i : Nat) : Prop where
  kA : KA as G ws i
  sub : ∀ x ∈ l, x ∈ ws
  ro : RelO as G l ol sp
  hp : ∀ e ∈ sp, e ∈ pl
  l0 : 1 ≤ l.length
  l1 : l.length ≤ i + 2
  rt : RT kind rooms ls ta ka r
  kl : ka.length ≤ i
  ho : ol.length ≤ i + 2
  kb : ∀ e ∈ ka, e.2.1.natAbs ≤ 100 ∧ e.2.2.natAbs ≤ 100
section
variable {P : Program} {w : World} {K : PySem.W.Frag} {mg : Str → Option Value} {base : Heap} {c_Array c_Window c_Told f_doubled f_exact : Addr}
def spDone (c_Array c_Window c_Told f_doubled f_exact : Addr) : Sp := fun vs H Q _ => ∃ (b Ow Kd Sp Lw : Addr) (kind : Int) (rooms : List Int) (as : List Addr) (G : GS) (ws l : List Wi) (r : RK) (ol : List OW) (sp pl ta ka : List TP) (ls : List Int) (i : Nat) (rv : V) (R : List SP), vs = [.ref b, .ref Ow, .int kind, .ref Kd, .ref Sp, .ref Lw] ∧ KD kind rooms as G ws l r ol sp pl ta ka ls i ∧ i < 9 ∧ r.v f_doubled f_exact = rv ∧
  Sep (bag b :: pt Ow (.lst (owr ol)) :: ownP ol :: kitP Kd ka ls :: pt Sp (.lst (tr sp)) :: tups pl :: pt Lw (.lst (wr l)) :: ars c_Array as G :: wis c_Window rv ws :: ruP c_Told r :: tups ta :: R) H ∧
  ∀ as G ws l r ol sp pl ta ka ls H', KD kind rooms as G ws l r ol sp pl ta ka ls (i + 1) → r.v f_doubled f_exact = rv → Sep (bag b :: pt Ow (.lst (owr ol)) :: ownP ol :: kitP Kd ka ls :: pt Sp (.lst (tr sp)) :: tups pl :: pt Lw (.lst (wr l)) :: ars c_Array as G :: wis c_Window rv ws :: ruP c_Told r :: tups ta :: R) H' → Q .non H'
theorem sc_l_done : FnScope N_l_done ["_law_bag_here", "_law_own", "_law_kind", "_law_kit", "_law_spots", "_law_windows"] (defScope s_l_done) := ⟨rfl, rfl, rfl, by decide +kernel, rfl, by decide +kernel, by decide +kernel⟩
theorem ok_l_done {f f1 f2 f3 f4 : Addr} (F : Dt K mg "_law_done" s_l_done ["_law_bag_here", "_law_own", "_law_kind", "_law_kit", "_law_spots", "_law_windows"] f) (T : Tx K mg c_Array c_Window c_Told f_doubled f_exact) (noSeq : PySem.W.noSeq K c_Window = true) (selfFirst : PySem.W.selfFirst K c_Window = true) (D_l_take : Df P w K mg base 1 "_law_take" f1 ["_law_bag_here", "_law_many"] spTake)
    (D_l_draw_marks : Df P w K mg base 2 "_law_draw_marks" f2 ["_law_bag_here", "_law_many"] spDraw) (D_l_own_put : Df P w K mg base 2 "_law_own_put" f3 ["_law_own", "_law_kind", "_law_kit", "_law_spot", "_law_marks"] spOwnPut) (D_l_sees : Df P w K mg base 1 "_law_sees" f4 ["_law_own", "_law_spot"] spSees)
    (M_setitem : Mf P w K mg base 3 c_Window "__setitem__" ["self", "at", "worth"] (spSetW c_Array c_Window)) (M_cut : Mf P w K mg base 6 c_Window "cut" ["self", "many"] (spCut c_Array c_Window)) (M_copied : Mf P w K mg base 6 c_Window "copied" ["self"] (spCopied c_Array c_Window))
    (M_put : Mf P w K mg base 6 c_Window "put" ["self", "marks"] (spPut c_Array c_Window c_Told f_doubled f_exact)) (M_iadd : Mf P w K mg base 7 c_Window "__iadd__" ["self", "other"] (spPut c_Array c_Window c_Told f_doubled f_exact)) : Df P w K mg base 8 "_law_done" f ["_law_bag_here", "_law_own", "_law_kind", "_law_kit", "_law_spots", "_law_windows"] (spDone c_Array c_Window c_Told f_doubled f_exact) := by
  refine F.ok sc_l_done (fun vs H Q E h => ?_) (fun cdv A outer s H vs Q E hr h => ?_)
  · obtain ⟨b, Ow, Kd, Sp, Lw, kind, rooms, as, G, ws, l, r, ol, sp, pl, ta, ka, ls, i, rv, R, rfl, _⟩ := h
    rfl
  obtain ⟨b, Ow, Kd, Sp, Lw, kind, rooms, as, G, ws, l, r, ol, sp, pl, ta, ka, ls, i, rv, R, rfl, kd, hi, hrv, S, q⟩ := h
  refine ⟨_, (pss_cons (ps_par (i := 6) (j := 7) rfl sc_l_done.nd rfl rfl (by decide) rfl rfl (pa_cons (pe_df D_l_take (hr.mono (by decide)) (pa_cons (pv 0) (pa_cons (pe_callB (r := cOr (cLenQ K) cLenS) call_lenA (by rfl) T.z_len (by decide +kernel) (pa_cons (pv 4) pa_nil)) pa_nil))) (pa_cons (pe_df D_l_take (hr.mono (by decide)) (pa_cons (pv 0) (pa_cons pe_int pa_nil))) pa_nil)) rfl)
      (pss_cons (ps_par (i := 8) (j := 9) rfl sc_l_done.nd rfl rfl (by decide) rfl rfl (pa_cons (pe_ix (r := rIx K) ix_seq (pv 4) (pv 6) (fun _ _ => rfl)) (pa_cons (pe_ix (r := rIx K) ix_seq (pv 5) (pv 6) (fun _ _ => rfl)) pa_nil)) rfl)
      (pss_one (ps_if (pt_cmpR (r := rLtI) op_lt (pv 7) pe_int (nomark _)) (pss_cons (ps_set (i := 10) sc_l_done.nd rfl (by first | exact Or.inl rfl | exact Or.inr rfl) (pe_df D_l_draw_marks (hr.mono (by decide)) (pa_cons (pv 0) (pa_cons pe_int pa_nil))))
      (pss_cons (ps_expr (pe_bmK K PySem.F.plainAttrs_list PySem.F.slot_list_append PySem.F.type_list_append mt_append (pv 5) (pa_cons (pe_mf M_put (hr.mono (by decide)) (pv 9) (pa_cons (pe_callTy (r := cList K) call_list_of (by rfl) T.z_list (by decide +kernel) (pa_cons (pv 10) pa_nil)) pa_nil)) pa_nil)))
      (pss_one (ps_expr (pe_bmK K PySem.F.plainAttrs_list PySem.F.slot_list_append PySem.F.type_list_append mt_append (pv 4) (pa_cons (pe_df D_l_own_put (hr.mono (by decide)) (pa_cons (pv 1) (pa_cons (pv 2) (pa_cons (pv 3) (pa_cons (pv 8) (pa_cons (pv 10) pa_nil)))))) pa_nil)))))) (pss_one (ps_if (pt_cmpR (r := rEqA K) (op_eqA hr.units) (pv 7) pe_int (nomark _)) (pss_cons (ps_set (i := 11) sc_l_done.nd rfl (by first | exact Or.inl rfl | exact Or.inr rfl) (pe_op (r := rAddA) op_addA pe_int (pe_df D_l_take (hr.mono (by decide)) (pa_cons (pv 0) (pa_cons (pe_ix (r := rIx K) ix_seq (pv 8) pe_int (fun _ _ => rfl)) pa_nil)))))
      (pss_cons (ps_expr (pe_bmK K PySem.F.plainAttrs_list PySem.F.slot_list_append PySem.F.type_list_append mt_append (pv 5) (pa_cons (pe_mf M_cut (hr.mono (by decide)) (pv 9) (pa_cons (pv 11) pa_nil)) pa_nil)))
      (pss_one (ps_expr (pe_bmK K PySem.F.plainAttrs_list PySem.F.slot_list_append PySem.F.type_list_append mt_append (pv 4) (pa_cons (pe_tup (pa_cons (pe_ix (r := rIx K) ix_seq (pv 8) pe_int (fun _ _ => rfl)) (pa_cons (pv 11) pa_nil))) pa_nil)))))) (pss_one (ps_if (pt_cmpR (r := rEqA K) (op_eqA hr.units) (pv 7) pe_int (nomark _)) (pss_cons (ps_expr (pe_bmK K PySem.F.plainAttrs_list PySem.F.slot_list_append PySem.F.type_list_append mt_append (pv 5) (pa_cons (pe_mf0 M_copied (hr.mono (by decide)) (pv 9)) pa_nil)))
      (pss_cons (ps_expr (pe_bmK K PySem.F.plainAttrs_list PySem.F.slot_list_append PySem.F.type_list_append mt_append (pv 1) (pa_cons (pe_lst (pa_cons (pe_df D_l_sees (hr.mono (by decide)) (pa_cons (pv 1) (pa_cons (pv 8) pa_nil))) (pa_cons (pe_ix (r := rIx K) ix_seq (pv 8) pe_int (fun _ _ => rfl)) pa_nil))) pa_nil)))
      (pss_one (ps_expr (pe_bmK K PySem.F.plainAttrs_list PySem.F.slot_list_append PySem.F.type_list_append mt_append (pv 4) (pa_cons (pe_tup (pa_cons (pe_op (r := rSubI) op_sub (pe_callB (r := cOr (cLenQ K) cLenS) call_lenA (by rfl) T.z_len (by decide +kernel) (pa_cons (pv 1) pa_nil)) pe_int) (pa_cons (pe_ix (r := rIx K) ix_seq (pv 8) pe_int (fun _ _ => rfl)) pa_nil))) pa_nil)))))) (pss_one (ps_if (pt_cmpR (r := rEqA K) (op_eqA hr.units) (pv 7) pe_int (nomark _)) (pss_cons (ps_par (i := 12) (j := 13) rfl sc_l_done.nd rfl rfl (by decide) rfl rfl (pa_cons (pe_df D_l_take (hr.mono (by decide)) (pa_cons (pv 0) (pa_cons (pe_ix (r := rIx K) ix_seq (pv 8) pe_int (fun _ _ => rfl)) pa_nil))) (pa_cons (pe_ix (r := rIx K) ix_seq (pe_df D_l_draw_marks (hr.mono (by decide)) (pa_cons (pv 0) (pa_cons pe_int pa_nil))) pe_int (fun _ _ => rfl)) pa_nil)) rfl)
      (pss_cons (ps_asg (pv 13) (pg_sub (pv 9) (pv 12) (set_own M_setitem (hr.mono (by decide)) noSeq)))
      (pss_one (ps_asg (pv 13) (pg_sub (pe_ix (r := rIx K) ix_seq (pe_ix (r := rIx K) ix_seq (pv 1) (pe_ix (r := rIx K) ix_seq (pv 8) pe_int (fun _ _ => rfl)) (fun _ _ => rfl)) pe_int (fun _ _ => rfl)) (pv 12) set_list))))) (pss_cons (ps_set (i := 10) sc_l_done.nd rfl (by first | exact Or.inl rfl | exact Or.inr rfl) (pe_df D_l_draw_marks (hr.mono (by decide)) (pa_cons (pv 0) (pa_cons pe_int pa_nil))))
      (pss_cons (ps_aug (i := 9) sc_l_done.nd rfl (by first | exact Or.inl rfl | exact Or.inr rfl) (pv 10) (ip_own M_iadd (hr.mono (by decide)) selfFirst))
      (pss_cons (ps_asg (pv 9) (pg_sub (pv 5) (pv 6) set_list))
      (pss_one (ps_asg (pe_df D_l_own_put (hr.mono (by decide)) (pa_cons (pv 1) (pa_cons (pv 2) (pa_cons (pv 3) (pa_cons (pv 8) (pa_cons (pv 10) pa_nil)))))) (pg_sub (pv 4) (pv 6) set_list)))))))))))))))), ?_⟩
  have wf := kd.kA.wf
  have hln := kd.ro.ln
  have hl0 := kd.l0
  have hl1 := kd.l1
  have hoa : ol.length = as.length := by simpa using congrArg List.length kd.ro.o
  have hho := kd.ho
  have hkl := kd.kl
  walk_at "go"
  rw [List.length_map]
  refine ⟨b, _, _, rfl, by omega, by omega, S.s1 (by walk_at "sel"), fun v H hv0 hv1 S => ?_⟩
  obtain ⟨at_, rfl⟩ := Int.eq_ofNat_of_zero_le hv0
  walk_at "go"
  refine ⟨b, _, _, rfl, by decide, by decide, S.s1 (by walk_at "sel"), fun way H hw0 hw1 S => ?_⟩
  obtain ⟨x, hx⟩ : ∃ x, l[at_]? = some x := ⟨_, List.getElem?_eq_getElem (by omega)⟩
  obtain ⟨⟨te, ke, ne⟩, he⟩ : ∃ e, sp[at_]? = some e := ⟨_, List.getElem?_eq_getElem (by omega)⟩
  obtain ⟨l1, ow, l2, hol, ho2, ho3, ho4, ho5⟩ := kd.ro.get hx he
  obtain ⟨rfl, rfl⟩ : ke = (l1.length : Int) ∧ ne = (x.n : Int) := ⟨congrArg Prod.fst ho3, congrArg Prod.snd ho3⟩
  subst hol
  have hep := kd.hp _ (List.mem_of_getElem? he)
  have hxw := kd.sub x (List.mem_of_getElem? hx)
  obtain ⟨hx1, hx2, hx3⟩ := wf.ok x hxw
  have hx4 := kd.kA.n3 x.A hx1
  have hx5 := wf.rm x.A hx1
  have hx6 := kd.kA.rb x.A hx1
  have hxr : (wr l)[at_]? = some (V.ref x.W) := by rw [List.getElem?_map, hx]; rfl
  have her : (tr sp)[at_]? = some (V.ref te) := by rw [List.getElem?_map, he]; rfl
  have hsl : (sees G x).length = x.n := by
    show ((G x.A).cs.take x.n).length = x.n
    rw [List.length_take]
    omega
  walk_at "go"
  refine q_ixL (by walk_at "sq") (atI_nat her) ?_
  walk_at "go"
  refine q_ixL (by walk_at "sq") (atI_nat hxr) ?_
  walk_at "go"
  have hl9 : (wr l).length < 100000 := by rw [List.length_map]; omega
  have hs9 : (tr sp).length < 100000 := by rw [List.length_map]; omega
  have ho9 : (owr (l1 ++ ow :: l2)).length < 100000 := by rw [List.length_map]; omega
  refine q_ite (fun hw => ?_) (fun hw => ?_)
  · walk_at "go"
    refine ⟨b, 4, _, rfl, by decide, by decide, S.s1 (by walk_at "sel"), fun mo xs H hx0 hxl hxb S => ?_⟩
    have hxp : 1 ≤ xs.length := List.length_pos_iff.mpr hx0
    have hms : (sees G x ++ xs).length = x.n + xs.length := by rw [List.length_append, hsl]
    have hcl : ((G x.A).cs.take x.n ++ xs ++ (G x.A).cs.drop (x.n + xs.length)).length = max (G x.A).cs.length (x.n + xs.length) := by
      simp only [List.length_append, List.length_take, List.length_drop]
      omega
    have hcv : ∀ z ∈ (G x.A).cs.take x.n ++ xs ++ (G x.A).cs.drop (x.n + xs.length), z.natAbs < 10 ^ 60 := fun z hz => by
      rcases List.mem_append.mp hz with hz | hz
      · rcases List.mem_append.mp hz with hz | hz
        · exact kd.kA.vb x.A hx1 z (List.mem_of_mem_take hz)
        · exact hxb z hz
      · exact kd.kA.vb x.A hx1 z (List.mem_of_mem_drop hz)
    have hcw : ∀ z ∈ sees G x ++ xs, z.natAbs < 10 ^ 60 := fun z hz => by
      rcases List.mem_append.mp hz with hz | hz
      · exact kd.kA.vb x.A hx1 z (List.mem_of_mem_take hz)
      · exact hxb z hz
    walk_at "go"
    refine wl_meth wf hxw S (by walk_at "sel") (fun _ _ _ => rfl) ?_
    walk_at "go"
    refine wl_put wf hxw hx0 (by omega) S hrv (by walk_at "sel") (fun hs W' H S => ?_) (fun hs => ?_)
    · walk_at "go"
      refine ⟨Ow, Kd, te, mo, kind, l1, l2, ow, x.n, xs, ls, ka, pl, _, rfl, hep, by rw [ho4]; exact hx3, by rw [ho4]; omega, by omega, by omega, by omega, S.s5 (A := pt Ow (.lst (owr (l1 ++ ow :: l2)))) (B := ownP (l1 ++ ow :: l2)) (C := kitP Kd ka ls) (D := tups pl) (E := pt mo (.lst (xs.map V.int))) (by walk_at "sel"), fun hs1 T H S => ?_, fun hs1 => absurd hs (by rw [ho5] at hs1; omega)⟩
      have k' := ka_put kd.kA hi hxw (cs' := (G x.A).cs.take x.n ++ xs ++ (G x.A).cs.drop (x.n + xs.length)) ⟨W', x.A, x.n + xs.length⟩ rfl (by show 1 ≤ x.n + xs.length; omega) (by show x.n + xs.length ≤ _; rw [hcl]; omega) (by rw [hcl]; omega) hcv (by rw [hcl]; omega) (by rw [hcl]; omega)
      have hro : RelO as (up G x.A ⟨(G x.A).L, (G x.A).cs.take x.n ++ xs ++ (G x.A).cs.drop (x.n + xs.length), (G x.A).s⟩) l (l1 ++ ⟨ow.e, ow.c, (G x.A).cs.take x.n ++ xs ++ (G x.A).cs.drop (x.n + xs.length), (G x.A).s⟩ :: l2) sp := relO_put kd.ro wf.nd ho2
      have hro' := relO_add (T := T) (f := ⟨W', x.A, x.n + xs.length⟩) hro ho2
      rw [ho4, ho5] at S
      walk_at "go"
      have S := tups_add (S.s2 (A := pt T (.tup [.int (l1.length : Int), .int ((x.n + xs.length : Nat) : Int)])) (B := tups pl) (by walk_at "sel"))
      have e1 : wr l ++ [.ref W'] = wr (l ++ [⟨W', x.A, x.n + xs.length⟩]) := by simp [wr]
      have e2 : tr sp ++ [.ref T] = tr (sp ++ [(T, (l1.length : Int), ((x.n + xs.length : Nat) : Int))]) := by simp [tr]
      have e3 : owr (l1 ++ ow :: l2) = owr (l1 ++ ⟨ow.e, ow.c, (G x.A).cs.take x.n ++ xs ++ (G x.A).cs.drop (x.n + xs.length), (G x.A).s⟩ :: l2) := by simp [owr]
      rw [e1, e2, e3] at S
      exact q _ _ _ _ _ _ _ _ _ _ _ _ ⟨k', sub_snoc kd.sub, hro', sub_snoc kd.hp, by simp, by simp; omega, kd.rt, by omega, by simp at hho ⊢; omega, kd.kb⟩ hrv (S.s11 (by walk_at "sel"))
    · obtain ⟨r1, r2, r3⟩ := rt_move (n := x.n + xs.length) kd.rt hkl hi (by omega) hs
      refine ⟨r1, r3, fun t W' A' L' H nA S => ?_⟩
      walk_at "go"
      refine ⟨Ow, Kd, te, mo, kind, l1, l2, ow, x.n, xs, ls, ka, pl, _, rfl, hep, by rw [ho4]; exact hx3, by rw [ho4]; omega, by omega, by omega, by omega, S.s5 (A := pt Ow (.lst (owr (l1 ++ ow :: l2)))) (B := ownP (l1 ++ ow :: l2)) (C := kitP Kd ka ls) (D := tups pl) (E := pt mo (.lst (xs.map V.int))) (by walk_at "sel"), fun hs1 => absurd hs (by rw [ho5] at hs1; omega), fun hs1 T e c tk H S => ?_⟩
      have k' := ka_new (L' := L') (W' := W') (ms := sees G x ++ xs) (s := r.grow (G x.A).s ((x.n + xs.length : Nat) : Int)) kd.kA nA (by omega) hcw (by omega) hi (by rw [hms]; exact r1) r2
      rw [hms] at k'
      have hro := relO_add (T := T) (k := as.length) (f := ⟨W', A', x.n + xs.length⟩) (relO_new (A' := A') (L' := L') (e := e) (c := c) (cs' := sees G x ++ xs) (s' := r.grow (G x.A).s ((x.n + xs.length : Nat) : Int)) kd.ro nA) (by simp)
      rw [ho4, ho5, rt_grw kd.rt, show (G x.A).cs.take x.n = sees G x from rfl] at S
      walk_at "go"
      have S := tups_add (S.s2 (A := pt T (.tup [.int ((l1 ++ ow :: l2).length : Int), .int ((x.n + xs.length : Nat) : Int)])) (B := tups pl) (by walk_at "sel"))
      have e1 : wr l ++ [.ref W'] = wr (l ++ [⟨W', A', x.n + xs.length⟩]) := by simp [wr]
      have e2 : tr sp ++ [.ref T] = tr (sp ++ [(T, (as.length : Int), ((x.n + xs.length : Nat) : Int))]) := by simp [tr]
      rw [hoa] at S
      rw [e1, e2] at S
      obtain ⟨ta', hrt', S⟩ := rt_ask (tk := tk) (c_Told := c_Told) kd.rt (S.s2 (A := exP r t (G x.A).s ((x.n + xs.length : Nat) : Int)) (B := tups ta) (by walk_at "sel"))
      exact q _ _ _ _ _ _ _ _ _ _ _ _ ⟨k', sub_snoc kd.sub, hro, sub_snoc kd.hp, by simp, by simp; omega, hrt', by simp; omega, by simp at hho ⊢; omega, fun e he => by rcases mem_snoc he with he | rfl; exact kd.kb e he; exact ⟨by show (G x.A).s.natAbs ≤ 100; omega, by show ((x.n + xs.length : Nat) : Int).natAbs ≤ 100; omega⟩⟩ (by rw [rkv_nx]; exact hrv) (S.s11 (by walk_at "sel"))
  · walk_at "go"
    refine q_ite (fun hw2 => ?_) (fun hw2 => ?_)
    · walk_at "go"
      have hstup : SqT K H te [.int (l1.length : Int), .int (x.n : Int)] := SqT.of (tups_mem (S.s1 (A := tups pl) (by walk_at "sel")) hep)
      walk_at "go"
      refine ⟨b, _, _, rfl, by omega, by omega, S.s1 (by walk_at "sel"), fun v H hv0 hv1 S => ?_⟩
      obtain ⟨m, rfl⟩ := Int.eq_ofNat_of_zero_le hv0
      walk_at "go"
      refine wl_meth wf hxw S (by walk_at "sel") (fun _ _ _ => rfl) ?_
      walk_at "go"
      rw [show (1 : Int) + (m : Int) = ((1 + m : Nat) : Int) by omega]
      refine wl_cut wf hxw (by omega) (by omega) S (by walk_at "sel") fun W' H S => ?_
      have k' := ka_cut kd.kA hxw (m := 1 + m) (by omega) (by omega) W'
      walk_at "go"
      have hstup : SqT K H te [.int (l1.length : Int), .int (x.n : Int)] := SqT.of (tups_mem (S.s1 (A := tups pl) (by walk_at "sel")) hep)
      walk_at "go"
      have S := tups_add (S.s2 (A := pt p (.tup [.int (l1.length : Int), .int ((1 + m : Nat) : Int)])) (B := tups pl) (by walk_at "sel"))
      have e1 : wr l ++ [.ref W'] = wr (l ++ [⟨W', x.A, 1 + m⟩]) := by simp [wr]
      have e2 : tr sp ++ [.ref p] = tr (sp ++ [(p, (l1.length : Int), ((1 + m : Nat) : Int))]) := by simp [tr]
      rw [e1, e2] at S
      exact q _ _ _ _ _ _ _ _ _ _ _ _ ⟨k', sub_snoc kd.sub, relO_add (f := ⟨W', x.A, 1 + m⟩) kd.ro ho2, sub_snoc kd.hp, by simp, by simp; omega, kd.rt, by omega, by omega, kd.kb⟩ hrv (S.s11 (by walk_at "sel"))
    · walk_at "go"
      refine q_ite (fun hw3 => ?_) (fun hw3 => ?_)
      · walk_at "go"
        refine wl_meth wf hxw S (by walk_at "sel") (fun _ _ _ => rfl) ?_
        walk_at "go"
        refine wl_copied wf hxw S (by walk_at "sel") fun W' A' L' H nA S => ?_
        have k' := ka_new (L' := L') (W' := W') (ms := sees G x) (s := (x.n : Int)) kd.kA nA (by omega) (fun z hz => kd.kA.vb x.A hx1 z (List.mem_of_mem_take hz)) (by omega) hi (by omega) (by omega)
        rw [hsl] at k'
        walk_at "go"
        refine ⟨Ow, te, l1, l2, ow, x.n, pl, _, rfl, hep, S.s3 (A := pt Ow (.lst (owr (l1 ++ ow :: l2)))) (B := ownP (l1 ++ ow :: l2)) (C := tups pl) (by walk_at "sel"), fun D H S => ?_⟩
        have hstup : SqT K H te [.int (l1.length : Int), .int (x.n : Int)] := SqT.of (tups_mem (S.s1 (A := tups pl) (by walk_at "sel")) hep)
        walk_at "go"
        obtain ⟨pe, hpe⟩ : ∃ q, q = p := ⟨p, rfl⟩
        subst hpe
        have hstup : SqT K H te [.int (l1.length : Int), .int (x.n : Int)] := SqT.of (tups_mem (S.s1 (A := tups pl) (by walk_at "sel")) hep)
        walk_at "go"
        have e0 : ((owr (l1 ++ ow :: l2) ++ [V.ref pe]).length : Int) - 1 = (as.length : Int) := by rw [List.length_append, List.length_map, hoa]; simp
        rw [e0, ho4, show (G x.A).cs.take x.n = sees G x from rfl] at S
        have S := tups_add (S.s2 (A := pt p (.tup [.int (as.length : Int), .int (x.n : Int)])) (B := tups pl) (by walk_at "sel"))
        have S := own_add (x := ⟨pe, D, sees G x, (x.n : Int)⟩) (S.s3 (A := pt pe (.lst [.ref D, .int (x.n : Int)])) (B := pt D (.lst ((sees G x).map V.int))) (C := ownP (l1 ++ ow :: l2)) (by walk_at "sel"))
        have e1 : wr l ++ [.ref W'] = wr (l ++ [⟨W', A', x.n⟩]) := by simp [wr]
        have e2 : tr sp ++ [.ref p] = tr (sp ++ [(p, (as.length : Int), (x.n : Int))]) := by simp [tr]
        have e3 : owr (l1 ++ ow :: l2) ++ [.ref pe] = owr (l1 ++ ow :: l2 ++ [⟨pe, D, sees G x, (x.n : Int)⟩]) := by simp [owr]
        rw [e1, e2, e3] at S
        exact q _ _ _ _ _ _ _ _ _ _ _ _ ⟨k', sub_snoc kd.sub, relO_add (k := as.length) (f := ⟨W', A', x.n⟩) (relO_new (A' := A') (L' := L') (e := pe) (c := D) (cs' := sees G x) (s' := (x.n : Int)) kd.ro nA) (by simp), sub_snoc kd.hp, by simp, by simp; omega, kd.rt, by omega, by simp at hho ⊢; omega, kd.kb⟩ hrv (S.s11 (by walk_at "sel"))
      · walk_at "go"
        refine q_ite (fun hw4 => ?_) (fun hw4 => ?_)
        · walk_at "go"
          have hstup : SqT K H te [.int (l1.length : Int), .int (x.n : Int)] := SqT.of (tups_mem (S.s1 (A := tups pl) (by walk_at "sel")) hep)
          walk_at "go"
          refine ⟨b, _, _, rfl, by omega, by omega, S.s1 (by walk_at "sel"), fun v H hv0 hv1 S => ?_⟩
          obtain ⟨m, rfl⟩ := Int.eq_ofNat_of_zero_le hv0
          walk_at "go"
          refine ⟨b, 1, _, rfl, by decide, by decide, S.s1 (by walk_at "sel"), fun mo xs H hx0 hxl hxb S => ?_⟩
          obtain ⟨z0, xs', rfl⟩ : ∃ z0 xs', xs = z0 :: xs' := List.exists_cons_of_ne_nil hx0
          have hz0 := hxb z0 List.mem_cons_self
          walk_at "go"
          refine q_ixL (xs := (z0 :: xs').map V.int) (v := .int z0) (by walk_at "sq") (show atI ((z0 :: xs').map V.int) ((0 : Nat) : Int) = some (V.int z0) from atI_nat rfl) ?_
          walk_at "go"
          refine wl_setown wf hxw (k := m) (by omega) S (by walk_at "sel") fun H S => ?_
          have hstup : SqT K H te [.int (l1.length : Int), .int (x.n : Int)] := SqT.of (tups_mem (S.s1 (A := tups pl) (by walk_at "sel")) hep)
          have S := own_open (S.s1 (A := ownP (l1 ++ ow :: l2)) (by walk_at "sel"))
          have hxe : (owr (l1 ++ ow :: l2))[l1.length]? = some (V.ref ow.e) := by simp [owr]
          walk_at "go"
          refine q_ixL (by walk_at "sq") (atI_nat hxe) ?_
          walk_at "go"
          refine q_setS S (by walk_at "rep") (ixNn (by rw [List.length_map, ho4]; omega)) fun H S => ?_
          rw [← List.map_set, ho4] at S
          have S := own_shut (x := ⟨ow.e, ow.c, (G x.A).cs.set m z0, ow.s⟩) (S.s3 (A := pt ow.e (.lst [.ref ow.c, .int ow.s])) (B := pt ow.c (.lst (((G x.A).cs.set m z0).map V.int))) (C := ownP (l1 ++ l2)) (by walk_at "sel"))
          rw [ho5] at S
          have k' := ka_drop (ka_put kd.kA hi hxw (cs' := (G x.A).cs.set m z0) x rfl hx2 (by rw [List.length_set]; exact hx3) (by rw [List.length_set]; exact Nat.le_refl _) (fun z hz => by
            rcases List.mem_or_eq_of_mem_set hz with hz | rfl
            · exact kd.kA.vb x.A hx1 z hz
            · exact hz0) (by rw [List.length_set]; omega) (by rw [List.length_set]; exact hx5))
          have hro : RelO as (up G x.A ⟨(G x.A).L, (G x.A).cs.set m z0, (G x.A).s⟩) l (l1 ++ ⟨ow.e, ow.c, (G x.A).cs.set m z0, (G x.A).s⟩ :: l2) sp := relO_put kd.ro wf.nd ho2
          have e3 : owr (l1 ++ ow :: l2) = owr (l1 ++ ⟨ow.e, ow.c, (G x.A).cs.set m z0, (G x.A).s⟩ :: l2) := by simp [owr]
          rw [e3] at S
          walk_at "go"
          exact q _ _ _ _ _ _ _ _ _ _ _ _ ⟨k', kd.sub, hro, kd.hp, by omega, by omega, kd.rt, by omega, by simp at hho ⊢; omega, kd.kb⟩ hrv (S.s11 (by walk_at "sel"))
        · walk_at "go"
          refine ⟨b, 3, _, rfl, by decide, by decide, S.s1 (by walk_at "sel"), fun mo xs H hx0 hxl hxb S => ?_⟩
          have hxp : 1 ≤ xs.length := List.length_pos_iff.mpr hx0
          have hlt : at_ < l.length := (List.getElem?_eq_some_iff.mp hx).1
          have hms : (sees G x ++ xs).length = x.n + xs.length := by rw [List.length_append, hsl]
          have hcl : ((G x.A).cs.take x.n ++ xs ++ (G x.A).cs.drop (x.n + xs.length)).length = max (G x.A).cs.length (x.n + xs.length) := by
            simp only [List.length_append, List.length_take, List.length_drop]
            omega
          have hcv : ∀ z ∈ (G x.A).cs.take x.n ++ xs ++ (G x.A).cs.drop (x.n + xs.length), z.natAbs < 10 ^ 60 := fun z hz => by
            rcases List.mem_append.mp hz with hz | hz
            · rcases List.mem_append.mp hz with hz | hz
              · exact kd.kA.vb x.A hx1 z (List.mem_of_mem_take hz)
              · exact hxb z hz
            · exact kd.kA.vb x.A hx1 z (List.mem_of_mem_drop hz)
          have hcw : ∀ z ∈ sees G x ++ xs, z.natAbs < 10 ^ 60 := fun z hz => by
            rcases List.mem_append.mp hz with hz | hz
            · exact kd.kA.vb x.A hx1 z (List.mem_of_mem_take hz)
            · exact hxb z hz
          walk_at "go"
          obtain ⟨dw, hW⟩ := wl_at wf hxw S (by walk_at "sel")
          refine ⟨x.W, dw, _, rfl, hW, ?_⟩
          refine wl_put wf hxw hx0 (by omega) S hrv (by walk_at "sel") (fun hs W' H S => ?_) (fun hs => ?_)
          · walk_at "go"
            refine q_setS S (by walk_at "rep") (ixNn (by rw [List.length_map]; exact hlt)) fun H S => ?_
            walk_at "go"
            refine ⟨Ow, Kd, te, mo, kind, l1, l2, ow, x.n, xs, ls, ka, pl, _, rfl, hep, by rw [ho4]; exact hx3, by rw [ho4]; omega, by omega, by omega, by omega, S.s5 (A := pt Ow (.lst (owr (l1 ++ ow :: l2)))) (B := ownP (l1 ++ ow :: l2)) (C := kitP Kd ka ls) (D := tups pl) (E := pt mo (.lst (xs.map V.int))) (by walk_at "sel"), fun hs1 T H S => ?_, fun hs1 => absurd hs (by rw [ho5] at hs1; omega)⟩
            have k' := ka_put kd.kA hi hxw (cs' := (G x.A).cs.take x.n ++ xs ++ (G x.A).cs.drop (x.n + xs.length)) ⟨W', x.A, x.n + xs.length⟩ rfl (by show 1 ≤ x.n + xs.length; omega) (by show x.n + xs.length ≤ _; rw [hcl]; omega) (by rw [hcl]; omega) hcv (by rw [hcl]; omega) (by rw [hcl]; omega)
            have hro : RelO as (up G x.A ⟨(G x.A).L, (G x.A).cs.take x.n ++ xs ++ (G x.A).cs.drop (x.n + xs.length), (G x.A).s⟩) l (l1 ++ ⟨ow.e, ow.c, (G x.A).cs.take x.n ++ xs ++ (G x.A).cs.drop (x.n + xs.length), (G x.A).s⟩ :: l2) sp := relO_put kd.ro wf.nd ho2
            have hro' := relO_set (at_ := at_) (T := T) (f := ⟨W', x.A, x.n + xs.length⟩) hro ho2
            rw [ho4, ho5] at S
            walk_at "go"
            refine q_setS S (by walk_at "rep") (ixNn (by rw [List.length_map]; omega)) fun H S => ?_
            walk_at "go"
            have S := tups_add (S.s2 (A := pt T (.tup [.int (l1.length : Int), .int ((x.n + xs.length : Nat) : Int)])) (B := tups pl) (by walk_at "sel"))
            have e1 : (wr l).set at_ (.ref W') = wr (l.set at_ ⟨W', x.A, x.n + xs.length⟩) := by simp [wr]
            have e2 : (tr sp).set at_ (.ref T) = tr (sp.set at_ (T, (l1.length : Int), ((x.n + xs.length : Nat) : Int))) := by simp [tr]
            have e3 : owr (l1 ++ ow :: l2) = owr (l1 ++ ⟨ow.e, ow.c, (G x.A).cs.take x.n ++ xs ++ (G x.A).cs.drop (x.n + xs.length), (G x.A).s⟩ :: l2) := by simp [owr]
            rw [e1, e2, e3] at S
            exact q _ _ _ _ _ _ _ _ _ _ _ _ ⟨k', sub_set kd.sub, hro', sub_set kd.hp, by rw [List.length_set]; omega, by rw [List.length_set]; omega, kd.rt, by omega, by simp at hho ⊢; omega, kd.kb⟩ hrv (S.s11 (by walk_at "sel"))
          · obtain ⟨r1, r2, r3⟩ := rt_move (n := x.n + xs.length) kd.rt hkl hi (by omega) hs
            refine ⟨r1, r3, fun t W' A' L' H nA S => ?_⟩
            walk_at "go"
            refine q_setS S (by walk_at "rep") (ixNn (by rw [List.length_map]; exact hlt)) fun H S => ?_
            walk_at "go"
            refine ⟨Ow, Kd, te, mo, kind, l1, l2, ow, x.n, xs, ls, ka, pl, _, rfl, hep, by rw [ho4]; exact hx3, by rw [ho4]; omega, by omega, by omega, by omega, S.s5 (A := pt Ow (.lst (owr (l1 ++ ow :: l2)))) (B := ownP (l1 ++ ow :: l2)) (C := kitP Kd ka ls) (D := tups pl) (E := pt mo (.lst (xs.map V.int))) (by walk_at "sel"), fun hs1 => absurd hs (by rw [ho5] at hs1; omega), fun hs1 T e c tk H S => ?_⟩
            have k' := ka_new (L' := L') (W' := W') (ms := sees G x ++ xs) (s := r.grow (G x.A).s ((x.n + xs.length : Nat) : Int)) kd.kA nA (by omega) hcw (by omega) hi (by rw [hms]; exact r1) r2
            rw [hms] at k'
            have hro := relO_set (at_ := at_) (T := T) (k := as.length) (f := ⟨W', A', x.n + xs.length⟩) (relO_new (A' := A') (L' := L') (e := e) (c := c) (cs' := sees G x ++ xs) (s' := r.grow (G x.A).s ((x.n + xs.length : Nat) : Int)) kd.ro nA) (by simp)
            rw [ho4, ho5, rt_grw kd.rt, show (G x.A).cs.take x.n = sees G x from rfl] at S
            walk_at "go"
            refine q_setS S (by walk_at "rep") (ixNn (by rw [List.length_map]; omega)) fun H S => ?_
            walk_at "go"
            have S := tups_add (S.s2 (A := pt T (.tup [.int ((l1 ++ ow :: l2).length : Int), .int ((x.n + xs.length : Nat) : Int)])) (B := tups pl) (by walk_at "sel"))
            have e1 : (wr l).set at_ (.ref W') = wr (l.set at_ ⟨W', A', x.n + xs.length⟩) := by simp [wr]
            have e2 : (tr sp).set at_ (.ref T) = tr (sp.set at_ (T, (as.length : Int), ((x.n + xs.length : Nat) : Int))) := by simp [tr]
            rw [hoa] at S
            rw [e1, e2] at S
            obtain ⟨ta', hrt', S⟩ := rt_ask (tk := tk) (c_Told := c_Told) kd.rt (S.s2 (A := exP r t (G x.A).s ((x.n + xs.length : Nat) : Int)) (B := tups ta) (by walk_at "sel"))
            exact q _ _ _ _ _ _ _ _ _ _ _ _ ⟨k', sub_set kd.sub, hro, sub_set kd.hp, by rw [List.length_set]; omega, by rw [List.length_set]; omega, hrt', by simp; omega, by simp at hho ⊢; omega, fun e he => by rcases mem_snoc he with he | rfl; exact kd.kb e he; exact ⟨by show (G x.A).s.natAbs ≤ 100; omega, by show ((x.n + xs.length : Nat) : Int).natAbs ≤ 100; omega⟩⟩ (by rw [rkv_nx]; exact hrv) (S.s11 (by walk_at "sel"))
end

end Pf

set_option Elab.async false
set_option linter.all false
set_option maxRecDepth 100000
set_option maxHeartbeats 16000000
namespace Pf
open PySem L2 Kt
set_option hygiene false
local macro_rules | `(tactic| walk_at "mem") => `(tactic| (with_reducible (repeat (first | exact Pick.hd | apply Pick.tl)); done))
local macro_rules | `(tactic| walk_at "rep") => `(tactic| (with_reducible (repeat (first | exact Repl.hd | apply Repl.tl)); done))
local macro_rules | `(tactic| walk_at "sel") => `(tactic| ((repeat (with_reducible apply Sel.cons; (focus walk_at "mem"))); (with_reducible apply Sel.nil); (with_reducible (repeat (first | exact Dr.all | apply Dr.skip)); done)))
local macro_rules | `(tactic| walk_at "at") => `(tactic| (refine' Sep.at_ (by assumption) ?kkpk; (case kkpk => walk_at "mem")))
local macro_rules | `(tactic| walk_at "sq") => `(tactic| first | assumption | (refine' Sep.sq (by assumption) ?kkpk; (case kkpk => walk_at "mem")))
local macro_rules | `(tactic| walk_at "st") => `(tactic| first | assumption | (refine' Sep.st (by assumption) ?kkpk; (case kkpk => walk_at "mem")))
local macro_rules | `(tactic| walk_at "lk") => `(tactic| (repeat (first | (with_reducible exact lk_eq) | exact rfl | refine (lk_ne (by decide +kernel)).trans ?_)))
local macro_rules | `(tactic| walk_at "pf") => `(tactic| (repeat (first | (with_reducible exact pf_nil) | (with_reducible exact pf_eq) | (apply pf_ne; (focus decide +kernel)))))
local macro_rules | `(tactic| walk_at "ty") => `(tactic| first | exact ty_int | (refine' ty_lst ?kkh; (case kkh => walk_at "at")))
local macro_rules | `(tactic| walk_at "k1") => `(tactic| with_reducible first
  | refine q_seq ?_ | refine q_set ?_ | refine q_asg ?_ | refine q_ret ?_ | refine q_drop ?_ | refine q_next ?_ | refine q_c ?_ | refine q_op ?_ | refine q_un ?_ | refine q_nil ?_ | refine q_cons ?_ | refine q_cb ?_
  | refine q_call ?_ | refine q_ifs ?_ | refine q_if ?_ | refine q_test ?_ | refine q_tb ?_ | refine q_bl ?_ | refine q_notT ?_ | refine q_andT ?_ | refine q_orT ?_ | refine q_andV ?_ | refine q_orV ?_ | refine q_notV ?_
  | refine q_addA ?_ | refine q_subI ?_ | refine q_ltI ?_ | refine q_leI ?_ | refine q_gtI ?_ | refine q_geI ?_ | refine q_eqI ?_ | refine q_neI ?_ | refine q_abs ?_ | refine q_int ?_ | refine q_intB ?_ | refine q_max ?_ | refine q_min ?_
  | refine q_ipAdd ?_ | refine q_ipSub ?_ | refine q_gsub ?_ | refine q_augs ?_ | refine q_lst ?_ | refine q_tup ?_ | refine q_blI ?_ | refine iteT ?_ | refine iteF ?_ | refine iteNT ?_ | refine iteNF ?_
  | refine r_prop ?_ | refine r_fld ?_ | refine r_sfld ?_ | refine r_meth ?_ | refine r_make ?_ | refine r_sl ?_ | refine r_nopart ?_ | refine r_part ?_ | refine r_parti ?_ | refine r_gsl ?_ | refine r_bm ?_ | refine r_bm0 ?_ | refine r_for ?_ | refine r_ilist ?_ | refine r_irng ?_
  | refine r_gname ?_ | refine r_gcons ?_ | refine r_gnil ?_ | refine r_par ?_ | refine r_parA ?_ | refine r_chain ?_ | refine r_isN ?_ | refine r_tlc ?_ | refine r_yes ?_ | refine r_makek ?_ | refine r_neg ?_)
local macro_rules | `(tactic| walk_at "k2") => `(tactic| first
  | ((with_reducible refine' q_var ?kke ?_); (case kke => rfl))
  | ((with_reducible refine' q_aug ?kke ?_); (case kke => rfl))
  | ((with_reducible refine' q_ixL ?kks ?kke ?_); (case kks => walk_at "sq"); (case kke => first | rfl | assumption))
  | ((with_reducible refine' q_ixT ?kks ?kke ?_); (case kks => walk_at "st"); (case kke => first | rfl | assumption))
  | ((with_reducible refine' q_ixLL ?kks ?kke ?_); (case kks => walk_at "sq"); (case kke => first | rfl | assumption))
  | ((with_reducible refine' q_lenL ?kks ?_); (case kks => walk_at "sq"))
  | ((with_reducible refine' q_mulI ?kkc ?_); (case kkc => first | exact .inl (by omega) | exact .inr (by omega)))
  | ((with_reducible refine' q_modI ?kkc ?_); (case kkc => omega))
  | ((with_reducible refine' q_divI ?kkc ?_); (case kkc => exact ⟨by omega, by omega⟩))
  | ((with_reducible refine' q_powI ?kkc ?_); (case kkc => exact ⟨by decide, by decide, by decide⟩))
  | ((with_reducible refine' r_kfld ?kkS ?kkp ?kkc ?kkn ?kkl ?_); (case kkS => assumption); (case kkp => walk_at "mem"); (case kkc => walk_at "cls"); (case kkn => walk_at "na"); (case kkl => walk_at "lk"))
  | ((with_reducible refine' r_kprop ?kkS ?kkp ?_); (case kkS => assumption); (case kkp => walk_at "mem"))
  | ((with_reducible refine' r_kmeth ?kkS ?kkp ?kkl ?_); (case kkS => assumption); (case kkp => walk_at "mem"); (case kkl => walk_at "lk"))
  | ((with_reducible refine' r_calll ?kks ?_); (case kks => rfl))
  | ((with_reducible refine' r_tyl ?kks ?_); (case kks => walk_at "sq"))
  | ((with_reducible refine' r_isi (k := true) ?kkt ?kke ?_); (case kkt => walk_at "ty"); (case kke => decide +kernel))
  | ((with_reducible refine' r_isi (k := false) ?kkt ?kke ?_); (case kkt => walk_at "ty"); (case kke => decide +kernel)))
local macro_rules | `(tactic| walk_at "k3") => `(tactic| first
  | ((with_reducible refine' q_setS ?kkS ?kkr ?kke ?_); (case kkS => assumption); (case kkr => walk_at "rep"); (case kke => rfl); intro H S)
  | ((with_reducible refine' r_kset ?kkS ?kkr ?kkc ?kkn ?kkl ?kke ?_); (case kkS => assumption); (case kkr => walk_at "rep"); (case kkc => walk_at "cls"); (case kkn => walk_at "na"); (case kkl => first | exact Nat.le_of_ble_eq_true rfl | assumption | omega | (simp; done) | (simp; omega)); (case kke => walk_at "pf"); intro H S)
  | ((with_reducible refine' q_new ?kkS ?kkl ?_); (case kkS => assumption); (case kkl => first | exact Nat.le_of_ble_eq_true rfl | assumption | omega | (simp; done) | (simp; omega)); intro p H S)
  | ((with_reducible refine' q_newT ?kkS ?kkl ?_); (case kkS => assumption); (case kkl => first | exact Nat.le_of_ble_eq_true rfl | assumption | omega | (simp; done) | (simp; omega)); intro p H S)
  | ((with_reducible refine' r_knew ?kkS ?_); (case kkS => assumption); intro x dx H S)
  | ((with_reducible refine' r_knewk ?kkS ?kkl1 ?kkl2 ?_); (case kkS => assumption); (case kkl1 => rfl); (case kkl2 => rfl); intro x dx H S)
  | ((with_reducible refine' r_ksl ?kkS ?kks ?_); (case kkS => assumption); (case kks => walk_at "sq"); intro p H S)
  | ((with_reducible refine' r_list ?kkS ?kks ?_); (case kkS => assumption); (case kks => walk_at "sq"); intro p H S)
  | ((with_reducible refine' r_cat ?kkS ?kks1 ?kks2 ?kkz ?_); (case kkS => assumption); (case kks1 => walk_at "at"); (case kks2 => walk_at "at"); (case kkz => first | omega | (simp; omega)); intro p H S)
  | ((with_reducible refine' r_append ?kkS ?kkr ?kkz ?_); (case kkS => assumption); (case kkr => walk_at "rep"); (case kkz => first | omega | (simp; omega)); intro H S)
  | ((with_reducible refine' r_reverse ?kkS ?kkr ?_); (case kkS => assumption); (case kkr => walk_at "rep"); intro H S)
  | ((with_reducible refine' r_clear ?kkS ?kkr ?_); (case kkS => assumption); (case kkr => walk_at "rep"); intro H S))
local macro_rules | `(tactic| walk_at "gn") => `(tactic| repeat (first | walk_at "k1" | walk_at "k2"))
local macro_rules | `(tactic| walk_at "go") => `(tactic| repeat (first | walk_at "k1" | walk_at "k2" | walk_at "k3"))

local macro_rules | `(tactic| walk_at "k1") => `(tactic| with_reducible first | refine r_par3 ?_ | refine r_parA3 ?_ | refine r_izip ?_ | refine r_irng2 ?_)

local macro_rules | `(tactic| walk_at "cls") => `(tactic| with_reducible first | assumption | exact Txt.cl_Array (by assumption) | exact Txt.cl_Window (by assumption) | exact Txt.cl_Told (by assumption))
local macro_rules | `(tactic| walk_at "na") => `(tactic| with_reducible first | assumption | exact Txt.na_Array_cells (by assumption) | exact Txt.na_Array_size (by assumption) | exact Txt.na_Window__array (by assumption) | exact Txt.na_Window__length (by assumption) | exact Txt.na_Window__rule (by assumption) | exact Txt.na_Told__rooms (by assumption) | exact Txt.na_Told__asked (by assumption))
theorem ka_new0 {as : List Addr} {G : GS} {ws : List Wi} {i : Nat} (k : KA as G ws i) {A' L' W' : Addr} (nA : A' ∉ as) {ms : List Int} {s : Int} (h0 : 1 ≤ ms.length) (h1 : ∀ z ∈ ms, z.natAbs < 10 ^ 60) (h2 : ms.length ≤ 4 * (i + 1)) (hi : i < 9) (h3 : (ms.length : Int) ≤ s) (h4 : s ≤ 100) :
    KA (as ++ [A']) (up G A' ⟨L', ms, s⟩) (ws ++ [⟨W', A', ms.length⟩]) i := by
  obtain ⟨k1, k2, k3, k4⟩ := ka_new (L' := L') (W' := W') k nA h0 h1 (by omega : ms.length ≤ 4 * (i + 2)) hi h3 h4
  refine ⟨k1, k2, fun A hA => ?_, k4⟩
  rcases mem_snoc hA with hB | rfl
  · rw [up_ne (by intro q; subst q; exact nA hB)]; exact k.n3 A hB
  · rw [up_same]; exact h2
theorem ka_nil {G : GS} : KA [] G [] 0 := ⟨⟨.nil, by simp, by simp, by simp⟩, by simp, by simp, by simp⟩
/-! ### many lists of ints as one part -/
abbrev IL := Addr × List Int
def bi (l : List IL) : SP := big (l.map fun e => (e.1, e.2.map V.int))
abbrev rf (l : List IL) : List V := l.map fun e => .ref e.1
theorem bi_nil {R : List SP} {H : Hp} (S : Sep R H) : Sep (bi [] :: R) H := big_nil S
theorem bi_add {l : List IL} {p : Addr} {xs : List Int} {R : List SP} {H : Hp} (S : Sep (pt p (.lst (xs.map V.int)) :: bi l :: R) H) : Sep (bi (l ++ [(p, xs)]) :: R) H := by
  have := big_add S
  unfold bi
  rw [List.map_append]
  exact this
theorem bi_mem {l : List IL} {p : Addr} {xs : List Int} {R : List SP} {H : Hp} (S : Sep (bi l :: R) H) (h : (p, xs) ∈ l) : H p = some (.lst (xs.map V.int)) := big_get S (List.mem_map.mpr ⟨(p, xs), h, rfl⟩)
abbrev dIL (l : List IL) : List PyData := l.map fun e => dInts e.2
theorem bi_dp {K : PySem.W.Frag} {l pool : List IL} {R : List SP} {H : Hp} (S : Sep (bi pool :: R) H) (h : ∀ e ∈ l, e ∈ pool) : DpAll K H (rf l) (dIL l) := dpall_of _ _ fun z m => dp_ints (SqL.of (bi_mem S (h z m)))
theorem dIL_eq {l l' : List IL} (e : l.map (·.2) = l'.map (·.2)) : dIL l = dIL l' := by
  have h : ∀ l : List IL, dIL l = (l.map (·.2)).map dInts := fun l => by simp [dIL]
  rw [h, h, e]

theorem bi_open {l1 l2 : List IL} {e : IL} {R : List SP} {H : Hp} (S : Sep (bi (l1 ++ e :: l2) :: R) H) : Sep (pt e.1 (.lst (e.2.map V.int)) :: bi (l1 ++ l2) :: R) H := by
  unfold bi big at S ⊢
  rw [List.map_append, List.map_append] at S ⊢
  exact Sep.b_open S
theorem bi_shut {l1 l2 : List IL} {e : IL} {R : List SP} {H : Hp} (S : Sep (pt e.1 (.lst (e.2.map V.int)) :: bi (l1 ++ l2) :: R) H) : Sep (bi (l1 ++ e :: l2) :: R) H := by
  unfold bi big at S ⊢
  rw [List.map_append, List.map_append] at S ⊢
  exact Sep.b_shut S
theorem rf_get {l : List IL} {i : Nat} {v : V} (h : (rf l)[i]? = some v) : ∃ x, l[i]? = some x ∧ v = .ref x.1 := by
  rw [List.getElem?_map] at h
  cases e : l[i]? with
  | none => rw [e] at h; cases h
  | some z => rw [e] at h; exact ⟨z, rfl, (Option.some.inj h).symm⟩
theorem take_snoc {α β : Type} {l : List α} {i : Nat} {x : α} (f : α → β) (h : l[i]? = some x) : (l.take (i + 1)).map f = (l.take i).map f ++ [f x] := by
  rw [List.take_add_one, h]
  simp
section
variable {P : Program} {w : World} {K : PySem.W.Frag} {mg : Str → Option Value} {base : Heap} {c_Array c_Window c_Told f_doubled f_exact : Addr}
theorem q_pair {tk tv : TE} {r : List (TE × TE)} {σ : L2.St} {H : Hp} {Q : List (V × V) → Hp → Prop} (h : tk σ H fun x H1 => tv σ H1 fun y H2 => tPairs r σ H2 fun ps H3 => Q ((x, y) :: ps) H3) : tPairs ((tk, tv) :: r) σ H Q := h
theorem q_pairN {σ : L2.St} {H : Hp} {Q : List (V × V) → Hp → Prop} (h : Q [] H) : tPairs [] σ H Q := h
theorem atI_last {α : Type} {xs : List α} {y : α} : atI (xs ++ [y]) (-1) = some y := by
  unfold atI ixN
  rw [if_neg (by decide), if_pos (by simp; omega)]
  have e : (-1 + ((xs ++ [y]).length : Int)).toNat = xs.length := by simp; omega
  rw [e]
  simp
theorem pairs_of (z : List IL) : z.map (fun e : IL => (e.2, (e.2.length : Int))) = (z.map (·.2)).map fun y => (y, (y.length : Int)) := by
  rw [List.map_map]
  rfl
theorem to_at {c_Told a : Addr} {rooms : List Int} {ts : List Addr} {R : List SP} {H : Hp} (S : Sep (toP c_Told a rooms ts :: R) H) : ∃ (dx L M : Addr), H a = some (.ins c_Told dx [("_rooms", .ref L), ("_asked", .ref M)]) := by
  obtain ⟨dx, L, M, S⟩ := to_open S
  exact ⟨dx, L, M, S.hd_at⟩
def dTP (z : List TP) : List PyData := z.map fun e => .tuple [.int e.2.1, .int e.2.2]
theorem dTP_eq {z z' : List TP} (h : z.map (·.2) = z'.map (·.2)) : dTP z = dTP z' := by
  have e : ∀ z : List TP, dTP z = (z.map (·.2)).map fun y : Int × Int => PyData.tuple [.int y.1, .int y.2] := fun z => by
    rw [List.map_map]
    rfl
  rw [e, e, h]
theorem dTP_dp {K : PySem.W.Frag} {z : List TP} {R : List SP} {H : Hp} (S : Sep (tups z :: R) H) : DpAll K H (z.map fun e => V.ref e.1) (dTP z) := dpall_of _ _ fun e he => .tup (SqT.of (tups_mem S he)) (.cons (.int _) (.cons (.int _) .nil))
theorem dTP_sh {z : List TP} (h : ∀ e ∈ z, e.2.1.natAbs ≤ 100 ∧ e.2.2.natAbs ≤ 100) (hl : z.length ≤ 10) : Sh 2 5000 (.list (dTP z)) := by
  have hi : ∀ i : Int, i.natAbs ≤ 100 → Sh 0 200 (.int i) := fun i h => sh_int (Nat.lt_of_le_of_lt h (by decide))
  refine (sh_list (k := 1) (W := 402) fun d hd => ?_).up (Nat.le_refl _) (by unfold dTP; rw [List.length_map]; omega)
  obtain ⟨e, he, rfl⟩ := List.mem_map.mp hd
  refine (sh_tuple (k := 0) (W := 200) fun d hd => ?_).up (Nat.le_refl _) (by show 2 * 201 ≤ 402; decide)
  rcases List.mem_cons.mp hd with rfl | hd
  · exact hi _ (h e he).1
  · rw [List.mem_singleton.mp hd]
    exact hi _ (h e he).2
def spLaw (K : PySem.W.Frag) : Sp := fun vs H Q _ => ∃ (a : Addr) (ns : List Int), vs = [.ref a] ∧ SqL K H a (ns.map V.int) ∧ ns.length ≤ 63 ∧ ∀ H', Q (.bl true) H'
theorem sc_law : FnScope N_law ["_law_script"] (defScope s_law) := ⟨rfl, rfl, rfl, by decide +kernel, rfl, by decide +kernel, by decide +kernel⟩
theorem ok_law {f f1 f2 f3 f4 f5 f6 f7 : Addr} {fd : FuncData} (F : Fun K "law" "law" s_law f fd) (T : Tx K mg c_Array c_Window c_Told f_doubled f_exact) (D_l_bag : Df P w K mg base 1 "_law_bag" f2 ["_law_script"] (spBag K)) (D_l_take : Df P w K mg base 1 "_law_take" f1 ["_law_bag_here", "_law_many"] spTake)
    (D_l_draw_marks : Df P w K mg base 2 "_law_draw_marks" f5 ["_law_bag_here", "_law_many"] spDraw) (D_l_alike : Dg P w K mg base 1 "_law_alike" f4 ["_law_found", "_law_due"] (spAlike K)) (D_l_rule_of : Df P w K mg base 4 "_law_rule_of" f3 ["_law_kind", "_law_rooms"] (spRuleOf c_Told f_doubled f_exact)) (M_Window : CfW P w K mg base 3 c_Window (spNewW c_Array c_Window))
    (D_l_done : Df P w K mg base 8 "_law_done" f6 ["_law_bag_here", "_law_own", "_law_kind", "_law_kit", "_law_spots", "_law_windows"] (spDone c_Array c_Window c_Told f_doubled f_exact)) (D_l_all_right : Dg P w K mg base 6 "_law_all_right" f7 ["_law_own", "_law_spots", "_law_windows"] (spAllR c_Array c_Window))
    (M_asked : Mf P w K mg base 1 c_Told "asked" ["self"] (spAsked c_Told)) (M_left : Pf P w K mg base 1 c_Told "left" (spLeft c_Told)) (M_marks : Mf P w K mg base 2 c_Window "marks" ["self"] (spSeen c_Array c_Window)) : FnG P w K mg base 9 f fd ["_law_script"] (spLaw K) := by
  refine fnG_ok F sc_law (fun vs H Q E h => ?_) (fun cdv A outer s H vs Q E hg hr h => ?_)
  · obtain ⟨a, ns, rfl, _⟩ := h
    rfl
  obtain ⟨a, ns, rfl, hq, hl, q⟩ := h
  refine ⟨_, (pss_cons (ps_set (i := 1) sc_law.nd rfl (by first | exact Or.inl rfl | exact Or.inr rfl) (pe_df D_l_bag (hr.mono (by decide)) (pa_cons (pv 0) pa_nil)))
      (pss_cons (ps_for PassesOwn.never rfl (pi_range1 rfl T.z_range (pa_cons pe_int pa_nil)) (pg_name (i := 2) sc_law.nd rfl (by first | exact Or.inl rfl | exact Or.inr rfl)) (pss_cons (ps_asg (pe_tup (pa_cons (pe_df D_l_take (hr.mono (by decide)) (pa_cons (pv 1) (pa_cons pe_int pa_nil))) (pa_cons (pe_lst (pa_cons (pe_df D_l_draw_marks (hr.mono (by decide)) (pa_cons (pv 1) (pa_cons pe_int pa_nil))) (pa_cons (pe_df D_l_draw_marks (hr.mono (by decide)) (pa_cons (pv 1) (pa_cons pe_int pa_nil))) pa_nil))) pa_nil))) (pg_tupK K rfl (pgs_cons (pg_name (i := 3) sc_law.nd rfl (by first | exact Or.inl rfl | exact Or.inr rfl)) (pgs_cons (pg_name (i := 4) sc_law.nd rfl (by first | exact Or.inl rfl | exact Or.inr rfl)) pgs_nil))))
      (pss_cons (ps_setLc (i := 5) (own := [("_law_k", 14)]) rfl sc_law.nd rfl rfl (sw_true rfl rfl rfl (by decide +kernel)) (pi_range1 rfl T.z_range (pa_cons (pe_df D_l_take (hr.mono (by decide)) (pa_cons (pv 1) (pa_cons pe_int pa_nil))) pa_nil)) (blkOk_by (own := [("_law_k", 14)]) (N := N_law) (sc := defScope s_law) (by decide +kernel)) (fun _ _ _ _ _ => (pg_name (i := 14) sc_law.nd rfl (by first | exact Or.inl rfl | exact Or.inr rfl))) (fun _ _ _ _ _ => pts_nil) (fun _ _ _ _ _ => (pe_op (r := rAddA) op_addA pe_int (pe_df D_l_take (hr.mono (by decide)) (pa_cons (pv 1) (pa_cons pe_int pa_nil))))))
      (pss_cons (ps_asg (pe_tup (pa_cons (pe_lc (own := [("_law_marks", 15)]) rfl sc_law.nd (pi_listK K (pv 4)) (blkOk_by (own := [("_law_marks", 15)]) (N := N_law) (sc := defScope s_law) (by decide +kernel)) (fun _ _ _ _ _ => (pg_name (i := 15) sc_law.nd rfl (by first | exact Or.inl rfl | exact Or.inr rfl))) (fun _ _ _ _ _ => pts_nil) (fun _ _ _ _ _ => (pe_callTy (r := cList K) call_list_of (by rfl) T.z_list (by decide +kernel) (pa_cons (pv 15) pa_nil)))) (pa_cons (pe_df D_l_rule_of (hr.mono (by decide)) (pa_cons (pv 3) (pa_cons (pv 5) pa_nil))) pa_nil))) (pg_tupK K rfl (pgs_cons (pg_name (i := 6) sc_law.nd rfl (by first | exact Or.inl rfl | exact Or.inr rfl)) (pgs_cons (pg_name (i := 7) sc_law.nd rfl (by first | exact Or.inl rfl | exact Or.inr rfl)) pgs_nil))))
      (pss_cons (ps_setLc (i := 8) (own := [("_law_marks", 15)]) rfl sc_law.nd rfl rfl (sw_true rfl rfl rfl (by decide +kernel)) (pi_listK K (pv 6)) (blkOk_by (own := [("_law_marks", 15)]) (N := N_law) (sc := defScope s_law) (by decide +kernel)) (fun _ _ _ _ _ => (pg_name (i := 15) sc_law.nd rfl (by first | exact Or.inl rfl | exact Or.inr rfl))) (fun _ _ _ _ _ => pts_nil) (fun _ _ _ _ _ => (pe_cfk M_Window (hr.mono (by decide)) (pa_cons (pv 15) pa_nil) (pk_cons (pv 7) pk_nil))))
      (pss_cons (ps_setLc (i := 9) (own := [("_law_marks", 15)]) rfl sc_law.nd rfl rfl (sw_true rfl rfl rfl (by decide +kernel)) (pi_listK K (pv 4)) (blkOk_by (own := [("_law_marks", 15)]) (N := N_law) (sc := defScope s_law) (by decide +kernel)) (fun _ _ _ _ _ => (pg_name (i := 15) sc_law.nd rfl (by first | exact Or.inl rfl | exact Or.inr rfl))) (fun _ _ _ _ _ => pts_nil) (fun _ _ _ _ _ => (pe_lst (pa_cons (pe_callTy (r := cList K) call_list_of (by rfl) T.z_list (by decide +kernel) (pa_cons (pv 15) pa_nil)) (pa_cons (pe_callB (r := cOr (cLenQ K) cLenS) call_lenA (by rfl) T.z_len (by decide +kernel) (pa_cons (pv 15) pa_nil)) pa_nil)))))
      (pss_cons (ps_par (i := 10) (j := 11) rfl sc_law.nd rfl rfl (by decide) rfl rfl (pa_cons (pe_lc (own := [("_law_k", 14)]) rfl sc_law.nd (pi_range1 rfl T.z_range (pa_cons pe_int pa_nil)) (blkOk_by (own := [("_law_k", 14)]) (N := N_law) (sc := defScope s_law) (by decide +kernel)) (fun _ _ _ _ _ => (pg_name (i := 14) sc_law.nd rfl (by first | exact Or.inl rfl | exact Or.inr rfl))) (fun _ _ _ _ _ => pts_nil) (fun _ _ _ _ _ => (pe_tup (pa_cons (pv 14) (pa_cons (pe_callB (r := cOr (cLenQ K) cLenS) call_lenA (by rfl) T.z_len (by decide +kernel) (pa_cons (pe_ix (r := rIx K) ix_seq (pv 4) (pv 14) (fun _ _ => rfl)) pa_nil)) pa_nil))))) (pa_cons (pe_disp (pps_cons pe_str (pe_callTy (r := cList K) call_list_of (by rfl) T.z_list (by decide +kernel) (pa_cons (pv 5) pa_nil)) (pps_cons pe_str (pe_lst pa_nil) pps_nil)) rfl rfl (by simp) (by decide)) pa_nil)) rfl)
      (pss_cons (ps_expr (pe_bm0K K PySem.F.plainAttrs_list PySem.F.slot_list_clear PySem.F.type_list_clear mt_clear (pe_ix (r := rIx K) ix_seq (pv 6) pe_int (fun _ _ => rfl))))
      (pss_one (ps_for PassesOwn.never rfl (pi_range1 rfl T.z_range (pa_cons pe_int pa_nil)) (pg_name (i := 12) sc_law.nd rfl (by first | exact Or.inl rfl | exact Or.inr rfl)) (pss_cons (ps_expr (pe_df D_l_done (hr.mono (by decide)) (pa_cons (pv 1) (pa_cons (pv 9) (pa_cons (pv 3) (pa_cons (pv 11) (pa_cons (pv 10) (pa_cons (pv 8) pa_nil))))))))
      (pss_cons (ps_if (pt_not (pt_val (pe_dg D_l_all_right hg (hr.mono (by decide)) (pa_cons (pv 9) (pa_cons (pv 10) (pa_cons (pv 8) pa_nil)))))) (pss_one (ps_ret pe_bl)) pss_nil)
      (pss_cons (ps_set (i := 13) sc_law.nd rfl (by first | exact Or.inl rfl | exact Or.inr rfl) (pe_lst (pa_cons (pe_dget (Nat.lt_of_le_of_lt (Nat.add_le_add_left (by decide) _) hr.units) (pv 11) pe_str (by first | rfl | trivial | exact fun _ _ => rfl)) (pa_cons (pe_callB (r := cOr (cLenQ K) cLenS) call_lenA (by rfl) T.z_len (by decide +kernel) (pa_cons (pe_dget (Nat.lt_of_le_of_lt (Nat.add_le_add_left (by decide) _) hr.units) (pv 11) pe_str (by first | rfl | trivial | exact fun _ _ => rfl)) pa_nil)) pa_nil))))
      (pss_cons (ps_if (PW.pt (pw_and (pt_cmpR (r := rEqA K) (op_eqA hr.units) (pv 3) pe_int (nomark _)) (pw_and1 (pt_not (pt_val (pe_dg D_l_alike hg (hr.mono (by decide)) (pa_cons (pe_lst (pa_cons (pe_mf0 M_asked (hr.mono (by decide)) (pv 7)) (pa_cons (pe_pr M_left (hr.mono (by decide)) (pv 7)) pa_nil))) (pa_cons (pv 13) pa_nil)))))))) (pss_one (ps_ret pe_bl)) pss_nil)
      (pss_one (ps_expr (pe_bm0K K PySem.F.plainAttrs_list PySem.F.slot_list_clear PySem.F.type_list_clear mt_clear (pe_mf0 M_marks (hr.mono (by decide)) (pe_ix (r := rIx K) ix_seq (pv 8) (pe_un un_neg pe_int) (fun _ _ => rfl))))))))))))))))))))
      (pss_one (ps_ret pe_bl)))), ?_⟩
  walk_at "go"
  refine ⟨a, ns, [], rfl, hq, hl, trivial, fun b H S => ?_⟩
  walk_at "go"
  refine r_for_rng (fun i σ Ps => ∃ u2 u3 u4 u5 u6 u7 u8 u9 u10 u11 u12 u13 u14 u15, σ = [some (.ref a), some (.ref b), u2, u3, u4, u5, u6, u7, u8, u9, u10, u11, u12, u13, u14, u15] ∧ Ps = [bag b]) S (by decide) (by decide) ⟨_, _, _, _, _, _, _, _, _, _, _, _, _, _, rfl, rfl⟩ ?_ ?_
  · rintro i σ Ps H hi ⟨u2, u3, u4, u5, u6, u7, u8, u9, u10, u11, u12, u13, u14, u15, rfl, rfl⟩ S
    walk_at "go"
    refine ⟨b, 4, _, rfl, by decide, by decide, S.s1 (by walk_at "sel"), fun kind H hk0 hk1 S => ?_⟩
    walk_at "go"
    refine ⟨b, 4, _, rfl, by decide, by decide, S.s1 (by walk_at "sel"), fun m1 x1 H hx10 hx1l hx1b S => ?_⟩
    walk_at "go"
    refine ⟨b, 2, _, rfl, by decide, by decide, S.s1 (by walk_at "sel"), fun m2 x2 H hx20 hx2l hx2b S => ?_⟩
    walk_at "go"
    rename_i Lo _ _
    refine r_gtup (by walk_at "st") rfl ?_
    walk_at "go"
    refine ⟨b, 4, _, rfl, by decide, by decide, S.s1 (by walk_at "sel"), fun v H hv0 hv1 S => ?_⟩
    walk_at "go"
    obtain ⟨lots, hlots⟩ : ∃ lots : List IL, lots = [(m1, x1), (m2, x2)] := ⟨_, rfl⟩
    have hln : lots.length = 2 := by rw [hlots]; rfl
    have hlt : ∀ e ∈ lots, 1 ≤ e.2.length ∧ e.2.length ≤ 4 ∧ ∀ z ∈ e.2, z.natAbs < 10 ^ 60 := fun e he => by
      rw [hlots] at he
      rcases List.mem_cons.mp he with rfl | he
      · exact ⟨List.length_pos_iff.mpr hx10, by show x1.length ≤ 4; omega, hx1b⟩
      · rw [List.mem_singleton.mp he]
        exact ⟨List.length_pos_iff.mpr hx20, by show x2.length ≤ 4; omega, hx2b⟩
    have S : Sep (bi lots :: bag b :: pt Lo (.lst (rf lots)) :: []) H := by
      rw [hlots]
      have S := bi_nil (S.s4 (A := pt m1 (.lst (x1.map V.int))) (B := pt m2 (.lst (x2.map V.int))) (C := bag b) (D := pt Lo (.lst [.ref m1, .ref m2])) (Rs := []) (by walk_at "sel"))
      have S := bi_add (S.swap)
      exact bi_add (S.swap)
    clear hlots
    have S : Sep (bag b :: pt Lo (.lst (rf lots)) :: bi lots :: []) H := S.s3 (by walk_at "sel")
    have hl9 : ∀ zs : List IL, zs.length ≤ 2 → (rf zs).length < 100000 := fun zs h => by rw [List.length_map]; omega
    refine r_lc_rng (fun i acc Ps => ∃ zs : List Int, acc = zs.map V.int ∧ zs.length = i ∧ (∀ z ∈ zs, 45 ≤ z ∧ z ≤ 80) ∧ Ps = bag b :: pt Lo (.lst (rf lots)) :: bi lots :: []) S (by omega) (by omega) ⟨[], rfl, rfl, by simp, rfl⟩ ?_ ?_
    · rintro D j acc Ps H hj ⟨zs, rfl, ez, hz, rfl⟩ S
      walk_at "go"
      refine ⟨rfl, ?_⟩
      walk_at "go"
      refine ⟨b, 30, _, rfl, by decide, by decide, S.s1 (by walk_at "sel"), fun u H hu0 hu1 S => ?_⟩
      walk_at "go"
      refine cn_in (S.s4 (by walk_at "sel")) (by rw [List.length_map]; omega) ⟨zs ++ [45 + u], by simp, by simp [ez], fun z hz' => ?_, rfl⟩
      rcases List.mem_append.mp hz' with h | h
      · exact hz z h
      · rw [List.mem_singleton.mp h]
        omega
    rintro Rm acc Ps H ⟨rooms, rfl, ez, hz, rfl⟩ S
    walk_at "go"
    have hrl : rooms.length ≤ 4 := by omega
    have S : Sep (bag b :: pt Lo (.lst (rf lots)) :: bi lots :: pt Rm (.lst (rooms.map V.int)) :: []) H := S.s4 (by walk_at "sel")
    have S := bi_nil S
    refine r_lc_list (xs := rf lots) (fun i acc Ps => ∃ hs : List IL, acc = rf hs ∧ hs.map (·.2) = (lots.take i).map (·.2) ∧ Ps = bi hs :: bag b :: pt Lo (.lst (rf lots)) :: bi lots :: pt Rm (.lst (rooms.map V.int)) :: []) S ⟨[], rfl, rfl, rfl⟩ (fun D i acc Ps H hi ⟨_, _, _, e⟩ S => by subst e; walk_at "sq") (by walk_at "sq") ?_ ?_
    · rintro D j y acc Ps H hy ⟨hs, rfl, eh, rfl⟩ S
      obtain ⟨e, he, rfl⟩ := rf_get hy
      have hjl := (List.getElem?_eq_some_iff.mp he).1
      have hsl : hs.length = j := by simpa [Nat.min_eq_left (Nat.le_of_lt hjl)] using congrArg List.length eh
      have hsq : SqL K H e.1 (e.2.map V.int) := SqL.of (bi_mem (S.s1 (A := bi lots) (by walk_at "sel")) (List.mem_of_getElem? he))
      walk_at "go"
      refine ⟨rfl, ?_⟩
      walk_at "go"
      have S := bi_add (S.s2 (A := pt p (.lst (e.2.map V.int))) (B := bi hs) (by walk_at "sel"))
      refine cn_in (S.s6 (A := pt D (.lst (rf hs))) (B := bi (hs ++ [(p, e.2)])) (by walk_at "sel")) (hl9 _ (by omega)) ⟨hs ++ [(p, e.2)], by simp, ?_, rfl⟩
      rw [take_snoc _ he, List.map_append, eh]
      rfl
    rintro Hd acc Ps H ⟨hs, rfl, eh, rfl⟩ S
    rw [List.length_map, hln, List.take_of_length_le (by omega)] at eh
    have hhl : hs.length = 2 := by simpa [hln] using congrArg List.length eh
    walk_at "go"
    have hht : ∀ e ∈ hs, 1 ≤ e.2.length ∧ e.2.length ≤ 4 ∧ ∀ z ∈ e.2, z.natAbs < 10 ^ 60 := fun e he => by
      have h := List.mem_map_of_mem (f := (·.2)) he
      rw [eh] at h
      obtain ⟨e', he', q⟩ := List.mem_map.mp h
      rw [← q]
      exact hlt e' he'
    refine ⟨kind, Rm, rooms, _, rfl, hk0, by omega, by omega, S.s1 (A := pt Rm (.lst (rooms.map V.int))) (by walk_at "sel"), fun ra H S => ?_⟩
    have hrt : RT kind rooms rooms [] [] (rkOf kind ra rooms) := by
      refine ⟨hz, ?_⟩
      unfold rkOf
      obtain rfl | rfl | rfl | rfl : kind = 0 ∨ kind = 1 ∨ kind = 2 ∨ kind = 3 := by omega
      · exact .inr (.inr (.inr ⟨rfl, rfl⟩))
      · exact .inr (.inr (.inl ⟨rfl, rfl⟩))
      · exact .inr (.inl ⟨rfl, rfl⟩)
      · exact .inl ⟨rfl, ⟨ra, rfl⟩, rfl, rfl⟩
    generalize hr0 : rkOf kind ra rooms = r0 at S hrt ⊢
    generalize hrv : r0.v f_doubled f_exact = rv
    walk_at "go"
    refine r_gtup (by walk_at "st") rfl ?_
    walk_at "go"
    have S : Sep (bi hs :: pt Hd (.lst (rf hs)) :: ruP c_Told r0 :: bag b :: pt Lo (.lst (rf lots)) :: bi lots :: pt Rm (.lst (rooms.map V.int)) :: []) H := S.sel (As := [bi hs, pt Hd (.lst (rf hs)), ruP c_Told r0, bag b, pt Lo (.lst (rf lots)), bi lots, pt Rm (.lst (rooms.map V.int))]) (Rs := []) (by walk_at "sel")
    have S : Sep (ars c_Array [] (fun _ => ⟨0, [], 0⟩) :: wis c_Window rv [] :: bi hs :: pt Hd (.lst (rf hs)) :: ruP c_Told r0 :: bag b :: pt Lo (.lst (rf lots)) :: bi lots :: pt Rm (.lst (rooms.map V.int)) :: []) H := Sep.b_nil (Sep.b_nil S)
    refine r_lc_list (xs := rf hs) (fun i acc Ps => ∃ (as : List Addr) (G : GS) (ws : List Wi), acc = wr ws ∧ KA as G ws 0 ∧ as.map (fun A => ((G A).cs, (G A).s)) = (hs.take i).map (fun e : IL => (e.2, (e.2.length : Int))) ∧ (∀ (k : Nat) (x : Wi), ws[k]? = some x → as[k]? = some x.A ∧ ∃ e : IL, hs[k]? = some e ∧ x.n = e.2.length) ∧ ws.length = i ∧ Ps = ars c_Array as G :: wis c_Window rv ws :: bi hs :: pt Hd (.lst (rf hs)) :: ruP c_Told r0 :: bag b :: pt Lo (.lst (rf lots)) :: bi lots :: pt Rm (.lst (rooms.map V.int)) :: []) S ⟨[], _, [], rfl, ka_nil, rfl, by simp, rfl, rfl⟩ (fun D i acc Ps H hi ⟨_, _, _, _, _, _, _, _, e⟩ S => by subst e; walk_at "sq") (by walk_at "sq") ?_ ?_
    · rintro D j y acc Ps H hy ⟨as, G, ws, rfl, hka, hao, hws, hwl, rfl⟩ S
      obtain ⟨e, he, rfl⟩ := rf_get hy
      have hjl := (List.getElem?_eq_some_iff.mp he).1
      have hal : as.length = j := by simpa [Nat.min_eq_left (Nat.le_of_lt hjl)] using congrArg List.length hao
      obtain ⟨he1, he2, he3⟩ := hht e (List.mem_of_getElem? he)
      obtain ⟨h1, h2, hsp, hjj⟩ := split_at he
      have S : Sep (pt e.1 (.lst (e.2.map V.int)) :: bi (h1 ++ h2) :: pt D (.lst (wr ws)) :: ars c_Array as G :: wis c_Window rv ws :: pt Hd (.lst (rf hs)) :: ruP c_Told r0 :: bag b :: pt Lo (.lst (rf lots)) :: bi lots :: pt Rm (.lst (rooms.map V.int)) :: []) H := bi_open (hsp ▸ S.sel (As := [bi hs, pt D (.lst (wr ws)), ars c_Array as G, wis c_Window rv ws, pt Hd (.lst (rf hs)), ruP c_Told r0, bag b, pt Lo (.lst (rf lots)), bi lots, pt Rm (.lst (rooms.map V.int))]) (Rs := []) (by walk_at "sel"))
      walk_at "go"
      refine ⟨rfl, ?_⟩
      walk_at "go"
      refine ⟨x, dx, e.1, rv, e.2, _, rfl, List.length_pos_iff.mp he1, by omega, S.s2 (by walk_at "sel"), fun A L H S => ⟨rfl, ?_⟩⟩
      have S := bi_shut (S.s2 (A := pt e.1 (.lst (e.2.map V.int))) (B := bi (h1 ++ h2)) (by walk_at "sel"))
      rw [← hsp] at S
      have S := wis_add ⟨x, A, e.2.length⟩ (S.s2 (A := wnP c_Window x A e.2.length rv) (B := wis c_Window rv ws) (by walk_at "sel"))
      obtain ⟨nA, S⟩ := ars_add (x := ⟨L, e.2, (e.2.length : Int)⟩) (S.s2 (A := arP c_Array A L e.2 (e.2.length : Int)) (B := ars c_Array as G) (by walk_at "sel"))
      have S : Sep (pt D (.lst (wr ws)) :: ars c_Array (as ++ [A]) (up G A ⟨L, e.2, (e.2.length : Int)⟩) :: wis c_Window rv (ws ++ [⟨x, A, e.2.length⟩]) :: bi hs :: pt Hd (.lst (rf hs)) :: ruP c_Told r0 :: bag b :: pt Lo (.lst (rf lots)) :: bi lots :: pt Rm (.lst (rooms.map V.int)) :: []) H := S.sel (As := [pt D (.lst (wr ws)), ars c_Array (as ++ [A]) (up G A ⟨L, e.2, (e.2.length : Int)⟩), wis c_Window rv (ws ++ [(⟨x, A, e.2.length⟩ : Wi)]), bi hs, pt Hd (.lst (rf hs)), ruP c_Told r0, bag b, pt Lo (.lst (rf lots)), bi lots, pt Rm (.lst (rooms.map V.int))]) (Rs := []) (by walk_at "sel")
      refine cn_in S (by rw [List.length_map]; omega) ⟨as ++ [A], _, ws ++ [⟨x, A, e.2.length⟩], by simp [wr], ka_new0 hka nA he1 he3 (by omega) (by omega) (Int.le_refl _) (by omega), ?_, fun k y hy => ?_, by simp [hwl], rfl⟩
      · rw [List.map_append, take_snoc _ he, ← hao]
        congr 1
        · refine List.map_congr_left fun B hB => ?_
          rw [up_ne (by intro q; subst q; exact nA hB)]
        · simp [up_same]
      · rcases get_snoc hy with hy1 | ⟨hk, rfl⟩
        · obtain ⟨q1, q2⟩ := hws k y hy1
          exact ⟨by rw [List.getElem?_append_left (List.getElem?_eq_some_iff.mp q1).1]; exact q1, q2⟩
        · have : k = as.length := by omega
          subst this
          exact ⟨by simp, e, by rw [hal]; exact he, rfl⟩
    rintro Lw acc Ps H ⟨as, G, ws, rfl, hka, hao, hws, hwl, rfl⟩ S
    rw [List.length_map, hhl] at hwl
    rw [List.length_map, hhl, List.take_of_length_le (by omega)] at hao
    walk_at "go"
    have S := Sep.b_nil S
    refine r_lc_list (xs := rf lots) (fun i acc Ps => ∃ ol : List OW, acc = owr ol ∧ ol.map (fun x => (x.cs, x.s)) = (lots.take i).map (fun e : IL => (e.2, (e.2.length : Int))) ∧ Ps = ownP ol :: pt Lw (.lst (wr ws)) :: ars c_Array as G :: wis c_Window rv ws :: bi hs :: pt Hd (.lst (rf hs)) :: ruP c_Told r0 :: bag b :: pt Lo (.lst (rf lots)) :: bi lots :: pt Rm (.lst (rooms.map V.int)) :: []) S ⟨[], rfl, rfl, rfl⟩ (fun D i acc Ps H hi ⟨_, _, _, e⟩ S => by subst e; walk_at "sq") (by walk_at "sq") ?_ ?_
    · rintro D j y acc Ps H hy ⟨ol, rfl, hol, rfl⟩ S
      obtain ⟨e, he, rfl⟩ := rf_get hy
      have hjl := (List.getElem?_eq_some_iff.mp he).1
      have hsl : ol.length = j := by simpa [Nat.min_eq_left (Nat.le_of_lt hjl)] using congrArg List.length hol
      have hsq : SqL K H e.1 (e.2.map V.int) := SqL.of (bi_mem (S.s1 (A := bi lots) (by walk_at "sel")) (List.mem_of_getElem? he))
      walk_at "go"
      refine ⟨rfl, ?_⟩
      walk_at "go"
      have hsq : SqL K H e.1 (e.2.map V.int) := SqL.of (bi_mem (S.s1 (A := bi lots) (by walk_at "sel")) (List.mem_of_getElem? he))
      obtain ⟨pc, hpc⟩ : ∃ q, q = p := ⟨p, rfl⟩
      subst hpc
      walk_at "go"
      rw [List.length_map] at S
      have S := own_add (x := ⟨p, pc, e.2, (e.2.length : Int)⟩) (S.s3 (A := pt p (.lst [.ref pc, .int (e.2.length : Int)])) (B := pt pc (.lst (e.2.map V.int))) (C := ownP ol) (by walk_at "sel"))
      have S : Sep (pt D (.lst (owr ol)) :: ownP (ol ++ [⟨p, pc, e.2, (e.2.length : Int)⟩]) :: pt Lw (.lst (wr ws)) :: ars c_Array as G :: wis c_Window rv ws :: bi hs :: pt Hd (.lst (rf hs)) :: ruP c_Told r0 :: bag b :: pt Lo (.lst (rf lots)) :: bi lots :: pt Rm (.lst (rooms.map V.int)) :: []) H := S.sel (As := [pt D (.lst (owr ol)), ownP (ol ++ [(⟨p, pc, e.2, (e.2.length : Int)⟩ : OW)]), pt Lw (.lst (wr ws)), ars c_Array as G, wis c_Window rv ws, bi hs, pt Hd (.lst (rf hs)), ruP c_Told r0, bag b, pt Lo (.lst (rf lots)), bi lots, pt Rm (.lst (rooms.map V.int))]) (Rs := []) (by walk_at "sel")
      refine cn_in S (by rw [List.length_map]; omega) ⟨ol ++ [⟨p, pc, e.2, (e.2.length : Int)⟩], by simp [owr], ?_, rfl⟩
      rw [List.map_append, take_snoc _ he, ← hol]
      rfl
    rintro Ow acc Ps H ⟨ol, rfl, hol, rfl⟩ S
    rw [List.length_map, hln, List.take_of_length_le (by omega)] at hol
    have holn : ol.length = 2 := by simpa [hln] using congrArg List.length hol
    walk_at "go"
    have S : Sep (pt Ow (.lst (owr ol)) :: ownP ol :: pt Lw (.lst (wr ws)) :: ars c_Array as G :: wis c_Window rv ws :: bi hs :: pt Hd (.lst (rf hs)) :: ruP c_Told r0 :: bag b :: pt Lo (.lst (rf lots)) :: bi lots :: pt Rm (.lst (rooms.map V.int)) :: []) H := S
    have S : Sep (tups [] :: pt Ow (.lst (owr ol)) :: ownP ol :: pt Lw (.lst (wr ws)) :: ars c_Array as G :: wis c_Window rv ws :: bi hs :: pt Hd (.lst (rf hs)) :: ruP c_Told r0 :: bag b :: pt Lo (.lst (rf lots)) :: bi lots :: pt Rm (.lst (rooms.map V.int)) :: []) H := tups_nil S
    refine r_lc_rng (fun i acc Ps => ∃ sp : List TP, acc = tr sp ∧ sp.length = i ∧ (∀ (k : Nat) (d : TP), sp[k]? = some d → ∃ e : IL, lots[k]? = some e ∧ d.2 = ((k : Int), (e.2.length : Int))) ∧ Ps = tups sp :: pt Ow (.lst (owr ol)) :: ownP ol :: pt Lw (.lst (wr ws)) :: ars c_Array as G :: wis c_Window rv ws :: bi hs :: pt Hd (.lst (rf hs)) :: ruP c_Told r0 :: bag b :: pt Lo (.lst (rf lots)) :: bi lots :: pt Rm (.lst (rooms.map V.int)) :: []) S (by decide) (by decide) ⟨[], rfl, rfl, by simp, rfl⟩ ?_ ?_
    · rintro D j acc Ps H hj ⟨sp, rfl, hsl, hsp, rfl⟩ S
      have hj2 : j < 2 := hj
      obtain ⟨e, he⟩ : ∃ e, lots[j]? = some e := ⟨_, List.getElem?_eq_getElem (by omega)⟩
      have hxr : (rf lots)[j]? = some (V.ref e.1) := by rw [List.getElem?_map, he]; rfl
      have hsq : SqL K H e.1 (e.2.map V.int) := SqL.of (bi_mem (S.s1 (A := bi lots) (by walk_at "sel")) (List.mem_of_getElem? he))
      walk_at "go"
      refine ⟨rfl, ?_⟩
      walk_at "go"
      refine q_ixL (by walk_at "sq") (atI_nat hxr) ?_
      walk_at "go"
      rw [List.length_map] at S
      have S := tups_add (S.s2 (A := pt p (.tup [.int (j : Int), .int (e.2.length : Int)])) (B := tups sp) (by walk_at "sel"))
      have S : Sep (pt D (.lst (tr sp)) :: tups (sp ++ [(p, (j : Int), (e.2.length : Int))]) :: pt Ow (.lst (owr ol)) :: ownP ol :: pt Lw (.lst (wr ws)) :: ars c_Array as G :: wis c_Window rv ws :: bi hs :: pt Hd (.lst (rf hs)) :: ruP c_Told r0 :: bag b :: pt Lo (.lst (rf lots)) :: bi lots :: pt Rm (.lst (rooms.map V.int)) :: []) H := S.sel (As := [pt D (.lst (tr sp)), tups (sp ++ [(p, (j : Int), (e.2.length : Int))]), pt Ow (.lst (owr ol)), ownP ol, pt Lw (.lst (wr ws)), ars c_Array as G, wis c_Window rv ws, bi hs, pt Hd (.lst (rf hs)), ruP c_Told r0, bag b, pt Lo (.lst (rf lots)), bi lots, pt Rm (.lst (rooms.map V.int))]) (Rs := []) (by walk_at "sel")
      refine cn_in S (by rw [List.length_map]; omega) ⟨sp ++ [(p, (j : Int), (e.2.length : Int))], by simp [tr], by simp [hsl], fun k d hd => ?_, rfl⟩
      rcases get_snoc hd with hd | ⟨hk, rfl⟩
      · exact hsp k d hd
      · rw [hsl] at hk
        subst hk
        exact ⟨e, he, rfl⟩
    rintro Sp acc Ps H ⟨sp, rfl, hspl, hsp, rfl⟩ S
    have hspl : sp.length = 2 := hspl
    walk_at "go"
    intro Kd nKd
    have S := S.new (.dK []) nKd
    generalize upd H Kd (.dK []) = H at S ⊢
    refine q_pair ?_
    walk_at "go"
    obtain ⟨Lf, hLf⟩ : ∃ q, q = p := ⟨p, rfl⟩
    subst hLf
    refine q_pair ?_
    walk_at "go"
    obtain ⟨Ak, hAk⟩ : ∃ q, q = p := ⟨p, rfl⟩
    subst hAk
    refine q_pairN ⟨by walk_at "at", [(.inr "left", .ref Lf), (.inr "asked", .ref Ak)], rfl, by simp, ?_⟩
    rw [show mergeK [] [((.inr "left" : Key), V.ref Lf), (.inr "asked", .ref Ak)] = [(.inr "left", .ref Lf), (.inr "asked", .ref Ak)] from rfl]
    have S := S.set (a := Kd) (o' := .dK [(.inr "left", .ref Lf), (.inr "asked", .ref Ak)]) (by walk_at "rep")
    generalize upd H Kd _ = H at S ⊢
    have S := tups_nil S
    have S := kit_shut (ka := []) (ls := rooms) (S.s4 (A := pt Kd (.dK [(.inr "left", .ref Lf), (.inr "asked", .ref Ak)])) (B := pt Ak (.lst [])) (C := tups []) (D := pt Lf (.lst (rooms.map V.int))) (by walk_at "sel"))
    walk_at "go"
    obtain ⟨e0, he0⟩ : ∃ e, hs[0]? = some e := ⟨_, List.getElem?_eq_getElem (by omega)⟩
    have hx0 : (rf hs)[0]? = some (V.ref e0.1) := by rw [List.getElem?_map, he0]; rfl
    obtain ⟨g1, g2, hg, _⟩ := split_at he0
    have S : Sep (pt e0.1 (.lst (e0.2.map V.int)) :: bi (g1 ++ g2) :: pt Hd (.lst (rf hs)) :: kitP Kd [] rooms :: pt Sp (.lst (tr sp)) :: tups sp :: pt Ow (.lst (owr ol)) :: ownP ol :: pt Lw (.lst (wr ws)) :: ars c_Array as G :: wis c_Window rv ws :: ruP c_Told r0 :: bag b :: []) H := bi_open (hg ▸ S.sel (As := [bi hs, pt Hd (.lst (rf hs)), kitP Kd [] rooms, pt Sp (.lst (tr sp)), tups sp, pt Ow (.lst (owr ol)), ownP ol, pt Lw (.lst (wr ws)), ars c_Array as G, wis c_Window rv ws, ruP c_Told r0, bag b]) (Rs := []) (by walk_at "sel"))
    refine q_ixL (by walk_at "sq") (show atI (rf hs) ((0 : Nat) : Int) = some (V.ref e0.1) from atI_nat hx0) ?_
    walk_at "go"
    have kd : KD kind rooms as G ws ws r0 ol sp sp [] [] rooms 0 := by
      refine ⟨hka, fun _ h => h, ⟨?_, by omega, fun k x d hx hd => ?_⟩, fun _ h => h, by omega, by omega, hrt, Nat.le_refl _, by omega, by simp⟩
      · rw [hol, hao, pairs_of, pairs_of, eh]
      · obtain ⟨q1, e, q2, q3⟩ := hws k x hx
        obtain ⟨e', q4, q5⟩ := hsp k d hd
        have h1 := congrArg (fun z => z[k]?) eh
        simp only [List.getElem?_map, q2, q4, Option.map_some] at h1
        have h2 : e.2 = e'.2 := Option.some.inj h1
        exact ⟨k, by rw [q5, q3, h2], q1⟩
    have S : Sep (bag b :: pt Ow (.lst (owr ol)) :: ownP ol :: kitP Kd [] rooms :: pt Sp (.lst (tr sp)) :: tups sp :: pt Lw (.lst (wr ws)) :: ars c_Array as G :: wis c_Window rv ws :: ruP c_Told r0 :: tups [] :: []) H := (tups_nil S).s11 (by walk_at "sel")
    refine r_for_rng (fun j σ Ps => ∃ (u12 u13 u14 u15 : Option V) (as : List Addr) (G : GS) (ws l : List Wi) (r : RK) (ol : List OW) (sp pl ta ka : List TP) (ls : List Int), σ = [some (.ref a), some (.ref b), some (.int i), some (.int kind), some (.ref Lo), some (.ref Rm), some (.ref Hd), some rv, some (.ref Lw), some (.ref Ow), some (.ref Sp), some (.ref Kd), u12, u13, u14, u15] ∧ KD kind rooms as G ws l r ol sp pl ta ka ls j ∧ r.v f_doubled f_exact = rv ∧
      Ps = bag b :: pt Ow (.lst (owr ol)) :: ownP ol :: kitP Kd ka ls :: pt Sp (.lst (tr sp)) :: tups pl :: pt Lw (.lst (wr l)) :: ars c_Array as G :: wis c_Window rv ws :: ruP c_Told r :: tups ta :: []) S (by decide) (by decide) ⟨_, _, _, _, as, G, ws, ws, r0, ol, sp, sp, [], [], rooms, rfl, kd, hrv, rfl⟩ ?_ ?_
    · clear S kd hrt hol hao hws hwl hka hspl hsp hrv holn
      rintro j σ Ps H hj ⟨u12, u13, u14, u15, as, G, ws, l, r, ol, sp, pl, ta, ka, ls, rfl, kd, hrv, rfl⟩ S
      have hj9 : j < 9 := hj
      walk_at "go"
      refine ⟨b, Ow, Kd, Sp, Lw, kind, rooms, as, G, ws, l, r, ol, sp, pl, ta, ka, ls, j, rv, [], rfl, kd, hj9, hrv, S, ?_⟩
      clear S kd hrv
      intro as G ws l r ol sp pl ta ka ls H kd hrv S
      have hll := kd.l0
      have hlu := kd.l1
      walk_at "go"
      refine ⟨Ow, Sp, Lw, as, G, ws, l, ol, sp, pl, rv, _, rfl, kd.kA.wf, kd.sub, kd.ro, kd.hp, by omega, kd.kA.vb, fun A hA => Nat.le_trans (kd.kA.n3 A hA) (by omega), fun A hA => Int.le_trans (kd.kA.rb A hA) (by decide), S.s7 (by walk_at "sel"), fun H S => ?_⟩
      walk_at "go"
      have S := kit_open (S.s1 (A := kitP Kd ka ls) (by walk_at "sel"))
      obtain ⟨Lf, Ak, S⟩ := S
      refine q_asked rfl (by walk_at "at") ?_
      walk_at "go"
      refine q_left rfl (by walk_at "at") ?_
      walk_at "go"
      obtain ⟨Du, hDu⟩ : ∃ q, q = p := ⟨p, rfl⟩
      subst hDu
      refine q_ite (fun h3 => ?_) (fun h3 => ?_)
      · obtain ⟨ra', hr', hls, hta⟩ : ∃ a, r = RK.to a rooms (ta.map (fun e : TP => e.1)) ∧ ls = rooms.drop ta.length ∧ ta.map (·.2) = ka.map (·.2) := by
          rcases kd.rt.2 with ⟨_, ⟨ra', hr'⟩, hls, hta⟩ | ⟨hk, _⟩ | ⟨hk, _⟩ | ⟨hk, _⟩
          · exact ⟨ra', hr', hls, hta⟩
          · exact absurd hk (by omega)
          · exact absurd hk (by omega)
          · exact absurd hk (by omega)
        subst hr'
        subst hls
        obtain rfl : rv = V.ref ra' := hrv.symm
        have e5 : (((rooms.drop ta.length).map V.int).length : Int) = ((rooms.length - (ta.map (fun e : TP => e.1)).length : Nat) : Int) := by rw [List.length_map, List.length_drop, List.length_map]
        rw [e5] at S
        obtain ⟨dt, tL, tM, hTat⟩ := to_at (S.s1 (A := ruP c_Told (RK.to ra' rooms (ta.map (fun e : TP => e.1)))) (by walk_at "sel"))
        walk_at "go"
        refine ⟨ra', dt, _, rfl, hTat, rfl, ?_⟩
        walk_at "go"
        refine ⟨ra', rooms, ta.map (fun e : TP => e.1), _, rfl, S.s1 (A := ruP c_Told (RK.to ra' rooms (ta.map (fun e : TP => e.1)))) (by walk_at "sel"), fun D H S => ?_⟩
        rw [show toP c_Told ra' rooms (ta.map (fun e : TP => e.1)) = ruP c_Told (RK.to ra' rooms (ta.map (fun e : TP => e.1))) from rfl] at S
        obtain ⟨dt, tL, tM, hTat⟩ := to_at (S.s1 (A := ruP c_Told (RK.to ra' rooms (ta.map (fun e : TP => e.1)))) (by walk_at "sel"))
        walk_at "go"
        refine ⟨ra', dt, _, rfl, hTat, ra', rooms, ta.map (fun e : TP => e.1), _, rfl, S.s1 (A := ruP c_Told (RK.to ra' rooms (ta.map (fun e : TP => e.1)))) (by walk_at "sel"), ?_⟩
        walk_at "go"
        have sh : Sh 60 200000 (.list [.list (dTP ka), .int ((rooms.length - (ta.map (fun e : TP => e.1)).length : Nat) : Int)]) := (sh_cons (k := 2) (dTP_sh kd.kb (by have := kd.kl; omega)) (sh_cons (sh_int (Nat.lt_of_le_of_lt (by omega : _ ≤ 2000) (by decide))) sh_nil)).up (by decide) (by decide)
        have da : DpAll K H ((ta.map (fun e : TP => e.1)).map V.ref) (dTP ka) := by
          have h := dTP_dp (K := K) (S.s1 (A := tups ta) (by walk_at "sel"))
          rw [dTP_eq hta] at h
          rw [List.map_map]
          exact h
        have db := dTP_dp (K := K) (S.s1 (A := tups ka) (by walk_at "sel"))
        refine ⟨_, Du, _, rfl, .lst (by walk_at "sq") (.cons (.lst (by walk_at "sq") da) (.cons (.int _) .nil)), .lst (by walk_at "sq") (.cons (.lst (by walk_at "sq") db) (.cons (.int _) .nil)), sh.ok, sh.sh, sh.nd, sh.fits (Nat.le_refl _), ?_⟩
        have S := kit_shut (S.s4 (A := pt Kd (.dK [(.inr "left", .ref Lf), (.inr "asked", .ref Ak)])) (B := pt Ak (.lst (ka.map fun e => .ref e.1))) (C := tups ka) (D := pt Lf (.lst ((rooms.drop ta.length).map V.int))) (by walk_at "sel"))
        obtain ⟨wl, hwl2⟩ : ∃ wl, l.getLast? = some wl := by
          cases e : l.getLast? with
          | none => rw [List.getLast?_eq_none_iff.mp e] at hll; exact absurd hll (by decide)
          | some z => exact ⟨z, rfl⟩
        obtain ⟨l', hl'⟩ := List.getLast?_eq_some_iff.mp hwl2
        have hxw : wl ∈ ws := kd.sub _ (by rw [hl']; simp)
        have hat : atI (wr l) (-1) = some (V.ref wl.W) := by
          rw [hl', show wr (l' ++ [wl]) = wr l' ++ [V.ref wl.W] by simp [wr]]
          exact atI_last
        walk_at "go"
        refine wl_meth kd.kA.wf hxw S (by walk_at "sel") (fun _ _ _ => rfl) ?_
        walk_at "go"
        refine wl_seen kd.kA.wf hxw S (by walk_at "sel") fun m H S => ?_
        walk_at "go"
        exact ⟨_, ⟨_, _, _, _, _, _, _, _, _, _, _, _, _, _, _, rfl, kd, hrv, rfl⟩, S.s11 (by walk_at "sel")⟩
      · have S := kit_shut (S.s4 (A := pt Kd (.dK [(.inr "left", .ref Lf), (.inr "asked", .ref Ak)])) (B := pt Ak (.lst (ka.map fun e => .ref e.1))) (C := tups ka) (D := pt Lf (.lst (ls.map V.int))) (by walk_at "sel"))
        obtain ⟨wl, hwl2⟩ : ∃ wl, l.getLast? = some wl := by
          cases e : l.getLast? with
          | none => rw [List.getLast?_eq_none_iff.mp e] at hll; exact absurd hll (by decide)
          | some z => exact ⟨z, rfl⟩
        obtain ⟨l', hl'⟩ := List.getLast?_eq_some_iff.mp hwl2
        have hxw : wl ∈ ws := kd.sub _ (by rw [hl']; simp)
        have hat : atI (wr l) (-1) = some (V.ref wl.W) := by
          rw [hl', show wr (l' ++ [wl]) = wr l' ++ [V.ref wl.W] by simp [wr]]
          exact atI_last
        walk_at "go"
        refine wl_meth kd.kA.wf hxw S (by walk_at "sel") (fun _ _ _ => rfl) ?_
        walk_at "go"
        refine wl_seen kd.kA.wf hxw S (by walk_at "sel") fun m H S => ?_
        walk_at "go"
        exact ⟨_, ⟨_, _, _, _, _, _, _, _, _, _, _, _, _, _, _, rfl, kd, hrv, rfl⟩, S.s11 (by walk_at "sel")⟩
    · rintro σ Ps H ⟨u12, u13, u14, u15, as, G, ws, l, r, ol, sp, pl, ta, ka, ls, rfl, kd, hrv, rfl⟩ S
      walk_at "go"
      exact ⟨_, ⟨_, _, _, _, _, _, _, _, _, _, _, _, _, _, rfl, rfl⟩, S.s1 (A := bag b) (by walk_at "sel")⟩
  · rintro σ Ps H ⟨u2, u3, u4, u5, u6, u7, u8, u9, u10, u11, u12, u13, u14, u15, rfl, rfl⟩ S
    walk_at "go"
    exact q _
end

end Pf

set_option Elab.async false
set_option linter.all false
set_option maxRecDepth 100000
set_option maxHeartbeats 16000000
namespace Pf
open PySem L2 Kt
theorem vals_app {vs ws : List V} {us zs : List Value} (r1 : Vals vs us) (r2 : Vals ws zs) : Vals (vs ++ ws) (us ++ zs) := by
  induction r1 with
  | nil => exact r2
  | cons h _ ih => exact .cons h ih
theorem all_mk {l : PySem.W.OpenLaw} {w : World} {K : PySem.W.Frag} {h : Heap} {mg : Str → Option Value} {fa : Addr} (X : K.In h) (G : h.Ns mainGlobals mg) (hfa : mg "law" = some (.ref fa))
    {c_Array f_Array_init c_Window f_Window_init dk2 f_Window_seen f_Window_marks f_Window_put f_Window_on f_Window_size_for f_Window_shares f_Window_cut f_Window_copied f_Window_len f_Window_getitem f_Window_setitem f_Window_eq f_Window_iadd c_Told f_Told_init f_Told_call f_Told_asked f_Window_spare q_Window_spare f_Window_room q_Window_room f_Told_left q_Told_left f_is_integer f_is_number f_are_marks f_doubled f_exact f_l_bag f_l_take f_l_alike f_l_draw_marks f_l_new_room f_l_own_put f_l_rule_of f_l_sees f_l_one_right f_l_all_right f_l_done f_law : Addr} {od1 an1 od2 an2 od3 an3 od4 an4 od5 an5 od6 an6 od7 an7 od8 an8 od9 an9 od10 an10 od11 an11 od12 an12 od13 an13 od14 an14 od15 an15 od16 an16 od17 an17 od18 an18 od19 an19 od20 an20 od21 an21 od22 an22 od23 an23 od24 an24 od25 an25 od26 an26 od27 an27 od28 an28 od29 an29 od30 an30 od31 an31 od32 an32 od33 an33 od34 an34 od35 an35 od36 an36 od37 an37 od38 an38 : Option Addr} {sl1 sl2 sl3 sl4 sl5 sl6 sl7 sl8 sl9 sl10 sl11 sl12 sl13 sl14 sl15 sl16 sl17 sl18 sl19 sl20 sl21 sl22 sl23 sl24 sl25 sl26 sl27 sl28 sl29 sl30 sl31 sl32 sl33 sl34 sl35 sl36 sl37 sl38 : Array (Option Value)} {oc1 kV1 dc1 pm1 cd1 ct1 oc2 dc2 pm2 cd2 ct2 oc3 kV3 dc3 pm3 cd3 ct3 oc4 kV4 dc4 pm4 cd4 ct4 oc5 kV5 dc5 pm5 cd5 ct5 oc6 kV6 dc6 pm6 cd6 ct6 oc7 kV7 dc7 pm7 cd7 ct7 oc8 kV8 dc8 pm8 cd8 ct8 oc9 kV9 dc9 pm9 cd9 ct9 oc10 kV10 dc10 pm10 cd10 ct10 oc11 kV11 dc11 pm11 cd11 ct11 oc12 kV12 dc12 pm12 cd12 ct12 oc13 kV13 dc13 pm13 cd13 ct13 oc14 kV14 dc14 pm14 cd14 ct14 oc15 kV15 dc15 pm15 cd15 ct15 oc16 kV16 dc16 pm16 cd16 ct16 oc17 kV17 dc17 pm17 cd17 ct17 oc18 kV18 dc18 pm18 cd18 ct18 oc19 kV19 dc19 pm19 cd19 ct19 oc20 kV20 dc20 pm20 cd20 ct20 oc21 kV21 dc21 pm21 cd21 ct21 oc22 kV22 dc22 pm22 cd22 ct22 oc23 kV23 dc23 pm23 cd23 ct23 oc24 kV24 dc24 pm24 cd24 ct24 oc25 kV25 dc25 pm25 cd25 ct25 oc26 kV26 dc26 pm26 cd26 ct26 oc27 kV27 dc27 pm27 cd27 ct27 oc28 kV28 dc28 pm28 cd28 ct28 oc29 kV29 dc29 pm29 cd29 ct29 oc30 kV30 dc30 pm30 cd30 ct30 oc31 kV31 dc31 pm31 cd31 ct31 oc32 kV32 dc32 pm32 cd32 ct32 oc33 kV33 dc33 pm33 cd33 ct33 oc34 kV34 dc34 pm34 cd34 ct34 oc35 kV35 dc35 pm35 cd35 ct35 oc36 kV36 dc36 pm36 cd36 ct36 oc37 kV37 dc37 pm37 cd37 ct37 oc38 kV38 dc38 pm38 cd38 ct38 : Value}
    {r_Window_spare r_Window_room r_Told_left : List Value}
    (aC_Array : PySem.W.nsIn K mainGlobals "Array" = some (some (.ref c_Array)))
    (pg_Array : PySem.W.plainGet K c_Array Str.empty = true)
    (hd_Array : PySem.W.hasDictIn K c_Array = true)
    (po_Array : PySem.W.plainOver K c_Array = true)
    (mk_Array : PySem.W.makesIn K c_Array = true)
    (kc_Array : PySem.W.keepIn K (.ref c_Array) = true)
    (sa_Array : PySem.W.findIn K (.ref c_Array) "__setattr__" = some (some (.builtin "object.__setattr__")))
    (na_Array_cells : PySem.W.findIn K (.ref c_Array) "cells" = some none)
    (na_Array_size : PySem.W.findIn K (.ref c_Array) "size" = some none)
    (a_Array_init : PySem.W.findIn K (.ref c_Array) "__init__" = some (some (.ref f_Array_init)))
    (i_Array_init : PySem.W.isFn K (.ref f_Array_init) = true)
    (l1 : K.lookup f_Array_init = some ⟨oc1, od1, .func (PySem.W.fnOf "__init__" "Array.__init__" (defArgs s_Array_init) (defBody s_Array_init) (defScope s_Array_init) .none kV1 dc1 pm1 an1 cd1 ct1), sl1⟩)
    (c1 : PySem.W.codeIn K cd1 "Array.__init__" = true)
    (k1 : PySem.W.keepIn K (.ref f_Array_init) = true)
    (aC_Window : PySem.W.nsIn K mainGlobals "Window" = some (some (.ref c_Window)))
    (pg_Window : PySem.W.plainGet K c_Window Str.empty = true)
    (hd_Window : PySem.W.hasDictIn K c_Window = true)
    (po_Window : PySem.W.plainOver K c_Window = true)
    (mk_Window : PySem.W.makesIn K c_Window = true)
    (kc_Window : PySem.W.keepIn K (.ref c_Window) = true)
    (noSeq_Window : PySem.W.noSeq K c_Window = true)
    (selfFirst_Window : PySem.W.selfFirst K c_Window = true)
    (sa_Window : PySem.W.findIn K (.ref c_Window) "__setattr__" = some (some (.builtin "object.__setattr__")))
    (na_Window__array : PySem.W.findIn K (.ref c_Window) "_array" = some none)
    (na_Window__length : PySem.W.findIn K (.ref c_Window) "_length" = some none)
    (na_Window__rule : PySem.W.findIn K (.ref c_Window) "_rule" = some none)
    (a_Window_init : PySem.W.findIn K (.ref c_Window) "__init__" = some (some (.ref f_Window_init)))
    (i_Window_init : PySem.W.isFn K (.ref f_Window_init) = true)
    (l2 : K.lookup f_Window_init = some ⟨oc2, od2, .func (PySem.W.fnOf "__init__" "Window.__init__" (defArgs s_Window_init) (defBody s_Window_init) (defScope s_Window_init) .none (.ref dk2) dc2 pm2 an2 cd2 ct2), sl2⟩)
    (c2 : PySem.W.codeIn K cd2 "Window.__init__" = true)
    (k2 : PySem.W.keepIn K (.ref f_Window_init) = true)
    (w2_0 : PySem.W.nsIn K dk2 "rule" = some (some .none))
    (a_Window_seen : PySem.W.findIn K (.ref c_Window) "_seen" = some (some (.ref f_Window_seen)))
    (i_Window_seen : PySem.W.isFn K (.ref f_Window_seen) = true)
    (l3 : K.lookup f_Window_seen = some ⟨oc3, od3, .func (PySem.W.fnOf "_seen" "Window._seen" (defArgs s_Window_seen) (defBody s_Window_seen) (defScope s_Window_seen) .none kV3 dc3 pm3 an3 cd3 ct3), sl3⟩)
    (c3 : PySem.W.codeIn K cd3 "Window._seen" = true)
    (k3 : PySem.W.keepIn K (.ref f_Window_seen) = true)
    (a_Window_marks : PySem.W.findIn K (.ref c_Window) "marks" = some (some (.ref f_Window_marks)))
    (i_Window_marks : PySem.W.isFn K (.ref f_Window_marks) = true)
    (l4 : K.lookup f_Window_marks = some ⟨oc4, od4, .func (PySem.W.fnOf "marks" "Window.marks" (defArgs s_Window_marks) (defBody s_Window_marks) (defScope s_Window_marks) .none kV4 dc4 pm4 an4 cd4 ct4), sl4⟩)
    (c4 : PySem.W.codeIn K cd4 "Window.marks" = true)
    (k4 : PySem.W.keepIn K (.ref f_Window_marks) = true)
    (a_Window_put : PySem.W.findIn K (.ref c_Window) "put" = some (some (.ref f_Window_put)))
    (i_Window_put : PySem.W.isFn K (.ref f_Window_put) = true)
    (l5 : K.lookup f_Window_put = some ⟨oc5, od5, .func (PySem.W.fnOf "put" "Window.put" (defArgs s_Window_put) (defBody s_Window_put) (defScope s_Window_put) .none kV5 dc5 pm5 an5 cd5 ct5), sl5⟩)
    (c5 : PySem.W.codeIn K cd5 "Window.put" = true)
    (k5 : PySem.W.keepIn K (.ref f_Window_put) = true)
    (a_Window_on : PySem.W.findIn K (.ref c_Window) "_on" = some (some (.ref f_Window_on)))
    (i_Window_on : PySem.W.isFn K (.ref f_Window_on) = true)
    (l6 : K.lookup f_Window_on = some ⟨oc6, od6, .func (PySem.W.fnOf "_on" "Window._on" (defArgs s_Window_on) (defBody s_Window_on) (defScope s_Window_on) .none kV6 dc6 pm6 an6 cd6 ct6), sl6⟩)
    (c6 : PySem.W.codeIn K cd6 "Window._on" = true)
    (k6 : PySem.W.keepIn K (.ref f_Window_on) = true)
    (a_Window_size_for : PySem.W.findIn K (.ref c_Window) "_size_for" = some (some (.ref f_Window_size_for)))
    (i_Window_size_for : PySem.W.isFn K (.ref f_Window_size_for) = true)
    (l7 : K.lookup f_Window_size_for = some ⟨oc7, od7, .func (PySem.W.fnOf "_size_for" "Window._size_for" (defArgs s_Window_size_for) (defBody s_Window_size_for) (defScope s_Window_size_for) .none kV7 dc7 pm7 an7 cd7 ct7), sl7⟩)
    (c7 : PySem.W.codeIn K cd7 "Window._size_for" = true)
    (k7 : PySem.W.keepIn K (.ref f_Window_size_for) = true)
    (a_Window_shares : PySem.W.findIn K (.ref c_Window) "shares" = some (some (.ref f_Window_shares)))
    (i_Window_shares : PySem.W.isFn K (.ref f_Window_shares) = true)
    (l8 : K.lookup f_Window_shares = some ⟨oc8, od8, .func (PySem.W.fnOf "shares" "Window.shares" (defArgs s_Window_shares) (defBody s_Window_shares) (defScope s_Window_shares) .none kV8 dc8 pm8 an8 cd8 ct8), sl8⟩)
    (c8 : PySem.W.codeIn K cd8 "Window.shares" = true)
    (k8 : PySem.W.keepIn K (.ref f_Window_shares) = true)
    (a_Window_cut : PySem.W.findIn K (.ref c_Window) "cut" = some (some (.ref f_Window_cut)))
    (i_Window_cut : PySem.W.isFn K (.ref f_Window_cut) = true)
    (l9 : K.lookup f_Window_cut = some ⟨oc9, od9, .func (PySem.W.fnOf "cut" "Window.cut" (defArgs s_Window_cut) (defBody s_Window_cut) (defScope s_Window_cut) .none kV9 dc9 pm9 an9 cd9 ct9), sl9⟩)
    (c9 : PySem.W.codeIn K cd9 "Window.cut" = true)
    (k9 : PySem.W.keepIn K (.ref f_Window_cut) = true)
    (a_Window_copied : PySem.W.findIn K (.ref c_Window) "copied" = some (some (.ref f_Window_copied)))
    (i_Window_copied : PySem.W.isFn K (.ref f_Window_copied) = true)
    (l10 : K.lookup f_Window_copied = some ⟨oc10, od10, .func (PySem.W.fnOf "copied" "Window.copied" (defArgs s_Window_copied) (defBody s_Window_copied) (defScope s_Window_copied) .none kV10 dc10 pm10 an10 cd10 ct10), sl10⟩)
    (c10 : PySem.W.codeIn K cd10 "Window.copied" = true)
    (k10 : PySem.W.keepIn K (.ref f_Window_copied) = true)
    (a_Window_len : PySem.W.findIn K (.ref c_Window) "__len__" = some (some (.ref f_Window_len)))
    (i_Window_len : PySem.W.isFn K (.ref f_Window_len) = true)
    (l11 : K.lookup f_Window_len = some ⟨oc11, od11, .func (PySem.W.fnOf "__len__" "Window.__len__" (defArgs s_Window_len) (defBody s_Window_len) (defScope s_Window_len) .none kV11 dc11 pm11 an11 cd11 ct11), sl11⟩)
    (c11 : PySem.W.codeIn K cd11 "Window.__len__" = true)
    (k11 : PySem.W.keepIn K (.ref f_Window_len) = true)
    (a_Window_getitem : PySem.W.findIn K (.ref c_Window) "__getitem__" = some (some (.ref f_Window_getitem)))
    (i_Window_getitem : PySem.W.isFn K (.ref f_Window_getitem) = true)
    (l12 : K.lookup f_Window_getitem = some ⟨oc12, od12, .func (PySem.W.fnOf "__getitem__" "Window.__getitem__" (defArgs s_Window_getitem) (defBody s_Window_getitem) (defScope s_Window_getitem) .none kV12 dc12 pm12 an12 cd12 ct12), sl12⟩)
    (c12 : PySem.W.codeIn K cd12 "Window.__getitem__" = true)
    (k12 : PySem.W.keepIn K (.ref f_Window_getitem) = true)
    (a_Window_setitem : PySem.W.findIn K (.ref c_Window) "__setitem__" = some (some (.ref f_Window_setitem)))
    (i_Window_setitem : PySem.W.isFn K (.ref f_Window_setitem) = true)
    (l13 : K.lookup f_Window_setitem = some ⟨oc13, od13, .func (PySem.W.fnOf "__setitem__" "Window.__setitem__" (defArgs s_Window_setitem) (defBody s_Window_setitem) (defScope s_Window_setitem) .none kV13 dc13 pm13 an13 cd13 ct13), sl13⟩)
    (c13 : PySem.W.codeIn K cd13 "Window.__setitem__" = true)
    (k13 : PySem.W.keepIn K (.ref f_Window_setitem) = true)
    (a_Window_eq : PySem.W.findIn K (.ref c_Window) "__eq__" = some (some (.ref f_Window_eq)))
    (i_Window_eq : PySem.W.isFn K (.ref f_Window_eq) = true)
    (l14 : K.lookup f_Window_eq = some ⟨oc14, od14, .func (PySem.W.fnOf "__eq__" "Window.__eq__" (defArgs s_Window_eq) (defBody s_Window_eq) (defScope s_Window_eq) .none kV14 dc14 pm14 an14 cd14 ct14), sl14⟩)
    (c14 : PySem.W.codeIn K cd14 "Window.__eq__" = true)
    (k14 : PySem.W.keepIn K (.ref f_Window_eq) = true)
    (a_Window_iadd : PySem.W.findIn K (.ref c_Window) "__iadd__" = some (some (.ref f_Window_iadd)))
    (i_Window_iadd : PySem.W.isFn K (.ref f_Window_iadd) = true)
    (l15 : K.lookup f_Window_iadd = some ⟨oc15, od15, .func (PySem.W.fnOf "__iadd__" "Window.__iadd__" (defArgs s_Window_iadd) (defBody s_Window_iadd) (defScope s_Window_iadd) .none kV15 dc15 pm15 an15 cd15 ct15), sl15⟩)
    (c15 : PySem.W.codeIn K cd15 "Window.__iadd__" = true)
    (k15 : PySem.W.keepIn K (.ref f_Window_iadd) = true)
    (aC_Told : PySem.W.nsIn K mainGlobals "Told" = some (some (.ref c_Told)))
    (pg_Told : PySem.W.plainGet K c_Told Str.empty = true)
    (hd_Told : PySem.W.hasDictIn K c_Told = true)
    (po_Told : PySem.W.plainOver K c_Told = true)
    (mk_Told : PySem.W.makesIn K c_Told = true)
    (kc_Told : PySem.W.keepIn K (.ref c_Told) = true)
    (sa_Told : PySem.W.findIn K (.ref c_Told) "__setattr__" = some (some (.builtin "object.__setattr__")))
    (na_Told__rooms : PySem.W.findIn K (.ref c_Told) "_rooms" = some none)
    (na_Told__asked : PySem.W.findIn K (.ref c_Told) "_asked" = some none)
    (a_Told_init : PySem.W.findIn K (.ref c_Told) "__init__" = some (some (.ref f_Told_init)))
    (i_Told_init : PySem.W.isFn K (.ref f_Told_init) = true)
    (l16 : K.lookup f_Told_init = some ⟨oc16, od16, .func (PySem.W.fnOf "__init__" "Told.__init__" (defArgs s_Told_init) (defBody s_Told_init) (defScope s_Told_init) .none kV16 dc16 pm16 an16 cd16 ct16), sl16⟩)
    (c16 : PySem.W.codeIn K cd16 "Told.__init__" = true)
    (k16 : PySem.W.keepIn K (.ref f_Told_init) = true)
    (a_Told_call : PySem.W.findIn K (.ref c_Told) "__call__" = some (some (.ref f_Told_call)))
    (i_Told_call : PySem.W.isFn K (.ref f_Told_call) = true)
    (l17 : K.lookup f_Told_call = some ⟨oc17, od17, .func (PySem.W.fnOf "__call__" "Told.__call__" (defArgs s_Told_call) (defBody s_Told_call) (defScope s_Told_call) .none kV17 dc17 pm17 an17 cd17 ct17), sl17⟩)
    (c17 : PySem.W.codeIn K cd17 "Told.__call__" = true)
    (k17 : PySem.W.keepIn K (.ref f_Told_call) = true)
    (a_Told_asked : PySem.W.findIn K (.ref c_Told) "asked" = some (some (.ref f_Told_asked)))
    (i_Told_asked : PySem.W.isFn K (.ref f_Told_asked) = true)
    (l18 : K.lookup f_Told_asked = some ⟨oc18, od18, .func (PySem.W.fnOf "asked" "Told.asked" (defArgs s_Told_asked) (defBody s_Told_asked) (defScope s_Told_asked) .none kV18 dc18 pm18 an18 cd18 ct18), sl18⟩)
    (c18 : PySem.W.codeIn K cd18 "Told.asked" = true)
    (k18 : PySem.W.keepIn K (.ref f_Told_asked) = true)
    (pa_Window_spare : PySem.W.findIn K (.ref c_Window) "spare" = some (some (.ref q_Window_spare)))
    (pg_Window_spare : PySem.W.specialIn K (.ref q_Window_spare) "__get__" = some (some (.builtin "property.__get__")))
    (pt_Window_spare : PySem.W.takesIn K (.ref q_Window_spare) = some true)
    (pr_Window_spare : PySem.W.recIn K q_Window_spare "property" = some (.ref f_Window_spare :: r_Window_spare))
    (l19 : K.lookup f_Window_spare = some ⟨oc19, od19, .func (PySem.W.fnOf "spare" "Window.spare" (defArgs s_Window_spare) (defBody s_Window_spare) (defScope s_Window_spare) .none kV19 dc19 pm19 an19 cd19 ct19), sl19⟩)
    (c19 : PySem.W.codeIn K cd19 "Window.spare" = true)
    (k19 : PySem.W.keepIn K (.ref f_Window_spare) = true)
    (pa_Window_room : PySem.W.findIn K (.ref c_Window) "room" = some (some (.ref q_Window_room)))
    (pg_Window_room : PySem.W.specialIn K (.ref q_Window_room) "__get__" = some (some (.builtin "property.__get__")))
    (pt_Window_room : PySem.W.takesIn K (.ref q_Window_room) = some true)
    (pr_Window_room : PySem.W.recIn K q_Window_room "property" = some (.ref f_Window_room :: r_Window_room))
    (l20 : K.lookup f_Window_room = some ⟨oc20, od20, .func (PySem.W.fnOf "room" "Window.room" (defArgs s_Window_room) (defBody s_Window_room) (defScope s_Window_room) .none kV20 dc20 pm20 an20 cd20 ct20), sl20⟩)
    (c20 : PySem.W.codeIn K cd20 "Window.room" = true)
    (k20 : PySem.W.keepIn K (.ref f_Window_room) = true)
    (pa_Told_left : PySem.W.findIn K (.ref c_Told) "left" = some (some (.ref q_Told_left)))
    (pg_Told_left : PySem.W.specialIn K (.ref q_Told_left) "__get__" = some (some (.builtin "property.__get__")))
    (pt_Told_left : PySem.W.takesIn K (.ref q_Told_left) = some true)
    (pr_Told_left : PySem.W.recIn K q_Told_left "property" = some (.ref f_Told_left :: r_Told_left))
    (l21 : K.lookup f_Told_left = some ⟨oc21, od21, .func (PySem.W.fnOf "left" "Told.left" (defArgs s_Told_left) (defBody s_Told_left) (defScope s_Told_left) .none kV21 dc21 pm21 an21 cd21 ct21), sl21⟩)
    (c21 : PySem.W.codeIn K cd21 "Told.left" = true)
    (k21 : PySem.W.keepIn K (.ref f_Told_left) = true)
    (fn_Told_call : PySem.W.fnIn K f_Told_call = true)
    (a_is_integer : PySem.W.nsIn K mainGlobals "is_integer" = some (some (.ref f_is_integer)))
    (l22 : K.lookup f_is_integer = some ⟨oc22, od22, .func (PySem.W.fnOf "is_integer" "is_integer" (defArgs s_is_integer) (defBody s_is_integer) (defScope s_is_integer) .none kV22 dc22 pm22 an22 cd22 ct22), sl22⟩)
    (c22 : PySem.W.codeIn K cd22 "is_integer" = true)
    (k22 : PySem.W.keepIn K (.ref f_is_integer) = true)
    (a_is_number : PySem.W.nsIn K mainGlobals "is_number" = some (some (.ref f_is_number)))
    (l23 : K.lookup f_is_number = some ⟨oc23, od23, .func (PySem.W.fnOf "is_number" "is_number" (defArgs s_is_number) (defBody s_is_number) (defScope s_is_number) .none kV23 dc23 pm23 an23 cd23 ct23), sl23⟩)
    (c23 : PySem.W.codeIn K cd23 "is_number" = true)
    (k23 : PySem.W.keepIn K (.ref f_is_number) = true)
    (a_are_marks : PySem.W.nsIn K mainGlobals "_are_marks" = some (some (.ref f_are_marks)))
    (l24 : K.lookup f_are_marks = some ⟨oc24, od24, .func (PySem.W.fnOf "_are_marks" "_are_marks" (defArgs s_are_marks) (defBody s_are_marks) (defScope s_are_marks) .none kV24 dc24 pm24 an24 cd24 ct24), sl24⟩)
    (c24 : PySem.W.codeIn K cd24 "_are_marks" = true)
    (k24 : PySem.W.keepIn K (.ref f_are_marks) = true)
    (a_doubled : PySem.W.nsIn K mainGlobals "doubled" = some (some (.ref f_doubled)))
    (l25 : K.lookup f_doubled = some ⟨oc25, od25, .func (PySem.W.fnOf "doubled" "doubled" (defArgs s_doubled) (defBody s_doubled) (defScope s_doubled) .none kV25 dc25 pm25 an25 cd25 ct25), sl25⟩)
    (c25 : PySem.W.codeIn K cd25 "doubled" = true)
    (k25 : PySem.W.keepIn K (.ref f_doubled) = true)
    (a_exact : PySem.W.nsIn K mainGlobals "exact" = some (some (.ref f_exact)))
    (l26 : K.lookup f_exact = some ⟨oc26, od26, .func (PySem.W.fnOf "exact" "exact" (defArgs s_exact) (defBody s_exact) (defScope s_exact) .none kV26 dc26 pm26 an26 cd26 ct26), sl26⟩)
    (c26 : PySem.W.codeIn K cd26 "exact" = true)
    (k26 : PySem.W.keepIn K (.ref f_exact) = true)
    (a_l_bag : PySem.W.nsIn K mainGlobals "_law_bag" = some (some (.ref f_l_bag)))
    (l27 : K.lookup f_l_bag = some ⟨oc27, od27, .func (PySem.W.fnOf "_law_bag" "_law_bag" (defArgs s_l_bag) (defBody s_l_bag) (defScope s_l_bag) .none kV27 dc27 pm27 an27 cd27 ct27), sl27⟩)
    (c27 : PySem.W.codeIn K cd27 "_law_bag" = true)
    (k27 : PySem.W.keepIn K (.ref f_l_bag) = true)
    (a_l_take : PySem.W.nsIn K mainGlobals "_law_take" = some (some (.ref f_l_take)))
    (l28 : K.lookup f_l_take = some ⟨oc28, od28, .func (PySem.W.fnOf "_law_take" "_law_take" (defArgs s_l_take) (defBody s_l_take) (defScope s_l_take) .none kV28 dc28 pm28 an28 cd28 ct28), sl28⟩)
    (c28 : PySem.W.codeIn K cd28 "_law_take" = true)
    (k28 : PySem.W.keepIn K (.ref f_l_take) = true)
    (a_l_alike : PySem.W.nsIn K mainGlobals "_law_alike" = some (some (.ref f_l_alike)))
    (l29 : K.lookup f_l_alike = some ⟨oc29, od29, .func (PySem.W.fnOf "_law_alike" "_law_alike" (defArgs s_l_alike) (defBody s_l_alike) (defScope s_l_alike) .none kV29 dc29 pm29 an29 cd29 ct29), sl29⟩)
    (c29 : PySem.W.codeIn K cd29 "_law_alike" = true)
    (k29 : PySem.W.keepIn K (.ref f_l_alike) = true)
    (a_l_draw_marks : PySem.W.nsIn K mainGlobals "_law_draw_marks" = some (some (.ref f_l_draw_marks)))
    (l30 : K.lookup f_l_draw_marks = some ⟨oc30, od30, .func (PySem.W.fnOf "_law_draw_marks" "_law_draw_marks" (defArgs s_l_draw_marks) (defBody s_l_draw_marks) (defScope s_l_draw_marks) .none kV30 dc30 pm30 an30 cd30 ct30), sl30⟩)
    (c30 : PySem.W.codeIn K cd30 "_law_draw_marks" = true)
    (k30 : PySem.W.keepIn K (.ref f_l_draw_marks) = true)
    (a_l_new_room : PySem.W.nsIn K mainGlobals "_law_new_room" = some (some (.ref f_l_new_room)))
    (l31 : K.lookup f_l_new_room = some ⟨oc31, od31, .func (PySem.W.fnOf "_law_new_room" "_law_new_room" (defArgs s_l_new_room) (defBody s_l_new_room) (defScope s_l_new_room) .none kV31 dc31 pm31 an31 cd31 ct31), sl31⟩)
    (c31 : PySem.W.codeIn K cd31 "_law_new_room" = true)
    (k31 : PySem.W.keepIn K (.ref f_l_new_room) = true)
    (a_l_own_put : PySem.W.nsIn K mainGlobals "_law_own_put" = some (some (.ref f_l_own_put)))
    (l32 : K.lookup f_l_own_put = some ⟨oc32, od32, .func (PySem.W.fnOf "_law_own_put" "_law_own_put" (defArgs s_l_own_put) (defBody s_l_own_put) (defScope s_l_own_put) .none kV32 dc32 pm32 an32 cd32 ct32), sl32⟩)
    (c32 : PySem.W.codeIn K cd32 "_law_own_put" = true)
    (k32 : PySem.W.keepIn K (.ref f_l_own_put) = true)
    (a_l_rule_of : PySem.W.nsIn K mainGlobals "_law_rule_of" = some (some (.ref f_l_rule_of)))
    (l33 : K.lookup f_l_rule_of = some ⟨oc33, od33, .func (PySem.W.fnOf "_law_rule_of" "_law_rule_of" (defArgs s_l_rule_of) (defBody s_l_rule_of) (defScope s_l_rule_of) .none kV33 dc33 pm33 an33 cd33 ct33), sl33⟩)
    (c33 : PySem.W.codeIn K cd33 "_law_rule_of" = true)
    (k33 : PySem.W.keepIn K (.ref f_l_rule_of) = true)
    (a_l_sees : PySem.W.nsIn K mainGlobals "_law_sees" = some (some (.ref f_l_sees)))
    (l34 : K.lookup f_l_sees = some ⟨oc34, od34, .func (PySem.W.fnOf "_law_sees" "_law_sees" (defArgs s_l_sees) (defBody s_l_sees) (defScope s_l_sees) .none kV34 dc34 pm34 an34 cd34 ct34), sl34⟩)
    (c34 : PySem.W.codeIn K cd34 "_law_sees" = true)
    (k34 : PySem.W.keepIn K (.ref f_l_sees) = true)
    (a_l_one_right : PySem.W.nsIn K mainGlobals "_law_one_right" = some (some (.ref f_l_one_right)))
    (l35 : K.lookup f_l_one_right = some ⟨oc35, od35, .func (PySem.W.fnOf "_law_one_right" "_law_one_right" (defArgs s_l_one_right) (defBody s_l_one_right) (defScope s_l_one_right) .none kV35 dc35 pm35 an35 cd35 ct35), sl35⟩)
    (c35 : PySem.W.codeIn K cd35 "_law_one_right" = true)
    (k35 : PySem.W.keepIn K (.ref f_l_one_right) = true)
    (a_l_all_right : PySem.W.nsIn K mainGlobals "_law_all_right" = some (some (.ref f_l_all_right)))
    (l36 : K.lookup f_l_all_right = some ⟨oc36, od36, .func (PySem.W.fnOf "_law_all_right" "_law_all_right" (defArgs s_l_all_right) (defBody s_l_all_right) (defScope s_l_all_right) .none kV36 dc36 pm36 an36 cd36 ct36), sl36⟩)
    (c36 : PySem.W.codeIn K cd36 "_law_all_right" = true)
    (k36 : PySem.W.keepIn K (.ref f_l_all_right) = true)
    (a_l_done : PySem.W.nsIn K mainGlobals "_law_done" = some (some (.ref f_l_done)))
    (l37 : K.lookup f_l_done = some ⟨oc37, od37, .func (PySem.W.fnOf "_law_done" "_law_done" (defArgs s_l_done) (defBody s_l_done) (defScope s_l_done) .none kV37 dc37 pm37 an37 cd37 ct37), sl37⟩)
    (c37 : PySem.W.codeIn K cd37 "_law_done" = true)
    (k37 : PySem.W.keepIn K (.ref f_l_done) = true)
    (a_law : PySem.W.nsIn K mainGlobals "law" = some (some (.ref f_law)))
    (l38 : K.lookup f_law = some ⟨oc38, od38, .func (PySem.W.fnOf "law" "law" (defArgs s_law) (defBody s_law) (defScope s_law) .none kV38 dc38 pm38 an38 cd38 ct38), sl38⟩)
    (c38 : PySem.W.codeIn K cd38 "law" = true)
    (k38 : PySem.W.keepIn K (.ref f_law) = true)
    (me_Array : PySem.W.mroIn K c_Array (.type "object") = some true)
    (ee_Array : PySem.W.findIn K (.ref c_Array) "__eq__" = some (some (.builtin "object.__eq__")))
    (oa_Window : PySem.W.findIn K (.ref c_Window) "__class__" = some (some (.builtin "object.__class__")))
    (on_Window : PySem.W.specialIn K (.builtin "object.__class__") "__get__" = some (some (.builtin "getset_descriptor.__get__")))
    (ot_Window : PySem.W.takesIn K (.builtin "object.__class__") = some true)
    (om_Window : PySem.W.mroIn K c_Window (.type "object") = some true)
    (oe_Window : PySem.W.findIn K (.ref c_Window) "__ne__" = some (some (.builtin "object.__ne__")))
    (fn_Window_getitem : PySem.W.fnIn K f_Window_getitem = true)
    (z_len : PySem.W.nsIn K mainGlobals "len" = some none)
    (z_int : PySem.W.nsIn K mainGlobals "int" = some none)
    (z_abs : PySem.W.nsIn K mainGlobals "abs" = some none)
    (z_list : PySem.W.nsIn K mainGlobals "list" = some none)
    (z_max : PySem.W.nsIn K mainGlobals "max" = some none)
    (z_min : PySem.W.nsIn K mainGlobals "min" = some none)
    (z_isinstance : PySem.W.nsIn K mainGlobals "isinstance" = some none)
    (z_all : PySem.W.nsIn K mainGlobals "all" = some none)
    (z_bool : PySem.W.nsIn K mainGlobals "bool" = some none)
    (z_range : PySem.W.nsIn K mainGlobals "range" = some none)
    (z_repr : PySem.W.nsIn K mainGlobals "repr" = some none)
    (z_sorted : PySem.W.nsIn K mainGlobals "sorted" = some none)
    (z_zip : PySem.W.nsIn K mainGlobals "zip" = some none)
    (z_tuple : PySem.W.nsIn K mainGlobals "tuple" = some none)
    (z_str : PySem.W.nsIn K mainGlobals "str" = some none)
    (z_any : PySem.W.nsIn K mainGlobals "any" = some none)
    (z_sum : PySem.W.nsIn K mainGlobals "sum" = some none) :
    ∃ fd : FuncData, (∀ (s : Shared) (v : Value), BindsTo s fd ⟨[v], []⟩ [("_law_script", v)]) ∧ ∀ base : Heap, K.In base → base.Ns mainGlobals mg → FnG l.prog w K mg base 9 fa fd ["_law_script"] (spLaw K) := by
    have e := hfa.symm.trans (PySem.W.mg_of X G a_law)
    cases e
    have T : Txt K mg c_Array c_Window c_Told f_doubled f_exact := ⟨PySem.W.mg_none_of X G z_len, PySem.W.mg_none_of X G z_int, PySem.W.mg_none_of X G z_abs, PySem.W.mg_none_of X G z_list, PySem.W.mg_none_of X G z_max, PySem.W.mg_none_of X G z_min, PySem.W.mg_none_of X G z_isinstance, PySem.W.mg_none_of X G z_all, PySem.W.mg_none_of X G z_bool, PySem.W.mg_none_of X G z_range, PySem.W.mg_none_of X G z_repr, PySem.W.mg_none_of X G z_sorted, PySem.W.mg_none_of X G z_zip, PySem.W.mg_none_of X G z_tuple, PySem.W.mg_none_of X G z_str, PySem.W.mg_none_of X G z_any, PySem.W.mg_none_of X G z_sum, ⟨pg_Array, hd_Array, po_Array, sa_Array⟩, na_Array_cells, na_Array_size, ⟨pg_Window, hd_Window, po_Window, sa_Window⟩, na_Window__array, na_Window__length, na_Window__rule, ⟨pg_Told, hd_Told, po_Told, sa_Told⟩, na_Told__rooms, na_Told__asked, PySem.W.mg_of X G a_doubled, PySem.W.mg_of X G a_exact⟩
    have gC_Array : mg "Array" = some (.ref c_Array) := PySem.W.mg_of X G aC_Array
    have gC_Window : mg "Window" = some (.ref c_Window) := PySem.W.mg_of X G aC_Window
    have gC_Told : mg "Told" = some (.ref c_Told) := PySem.W.mg_of X G aC_Told
    have F1 := fun_mk (st := s_Array_init) l1 c1 k1
    have b1 := F1.binds (ps := ["self", "cells", "size"]) fun _ _ _ _ _ _ us hl => match us, hl with | [_, _, _], _ => rfl
    have Y_Array_init : Mt K c_Array "__init__" "Array.__init__" s_Array_init ["self", "cells", "size"] f_Array_init := ⟨⟨_, F1, b1⟩, ⟨a_Array_init, i_Array_init, k1⟩⟩
    have Z_Array : Ct K mg "Array" c_Array f_Array_init := ⟨PySem.W.mg_of X G aC_Array, ⟨mk_Array, a_Array_init, i_Array_init, kc_Array⟩⟩
    have F2 : FunD K "__init__" "Window.__init__" (defArgs s_Window_init) (defBody s_Window_init) (defScope s_Window_init) [] [("rule", V.non)] f_Window_init (PySem.W.fnOf "__init__" "Window.__init__" (defArgs s_Window_init) (defBody s_Window_init) (defScope s_Window_init) .none (.ref dk2) dc2 pm2 an2 cd2 ct2) := by
      refine ⟨⟨oc2, od2, .none, .ref dk2, dc2, pm2, an2, cd2, ct2, sl2, rfl, l2, c2, .inl ⟨rfl, rfl⟩, .inr ⟨dk2, rfl, fun q hq => ?_⟩⟩, k2⟩
      simp only [List.mem_cons, List.not_mem_nil, or_false] at hq
      subst hq
      exact ⟨_, w2_0, rfl⟩
    obtain ⟨mv, b2⟩ := F2.kbinds0 (ps := ["self", "marks", "rule"]) 2 ["rule"] [] (fun vs _ zs => vs ++ zs) (List.cons_ne_nil _ _) (fun q h => by cases h) (fun r1 _ r3 => vals_app r1 r3) fun D doc pm an cdv ct us mv ws h1 h2 h3 => match us, mv, ws, h1, h2, h3 with | [_, _], [], [_], _, _, _ => rfl
    have Y_Window_init : Mtk K c_Window "Window.__init__" s_Window_init ["self", "marks", "rule"] 1 ["rule"] gRule f_Window_init := ⟨⟨_, _, _, F2, b2⟩, ⟨mk_Window, a_Window_init, i_Window_init, kc_Window⟩⟩
    have F3 := fun_mk (st := s_Window_seen) l3 c3 k3
    have b3 := F3.binds (ps := ["self"]) fun _ _ _ _ _ _ us hl => match us, hl with | [_], _ => rfl
    have Y_Window_seen : Mt K c_Window "_seen" "Window._seen" s_Window_seen ["self"] f_Window_seen := ⟨⟨_, F3, b3⟩, ⟨a_Window_seen, i_Window_seen, k3⟩⟩
    have F4 := fun_mk (st := s_Window_marks) l4 c4 k4
    have b4 := F4.binds (ps := ["self"]) fun _ _ _ _ _ _ us hl => match us, hl with | [_], _ => rfl
    have Y_Window_marks : Mt K c_Window "marks" "Window.marks" s_Window_marks ["self"] f_Window_marks := ⟨⟨_, F4, b4⟩, ⟨a_Window_marks, i_Window_marks, k4⟩⟩
    have F5 := fun_mk (st := s_Window_put) l5 c5 k5
    have b5 := F5.binds (ps := ["self", "marks"]) fun _ _ _ _ _ _ us hl => match us, hl with | [_, _], _ => rfl
    have Y_Window_put : Mt K c_Window "put" "Window.put" s_Window_put ["self", "marks"] f_Window_put := ⟨⟨_, F5, b5⟩, ⟨a_Window_put, i_Window_put, k5⟩⟩
    have F6 := fun_mk (st := s_Window_on) l6 c6 k6
    have b6 := F6.binds (ps := ["self", "array", "length"]) fun _ _ _ _ _ _ us hl => match us, hl with | [_, _, _], _ => rfl
    have Y_Window_on : Mt K c_Window "_on" "Window._on" s_Window_on ["self", "array", "length"] f_Window_on := ⟨⟨_, F6, b6⟩, ⟨a_Window_on, i_Window_on, k6⟩⟩
    have F7 := fun_mk (st := s_Window_size_for) l7 c7 k7
    have b7 := F7.binds (ps := ["self", "needed"]) fun _ _ _ _ _ _ us hl => match us, hl with | [_, _], _ => rfl
    have Y_Window_size_for : Mt K c_Window "_size_for" "Window._size_for" s_Window_size_for ["self", "needed"] f_Window_size_for := ⟨⟨_, F7, b7⟩, ⟨a_Window_size_for, i_Window_size_for, k7⟩⟩
    have F8 := fun_mk (st := s_Window_shares) l8 c8 k8
    have b8 := F8.binds (ps := ["self", "other"]) fun _ _ _ _ _ _ us hl => match us, hl with | [_, _], _ => rfl
    have Y_Window_shares : Mt K c_Window "shares" "Window.shares" s_Window_shares ["self", "other"] f_Window_shares := ⟨⟨_, F8, b8⟩, ⟨a_Window_shares, i_Window_shares, k8⟩⟩
    have F9 := fun_mk (st := s_Window_cut) l9 c9 k9
    have b9 := F9.binds (ps := ["self", "many"]) fun _ _ _ _ _ _ us hl => match us, hl with | [_, _], _ => rfl
    have Y_Window_cut : Mt K c_Window "cut" "Window.cut" s_Window_cut ["self", "many"] f_Window_cut := ⟨⟨_, F9, b9⟩, ⟨a_Window_cut, i_Window_cut, k9⟩⟩
    have F10 := fun_mk (st := s_Window_copied) l10 c10 k10
    have b10 := F10.binds (ps := ["self"]) fun _ _ _ _ _ _ us hl => match us, hl with | [_], _ => rfl
    have Y_Window_copied : Mt K c_Window "copied" "Window.copied" s_Window_copied ["self"] f_Window_copied := ⟨⟨_, F10, b10⟩, ⟨a_Window_copied, i_Window_copied, k10⟩⟩
    have F11 := fun_mk (st := s_Window_len) l11 c11 k11
    have b11 := F11.binds (ps := ["self"]) fun _ _ _ _ _ _ us hl => match us, hl with | [_], _ => rfl
    have Y_Window_len : Mt K c_Window "__len__" "Window.__len__" s_Window_len ["self"] f_Window_len := ⟨⟨_, F11, b11⟩, ⟨a_Window_len, i_Window_len, k11⟩⟩
    have F12 := fun_mk (st := s_Window_getitem) l12 c12 k12
    have b12 := F12.binds (ps := ["self", "at"]) fun _ _ _ _ _ _ us hl => match us, hl with | [_, _], _ => rfl
    have Y_Window_getitem : Mt K c_Window "__getitem__" "Window.__getitem__" s_Window_getitem ["self", "at"] f_Window_getitem := ⟨⟨_, F12, b12⟩, ⟨a_Window_getitem, i_Window_getitem, k12⟩⟩
    have F13 := fun_mk (st := s_Window_setitem) l13 c13 k13
    have b13 := F13.binds (ps := ["self", "at", "worth"]) fun _ _ _ _ _ _ us hl => match us, hl with | [_, _, _], _ => rfl
    have Y_Window_setitem : Mt K c_Window "__setitem__" "Window.__setitem__" s_Window_setitem ["self", "at", "worth"] f_Window_setitem := ⟨⟨_, F13, b13⟩, ⟨a_Window_setitem, i_Window_setitem, k13⟩⟩
    have F14 := fun_mk (st := s_Window_eq) l14 c14 k14
    have b14 := F14.binds (ps := ["self", "other"]) fun _ _ _ _ _ _ us hl => match us, hl with | [_, _], _ => rfl
    have Y_Window_eq : Mt K c_Window "__eq__" "Window.__eq__" s_Window_eq ["self", "other"] f_Window_eq := ⟨⟨_, F14, b14⟩, ⟨a_Window_eq, i_Window_eq, k14⟩⟩
    have F15 := fun_mk (st := s_Window_iadd) l15 c15 k15
    have b15 := F15.binds (ps := ["self", "other"]) fun _ _ _ _ _ _ us hl => match us, hl with | [_, _], _ => rfl
    have Y_Window_iadd : Mt K c_Window "__iadd__" "Window.__iadd__" s_Window_iadd ["self", "other"] f_Window_iadd := ⟨⟨_, F15, b15⟩, ⟨a_Window_iadd, i_Window_iadd, k15⟩⟩
    have F16 := fun_mk (st := s_Told_init) l16 c16 k16
    have b16 := F16.binds (ps := ["self", "rooms"]) fun _ _ _ _ _ _ us hl => match us, hl with | [_, _], _ => rfl
    have Y_Told_init : Mt K c_Told "__init__" "Told.__init__" s_Told_init ["self", "rooms"] f_Told_init := ⟨⟨_, F16, b16⟩, ⟨a_Told_init, i_Told_init, k16⟩⟩
    have Z_Told : Ct K mg "Told" c_Told f_Told_init := ⟨PySem.W.mg_of X G aC_Told, ⟨mk_Told, a_Told_init, i_Told_init, kc_Told⟩⟩
    have F17 := fun_mk (st := s_Told_call) l17 c17 k17
    have b17 := F17.binds (ps := ["self", "room", "needed"]) fun _ _ _ _ _ _ us hl => match us, hl with | [_, _, _], _ => rfl
    have Y_Told_call : Mt K c_Told "__call__" "Told.__call__" s_Told_call ["self", "room", "needed"] f_Told_call := ⟨⟨_, F17, b17⟩, ⟨a_Told_call, i_Told_call, k17⟩⟩
    have F18 := fun_mk (st := s_Told_asked) l18 c18 k18
    have b18 := F18.binds (ps := ["self"]) fun _ _ _ _ _ _ us hl => match us, hl with | [_], _ => rfl
    have Y_Told_asked : Mt K c_Told "asked" "Told.asked" s_Told_asked ["self"] f_Told_asked := ⟨⟨_, F18, b18⟩, ⟨a_Told_asked, i_Told_asked, k18⟩⟩
    have F19 := fun_mk (st := s_Window_spare) l19 c19 k19
    have b19 := F19.binds (ps := ["self"]) fun _ _ _ _ _ _ us hl => match us, hl with | [_], _ => rfl
    have Y_Window_spare : Pt K c_Window "spare" "Window.spare" s_Window_spare f_Window_spare := ⟨⟨_, F19, b19⟩, ⟨_, ⟨pa_Window_spare, pg_Window_spare, pt_Window_spare, ⟨_, pr_Window_spare⟩⟩⟩⟩
    have F20 := fun_mk (st := s_Window_room) l20 c20 k20
    have b20 := F20.binds (ps := ["self"]) fun _ _ _ _ _ _ us hl => match us, hl with | [_], _ => rfl
    have Y_Window_room : Pt K c_Window "room" "Window.room" s_Window_room f_Window_room := ⟨⟨_, F20, b20⟩, ⟨_, ⟨pa_Window_room, pg_Window_room, pt_Window_room, ⟨_, pr_Window_room⟩⟩⟩⟩
    have F21 := fun_mk (st := s_Told_left) l21 c21 k21
    have b21 := F21.binds (ps := ["self"]) fun _ _ _ _ _ _ us hl => match us, hl with | [_], _ => rfl
    have Y_Told_left : Pt K c_Told "left" "Told.left" s_Told_left f_Told_left := ⟨⟨_, F21, b21⟩, ⟨_, ⟨pa_Told_left, pg_Told_left, pt_Told_left, ⟨_, pr_Told_left⟩⟩⟩⟩
    have H_Told_call : ∀ f, PySem.W.findIn K (.ref c_Told) "__call__" = some (some (.ref f)) → PySem.W.fnIn K f = true := fun f h => by have e := a_Told_call.symm.trans h; cases e; exact fn_Told_call
    have F22 := fun_mk (st := s_is_integer) l22 c22 k22
    have b22 := F22.binds (ps := ["thing"]) fun _ _ _ _ _ _ us hl => match us, hl with | [_], _ => rfl
    have Y_is_integer : Dt K mg "is_integer" s_is_integer ["thing"] f_is_integer := ⟨⟨_, F22, b22⟩, PySem.W.mg_of X G a_is_integer⟩
    have F23 := fun_mk (st := s_is_number) l23 c23 k23
    have b23 := F23.binds (ps := ["many", "thing"]) fun _ _ _ _ _ _ us hl => match us, hl with | [_, _], _ => rfl
    have Y_is_number : Dt K mg "is_number" s_is_number ["many", "thing"] f_is_number := ⟨⟨_, F23, b23⟩, PySem.W.mg_of X G a_is_number⟩
    have F24 := fun_mk (st := s_are_marks) l24 c24 k24
    have b24 := F24.binds (ps := ["thing"]) fun _ _ _ _ _ _ us hl => match us, hl with | [_], _ => rfl
    have Y_are_marks : Dt K mg "_are_marks" s_are_marks ["thing"] f_are_marks := ⟨⟨_, F24, b24⟩, PySem.W.mg_of X G a_are_marks⟩
    have F25 := fun_mk (st := s_doubled) l25 c25 k25
    have b25 := F25.binds (ps := ["room", "needed"]) fun _ _ _ _ _ _ us hl => match us, hl with | [_, _], _ => rfl
    have Y_doubled : Dt K mg "doubled" s_doubled ["room", "needed"] f_doubled := ⟨⟨_, F25, b25⟩, PySem.W.mg_of X G a_doubled⟩
    have F26 := fun_mk (st := s_exact) l26 c26 k26
    have b26 := F26.binds (ps := ["room", "needed"]) fun _ _ _ _ _ _ us hl => match us, hl with | [_, _], _ => rfl
    have Y_exact : Dt K mg "exact" s_exact ["room", "needed"] f_exact := ⟨⟨_, F26, b26⟩, PySem.W.mg_of X G a_exact⟩
    have F27 := fun_mk (st := s_l_bag) l27 c27 k27
    have b27 := F27.binds (ps := ["_law_script"]) fun _ _ _ _ _ _ us hl => match us, hl with | [_], _ => rfl
    have Y_l_bag : Dt K mg "_law_bag" s_l_bag ["_law_script"] f_l_bag := ⟨⟨_, F27, b27⟩, PySem.W.mg_of X G a_l_bag⟩
    have F28 := fun_mk (st := s_l_take) l28 c28 k28
    have b28 := F28.binds (ps := ["_law_bag_here", "_law_many"]) fun _ _ _ _ _ _ us hl => match us, hl with | [_, _], _ => rfl
    have Y_l_take : Dt K mg "_law_take" s_l_take ["_law_bag_here", "_law_many"] f_l_take := ⟨⟨_, F28, b28⟩, PySem.W.mg_of X G a_l_take⟩
    have F29 := fun_mk (st := s_l_alike) l29 c29 k29
    have b29 := F29.binds (ps := ["_law_found", "_law_due"]) fun _ _ _ _ _ _ us hl => match us, hl with | [_, _], _ => rfl
    have Y_l_alike : Dt K mg "_law_alike" s_l_alike ["_law_found", "_law_due"] f_l_alike := ⟨⟨_, F29, b29⟩, PySem.W.mg_of X G a_l_alike⟩
    have F30 := fun_mk (st := s_l_draw_marks) l30 c30 k30
    have b30 := F30.binds (ps := ["_law_bag_here", "_law_many"]) fun _ _ _ _ _ _ us hl => match us, hl with | [_, _], _ => rfl
    have Y_l_draw_marks : Dt K mg "_law_draw_marks" s_l_draw_marks ["_law_bag_here", "_law_many"] f_l_draw_marks := ⟨⟨_, F30, b30⟩, PySem.W.mg_of X G a_l_draw_marks⟩
    have F31 := fun_mk (st := s_l_new_room) l31 c31 k31
    have b31 := F31.binds (ps := ["_law_kind", "_law_kit", "_law_room", "_law_needed"]) fun _ _ _ _ _ _ us hl => match us, hl with | [_, _, _, _], _ => rfl
    have Y_l_new_room : Dt K mg "_law_new_room" s_l_new_room ["_law_kind", "_law_kit", "_law_room", "_law_needed"] f_l_new_room := ⟨⟨_, F31, b31⟩, PySem.W.mg_of X G a_l_new_room⟩
    have F32 := fun_mk (st := s_l_own_put) l32 c32 k32
    have b32 := F32.binds (ps := ["_law_own", "_law_kind", "_law_kit", "_law_spot", "_law_marks"]) fun _ _ _ _ _ _ us hl => match us, hl with | [_, _, _, _, _], _ => rfl
    have Y_l_own_put : Dt K mg "_law_own_put" s_l_own_put ["_law_own", "_law_kind", "_law_kit", "_law_spot", "_law_marks"] f_l_own_put := ⟨⟨_, F32, b32⟩, PySem.W.mg_of X G a_l_own_put⟩
    have F33 := fun_mk (st := s_l_rule_of) l33 c33 k33
    have b33 := F33.binds (ps := ["_law_kind", "_law_rooms"]) fun _ _ _ _ _ _ us hl => match us, hl with | [_, _], _ => rfl
    have Y_l_rule_of : Dt K mg "_law_rule_of" s_l_rule_of ["_law_kind", "_law_rooms"] f_l_rule_of := ⟨⟨_, F33, b33⟩, PySem.W.mg_of X G a_l_rule_of⟩
    have F34 := fun_mk (st := s_l_sees) l34 c34 k34
    have b34 := F34.binds (ps := ["_law_own", "_law_spot"]) fun _ _ _ _ _ _ us hl => match us, hl with | [_, _], _ => rfl
    have Y_l_sees : Dt K mg "_law_sees" s_l_sees ["_law_own", "_law_spot"] f_l_sees := ⟨⟨_, F34, b34⟩, PySem.W.mg_of X G a_l_sees⟩
    have F35 := fun_mk (st := s_l_one_right) l35 c35 k35
    have b35 := F35.binds (ps := ["_law_own", "_law_spot", "_law_window"]) fun _ _ _ _ _ _ us hl => match us, hl with | [_, _, _], _ => rfl
    have Y_l_one_right : Dt K mg "_law_one_right" s_l_one_right ["_law_own", "_law_spot", "_law_window"] f_l_one_right := ⟨⟨_, F35, b35⟩, PySem.W.mg_of X G a_l_one_right⟩
    have F36 := fun_mk (st := s_l_all_right) l36 c36 k36
    have b36 := F36.binds (ps := ["_law_own", "_law_spots", "_law_windows"]) fun _ _ _ _ _ _ us hl => match us, hl with | [_, _, _], _ => rfl
    have Y_l_all_right : Dt K mg "_law_all_right" s_l_all_right ["_law_own", "_law_spots", "_law_windows"] f_l_all_right := ⟨⟨_, F36, b36⟩, PySem.W.mg_of X G a_l_all_right⟩
    have F37 := fun_mk (st := s_l_done) l37 c37 k37
    have b37 := F37.binds (ps := ["_law_bag_here", "_law_own", "_law_kind", "_law_kit", "_law_spots", "_law_windows"]) fun _ _ _ _ _ _ us hl => match us, hl with | [_, _, _, _, _, _], _ => rfl
    have Y_l_done : Dt K mg "_law_done" s_l_done ["_law_bag_here", "_law_own", "_law_kind", "_law_kit", "_law_spots", "_law_windows"] f_l_done := ⟨⟨_, F37, b37⟩, PySem.W.mg_of X G a_l_done⟩
    have F38 := fun_mk (st := s_law) l38 c38 k38
    have b38 := F38.binds (ps := ["_law_script"]) fun _ _ _ _ _ _ us hl => match us, hl with | [_], _ => rfl
    have O_Window : OwnC K c_Window := ⟨oa_Window, on_Window, ot_Window, om_Window, by unfold PySem.W.kitOne; simp, oe_Window⟩
    have HG_Window : ∀ f, PySem.W.findIn K (.ref c_Window) "__getitem__" = some (some (.ref f)) → PySem.W.fnIn K f = true := fun f h => by have e := a_Window_getitem.symm.trans h; cases e; exact fn_Window_getitem
    refine ⟨PySem.W.fnOf "law" "law" (defArgs s_law) (defBody s_law) (defScope s_law) .none kV38 dc38 pm38 an38 cd38 ct38, fun s v => .of_eq rfl, fun base _ _ => ?_⟩
    have D_is_integer := ok_is_integer (P := l.prog) (w := w) (base := base) Y_is_integer T
    have D_is_number := ok_is_number Y_is_number T D_is_integer
    have D_are_marks := ok_are_marks Y_are_marks T D_is_integer
    have D_doubled := ok_doubled (P := l.prog) (w := w) (base := base) Y_doubled T
    have D_exact := ok_exact (P := l.prog) (w := w) (base := base) Y_exact T
    have M_Array := (ok_Array_init (P := l.prog) (w := w) (base := base) Y_Array_init T).cf Z_Array
    have M_seen := ok_Window_seen (P := l.prog) (w := w) (base := base) Y_Window_seen T
    have M_marks := ok_Window_marks Y_Window_marks T M_seen
    have M_spare := ok_Window_spare (P := l.prog) (w := w) (base := base) Y_Window_spare T
    have M_room := ok_Window_room (P := l.prog) (w := w) (base := base) Y_Window_room T
    have M_shares := ok_Window_shares (P := l.prog) (w := w) (base := base) Y_Window_shares T me_Array ee_Array
    have M_Window := ok_Window_init Y_Window_init T gC_Window D_are_marks M_Array
    have M_Told := (ok_Told_init Y_Told_init T D_is_integer).cf Z_Told
    have M_call := ok_Told_call (P := l.prog) (w := w) (base := base) Y_Told_call T
    have M_asked := ok_Told_asked (P := l.prog) (w := w) (base := base) Y_Told_asked T
    have M_left := ok_Told_left (P := l.prog) (w := w) (base := base) Y_Told_left T
    have M_on := ok_Window_on Y_Window_on T M_Window
    have M_size_for := ok_Window_size_for Y_Window_size_for T D_is_integer D_doubled D_exact M_call H_Told_call
    have M_put := ok_Window_put Y_Window_put T M_seen M_on M_size_for M_Array
    have M_iadd := ok_Window_iadd Y_Window_iadd T M_put
    have M_copied := ok_Window_copied Y_Window_copied T M_seen M_on M_Array
    have M_cut := ok_Window_cut Y_Window_cut T D_is_integer M_on
    have M_len := ok_Window_len (P := l.prog) (w := w) (base := base) Y_Window_len T
    have M_getitem := ok_Window_getitem Y_Window_getitem T D_is_number
    have M_setitem := ok_Window_setitem Y_Window_setitem T D_is_number
    have M_eq := ok_Window_eq Y_Window_eq T gC_Window O_Window M_seen
    have D_l_take := ok_l_take (P := l.prog) (w := w) (base := base) Y_l_take T
    have D_l_bag := ok_l_bag (P := l.prog) (w := w) (base := base) Y_l_bag T
    have D_l_alike := ok_l_alike (P := l.prog) (w := w) (base := base) Y_l_alike T
    have D_l_draw_marks := ok_l_draw_marks Y_l_draw_marks T D_l_take
    have D_l_rule_of := ok_l_rule_of Y_l_rule_of T M_Told
    have D_l_new_room := ok_l_new_room (P := l.prog) (w := w) (base := base) Y_l_new_room T
    have D_l_own_put := ok_l_own_put Y_l_own_put T D_l_new_room
    have D_l_sees := ok_l_sees (P := l.prog) (w := w) (base := base) Y_l_sees T
    have D_l_one_right := ok_l_one_right Y_l_one_right T M_getitem HG_Window M_len M_room M_spare M_marks D_l_sees D_l_alike
    have D_l_all_right := ok_l_all_right Y_l_all_right T O_Window M_shares M_eq D_l_sees D_l_alike D_l_one_right
    have D_l_done := ok_l_done Y_l_done T noSeq_Window selfFirst_Window D_l_take D_l_draw_marks D_l_own_put D_l_sees M_setitem M_cut M_copied M_put M_iadd
    exact ok_law F38 T D_l_bag D_l_take D_l_draw_marks D_l_alike D_l_rule_of M_Window D_l_done D_l_all_right M_asked M_left M_marks
theorem walk {l : PySem.W.OpenLaw} {q : Program} {loose : List Str} {XP : (Str → Option Value) → Heap → Prop} {YP : World → Heap → Prop} {d : DefRec} {K : Params → PySem.W.Frag} (hn : l.most = some 63) (hdf : d.params.defaults = [])
    (hY : ∀ (w : World) (h : Heap), YP w h → (K w.params).In h)
    (F : ∀ (w : World) (mg : Str → Option Value) (fa : Addr) (h : Heap), (K w.params).In h → h.Ns mainGlobals mg → mg d.name = some (.ref fa) →
      ∃ fd : FuncData, (∀ (s : Shared) (u : Value), BindsTo s fd ⟨[u], []⟩ [("_law_script", u)]) ∧ ∀ base : Heap, (K w.params).In base → base.Ns mainGlobals mg → FnG l.prog w (K w.params) mg base 9 fa fd ["_law_script"] (spLaw (K w.params))) :
    PySem.W.WalkO q loose XP YP l.row.toRowW d [] (fun f vs => PySem.call f vs) :=
  walk_G (n := 63) (k := 9) (x := "_law_script") (sp := fun w => spLaw (K w.params)) hn (by decide) hdf ⟨rfl, by decide, by decide⟩ hY F (fun _ H a ns hl _ _ hS => ⟨a, ns, rfl, hS, hl, fun _ => rfl⟩)
end Pf

open PySem PySem.W PyProof.Rows in
set_option maxRecDepth 100000 in
set_option maxHeartbeats 0 in
theorem PySem.Challenge.cw_sparetails_k20_windows_told_holds : PySem.Challenge.rw_sparetails_k20_windows_told.Holds := by
  w_on; o_law; k_head; (case hw => w_witness2)
  k_fill
  refine Pf.walk (l := PySem.Challenge.rw_sparetails_k20_windows_told) rfl rfl (fun w h Y => PySem.W.kIn_of Y) ?F
  case F =>
    intro w mg fa h KX G hmg
    refine' Pf.all_mk KX G hmg ?aC_Array ?pg_Array ?hd_Array ?po_Array ?mk_Array ?kc_Array ?sa_Array ?na_Array_cells ?na_Array_size ?a_Array_init ?i_Array_init ?l1 ?c1 ?k1 ?aC_Window ?pg_Window ?hd_Window ?po_Window ?mk_Window ?kc_Window ?noSeq_Window ?selfFirst_Window ?sa_Window ?na_Window__array ?na_Window__length ?na_Window__rule ?a_Window_init ?i_Window_init ?l2 ?c2 ?k2 ?w2_0 ?a_Window_seen ?i_Window_seen ?l3 ?c3 ?k3 ?a_Window_marks ?i_Window_marks ?l4 ?c4 ?k4 ?a_Window_put ?i_Window_put ?l5 ?c5 ?k5 ?a_Window_on ?i_Window_on ?l6 ?c6 ?k6 ?a_Window_size_for ?i_Window_size_for ?l7 ?c7 ?k7 ?a_Window_shares ?i_Window_shares ?l8 ?c8 ?k8 ?a_Window_cut ?i_Window_cut ?l9 ?c9 ?k9 ?a_Window_copied ?i_Window_copied ?l10 ?c10 ?k10 ?a_Window_len ?i_Window_len ?l11 ?c11 ?k11 ?a_Window_getitem ?i_Window_getitem ?l12 ?c12 ?k12 ?a_Window_setitem ?i_Window_setitem ?l13 ?c13 ?k13 ?a_Window_eq ?i_Window_eq ?l14 ?c14 ?k14 ?a_Window_iadd ?i_Window_iadd ?l15 ?c15 ?k15 ?aC_Told ?pg_Told ?hd_Told ?po_Told ?mk_Told ?kc_Told ?sa_Told ?na_Told__rooms ?na_Told__asked ?a_Told_init ?i_Told_init ?l16 ?c16 ?k16 ?a_Told_call ?i_Told_call ?l17 ?c17 ?k17 ?a_Told_asked ?i_Told_asked ?l18 ?c18 ?k18 ?pa_Window_spare ?pg_Window_spare ?pt_Window_spare ?pr_Window_spare ?l19 ?c19 ?k19 ?pa_Window_room ?pg_Window_room ?pt_Window_room ?pr_Window_room ?l20 ?c20 ?k20 ?pa_Told_left ?pg_Told_left ?pt_Told_left ?pr_Told_left ?l21 ?c21 ?k21 ?fn_Told_call ?a_is_integer ?l22 ?c22 ?k22 ?a_is_number ?l23 ?c23 ?k23 ?a_are_marks ?l24 ?c24 ?k24 ?a_doubled ?l25 ?c25 ?k25 ?a_exact ?l26 ?c26 ?k26 ?a_l_bag ?l27 ?c27 ?k27 ?a_l_take ?l28 ?c28 ?k28 ?a_l_alike ?l29 ?c29 ?k29 ?a_l_draw_marks ?l30 ?c30 ?k30 ?a_l_new_room ?l31 ?c31 ?k31 ?a_l_own_put ?l32 ?c32 ?k32 ?a_l_rule_of ?l33 ?c33 ?k33 ?a_l_sees ?l34 ?c34 ?k34 ?a_l_one_right ?l35 ?c35 ?k35 ?a_l_all_right ?l36 ?c36 ?k36 ?a_l_done ?l37 ?c37 ?k37 ?a_law ?l38 ?c38 ?k38 ?me_Array ?ee_Array ?oa_Window ?on_Window ?ot_Window ?om_Window ?oe_Window ?fn_Window_getitem ?z_len ?z_int ?z_abs ?z_list ?z_max ?z_min ?z_isinstance ?z_all ?z_bool ?z_range ?z_repr ?z_sorted ?z_zip ?z_tuple ?z_str ?z_any ?z_sum
    (case aC_Array => k_is)
    (case pg_Array => k_is)
    (case hd_Array => k_is)
    (case po_Array => k_is)
    (case mk_Array => k_is)
    (case kc_Array => k_is)
    (case sa_Array => k_is)
    (case na_Array_cells => k_is)
    (case na_Array_size => k_is)
    (case a_Array_init => k_is)
    (case i_Array_init => k_is)
    (case l1 => k_is)
    (case c1 => k_is)
    (case k1 => k_is)
    (case aC_Window => k_is)
    (case pg_Window => k_is)
    (case hd_Window => k_is)
    (case po_Window => k_is)
    (case mk_Window => k_is)
    (case kc_Window => k_is)
    (case noSeq_Window => k_is)
    (case selfFirst_Window => k_is)
    (case sa_Window => k_is)
    (case na_Window__array => k_is)
    (case na_Window__length => k_is)
    (case na_Window__rule => k_is)
    (case a_Window_init => k_is)
    (case i_Window_init => k_is)
    (case l2 => k_is)
    (case c2 => k_is)
    (case k2 => k_is)
    (case w2_0 => k_is)
    (case a_Window_seen => k_is)
    (case i_Window_seen => k_is)
    (case l3 => k_is)
    (case c3 => k_is)
    (case k3 => k_is)
    (case a_Window_marks => k_is)
    (case i_Window_marks => k_is)
    (case l4 => k_is)
    (case c4 => k_is)
    (case k4 => k_is)
    (case a_Window_put => k_is)
    (case i_Window_put => k_is)
    (case l5 => k_is)
    (case c5 => k_is)
    (case k5 => k_is)
    (case a_Window_on => k_is)
    (case i_Window_on => k_is)
    (case l6 => k_is)
    (case c6 => k_is)
    (case k6 => k_is)
    (case a_Window_size_for => k_is)
    (case i_Window_size_for => k_is)
    (case l7 => k_is)
    (case c7 => k_is)
    (case k7 => k_is)
    (case a_Window_shares => k_is)
    (case i_Window_shares => k_is)
    (case l8 => k_is)
    (case c8 => k_is)
    (case k8 => k_is)
    (case a_Window_cut => k_is)
    (case i_Window_cut => k_is)
    (case l9 => k_is)
    (case c9 => k_is)
    (case k9 => k_is)
    (case a_Window_copied => k_is)
    (case i_Window_copied => k_is)
    (case l10 => k_is)
    (case c10 => k_is)
    (case k10 => k_is)
    (case a_Window_len => k_is)
    (case i_Window_len => k_is)
    (case l11 => k_is)
    (case c11 => k_is)
    (case k11 => k_is)
    (case a_Window_getitem => k_is)
    (case i_Window_getitem => k_is)
    (case l12 => k_is)
    (case c12 => k_is)
    (case k12 => k_is)
    (case a_Window_setitem => k_is)
    (case i_Window_setitem => k_is)
    (case l13 => k_is)
    (case c13 => k_is)
    (case k13 => k_is)
    (case a_Window_eq => k_is)
    (case i_Window_eq => k_is)
    (case l14 => k_is)
    (case c14 => k_is)
    (case k14 => k_is)
    (case a_Window_iadd => k_is)
    (case i_Window_iadd => k_is)
    (case l15 => k_is)
    (case c15 => k_is)
    (case k15 => k_is)
    (case aC_Told => k_is)
    (case pg_Told => k_is)
    (case hd_Told => k_is)
    (case po_Told => k_is)
    (case mk_Told => k_is)
    (case kc_Told => k_is)
    (case sa_Told => k_is)
    (case na_Told__rooms => k_is)
    (case na_Told__asked => k_is)
    (case a_Told_init => k_is)
    (case i_Told_init => k_is)
    (case l16 => k_is)
    (case c16 => k_is)
    (case k16 => k_is)
    (case a_Told_call => k_is)
    (case i_Told_call => k_is)
    (case l17 => k_is)
    (case c17 => k_is)
    (case k17 => k_is)
    (case a_Told_asked => k_is)
    (case i_Told_asked => k_is)
    (case l18 => k_is)
    (case c18 => k_is)
    (case k18 => k_is)
    (case pa_Window_spare => k_is)
    (case pg_Window_spare => k_is)
    (case pt_Window_spare => k_is)
    (case pr_Window_spare => k_is)
    (case l19 => k_is)
    (case c19 => k_is)
    (case k19 => k_is)
    (case pa_Window_room => k_is)
    (case pg_Window_room => k_is)
    (case pt_Window_room => k_is)
    (case pr_Window_room => k_is)
    (case l20 => k_is)
    (case c20 => k_is)
    (case k20 => k_is)
    (case pa_Told_left => k_is)
    (case pg_Told_left => k_is)
    (case pt_Told_left => k_is)
    (case pr_Told_left => k_is)
    (case l21 => k_is)
    (case c21 => k_is)
    (case k21 => k_is)
    (case fn_Told_call => k_is)
    (case a_is_integer => k_is)
    (case l22 => k_is)
    (case c22 => k_is)
    (case k22 => k_is)
    (case a_is_number => k_is)
    (case l23 => k_is)
    (case c23 => k_is)
    (case k23 => k_is)
    (case a_are_marks => k_is)
    (case l24 => k_is)
    (case c24 => k_is)
    (case k24 => k_is)
    (case a_doubled => k_is)
    (case l25 => k_is)
    (case c25 => k_is)
    (case k25 => k_is)
    (case a_exact => k_is)
    (case l26 => k_is)
    (case c26 => k_is)
    (case k26 => k_is)
    (case a_l_bag => k_is)
    (case l27 => k_is)
    (case c27 => k_is)
    (case k27 => k_is)
    (case a_l_take => k_is)
    (case l28 => k_is)
    (case c28 => k_is)
    (case k28 => k_is)
    (case a_l_alike => k_is)
    (case l29 => k_is)
    (case c29 => k_is)
    (case k29 => k_is)
    (case a_l_draw_marks => k_is)
    (case l30 => k_is)
    (case c30 => k_is)
    (case k30 => k_is)
    (case a_l_new_room => k_is)
    (case l31 => k_is)
    (case c31 => k_is)
    (case k31 => k_is)
    (case a_l_own_put => k_is)
    (case l32 => k_is)
    (case c32 => k_is)
    (case k32 => k_is)
    (case a_l_rule_of => k_is)
    (case l33 => k_is)
    (case c33 => k_is)
    (case k33 => k_is)
    (case a_l_sees => k_is)
    (case l34 => k_is)
    (case c34 => k_is)
    (case k34 => k_is)
    (case a_l_one_right => k_is)
    (case l35 => k_is)
    (case c35 => k_is)
    (case k35 => k_is)
    (case a_l_all_right => k_is)
    (case l36 => k_is)
    (case c36 => k_is)
    (case k36 => k_is)
    (case a_l_done => k_is)
    (case l37 => k_is)
    (case c37 => k_is)
    (case k37 => k_is)
    (case a_law => k_is)
    (case l38 => k_is)
    (case c38 => k_is)
    (case k38 => k_is)
    (case me_Array => k_is)
    (case ee_Array => k_is)
    (case oa_Window => k_is)
    (case on_Window => k_is)
    (case ot_Window => k_is)
    (case om_Window => k_is)
    (case oe_Window => k_is)
    (case fn_Window_getitem => k_is)
    (case z_len => k_is)
    (case z_int => k_is)
    (case z_abs => k_is)
    (case z_list => k_is)
    (case z_max => k_is)
    (case z_min => k_is)
    (case z_isinstance => k_is)
    (case z_all => k_is)
    (case z_bool => k_is)
    (case z_range => k_is)
    (case z_repr => k_is)
    (case z_sorted => k_is)
    (case z_zip => k_is)
    (case z_tuple => k_is)
    (case z_str => k_is)
    (case z_any => k_is)
    (case z_sum => k_is)


