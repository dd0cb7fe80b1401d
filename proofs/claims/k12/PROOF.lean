import PyProof.Rows.All
import Wide.All
import OpenK.AllK
import Wide.FinOn
import HandS.Base
import HandS.Call
import HandS.List
import HandS.Comp
import HandS.Ends
import HandS.Words
import HandS.ForMost
import HandS.Style
import HandS.NoneIn
import HandS.IsInst
import HandS.Wide
import HandS.More
import HandS.Codes
import HandS.SlotsOwn
import HandS.Property
import HandS.MakeKwOnly
import HandS.CallLocal
import HandS.EndBits
import PyProof.ReprLen
import HandS.OwnEq
import HandS.Zip
import KE.KIsAll
import KE.KExcIs
import HandS.Exc
import HandS.ExcOwn
import HandS.TryOnly
import HandS.WordsExc
import PyProof.Draws
import PyProof.WalksMore
import KE.SortData
import HandS.Star
import HandS.SetFor
import HandS.Strs
import HandS.Deep
import HandS.Iter
import HandS.Walk
import HandS.SetTxt0
import HandS.Flow
import HandS.Text
import HandS.Conv
import HandS.HeadHook3
import HandS.TupAny
import PyProof.SumWalk
import PyProof.ListOps
import HandS.ExcValue
import PySem.Challenge.RW_sparetails_k12_parts_of_statements
set_option Elab.async false
set_option linter.all false
set_option maxRecDepth 100000
namespace Kt
open PySem L2
/-! ### what is known of the heap, part by part -/
abbrev SP := Hp → Prop
def Le (G H : Hp) : Prop := ∀ a o, G a = some o → H a = some o
def sub (H G : Hp) : Hp := fun a => if (G a).isSome = true then none else H a
def Sep : List SP → Hp → Prop
  | [], _ => True
  | P :: Ps, H => ∃ G, Le G H ∧ P G ∧ Sep Ps (sub H G)
def pt (a : Addr) (o : HO) : SP := fun G => G a = some o
theorem sub_of {H G : Hp} {a : Addr} (h : G a = none) : sub H G a = H a := by
  unfold sub; rw [h]; rfl
theorem sub_in {H G : Hp} {a : Addr} {o : HO} (h : G a = some o) : sub H G a = none := by
  unfold sub; rw [h]; rfl
theorem sub_some {H G : Hp} {a : Addr} {o : HO} (h : sub H G a = some o) : G a = none ∧ H a = some o := by
  cases e : G a with
  | none => rw [sub_of e] at h; exact ⟨rfl, h⟩
  | some u => rw [sub_in e] at h; cases h
theorem Sep.mono : ∀ {Ps : List SP} {H H' : Hp}, Le H H' → Sep Ps H → Sep Ps H'
  | [], _, _, _, _ => trivial
  | P :: Ps, H, H', l, ⟨G, h1, h2, h3⟩ => ⟨G, fun a o e => l a o (h1 a o e), h2, Sep.mono (fun a o e => by
      obtain ⟨e1, e2⟩ := sub_some e
      rw [sub_of e1]; exact l a o e2) h3⟩
theorem Sep.tl {P : SP} {Ps : List SP} {H : Hp} : Sep (P :: Ps) H → Sep Ps H := fun ⟨G, _, _, h⟩ => h.mono fun a o e => (sub_some e).2
theorem Sep.swap {P Q : SP} {Ps : List SP} {H : Hp} : Sep (P :: Q :: Ps) H → Sep (Q :: P :: Ps) H := fun ⟨G1, l1, p1, G2, l2, p2, h⟩ => by
  have d : ∀ a o, G1 a = some o → G2 a = none := fun a o e => by
    cases e2 : G2 a with
    | none => rfl
    | some u => have := l2 a u e2; rw [sub_in e] at this; cases this
  refine ⟨G2, fun a o e => (sub_some (l2 a o e)).2, p2, G1, fun a o e => ?_, p1, h.mono fun a o e => ?_⟩
  · rw [sub_of (d a o e)]; exact l1 a o e
  · obtain ⟨e1, e2⟩ := sub_some e
    obtain ⟨e3, e4⟩ := sub_some e2
    rw [sub_of e3, sub_of e1]; exact e4
theorem Sep.cons_mono {P : SP} {Ps Qs : List SP} {H : Hp} (f : ∀ H', Sep Ps H' → Sep Qs H') : Sep (P :: Ps) H → Sep (P :: Qs) H := fun ⟨G, h1, h2, h3⟩ => ⟨G, h1, h2, f _ h3⟩
theorem Sep.hd_mono {P Q : SP} {Ps : List SP} {H : Hp} (f : ∀ G, P G → Q G) : Sep (P :: Ps) H → Sep (Q :: Ps) H := fun ⟨G, h1, h2, h3⟩ => ⟨G, h1, f _ h2, h3⟩
/-- one part to the front -/
inductive Pick (A : SP) : List SP → List SP → Prop where
  | hd {Ps : List SP} : Pick A (A :: Ps) Ps
  | tl {P : SP} {Ps Qs : List SP} : Pick A Ps Qs → Pick A (P :: Ps) (P :: Qs)
theorem Pick.go {A : SP} {Ps Qs : List SP} (p : Pick A Ps Qs) : ∀ {H : Hp}, Sep Ps H → Sep (A :: Qs) H := by
  induction p with
  | hd => exact fun h => h
  | tl _ ih => exact fun h => (h.cons_mono fun _ => ih).swap
theorem Pick.back {A : SP} {Ps Qs : List SP} (p : Pick A Ps Qs) : ∀ {H : Hp}, Sep (A :: Qs) H → Sep Ps H := by
  induction p with
  | hd => exact fun h => h
  | tl _ ih => exact fun h => h.swap.cons_mono fun _ => ih
inductive Dr : List SP → List SP → Prop where
  | all {Ps : List SP} : Dr Ps Ps
  | skip {P : SP} {Ps Qs : List SP} : Dr Ps Qs → Dr (P :: Ps) Qs
theorem Dr.go {Ps Qs : List SP} (p : Dr Ps Qs) : ∀ {H : Hp}, Sep Ps H → Sep Qs H := by
  induction p with
  | all => exact fun h => h
  | skip _ ih => exact fun h => ih h.tl
inductive Sel : List SP → List SP → List SP → Prop where
  | nil {Ps Qs : List SP} : Dr Ps Qs → Sel [] Ps Qs
  | cons {A : SP} {As Ps Qs Rs : List SP} : Pick A Ps Qs → Sel As Qs Rs → Sel (A :: As) Ps Rs
theorem Sel.go {As Ps Rs : List SP} (p : Sel As Ps Rs) : ∀ {H : Hp}, Sep Ps H → Sep (As ++ Rs) H := by
  induction p with
  | nil d => exact fun h => d.go h
  | cons p _ ih => exact fun h => (p.go h).cons_mono fun _ => ih
theorem Sep.sel {As Ps Rs : List SP} {H : Hp} (h : Sep Ps H) (p : Sel As Ps Rs) : Sep (As ++ Rs) H := p.go h
theorem Sep.s1 {A : SP} {Ps Rs : List SP} {H : Hp} (h : Sep Ps H) (p : Sel [A] Ps Rs) : Sep (A :: Rs) H := h.sel p
theorem Sep.s2 {A B : SP} {Ps Rs : List SP} {H : Hp} (h : Sep Ps H) (p : Sel [A, B] Ps Rs) : Sep (A :: B :: Rs) H := h.sel p
theorem Sep.s3 {A B C : SP} {Ps Rs : List SP} {H : Hp} (h : Sep Ps H) (p : Sel [A, B, C] Ps Rs) : Sep (A :: B :: C :: Rs) H := h.sel p
theorem Sep.s4 {A B C D : SP} {Ps Rs : List SP} {H : Hp} (h : Sep Ps H) (p : Sel [A, B, C, D] Ps Rs) : Sep (A :: B :: C :: D :: Rs) H := h.sel p
theorem Sep.s5 {A B C D E : SP} {Ps Rs : List SP} {H : Hp} (h : Sep Ps H) (p : Sel [A, B, C, D, E] Ps Rs) : Sep (A :: B :: C :: D :: E :: Rs) H := h.sel p
theorem Sep.s6 {A B C D E F : SP} {Ps Rs : List SP} {H : Hp} (h : Sep Ps H) (p : Sel [A, B, C, D, E, F] Ps Rs) : Sep (A :: B :: C :: D :: E :: F :: Rs) H := h.sel p
theorem Sep.s7 {A B C D E F G : SP} {Ps Rs : List SP} {H : Hp} (h : Sep Ps H) (p : Sel [A, B, C, D, E, F, G] Ps Rs) : Sep (A :: B :: C :: D :: E :: F :: G :: Rs) H := h.sel p
theorem Sep.s8 {A B C D E F G I : SP} {Ps Rs : List SP} {H : Hp} (h : Sep Ps H) (p : Sel [A, B, C, D, E, F, G, I] Ps Rs) : Sep (A :: B :: C :: D :: E :: F :: G :: I :: Rs) H := h.sel p
theorem Sep.pk {A : SP} {Ps Qs : List SP} {H : Hp} (h : Sep Ps H) (p : Pick A Ps Qs) : Sep (A :: Qs) H := p.go h
/-- one part looked up, put otherwise -/
inductive Repl (a : Addr) (o o' : HO) : List SP → List SP → Prop where
  | hd {Ps : List SP} : Repl a o o' (pt a o :: Ps) (pt a o' :: Ps)
  | tl {P : SP} {Ps Qs : List SP} : Repl a o o' Ps Qs → Repl a o o' (P :: Ps) (P :: Qs)
theorem Repl.pick {a : Addr} {o o' : HO} {Ps Qs : List SP} (r : Repl a o o' Ps Qs) : ∃ Rs, Pick (pt a o) Ps Rs ∧ Pick (pt a o') Qs Rs := by
  induction r with
  | hd => exact ⟨_, .hd, .hd⟩
  | tl _ ih => obtain ⟨Rs, h1, h2⟩ := ih; exact ⟨_, .tl h1, .tl h2⟩
theorem Sep.hd_at {a : Addr} {o : HO} {Ps : List SP} {H : Hp} : Sep (pt a o :: Ps) H → H a = some o := fun ⟨_, l, h, _⟩ => l a o h
theorem Sep.at_ {a : Addr} {o : HO} {Ps Qs : List SP} {H : Hp} (h : Sep Ps H) (p : Pick (pt a o) Ps Qs) : H a = some o := (p.go h).hd_at
theorem Sep.hd_set {a : Addr} {o : HO} {Ps : List SP} {H : Hp} (o' : HO) : Sep (pt a o :: Ps) H → Sep (pt a o' :: Ps) (upd H a o') := fun ⟨G, l, h, s⟩ => by
  have h' : G a = some o := h
  refine ⟨upd G a o', fun b u e => ?_, upd_same, s.mono fun b u e => ?_⟩
  · by_cases hb : b = a
    · subst hb; rw [upd_same] at e ⊢; exact e
    · rw [upd_ne hb] at e ⊢; exact l b u e
  · obtain ⟨e1, e2⟩ := sub_some e
    have hb : b ≠ a := fun q => by rw [q, h'] at e1; cases e1
    rw [sub_of (by rw [upd_ne hb]; exact e1), upd_ne hb]; exact e2
theorem Sep.set {a : Addr} {o o' : HO} {Ps Qs : List SP} {H : Hp} (h : Sep Ps H) (r : Repl a o o' Ps Qs) : Sep Qs (upd H a o') := by
  obtain ⟨Rs, h1, h2⟩ := r.pick
  exact h2.back ((h1.go h).hd_set o')
theorem Sep.new {p : Addr} {Ps : List SP} {H : Hp} (o : HO) (h : Sep Ps H) (n : H p = none) : Sep (pt p o :: Ps) (upd H p o) := by
  refine ⟨fun b => if b = p then some o else none, fun b u e => ?_, if_pos rfl, h.mono fun b u e => ?_⟩
  · by_cases hb : b = p
    · subst hb; rw [upd_same]; simpa using e
    · simp [hb] at e
  · have hb : b ≠ p := fun q => by rw [q, n] at e; cases e
    rw [sub_of (by simp [hb]), upd_ne hb]; exact e
/-- several parts as one -/
theorem Sep.flat : ∀ {As Rs : List SP} {H : Hp}, Sep (Sep As :: Rs) H → Sep (As ++ Rs) H
  | [], Rs, H, h => h.tl
  | A :: As, Rs, H, ⟨G, l, ⟨G1, l1, a, t⟩, r⟩ => by
    refine ⟨G1, fun b o e => l b o (l1 b o e), a, Sep.flat ⟨sub G G1, fun b o e => ?_, t, r.mono fun b o e => ?_⟩⟩
    · obtain ⟨e1, e2⟩ := sub_some e
      rw [sub_of e1]; exact l b o e2
    · obtain ⟨e1, e2⟩ := sub_some e
      have g1 : G1 b = none := by
        cases q : G1 b with
        | none => rfl
        | some u => have := l1 b u q; rw [e1] at this; cases this
      have g2 : sub G G1 b = none := by rw [sub_of g1]; exact e1
      rw [sub_of g2, sub_of g1]; exact e2
theorem Sep.unflat : ∀ {As Rs : List SP} {H : Hp}, Sep (As ++ Rs) H → Sep (Sep As :: Rs) H
  | [], Rs, H, h => ⟨fun _ => none, fun _ _ (e : (none : Option HO) = some _) => (Option.noConfusion rfl (heq_of_eq e)), trivial, Sep.mono (H := H) (fun a o e => by rw [sub_of rfl]; exact e) h⟩
  | A :: As, Rs, H, ⟨G1, l1, a, t⟩ => by
    obtain ⟨G2, l2, b, r⟩ := Sep.unflat (As := As) (Rs := Rs) t
    have d : ∀ x o, G2 x = some o → G1 x = none := fun x o e => (sub_some (l2 x o e)).1
    refine ⟨fun x => if (G1 x).isSome = true then G1 x else G2 x, fun x o e => ?_, ⟨G1, fun x o e => ?_, a, b.mono fun x o e => ?_⟩, r.mono fun x o e => ?_⟩
    · cases q : G1 x with
      | none => simp only [q] at e; exact (sub_some (l2 x o (by simpa using e))).2
      | some u => simp only [q] at e; rw [← e]; exact l1 x u q
    · simp [e]
    · have g := d x o e
      rw [sub_of g]; simp [g, e]
    · obtain ⟨e1, e2⟩ := sub_some e
      obtain ⟨e3, e4⟩ := sub_some e2
      rw [sub_of (by simp [e3, e1])]; exact e4
theorem Sep.ex {α : Type} {P : α → SP} {Ps : List SP} {H : Hp} : Sep ((fun G => ∃ x, P x G) :: Ps) H → ∃ x, Sep (P x :: Ps) H := fun ⟨G, l, ⟨x, h⟩, t⟩ => ⟨x, G, l, h, t⟩
theorem Sep.ex_in {α : Type} {P : α → SP} {Ps : List SP} {H : Hp} (x : α) : Sep (P x :: Ps) H → Sep ((fun G => ∃ x, P x G) :: Ps) H := fun ⟨G, l, h, t⟩ => ⟨G, l, ⟨x, h⟩, t⟩
theorem Sep.pure {p : Prop} {P : SP} {Ps : List SP} {H : Hp} : Sep ((fun G => p ∧ P G) :: Ps) H → p ∧ Sep (P :: Ps) H := fun ⟨G, l, ⟨x, h⟩, t⟩ => ⟨x, G, l, h, t⟩
theorem Sep.pure_in {p : Prop} {P : SP} {Ps : List SP} {H : Hp} (x : p) : Sep (P :: Ps) H → Sep ((fun G => p ∧ P G) :: Ps) H := fun ⟨G, l, h, t⟩ => ⟨G, l, ⟨x, h⟩, t⟩
/-- two known objects stand apart -/
theorem Sep.ne {a b : Addr} {o u : HO} {Ps : List SP} {H : Hp} : Sep (pt a o :: pt b u :: Ps) H → a ≠ b := fun ⟨G, l, h, G2, l2, h2, _⟩ e => by
  subst e
  have q := l2 a u h2
  rw [sub_in (show G a = some o from h)] at q
  cases q
/-- what is kept beside -/
theorem Sep.le_nil {H : Hp} : Sep [] H := trivial
end Kt

set_option Elab.async false
set_option linter.all false
set_option maxRecDepth 100000
namespace Kt
open PySem L2 PyProof.Rows
/-! ### defs of the text by name -/
/-- the def x of the top stands at f -/
structure Dt (K : PySem.W.Frag) (mg : Str → Option Value) (x : Str) (st : Stmt) (ps : List Str) (f : Addr) : Prop where
  fn : ∃ fd, Fun K x x st f fd ∧ Binds K fd ps []
  at_ : mg x = some (.ref f)
structure Df (P : Program) (w : World) (K : PySem.W.Frag) (mg : Str → Option Value) (base : Heap) (k : Nat) (x : Str) (f : Addr) (ps : List Str) (sp : Sp) : Prop where
  fn : ∃ fd, FnOk P w K mg base CX0 k f fd ps sp ∧ Binds K fd ps []
  at_ : mg x = some (.ref f)
  kp : PySem.W.keepIn K (.ref f) = true
section
variable {P : Program} {w : World} {K : PySem.W.Frag} {mg : Str → Option Value} {base : Heap}
theorem Dt.ok {x : Str} {st : Stmt} {f : Addr} {N ps : List Str} {k : Nat} {sp : Sp} (T : Dt K mg x st ps f) (S : FnScope N ps (defScope st)) (len : ∀ vs H Q E, sp vs H Q E → vs.length = ps.length)
    (hbody : ∀ (cdv : Value) (A : Around) (outer : List Env) (s : Shared) (H : Hp) (vs : List V) (Q : VK) (E : XK), Room k (A.deeper (envOfC x (defScope st) s.heap.objs.size f cdv)) → sp vs H Q E →
      ∃ t, PSs (cxOf CX0 P w K mg base N x (defScope st) f cdv A outer s H E).nox (defBody st) t ∧ t { nx := fun _ H' => Q .non H', rt := Q } (start N vs) H) : Df P w K mg base (k + 1) x f ps sp := by
  obtain ⟨fd, F, b⟩ := T.fn
  exact ⟨⟨fd, F.ok S len hbody, b⟩, T.at_, F.kp⟩
end
section
variable {X : Cx} {k : Nat} {x : Str} {f : Addr} {ps : List Str} {sp : Sp} {e : Expr} {es : List Expr} {t : TA} {p pos : Pos}
theorem pe_df (D : Df X.prog X.w X.K X.mg X.base k x f ps sp) (hr : Room k X.A) (ha : PA X (e :: es) t) (hg : Gl X x := by rfl) (hd : (x == ("__debug__" : Str)) = false := by decide)
    (he : starEach (e :: es) X.env = (false, eval e X.env) :: starEach es X.env := by rfl) (hpl : (backTo pos (starEach es X.env)).any (·.1) = false := by rfl) : PE X (.Call (.Name x p) (e :: es) [] pos) (tCall sp [] E0 t) := by
  obtain ⟨fd, F, b⟩ := D.fn
  exact pe_call F hr hg D.at_ D.kp b .nil pass0 ha hd he hpl
theorem pe_df0 (D : Df X.prog X.w X.K X.mg X.base k x f [] sp) (hr : Room k X.A) (hg : Gl X x := by rfl) (hd : (x == ("__debug__" : Str)) = false := by decide) : PE X (.Call (.Name x p) [] [] pos) (tCall sp [] E0 tNil) := by
  obtain ⟨fd, F, b⟩ := D.fn
  exact pe_call0 F hr hg D.at_ D.kp b .nil pass0 hd
end
/-! ### xs[i] as it is read ahead of xs[i] op= .. -/
section
variable {X : Cx}
theorem get_list : PGet X (rIxL X.K) := by
  intro pins s σ H x y v u Q I rx ry h
  obtain ⟨p, xs, i, z, rfl, rfl, hq, he, q⟩ := h
  cases rx
  obtain ⟨t, rfl⟩ := ry
  obtain ⟨its, r, pl, hz⟩ := I.list hq
  obtain ⟨j, h1, h2, h3, h4, h5⟩ := atI_get he
  obtain ⟨w, ew, rw'⟩ := r.get h2
  have hl := r.length
  have hn := line63
  have fin : EP X pins σ Q w s := ⟨z, H, I, rw', q⟩
  by_cases h0 : 0 ≤ i
  · have hj : i.toNat = j := by
      rw [seqIndex_of h0 h5] at h1
      exact Option.some.inj h1
    exact wpAny_getItem_list pl.isList h0 (by omega) (by rw [hj]; simpa using ew) fin
  · have hj : (i + (its.toArray.size : Int)).toNat = j := by
      rw [seqIndex_neg (by omega) h4] at h1
      rw [List.size_toArray, ← hl]
      exact Option.some.inj h1
    exact wpAny_getItem_list_neg pl.isList (by omega) (by rw [List.size_toArray] <;> omega) (by omega) (by rw [hj]; simpa using ew) fin
/-! ### operators that serve several kinds -/
def rOr (r r' : R2) : R2 := fun x y H Q => r x y H Q ∨ r' x y H Q
theorem op_or {f : Value → Value → Sem Value} {r r' : R2} (h : OpR X f r) (h' : OpR X f r') : OpR X f (rOr r r') := OpR.or h h'
def rAddI : R2 := rI0 fun i j => .int (i + j)
def rSubI : R2 := rI0 fun i j => .int (i - j)
def rStrA : R2 := fun x y H Q => ∃ i j, x = .str i ∧ y = .str j ∧ i.length + j.length ≤ sizeLine ∧ Q (.str (i ++ j)) H
def rAddA : R2 := rOr rAddI (rOr rCat rStrA)
theorem op_addA : OpR X (binaryOp .Add) rAddA := op_or op_add (op_or op_cat op_add_str)
def rMulI : R2 := rI CMul fun i j => .int (i * j)
def rMulA : R2 := rOr rMulI rRep
theorem op_mulA : OpR X (binaryOp .Mult) rMulA := op_or op_mul op_rep
def rModI : R2 := rI (fun _ j => 0 < j) fun i j => .int (i % j)
def rDivI : R2 := rI CDiv fun i j => .int (i / j)
def rPowI : R2 := rI CPow fun i j => .int (i ^ j.toNat)
def rEqA (K : PySem.W.Frag) : R2 := rOr rEq (rEqD K)
def rNeA (K : PySem.W.Frag) : R2 := rOr rNe (rNeD K)
theorem op_eqA (hu : X.A.units + 64 < cLine) : OpR X (compareOp .Eq) (rEqA X.K) := op_or op_eq (op_eqD hu)
theorem op_neA (hu : X.A.units + 64 < cLine) : OpR X (compareOp .NotEq) (rNeA X.K) := op_or op_ne (op_neD hu)
def rLtI : R2 := rI0 fun i j => .bl (decide (i < j))
def rLeI : R2 := rI0 fun i j => .bl (decide (i ≤ j))
def rGtI : R2 := rI0 fun i j => .bl (decide (j < i))
def rGeI : R2 := rI0 fun i j => .bl (decide (j ≤ i))
def rIsN : R2 := fun x y H Q => y = .non ∧ Q (.bl (decide (x = .non))) H
def rNotN : R2 := fun x y H Q => y = .non ∧ Q (.bl (!decide (x = .non))) H
def cAbs : List V → Hp → VK → Prop := fun xs H Q => ∃ i, xs = [.int i] ∧ Q (.int (if i < 0 then -i else i)) H
def cInt : List V → Hp → VK → Prop := fun xs H Q => (∃ i, xs = [.int i] ∧ Q (.int i) H) ∨ ∃ k, xs = [.bl k] ∧ Q (.int (if k then 1 else 0)) H
def cMax2 : List V → Hp → VK → Prop := fun xs H Q => ∃ i j, xs = [.int i, .int j] ∧ Q (.int (if j > i then j else i)) H
def cMin2 : List V → Hp → VK → Prop := fun xs H Q => ∃ i j, xs = [.int i, .int j] ∧ Q (.int (if j < i then j else i)) H
def cLenQ (K : PySem.W.Frag) : List V → Hp → VK → Prop := fun xs H Q => ∃ p ys, xs = [.ref p] ∧ (SqL K H p ys ∨ SqT K H p ys) ∧ Q (.int ys.length) H
def cLenS : List V → Hp → VK → Prop := fun xs H Q => ∃ z, xs = [.str z] ∧ z.length ≤ sizeLine ∧ Q (.int z.length) H
def cOr (r r' : List V → Hp → VK → Prop) : List V → Hp → VK → Prop := fun xs H Q => r xs H Q ∨ r' xs H Q
def cList (K : PySem.W.Frag) : List V → Hp → VK → Prop := fun xs H Q => ∃ p ys, xs = [.ref p] ∧ (SqL K H p ys ∨ SqT K H p ys) ∧ ∀ l, H l = none → Q (.ref l) (upd H l (.lst ys))
theorem call_lenA : CallR X (.builtin "len") (cOr (cLenQ X.K) cLenS) := CallR.or call_len_seq call_len_str
theorem call_absA : CallR X (.builtin "abs") cAbs := call_abs
theorem call_intA : CallR X (.type "int") cInt := call_int1
theorem call_listA : CallR X (.type "list") (cList X.K) := call_list_of
end
/-! ### readings, step by step -/
section
variable {K : PySem.W.Frag} {σ : L2.St} {H : Hp} {D : Ends} {Q : VK} {QA : List V → Hp → Prop} {QT : Bool → Hp → Prop} {i : Nat} {v x y : V} {ta tb te : TE} {t u : TS} {tt tu : TT} {tr : TA} {r r' : R2} {g : TG} {n m : Int} {b c : Bool} {Ps Qs : List SP} {a : Addr} {o : HO} {xs ys : List V}
theorem q_seq (h : t { D with nx := u D } σ H) : tSeq t u D σ H := h
theorem q_set (h : te σ H fun x H1 => D.nx (σ.set i (some x)) H1) : tAsg te (gName i) D σ H := h
theorem q_asg (h : te σ H fun x H1 => g x σ H1 D.nx) : tAsg te g D σ H := h
theorem q_ret (h : te σ H D.rt) : tRet te D σ H := h
theorem q_drop (h : te σ H fun _ H1 => D.nx σ H1) : tDrop te D σ H := h
theorem q_next (h : D.nx σ H) : tNext D σ H := h
theorem q_var (e : σ[i]? = some (some v)) (h : Q v H) : tVar i σ H Q := ⟨v, e, h⟩
theorem q_c (h : Q v H) : tC v σ H Q := h
theorem q_op (h : ta σ H fun x H1 => tb σ H1 fun y H2 => r x y H2 Q) : tOp r ta tb σ H Q := h
theorem q_un {f : V → Hp → VK → Prop} (h : ta σ H fun x H1 => f x H1 Q) : tUn f ta σ H Q := h
theorem q_nil (h : QA [] H) : tNil σ H QA := h
theorem q_cons (h : te σ H fun x H1 => tr σ H1 fun xs H2 => QA (x :: xs) H2) : tCons te tr σ H QA := h
theorem q_cb {f : List V → Hp → VK → Prop} (h : tr σ H fun vs H1 => f vs H1 Q) : tCB f tr σ H Q := h
theorem q_call {sp : Sp} {E : XK} (h : tr σ H fun vs H1 => sp vs H1 Q E) : tCall sp [] E tr σ H Q := by
  have e : ∀ vs : List V, vs ++ [] = vs := List.append_nil
  unfold tCall
  simp only [e]
  exact h
theorem q_ifs (h : tt σ H fun b H1 => if b = true then t D σ H1 else u D σ H1) : tIfS tt t u D σ H := h
theorem q_if (h : tt σ H fun c H1 => if c = true then ta σ H1 Q else tb σ H1 Q) : tIf tt ta tb σ H Q := h
theorem q_test (h : te σ H fun x H' => ∃ k, x = .bl k ∧ QT k H') : tTest te σ H QT := h
theorem q_tb (h : te σ H fun x H' => ∃ k, x = .bl k ∧ QT k H') : tB te σ H QT := h
theorem q_bl (h : QT b H) : ∃ k, V.bl b = .bl k ∧ QT k H := ⟨b, rfl, h⟩
theorem q_notT (h : tt σ H fun c H1 => QT (!c) H1) : tNot tt σ H QT := h
theorem q_andT (h : tt σ H fun c H1 => if c = true then tu σ H1 QT else QT false H1) : tAnd tt tu σ H QT := h
theorem q_orT (h : tt σ H fun c H1 => if c = true then QT true H1 else tu σ H1 QT) : tOr tt tu σ H QT := h
theorem q_andV (h : ta σ H fun x H1 => ∃ c, x = .bl c ∧ if c = true then tb σ H1 Q else Q (.bl false) H1) : tAndV ta tb σ H Q := h
theorem q_orV (h : ta σ H fun x H1 => ∃ c, x = .bl c ∧ if c = true then Q (.bl true) H1 else tb σ H1 Q) : tOrV ta tb σ H Q := h
theorem q_notV (h : ta σ H fun x H1 => ∃ c, x = .bl c ∧ Q (.bl (!c)) H1) : tNotV ta σ H Q := h
theorem q_blI {p : Bool → Prop} (h : p b) : ∃ c, V.bl b = .bl c ∧ p c := ⟨b, rfl, h⟩
theorem q_orL (h : r x y H Q) : rOr r r' x y H Q := .inl h
theorem q_orR (h : r' x y H Q) : rOr r r' x y H Q := .inr h
theorem q_rI0 {f : Int → Int → V} (h : Q (f n m) H) : rI0 f (.int n) (.int m) H Q := ⟨n, m, rfl, rfl, h⟩
theorem q_addI (h : Q (.int (n + m)) H) : rAddI (.int n) (.int m) H Q := ⟨n, m, rfl, rfl, h⟩
theorem q_addA (h : Q (.int (n + m)) H) : rAddA (.int n) (.int m) H Q := .inl ⟨n, m, rfl, rfl, h⟩
theorem q_subI (h : Q (.int (n - m)) H) : rSubI (.int n) (.int m) H Q := ⟨n, m, rfl, rfl, h⟩
theorem q_ltI (h : Q (.bl (decide (n < m))) H) : rLtI (.int n) (.int m) H Q := ⟨n, m, rfl, rfl, h⟩
theorem q_leI (h : Q (.bl (decide (n ≤ m))) H) : rLeI (.int n) (.int m) H Q := ⟨n, m, rfl, rfl, h⟩
theorem q_gtI (h : Q (.bl (decide (m < n))) H) : rGtI (.int n) (.int m) H Q := ⟨n, m, rfl, rfl, h⟩
theorem q_geI (h : Q (.bl (decide (m ≤ n))) H) : rGeI (.int n) (.int m) H Q := ⟨n, m, rfl, rfl, h⟩
theorem q_eqI (h : Q (.bl (decide (n = m))) H) : rEqA K (.int n) (.int m) H Q := .inl ⟨rfl, by have e : decide (V.int n = V.int m) = decide (n = m) := decide_eq_decide.mpr ⟨V.int.inj, congrArg _⟩; rw [e]; exact h⟩
theorem q_neI (h : Q (.bl (!decide (n = m))) H) : rNeA K (.int n) (.int m) H Q := .inl ⟨rfl, by have e : decide (V.int n = V.int m) = decide (n = m) := decide_eq_decide.mpr ⟨V.int.inj, congrArg _⟩; rw [e]; exact h⟩
theorem q_mulI (hc : CMul n m) (h : Q (.int (n * m)) H) : rMulA (.int n) (.int m) H Q := .inl ⟨n, m, rfl, rfl, hc, h⟩
theorem q_modI (hc : 0 < m) (h : Q (.int (n % m)) H) : rModI (.int n) (.int m) H Q := ⟨n, m, rfl, rfl, hc, h⟩
theorem q_divI (hc : CDiv n m) (h : Q (.int (n / m)) H) : rDivI (.int n) (.int m) H Q := ⟨n, m, rfl, rfl, hc, h⟩
theorem q_powI (hc : CPow n m) (h : Q (.int (n ^ m.toNat)) H) : rPowI (.int n) (.int m) H Q := ⟨n, m, rfl, rfl, hc, h⟩
theorem q_abs (h : Q (.int (if n < 0 then -n else n)) H) : cAbs [.int n] H Q := ⟨n, rfl, h⟩
theorem q_int (h : Q (.int n) H) : cInt [.int n] H Q := .inl ⟨n, rfl, h⟩
theorem q_intB (h : Q (.int (if b then 1 else 0)) H) : cInt [.bl b] H Q := .inr ⟨b, rfl, h⟩
theorem q_max (h : Q (.int (if m > n then m else n)) H) : cMax2 [.int n, .int m] H Q := ⟨n, m, rfl, h⟩
theorem q_min (h : Q (.int (if m < n then m else n)) H) : cMin2 [.int n, .int m] H Q := ⟨n, m, rfl, h⟩
theorem q_lenL (s : SqL K H a xs) (h : Q (.int (xs.length : Int)) H) : cOr (cLenQ K) cLenS [.ref a] H Q := .inl ⟨a, xs, rfl, .inl s, h⟩
theorem q_lenT (s : SqT K H a xs) (h : Q (.int (xs.length : Int)) H) : cOr (cLenQ K) cLenS [.ref a] H Q := .inl ⟨a, xs, rfl, .inr s, h⟩
theorem q_lenS {z : Str} (s : z.length ≤ sizeLine) (h : Q (.int (z.length : Int)) H) : cOr (cLenQ K) cLenS [.str z] H Q := .inr ⟨z, rfl, s, h⟩
theorem q_ixL (s : SqL K H a xs) (e : atI xs n = some v) (h : Q v H) : rIx K (.ref a) (.int n) H Q := .inl ⟨a, xs, n, v, rfl, rfl, s, e, h⟩
theorem q_ixT (s : SqT K H a xs) (e : atI xs n = some v) (h : Q v H) : rIx K (.ref a) (.int n) H Q := .inr (.inl ⟨a, xs, n, v, rfl, rfl, s, e, h⟩)
theorem q_ixLL (s : SqL K H a xs) (e : atI xs n = some v) (h : Q v H) : rIxL K (.ref a) (.int n) H Q := ⟨a, xs, n, v, rfl, rfl, s, e, h⟩
theorem q_setL {QH : Hp → Prop} {k : Nat} (s : H a = some (.lst xs)) (e : ixN xs.length n = some k) (h : QH (upd H a (.lst (xs.set k v)))) : rSetL (.ref a) (.int n) v H QH := ⟨a, xs, n, k, rfl, rfl, s, e, h⟩
theorem q_ipAdd (h : Q (.int (n + m)) H) : ipI (fun i j => i + j) (.int n) (.int m) H Q := ⟨n, m, rfl, rfl, h⟩
theorem q_ipSub (h : Q (.int (n - m)) H) : ipI (fun i j => i - j) (.int n) (.int m) H Q := ⟨n, m, rfl, rfl, h⟩
theorem q_gsub {to ti : TE} {ts : TSet} {QG : L2.St → Hp → Prop} (h : to σ H fun o H1 => ti σ H1 fun i H2 => ts o i v H2 fun H3 => QG σ H3) : gSub to ti ts v σ H QG := h
theorem q_augs {to ti : TE} {tget : V → V → Hp → VK → Prop} {tip : TIp} {tset : TSet} (h : to σ H fun o H1 => ti σ H1 fun i H2 => tget o i H2 fun x H3 => te σ H3 fun y H4 => tip x y H4 fun z H5 => tset o i z H5 fun H6 => D.nx σ H6) :
    tAugS to ti te tget tip tset D σ H := h
theorem q_aug {ti : TIp} (e : σ[i]? = some (some x)) (h : te σ H fun y H1 => ti x y H1 fun z H2 => D.nx (σ.set i (some z)) H2) : tAug i te ti D σ H := ⟨x, e, h⟩
def kLst (Q : VK) : List V → Hp → Prop := fun xs H1 => xs.length ≤ sizeLine ∧ ∀ p, H1 p = none → Q (.ref p) (upd H1 p (.lst xs))
def kTup (Q : VK) : List V → Hp → Prop := fun xs H1 => xs.length ≤ sizeLine ∧ ∀ p, H1 p = none → Q (.ref p) (upd H1 p (.tup xs))
theorem q_lst (h : tr σ H (kLst Q)) : tLst tr σ H Q := h
theorem q_tup (h : tr σ H (kTup Q)) : tTup tr σ H Q := h
/-- a new object, known from then on -/
theorem q_new (S : Sep Ps H) (hl : xs.length ≤ 1000) (h : ∀ p H', Sep (pt p (.lst xs) :: Ps) H' → Q (.ref p) H') : kLst Q xs H := ⟨Nat.le_trans hl (by decide), fun p np => h p _ (S.new _ np)⟩
theorem q_newT (S : Sep Ps H) (hl : xs.length ≤ 1000) (h : ∀ p H', Sep (pt p (.tup xs) :: Ps) H' → Q (.ref p) H') : kTup Q xs H := ⟨Nat.le_trans hl (by decide), fun p np => h p _ (S.new _ np)⟩
theorem Sep.sq (S : Sep Ps H) (p : Pick (pt a (.lst xs)) Ps Qs) : SqL K H a xs := SqL.of (S.at_ p)
theorem Sep.st (S : Sep Ps H) (p : Pick (pt a (.tup xs)) Ps Qs) : SqT K H a xs := SqT.of (S.at_ p)
theorem q_fld {C dx : Addr} {fs : List (Str × V)} {f : Str} (h : ta σ H fun x H1 => ∃ a C dx fs v, x = .ref a ∧ H1 a = some (.ins C dx fs) ∧ Cls K C ∧ NoAttr K C f ∧ fs.lookup f = some v ∧ Q v H1) : tFld K ta f σ H Q := h
theorem q_fldA {C dx : Addr} {fs : List (Str × V)} {f : Str} (s : H a = some (.ins C dx fs)) (c : Cls K C) (na : NoAttr K C f) (l : fs.lookup f = some v) (h : Q v H) :
    ∃ a' C dx fs v, V.ref a = .ref a' ∧ H a' = some (.ins C dx fs) ∧ Cls K C ∧ NoAttr K C f ∧ fs.lookup f = some v ∧ Q v H := ⟨a, C, dx, fs, v, rfl, s, c, na, l, h⟩
theorem q_ite {p A B : Prop} [Decidable p] (h1 : p → A) (h2 : ¬ p → B) : if decide p = true then A else B := by
  by_cases h : p
  · rw [decide_eq_true h]; exact iteT (h1 h)
  · rw [decide_eq_false h]; exact iteF (h2 h)
theorem q_iteN {p A B : Prop} [Decidable p] (h1 : ¬ p → A) (h2 : p → B) : if (!decide p) = true then A else B := by
  by_cases h : p
  · rw [decide_eq_true h]; exact iteF (h2 h)
  · rw [decide_eq_false h]; exact iteT (h1 h)
theorem q_iteB {b : Bool} {A B : Prop} (h1 : b = true → A) (h2 : b = false → B) : if b = true then A else B := by
  cases b
  · exact iteF (h2 rfl)
  · exact iteT (h1 rfl)
theorem iteNT {A B : Prop} (h : B) : if (!true) = true then A else B := iteF h
theorem iteNF {A B : Prop} (h : A) : if (!false) = true then A else B := iteT h
theorem q_cut {Mid : L2.St → Hp → Prop} (h : t { D with nx := Mid } σ H) (k : ∀ σ' H', Mid σ' H' → u D σ' H') : C8.tCut t u D σ H := ⟨Mid, h, k⟩
theorem q_setS {QH : Hp → Prop} {k : Nat} (S : Sep Ps H) (r : Repl a (.lst xs) (.lst (xs.set k v)) Ps Qs) (e : ixN xs.length n = some k) (h : ∀ H', Sep Qs H' → QH H') : rSetL (.ref a) (.int n) v H QH :=
  ⟨a, xs, n, k, rfl, rfl, by obtain ⟨Rs, p, _⟩ := r.pick; exact S.at_ p, e, h _ (S.set r)⟩
theorem at_i {α : Type} {xs : List α} (h0 : 0 ≤ n) (h1 : n < xs.length) : ∃ w, atI xs n = some w ∧ w ∈ xs := by
  obtain ⟨j, rfl⟩ := Int.eq_ofNat_of_zero_le h0
  have hj : j < xs.length := by omega
  exact ⟨xs[j], atI_nat (List.getElem?_eq_getElem hj), List.getElem_mem hj⟩
end
end Kt

set_option Elab.async false
set_option linter.all false
set_option maxRecDepth 100000
namespace Kt
open PySem L2 PyProof.Rows
/-! ### classes and their methods by name -/
structure Mt (K : PySem.W.Frag) (C : Addr) (m qual : Str) (st : Stmt) (ps : List Str) (f : Addr) : Prop where
  fn : ∃ fd, Fun K m qual st f fd ∧ Binds K fd ps []
  at_ : Meth K C m f
structure Mf (P : Program) (w : World) (K : PySem.W.Frag) (mg : Str → Option Value) (base : Heap) (k : Nat) (C : Addr) (m : Str) (ps : List Str) (sp : Sp) : Prop where
  fn : ∃ f fd, FnOk P w K mg base CX0 k f fd ps sp ∧ Binds K fd ps [] ∧ Meth K C m f
  cls : Cls K C
structure Ct (K : PySem.W.Frag) (mg : Str → Option Value) (x : Str) (C f : Addr) : Prop where
  at_ : mg x = some (.ref C)
  mkr : Mk K C f
/-- a class that may be called: its __init__'s promise -/
structure Cf (P : Program) (w : World) (K : PySem.W.Frag) (mg : Str → Option Value) (base : Heap) (k : Nat) (x : Str) (C : Addr) (ps : List Str) (sp : Sp) : Prop where
  fn : ∃ f fd, FnOk P w K mg base CX0 k f fd ps sp ∧ Binds K fd ps [] ∧ Mk K C f
  at_ : mg x = some (.ref C)
section
variable {P : Program} {w : World} {K : PySem.W.Frag} {mg : Str → Option Value} {base : Heap}
theorem Mt.ok {C : Addr} {x qual : Str} {st : Stmt} {f : Addr} {N ps : List Str} {k : Nat} {sp : Sp} (T : Mt K C x qual st ps f) (c : Cls K C) (S : FnScope N ps (defScope st)) (len : ∀ vs H Q E, sp vs H Q E → vs.length = ps.length)
    (hbody : ∀ (cdv : Value) (A : Around) (outer : List Env) (s : Shared) (H : Hp) (vs : List V) (Q : VK) (E : XK), Room k (A.deeper (envOfC qual (defScope st) s.heap.objs.size f cdv)) → sp vs H Q E →
      ∃ t, PSs (cxOf CX0 P w K mg base N qual (defScope st) f cdv A outer s H E).nox (defBody st) t ∧ t { nx := fun _ H' => Q .non H', rt := Q } (start N vs) H) : Mf P w K mg base (k + 1) C x ps sp := by
  obtain ⟨fd, F, b⟩ := T.fn
  exact ⟨⟨f, fd, F.ok S len hbody, b, T.at_⟩, c⟩
theorem Mf.cf {C f : Addr} {x : Str} {ps : List Str} {k : Nat} {sp : Sp} (M : Mf P w K mg base k C "__init__" ps sp) (T : Ct K mg x C f) : Cf P w K mg base k x C ps sp := by
  obtain ⟨g, fd, F, b, m⟩ := M.fn
  have e : g = f := by
    have h1 := m.at_
    rw [T.mkr.init] at h1
    cases h1
    rfl
  subst e
  exact ⟨⟨g, fd, F, b, T.mkr⟩, T.at_⟩
end
section
variable {X : Cx} {k : Nat} {x m : Str} {C : Addr} {ps : List Str} {sp : Sp} {o e : Expr} {es : List Expr} {to : TE} {t : TA} {p pos apos : Pos}
theorem pe_mf {pl : Sem Bool} (M : Mf X.prog X.w X.K X.mg X.base k C m ps sp) (hr : Room k X.A) (ho : PE X o to) (ha : PA X (e :: es) t)
    (hst : starEach (e :: es) X.env = (false, eval e X.env) :: starEach es X.env := by rfl) (hpl : (backTo pos (starEach es X.env)).any (·.1) = false := by rfl)
    (ht : eval (.Call (.Attribute o m apos) (e :: es) [] pos) X.env = (do
      let ov ← eval o X.env
      standAt apos.atName
      let (f, first) ← holding [ov] (getMethod ov m pl)
      callWith pos f first (backTo pos (starEach (e :: es) X.env)) (backToKw pos (keywordEach [] X.env))) := by rfl) : PE X (.Call (.Attribute o m apos) (e :: es) [] pos) (tMeth C m sp [] E0 to t) := by
  obtain ⟨f, fd, F, b, hm⟩ := M.fn
  exact pe_meth ho M.cls hm F hr b .nil pass0 ha hst hpl ht
theorem pe_mf0 {pl : Sem Bool} (M : Mf X.prog X.w X.K X.mg X.base k C m ps sp) (hr : Room k X.A) (ho : PE X o to)
    (ht : eval (.Call (.Attribute o m apos) [] [] pos) X.env = (do
      let ov ← eval o X.env
      standAt apos.atName
      let (f, first) ← holding [ov] (getMethod ov m pl)
      callWith pos f first [] []) := by rfl) : PE X (.Call (.Attribute o m apos) [] [] pos) (tMeth C m sp [] E0 to tNil) := by
  obtain ⟨f, fd, F, b, hm⟩ := M.fn
  exact pe_meth0 ho M.cls hm F hr b .nil pass0 ht
theorem pe_cf (M : Cf X.prog X.w X.K X.mg X.base k x C ps sp) (hr : Room (k + 1) X.A) (ha : PA X (e :: es) t) (hg : Gl X x := by rfl) (hd : (x == ("__debug__" : Str)) = false := by decide)
    (he : starEach (e :: es) X.env = (false, eval e X.env) :: starEach es X.env := by rfl) (hpl : (backTo pos (starEach es X.env)).any (·.1) = false := by rfl) : PE X (.Call (.Name x p) (e :: es) [] pos) (tMake C sp [] E0 t) := by
  obtain ⟨f, fd, F, b, M'⟩ := M.fn
  exact pe_make M' F hr hg M.at_ b .nil pass0 ha hd he hpl
end
/-! ### own operators of instances -/
section
variable {X : Cx} {k : Nat} {C : Addr} {ps : List Str} {sp : Sp}
theorem ins_at {pins : List (Addr × Obj)} {σ : L2.St} {H : Hp} {s : Shared} {a dx : Addr} {fs : List (Str × V)} (I : Inv X pins σ H s) (h : H a = some (.ins C dx fs)) : ∃ ox od, PySem.W.InstAt s.heap a ox C od := by
  obtain ⟨mA, O, _⟩ := ins_get I.hok h
  obtain ⟨od, J, _⟩ := O.look
  exact ⟨_, _, J⟩
/-- o[i] = v by an own __setitem__ -/
def rSetOwn (C : Addr) (sp : Sp) : TSet := fun o i v H Q => ∃ a dx fs, o = .ref a ∧ H a = some (.ins C dx fs) ∧ sp [.ref a, i, v] H (fun _ H' => Q H') E0
theorem set_own (M : Mf X.prog X.w X.K X.mg X.base k C "__setitem__" ps sp) (hr : Room k X.A) (hq : PySem.W.noSeq X.K C = true) : PSet X (rSetOwn C sp) := by
  intro pins s σ H o i v ov iv u Q I ro ri rv h
  obtain ⟨a, dx, fs, rfl, ha, q⟩ := h
  cases (show ov = Value.ref a from ro)
  obtain ⟨f, fd, F, b, hm⟩ := M.fn
  obtain ⟨ox, od, J⟩ := ins_at I ha
  obtain ⟨m, hF⟩ := I.fr
  refine PySem.W.ksp_setItem hF I.ok.mod.kin J hq hm.at_ hm.fn ?_
  exact wpAny_mono (run_fn (us := [.ref a, iv, u]) (vs := [.ref a, i, v]) F hr b .nil pass0 I (.cons rfl (.cons ri (.cons rv .nil))) (by rw [List.append_nil]; exact q)) (fun z s' ⟨y, H', I', r', q'⟩ => ⟨H', I', q'⟩) fun _ _ z => z
/-- x += y by an own __iadd__ -/
def rInpOwn (C : Addr) (sp : Sp) : TIp := fun x y H Q => ∃ a dx fs, x = .ref a ∧ H a = some (.ins C dx fs) ∧ sp [.ref a, y] H Q E0
theorem ip_own (M : Mf X.prog X.w X.K X.mg X.base k C "__iadd__" ps sp) (hr : Room k X.A) (hc : PySem.W.selfFirst X.K C = true) : PIp X .Add (rInpOwn C sp) := by
  intro pins s σ H x y v u Q I rx ry h
  obtain ⟨a, dx, fs, rfl, ha, q⟩ := h
  cases (show v = Value.ref a from rx)
  obtain ⟨f, fd, F, b, hm⟩ := M.fn
  obtain ⟨ox, od, J⟩ := ins_at I ha
  obtain ⟨m, hF⟩ := I.fr
  refine PySem.W.ksp_inplace (op := .Add) hF I.ok.mod.kin J hc hm.at_ hm.fn ?_
  exact wpAny_mono (run_fn (us := [.ref a, u]) (vs := [.ref a, y]) F hr b .nil pass0 I (.cons rfl (.cons ry .nil)) (by rw [List.append_nil]; exact q)) (fun z s' ⟨y', H', I', r', q'⟩ => SlX.cmpback r' ⟨y', H', I', r', q'⟩) fun _ _ z => z
end
/-! ### xs[a:c] = ys -/
section
variable {X : Cx} {o e : Expr} {lo hi : Option Expr} {to te : TE} {tl th : TO} {p2 pos tpos : Pos}
/-- the bounds of a slice that may reach beyond the end -/
theorem bounds_clip (a c n : Nat) (h : a ≤ n) : sliceBounds (some (a : Int)) (some (c : Int)) none n = ((a : Int), ((min c n : Nat) : Int), 1) := by
  have p1 : ¬ ((a : Int) < 0) := by omega
  have p2 : ¬ ((c : Int) < 0) := by omega
  simp only [sliceBounds, Option.getD_none, p1, p2, if_false, show (1 : Int) > 0 from by decide, if_true]
  refine Prod.ext ?_ (Prod.ext ?_ rfl)
  · show max 0 (min (a : Int) (n : Int)) = a; omega
  · show max 0 (min (c : Int) (n : Int)) = ((min c n : Nat) : Int); omega
theorem setItem_clip {prog : Program} {w : World} {A : Around} {E : Value → Shared → Prop} {s : Shared} {l b sl : Addr} {u v : List Value} {n n2 : Nat} {vl vu : Value} {a c : Nat} {Q : Unit → Shared → Prop}
    (e : s.heap.get? l = some { cls := .type "list", data := .seq u.toArray n }) (e2 : s.heap.get? b = some { cls := .type "list", data := .seq v.toArray n2 }) (hne : l ≠ b) (hs : s.heap.IsSliceOf sl vl vu .none)
    (pl : IsPart vl (some (a : Int))) (pu : IsPart vu (some (c : Int))) (ha : a ≤ u.length) (hac : a ≤ c) (hz : u.length + v.length ≤ sizeLine)
    (h : Q () { s with heap := s.heap.update l (Obj.mapSeq fun xs => xs.extract 0 a ++ v.toArray ++ xs.extract (min c u.length) xs.size) }) : wpAny (model prog w) A (setItem (.ref l) (.ref sl) (.ref b)) Q E s := by
  have lst : s.heap.IsList l u.toArray ∧ s.heap.IsList b v.toArray := ⟨PySem.IsL.isList e, PySem.IsL.isList e2⟩
  obtain ⟨os, g1, g2, g3⟩ := hs
  have ty : s.TypeIs (.ref sl) "slice" := ⟨os, g1, g2⟩
  have apart : Builtin.List.listSameRef (.ref l) (.ref b) = false := beq_eq_false_iff_ne.mpr hne
  have top : (max (a : Int) ((min c u.length : Nat) : Int)).toNat = min c u.length := by omega
  have fit : u.toArray.size + v.toArray.size ≤ sizeLine := by simpa using hz
  have out : ((fun xs : Array Value => xs.extract 0 a ++ v.toArray ++ xs.extract (min c u.length) xs.size) u.toArray).size ≤ sizeLine + 1 := by simp; omega
  have bd : sliceBounds (some (a : Int)) (some (c : Int)) none u.toArray.size = ((a : Int), ((min c u.length : Nat) : Int), 1) := by simpa using bounds_clip a c u.length ha
  unfold setItem
  refine wpAny_holding (wpAny_bind (wpAny_sequenceKey lst.1.typeIs (by decide) (wpAny_bind ?_)))
  refine wpAny_callSpecial?_slot (name := Str.ofString "__setitem__") lst.1.typeIs slot_list_setitem (wpAny_call_entry slot_list_setitem lst.1.typeIs entry_list_setitem ?_ (args_list_setitem _ _ _))
  show wpAny _ _ (Builtin.List.listSubscript? (Value.ref sl) >>= _) _ _ _
  unfold Builtin.List.listSubscript?
  refine wpAny_bind (wpAny_bind (wpAny_specialOf ty slice_no_index ?_))
  rw [if_pos (by rfl)]
  refine wpAny_pure (wpAny_bind (wpAny_typeOf ty ?_))
  rw [if_neg (by decide), listSliceParts_eq]
  refine wpAny_bind (wpAny_bind (wpAny_field g1 g3 (x := .none) rfl (wpAny_bind (wpAny_listPart IsPart.none ?_))))
  rw [if_neg (show ¬ ((rawPart none == rawInt 0) = true) from Bool.false_ne_true)]
  refine wpAny_bind (wpAny_field g1 g3 (x := vl) rfl (wpAny_bind (wpAny_listPart pl (wpAny_bind (wpAny_field g1 g3 (x := vu) rfl (wpAny_bind (wpAny_listPart pu (wpAny_pure ?_))))))))
  dsimp only
  rw [if_neg (by rw [apart]; exact Bool.false_ne_true)]
  refine wpAny_bind (m := Builtin.List.listAllItems (Value.ref b) _) ?_
  unfold Builtin.List.listAllItems
  refine wpAny_bind (wpAny_typeOf lst.2.typeIs (PySem.W.KFB.if_so (by decide) ?_))
  unfold Builtin.List.listItems
  refine wpAny_bind (wpAny_seqItems e2 rfl (wpAny_pure (wpAny_bind (wpAny_bind (wpAny_seqItems e rfl (wpAny_pure ?_))))))
  have si := sliceIndices_raw (some (a : Int)) (some (c : Int)) none u.toArray.size (by simp)
  rw [bd] at si
  refine wpAny_bind (wpAny_of_eq si ?_)
  dsimp only
  rw [if_pos (by decide)]
  refine wpAny_bind (wpAny_rule (PySem.W.KFB.if_not (notLongL fit) ?_))
  have key : wpAny (model prog w) A.in1 (updateSeq l fun xs => xs.extract 0 (a : Int).toNat ++ v.toArray ++ xs.extract (max (a : Int) ((min c u.length : Nat) : Int)).toNat xs.size) (fun _ s' => s' = { s with heap := s.heap.update l (Obj.mapSeq fun xs => xs.extract 0 a ++ v.toArray ++ xs.extract (min c u.length) xs.size) }) (fun _ _ => False) s := by
    rw [top, Int.toNat_natCast]
    exact wpAny_updateSeq (hz := Nat.le_trans (Nat.le_add_right _ _) fit) (_hz' := out) e rfl rfl
  refine wpAny_bind (wpAny_mono key (fun _ s' es => ?_) fun _ _ z => z.elim)
  subst es
  exact wpAny_bind (wpAny_letGo (wpAny_pure ⟨.none, rfl, wpAny_pure h⟩))
/-- o[lo:hi] = v: the list that is written, and another one -/
def gSl (to : TE) (tl th : TO) : TG := fun v σ H Q => to σ H fun x H1 => tl σ H1 fun lo H2 => th σ H2 fun hi H3 => ∃ (l b : Addr) (xs ys : List V) (a c : Nat), x = .ref l ∧ v = .ref b ∧ lo = some (a : Int) ∧ hi = some (c : Int) ∧
  H3 l = some (.lst xs) ∧ H3 b = some (.lst ys) ∧ l ≠ b ∧ a ≤ xs.length ∧ a ≤ c ∧ xs.length + ys.length ≤ sizeLine ∧ Q σ (upd H3 l (.lst (xs.take a ++ ys ++ xs.drop c)))
theorem pg_slice (ho : PE X o to) (hl : PO X lo tl) (hu : PO X hi th)
    (ha : ∀ v, assign (.Subscript o (.Slice lo hi none p2) tpos) X.env v = (do
      let ov ← holding [v] (eval o X.env)
      let iv ← holding [v, ov] (eval (.Slice lo hi none p2) X.env)
      standAt tpos
      holding [v, ov, iv] (setItem ov iv v)
      release [iv, v, ov] []) := by intro _; rfl) : PG X (.Subscript o (.Slice lo hi none p2) tpos) (gSl to tl th) := by
  refine ⟨fun pins s σ H v u Q I r h => ?_⟩
  rw [ha]
  refine wpAny_bind (wpAny_holding (thn (ho.run pins s σ H _ I h) fun ov s1 ⟨x, H1, I1, r1, q1⟩ => ?_))
  refine wpAny_bind (wpAny_holding (wpAny_Slice (thn (hl.run pins s1 σ H1 _ I1 q1) fun vl s2 ⟨z1, H2, I2, pl, q2⟩ => thn (hu.run pins s2 σ H2 _ I2 q2) fun vu s3 ⟨z2, H3, I3, pu, q3⟩ => ?_)))
  obtain ⟨l, b, xs, ys, a, c, rfl, rfl, rfl, rfl, hL, hB, hne, h1, h2, hz, q⟩ := q3
  cases (show ov = Value.ref l from r1)
  cases (show u = Value.ref b from r)
  rw [evalPart_none]
  have I4 : Inv X pins σ H3 { s3 with heap := s3.heap.push { cls := .type "slice", data := .fields #[vl, vu, .none] } } := I3.kept (t' := s3.toks) fun _ _ z => Heap.get?_push_of_some _ z
  refine wpAny_pure ?_
  obtain ⟨z, u1, n1, r1', hl1, e1⟩ := I4.lstM hL
  obtain ⟨z2, u2, n2, r2', hl2, e2⟩ := I4.lstM hB
  refine wpAny_bind (wpAny_standAt (wpAny_bind (wpAny_holding (setItem_clip e1 e2 hne (Heap.IsSliceOf.new ..) pl pu (by omega) h2 (by omega) (wpAny_release ⟨σ, _, ?_, q⟩)))))
  refine I4.lset (its' := u1.take a ++ u2 ++ u1.drop (min c u1.length)) (t' := s3.toks) hL e1 (splice_eq u1 u2 a _) ?_ ?_
  · have e3 : xs.drop c = xs.drop (min c u1.length) := by
      by_cases hc : c ≤ u1.length
      · rw [Nat.min_eq_left hc]
      · rw [Nat.min_eq_right (by omega), List.drop_eq_nil_of_le (by omega), List.drop_eq_nil_of_le (by omega)]
    rw [e3]
    exact Vals.append (Vals.append (r1'.take _) r2') (r1'.drop _)
  · rw [List.length_append, List.length_append, List.length_take, List.length_drop]
    omega
end
end Kt

set_option Elab.async false
set_option linter.all false
set_option maxRecDepth 100000
namespace Kt
open PySem L2 PyProof.Rows
/-! ### fields as written lists -/
theorem lk_eq {f : Str} {v : V} {r : List (Str × V)} : List.lookup f ((f, v) :: r) = some v := by simp
theorem lk_ne {f g : Str} {v : V} {r : List (Str × V)} (h : f ≠ g) : List.lookup f ((g, v) :: r) = List.lookup f r := by
  have e : (f == g) = false := beq_eq_false_iff_ne.mpr h
  simp [List.lookup_cons, e]
theorem pf_nil {f : Str} {v : V} : putF f v [] = [(f, v)] := rfl
theorem pf_eq {f : Str} {v x : V} {r : List (Str × V)} : putF f v ((f, x) :: r) = (f, v) :: r := if_pos rfl
theorem pf_ne {f g : Str} {v x : V} {r r' : List (Str × V)} (h : g ≠ f) (e : putF f v r = r') : putF f v ((g, x) :: r) = (g, x) :: r' := by
  rw [← e]
  exact if_neg h
section
variable {X : Cx} {e o value : Expr} {ta tv : TE} {f : Str} {pos pos' : Pos}
theorem pe_fldK (K : PySem.W.Frag) (he : PE X e ta) (hK : X.K = K := by rfl) (hb : attributeBase e f X.env (eval e X.env) = eval e X.env := by rfl) : PE X (.Attribute e f pos) (tFld K ta f) := hK ▸ pe_fld he hb
theorem ps_fldK (K : PySem.W.Frag) (ha : PE X o ta) (hv : PE X value tv) (hK : X.K = K := by rfl) (hs : swapsWith value (some (.Attribute o f pos')) pos.line X.env = pure false := by rfl) : PS X (.Assign [.Attribute o f pos'] value pos) (sFld K ta tv f) := hK ▸ ps_fld ha hv hs
theorem pi_listK (K : PySem.W.Frag) {tg l : Expr} {tl : TE} (hl : PE X l tl) (hK : X.K = K := by rfl) : PI X tg l (iList K tl) := hK ▸ pi_list hl
theorem pi_tupK (K : PySem.W.Frag) {tg l : Expr} {tl : TE} (hl : PE X l tl) (hK : X.K = K := by rfl) : PI X tg l (iTup K tl) := hK ▸ pi_tup hl
theorem pg_tupK (K : PySem.W.Frag) {es : List Expr} {k n : Nat} {t : TGs} (hc : X.calm = true) (h : PGs X es t) (hK : X.K = K := by rfl) (hn : (assignEach es X.env).length = n := by rfl) (hst : (assignEach es X.env).findIdx? (·.1) = none := by rfl) : PG X (.Tuple es k pos) (gTup K n t) := hK ▸ pg_tup hc h hn hst
theorem pg_unlK (K : PySem.W.Frag) {es : List Expr} {k n : Nat} {t : TGs} (hc : X.calm = true) (h : PGs X es t) (hK : X.K = K := by rfl) (hn : (assignEach es X.env).length = n := by rfl) (hst : (assignEach es X.env).findIdx? (·.1) = none := by rfl) : PG X (.Tuple es k pos) (gUnl K n t) := hK ▸ pg_unl hc h hn hst
theorem pe_bmK (K : PySem.W.Frag) {es : List Expr} {to : TE} {t : TA} {name : Str} {apos cpos : Pos} {T id : String} {r : V → List V → Hp → VK → Prop} (pa : PlainAttrs T) (slot : Slot T name id) (hty : typeOf (.builtin id) = pure (.type "method_descriptor")) (hm : MtR X id r) (ho : PE X o to) (ha : PA X (e :: es) t) (hK : X.K = K := by rfl)
    (hbase : attributeBase o name X.env (eval o X.env) = eval o X.env := by rfl)
    (hfew : ((backTo cpos (starEach (e :: es) X.env)).all (fun x => !x.1) && (backToKw cpos (keywordEach [] X.env)).all (fun x => x.1.isSome)
      && decide ((e :: es).length + ([] : List Keyword).length + (if ([] : List Keyword).isEmpty then 0 else 1) < 30)) = true := by rfl)
    (hline : (apos.endLine == cpos.line) = true := by rfl) (hs : starEach (e :: es) X.env = (false, eval e X.env) :: starEach es X.env := by rfl) (hplain : (backTo cpos (starEach es X.env)).any (·.1) = false := by rfl) :
    PE X (.Call (.Attribute o name apos) (e :: es) [] cpos) (tBM K T r to t) := hK ▸ pe_bm pa slot hty hm ho ha hbase hfew hline hs hplain
theorem pe_bm0K (K : PySem.W.Frag) {to : TE} {name : Str} {apos cpos : Pos} {T id : String} {r : V → List V → Hp → VK → Prop} (pa : PlainAttrs T) (slot : Slot T name id) (hty : typeOf (.builtin id) = pure (.type "method_descriptor")) (hm : MtR X id r) (ho : PE X o to) (hK : X.K = K := by rfl)
    (hbase : attributeBase o name X.env (eval o X.env) = eval o X.env := by rfl) (hline : (apos.endLine == cpos.line) = true := by rfl) : PE X (.Call (.Attribute o name apos) [] [] cpos) (tBM0 K T r to) := hK ▸ pe_bm0 pa slot hty hm ho hbase hline
end
section
variable {K : PySem.W.Frag} {σ : L2.St} {H : Hp} {D : Ends} {Q : VK} {QA : List V → Hp → Prop} {QT : Bool → Hp → Prop} {QG : L2.St → Hp → Prop} {i : Nat} {v x y : V} {ta tb te : TE} {t u : TS} {tr : TA} {g : TG} {n m : Int} {b c : Bool} {Ps Qs : List SP} {a : Addr} {o : HO} {xs ys : List V} {C dx : Addr} {fs fs' : List (Str × V)} {f : Str} {sp : Sp}
def kFld (K : PySem.W.Frag) (f : Str) (Q : VK) : V → Hp → Prop := fun x H1 => ∃ a C dx fs v, x = .ref a ∧ H1 a = some (.ins C dx fs) ∧ Cls K C ∧ NoAttr K C f ∧ fs.lookup f = some v ∧ Q v H1
theorem r_fld (h : ta σ H (kFld K f Q)) : tFld K ta f σ H Q := h
theorem r_kfld (S : Sep Ps H) (p : Pick (pt a (.ins C dx fs)) Ps Qs) (c : Cls K C) (na : NoAttr K C f) (l : fs.lookup f = some v) (h : Q v H) : kFld K f Q (.ref a) H := ⟨a, C, dx, fs, v, rfl, S.at_ p, c, na, l, h⟩
def kSet (K : PySem.W.Frag) (f : Str) (y : V) (Q : Hp → Prop) : V → Hp → Prop := fun x H2 => ∃ a C dx fs, x = .ref a ∧ H2 a = some (.ins C dx fs) ∧ Cls K C ∧ NoAttr K C f ∧ fs.length < 1000 ∧ Q (upd H2 a (.ins C dx (putF f y fs)))
theorem r_sfld (h : tb σ H fun y H1 => ta σ H1 (kSet K f y (D.nx σ))) : sFld K ta tb f D σ H := h
theorem r_kset {QH : Hp → Prop} (S : Sep Ps H) (r : Repl a (.ins C dx fs) (.ins C dx fs') Ps Qs) (c : Cls K C) (na : NoAttr K C f) (hl : fs.length < 1000) (e : putF f y fs = fs') (h : ∀ H', Sep Qs H' → QH H') : kSet K f y QH (.ref a) H :=
  ⟨a, C, dx, fs, rfl, by obtain ⟨Rs, p, _⟩ := r.pick; exact S.at_ p, c, na, hl, by rw [e]; exact h _ (S.set r)⟩
def kMeth (C : Addr) (m : Str) (sp : Sp) (t : TA) (σ : L2.St) (Q : VK) : V → Hp → Prop := fun x H1 => ∃ a dx fs, x = .ref a ∧ H1 a = some (.ins C dx fs) ∧ fs.lookup m = none ∧ t σ H1 fun vs H2 => sp (x :: vs) H2 Q E0
theorem r_meth {m : Str} (h : ta σ H (kMeth C m sp tr σ Q)) : tMeth C m sp [] E0 ta tr σ H Q := by
  unfold tMeth
  simp only [List.append_nil]
  exact h
theorem r_kmeth {m : Str} (S : Sep Ps H) (p : Pick (pt a (.ins C dx fs)) Ps Qs) (l : fs.lookup m = none) (h : tr σ H fun vs H2 => sp (.ref a :: vs) H2 Q E0) : kMeth C m sp tr σ Q (.ref a) H := ⟨a, dx, fs, rfl, S.at_ p, l, h⟩
def kNew (C : Addr) (sp : Sp) (Q : VK) : List V → Hp → Prop := fun vs H1 => ∀ x dx, H1 x = none → H1 dx = none → dx ≠ x → sp (.ref x :: vs) (upd (upd H1 dx (.own x)) x (.ins C dx [])) (fun v H2 => v = .non ∧ Q (.ref x) H2) E0
theorem r_make (h : tr σ H (kNew C sp Q)) : tMake C sp [] E0 tr σ H Q := by
  unfold tMake
  simp only [List.append_nil]
  exact h
theorem Sep.made {Ps : List SP} {H : Hp} {x dx C : Addr} (S : Sep Ps H) (h1 : H x = none) (h2 : H dx = none) (ne : dx ≠ x) : Sep (pt x (.ins C dx []) :: Ps) (upd (upd H dx (.own x)) x (.ins C dx [])) :=
  Sep.new _ ((S.new _ h2).tl) (by rw [upd_ne (Ne.symm ne)]; exact h1)
theorem r_knew {vs : List V} (S : Sep Ps H) (h : ∀ x dx H', Sep (pt x (.ins C dx []) :: Ps) H' → sp (.ref x :: vs) H' (fun v H2 => v = .non ∧ Q (.ref x) H2) E0) : kNew C sp Q vs H := fun x dx h1 h2 ne => h x dx _ (S.made h1 h2 ne)
/-- slices of lists -/
def kSl (K : PySem.W.Frag) (Q : VK) : V → Option Int → Option Int → Hp → Prop := fun x lo hi H => rSlL K x lo hi H Q
theorem r_sl {tl th : TO} (h : te σ H fun x H1 => tl σ H1 fun l H2 => th σ H2 fun u H3 => kSl K Q x l u H3) : tSl (rSlL K) te tl th σ H Q := h
theorem r_nopart {QO : Option Int → Hp → Prop} (h : QO none H) : tNoPart σ H QO := h
def kPart (QO : Option Int → Hp → Prop) : V → Hp → Prop := fun x H1 => ∃ i, x = .int i ∧ QO (some i) H1
theorem r_part {QO : Option Int → Hp → Prop} (h : te σ H (kPart QO)) : tPart te σ H QO := h
theorem r_parti {QO : Option Int → Hp → Prop} (h : QO (some n) H) : kPart QO (.int n) H := ⟨n, rfl, h⟩
theorem r_ksl {lo hi : Option Int} (S : Sep Ps H) (s : SqL K H a xs) (h : ∀ p H', Sep (pt p (.lst (cutV xs lo hi)) :: Ps) H' → Q (.ref p) H') : kSl K Q (.ref a) lo hi H := ⟨a, xs, rfl, s, fun p np => h p _ (S.new _ np)⟩
theorem r_gsl {to : TE} {tl th : TO} (h : to σ H fun x H1 => tl σ H1 fun lo H2 => th σ H2 fun hi H3 => ∃ (l b : Addr) (xs ys : List V) (a c : Nat), x = .ref l ∧ v = .ref b ∧ lo = some (a : Int) ∧ hi = some (c : Int) ∧
  H3 l = some (.lst xs) ∧ H3 b = some (.lst ys) ∧ l ≠ b ∧ a ≤ xs.length ∧ a ≤ c ∧ xs.length + ys.length ≤ sizeLine ∧ QG σ (upd H3 l (.lst (xs.take a ++ ys ++ xs.drop c)))) : gSl to tl th v σ H QG := h
/-- list(xs) -/
theorem r_list (S : Sep Ps H) (s : SqL K H a xs) (h : ∀ p H', Sep (pt p (.lst xs) :: Ps) H' → Q (.ref p) H') : cList K [.ref a] H Q := ⟨a, xs, rfl, .inl s, fun p np => h p _ (S.new _ np)⟩
/-- xs + ys -/
theorem r_cat {q : Addr} (S : Sep Ps H) (s1 : H a = some (.lst xs)) (s2 : H q = some (.lst ys)) (hz : xs.length + ys.length ≤ 100000) (h : ∀ p H', Sep (pt p (.lst (xs ++ ys)) :: Ps) H' → Q (.ref p) H') : rAddA (.ref a) (.ref q) H Q :=
  .inr (.inl ⟨a, q, xs, ys, rfl, rfl, s1, s2, Nat.le_trans hz (by decide), fun p np => h p _ (S.new _ np)⟩)
/-- methods of lists -/
theorem r_bm {T : String} {r : V → List V → Hp → VK → Prop} {to : TE} (h : to σ H fun x H1 => tyV K T x H1 ∧ tr σ H1 fun xs H2 => r x xs H2 Q) : tBM K T r to tr σ H Q := h
theorem r_bm0 {T : String} {r : V → List V → Hp → VK → Prop} {to : TE} (h : to σ H fun x H1 => tyV K T x H1 ∧ r x [] H1 Q) : tBM0 K T r to σ H Q := h
theorem r_tyl {p : Prop} (s : SqL K H a xs) (h : p) : tyV K "list" (.ref a) H ∧ p := ⟨.inl ⟨rfl, xs, s⟩, h⟩
theorem r_append (S : Sep Ps H) (r : Repl a (.lst xs) (.lst (xs ++ [y])) Ps Qs) (hz : xs.length < 100000) (h : ∀ H', Sep Qs H' → Q .non H') : rAppend (.ref a) [y] H Q :=
  ⟨a, xs, y, rfl, rfl, by obtain ⟨Rs, p, _⟩ := r.pick; exact S.at_ p, Nat.lt_of_lt_of_le hz (by decide), h _ (S.set r)⟩
theorem r_reverse (S : Sep Ps H) (r : Repl a (.lst xs) (.lst xs.reverse) Ps Qs) (h : ∀ H', Sep Qs H' → Q .non H') : rReverse (.ref a) [] H Q :=
  ⟨a, xs, rfl, rfl, by obtain ⟨Rs, p, _⟩ := r.pick; exact S.at_ p, h _ (S.set r)⟩
theorem r_clear (S : Sep Ps H) (r : Repl a (.lst xs) (.lst []) Ps Qs) (h : ∀ H', Sep Qs H' → Q .non H') : rClear (.ref a) [] H Q :=
  ⟨a, xs, rfl, rfl, by obtain ⟨Rs, p, _⟩ := r.pick; exact S.at_ p, h _ (S.set r)⟩
/-- isinstance -/
theorem r_isi {T B : String} {k : Bool} (ty : TyX K H x (.type T)) (e : kitB T B = some k) (h : Q (.bl k) H) : rIsi K [x, .ty B] H Q := ⟨x, .ty B, _, _, k, rfl, .ty B, ty, kit_ty e, h⟩
theorem ty_int : TyX K H (.int n) (.type "int") := .base (.int n)
theorem ty_lst (h : H a = some (.lst xs)) : TyX K H (.ref a) (.type "list") := .base (.lst h)
theorem r_all {bs : List Bool} (s : SqL K H a (bs.map V.bl)) (h : Q (.bl (bs.all id)) H) : rAll K [.ref a] H Q := ⟨a, bs, rfl, s, h⟩
/-- loops -/
theorem r_for {wi : TI} (h : wi σ H fun J H1 => ∃ W : Nat → Nat → L2.St → Hp → Prop, (∃ m, W 0 m σ H1) ∧ ∀ i m σ H, W i m σ H →
  (J.stop i H ∧ D.nx σ H) ∨ (J.go i H ∧ ∃ N : L2.St → Hp → Prop, (∀ σ' H', N σ' H' → ∃ m', m' < m ∧ W (i + 1) m' σ' H') ∧ ∀ x H', J.yld i H x H' → g x σ H' fun σ2 H2 => t { D with nx := N, ct := N, bk := D.nx } σ2 H2)) : tFor wi g t D σ H := h
theorem r_ilist {R : It → Hp → Prop} {tl : TE} (h : tl σ H fun x H1 => ∃ a, x = .ref a ∧ (∃ xs, SqL K H1 a xs) ∧ R (Itl K a) H1) : iList K tl σ H R := h
theorem r_irng {R : It → Hp → Prop} (h : tr σ H fun vs H1 => ∃ j : Int, vs = [.int j] ∧ -(2 ^ 62) ≤ j ∧ j < 2 ^ 62 ∧ R (Itr 0 j.toNat) H1) : iRng1 tr σ H R := h
theorem r_irngA {R : It → Hp → Prop} (h1 : -(2 ^ 62) ≤ n) (h2 : n < 2 ^ 62) (h : R (Itr 0 n.toNat) H) : ∃ j : Int, [V.int n] = [.int j] ∧ -(2 ^ 62) ≤ j ∧ j < 2 ^ 62 ∧ R (Itr 0 j.toNat) H := ⟨n, rfl, h1, h2, h⟩
theorem r_gname {i : Nat} (h : QG (σ.set i (some v)) H) : gName i v σ H QG := h
/-- targets -/
theorem r_gunl {k : Nat} {tg : TGs} (s : SqL K H a xs) (l : xs.length = k) (h : tg xs σ H QG) : gUnl K k tg (.ref a) σ H QG := ⟨a, xs, rfl, s, l, h⟩
theorem r_gtup {k : Nat} {tg : TGs} (s : SqT K H a xs) (l : xs.length = k) (h : tg xs σ H QG) : gTup K k tg (.ref a) σ H QG := ⟨a, xs, rfl, s, l, h⟩
theorem r_gcons {tu : TGs} (h : g v σ H fun σ' H' => tu xs σ' H' QG) : gCons g tu (v :: xs) σ H QG := ⟨v, xs, rfl, h⟩
theorem r_gnil (h : QG σ H) : gNil [] σ H QG := ⟨rfl, h⟩
theorem r_par {i j : Nat} (h : tr σ H fun vs H1 => ∃ v w, vs = [v, w] ∧ D.nx ((σ.set i (some v)).set j (some w)) H1) : tPar i j tr D σ H := h
theorem r_parA {i j : Nat} {p : L2.St → Hp → Prop} (h : p ((σ.set i (some x)).set j (some y)) H) : ∃ v w, [x, y] = [v, w] ∧ p ((σ.set i (some v)).set j (some w)) H := ⟨x, y, rfl, h⟩
theorem r_chain {r r' : R2} {tc : TE} (h : ta σ H fun x H1 => tb σ H1 fun y H2 => r x y H2 fun z H3 => ∃ k, z = .bl k ∧ (if k = true then tc σ H3 fun w' H4 => r' y w' H4 Q else Q (.bl false) H3)) : tChain r r' ta tb tc σ H Q := h
theorem r_isN (h : Q (.bl (decide (x = .non))) H) : Kt.rIsN x .non H Q := ⟨rfl, h⟩
end
/-! ### a class whose __init__ has one keyword-only parameter -/
structure Mtk (K : PySem.W.Frag) (C : Addr) (qual : Str) (st : Stmt) (ps : List Str) (n : Nat) (ks : List Str) (gV : List V → List V → List V) (f : Addr) : Prop where
  fn : ∃ (fd : FuncData) (kws : List (Str × V)) (g : List Value → List Value → List Value), FunD K "__init__" qual (defArgs st) (defBody st) (defScope st) [] kws f fd ∧ KBn K fd ps (n + 1) ks g gV
  mkr : Mk K C f
structure Cfk (P : Program) (w : World) (K : PySem.W.Frag) (mg : Str → Option Value) (base : Heap) (k : Nat) (x : Str) (C : Addr) (ps : List Str) (n : Nat) (ks : List Str) (gV : List V → List V → List V) (sp : Sp) : Prop where
  fn : ∃ (f : Addr) (fd : FuncData) (g : List Value → List Value → List Value), FnOk P w K mg base CX0 k f fd ps sp ∧ KBn K fd ps (n + 1) ks g gV ∧ Mk K C f
  at_ : mg x = some (.ref C)
theorem Mtk.ok {P : Program} {w : World} {K : PySem.W.Frag} {mg : Str → Option Value} {base : Heap} {x : Str} {C : Addr} {qual : Str} {st : Stmt} {f : Addr} {N ps ks : List Str} {k n : Nat} {gV : List V → List V → List V} {sp : Sp} (T : Mtk K C qual st ps n ks gV f) (hx : mg x = some (.ref C)) (S : FnScope N ps (defScope st)) (len : ∀ vs H Q E, sp vs H Q E → vs.length = ps.length)
    (hbody : ∀ (cdv : Value) (A : Around) (outer : List Env) (s : Shared) (H : Hp) (vs : List V) (Q : VK) (E : XK), Room k (A.deeper (envOfC qual (defScope st) s.heap.objs.size f cdv)) → sp vs H Q E →
      ∃ t, PSs (cxOf CX0 P w K mg base N qual (defScope st) f cdv A outer s H E).nox (defBody st) t ∧ t { nx := fun _ H' => Q .non H', rt := Q } (start N vs) H) : Cfk P w K mg base (k + 1) x C ps n ks gV sp := by
  obtain ⟨fd, kws, g, F, b⟩ := T.fn
  refine ⟨⟨f, fd, g, F.ok S len fun cdv A outer s H vs Q E hr h => ?_, b, T.mkr⟩, hx⟩
  obtain ⟨t, ht, q⟩ := hbody cdv A outer s H vs Q E hr h
  exact ⟨t, ht.nox, q⟩
section
variable {X : Cx} {k n : Nat} {x : Str} {C : Addr} {ps ks : List Str} {gV : List V → List V → List V} {sp : Sp} {e : Expr} {es : List Expr} {kws : List Keyword} {t tk : TA} {p pos : Pos}
theorem pe_cfk (M : Cfk X.prog X.w X.K X.mg X.base k x C ps n ks gV sp) (hr : Room (k + 1) X.A) (ha : PA X (e :: es) t) (hkw : PK X kws tk) (hg : Gl X x := by rfl)
    (hall : (backToKw pos (keywordEach kws X.env)).all (·.1.isSome) = true := by rfl) (hks : (backToKw pos (keywordEach kws X.env)).filterMap (·.1) = ks := by rfl) (hd : (x == ("__debug__" : Str)) = false := by decide)
    (he : starEach (e :: es) X.env = (false, eval e X.env) :: starEach es X.env := by rfl) (hpl : ((backTo pos (starEach (e :: es) X.env)).any (·.1) || (backToKw pos (keywordEach kws X.env)).any (·.1.isNone)) = false := by rfl) :
    PE X (.Call (.Name x p) (e :: es) kws pos) (tMakeK C n ks.length sp gV E0 t tk) := by
  obtain ⟨f, fd, g, F, b, M'⟩ := M.fn
  exact pe_makeK M' F hr hg M.at_ b pass0 ha hkw hall hks hd he hpl
end
section
variable {K : PySem.W.Frag} {σ : L2.St} {H : Hp} {Q : VK} {t tk : TA} {C : Addr} {sp : Sp} {gV : List V → List V → List V} {n m : Nat} {Ps : List SP} {vs zs : List V}
def kNewK (C : Addr) (n m : Nat) (sp : Sp) (gV : List V → List V → List V) (Q : VK) (vs zs : List V) : Hp → Prop := fun H2 => vs.length = n ∧ zs.length = m ∧ ∀ x dx, H2 x = none → H2 dx = none → dx ≠ x → sp (gV (.ref x :: vs) zs) (upd (upd H2 dx (.own x)) x (.ins C dx [])) (fun v H3 => v = .non ∧ Q (.ref x) H3) E0
theorem r_makek (h : t σ H fun vs H1 => tk σ H1 fun zs H2 => kNewK C n m sp gV Q vs zs H2) : tMakeK C n m sp gV E0 t tk σ H Q := h
theorem r_knewk (S : Sep Ps H) (l1 : vs.length = n) (l2 : zs.length = m) (h : ∀ x dx H', Sep (pt x (.ins C dx []) :: Ps) H' → sp (gV (.ref x :: vs) zs) H' (fun v H2 => v = .non ∧ Q (.ref x) H2) E0) : kNewK C n m sp gV Q vs zs H := ⟨l1, l2, fun x dx h1 h2 ne => h x dx _ (S.made h1 h2 ne)⟩
end
/-! ### a local name that holds a def -/
section
variable {X : Cx} {k i : Nat} {x y : Str} {f : Addr} {ps : List Str} {sp : Sp} {e : Expr} {es : List Expr} {t : TA} {p pos : Pos}
theorem pe_dfL (D : Df X.prog X.w X.K X.mg X.base k y f ps sp) (hr : Room k X.A) (ha : PA X (e :: es) t) (hN : X.N[i]? = some x := by rfl) (hv : Vis X.env.scope x := by first | exact Or.inl rfl | exact Or.inr (Or.inl rfl) | exact Or.inr (Or.inr rfl))
    (hdb : (x == ("__debug__" : Str)) = false := by decide) (hcd : (x == ("__classdict__" : Str)) = false := by decide)
    (he : starEach (e :: es) X.env = (false, eval e X.env) :: starEach es X.env := by rfl) (hpl : (backTo pos (starEach es X.env)).any (·.1) = false := by rfl) : PE X (.Call (.Name x p) (e :: es) [] pos) (tCallL i f sp [] E0 t) := by
  obtain ⟨fd, F, b⟩ := D.fn
  exact pe_callL F hr hN hv D.kp b .nil pass0 ha hdb hcd he hpl
theorem r_calll {σ : L2.St} {H : Hp} {Q : VK} (hs : σ[i]? = some (some (.ref f))) (h : t σ H fun vs H1 => sp vs H1 Q E0) : tCallL i f sp [] E0 t σ H Q := by
  unfold tCallL
  simp only [List.append_nil]
  exact ⟨hs, h⟩
end
end Kt

set_option Elab.async false
set_option linter.all false
set_option maxRecDepth 100000
namespace Kt
open PySem L2 PyProof.Rows
section
variable {K : PySem.W.Frag} {σ : L2.St} {H : Hp} {D : Ends} {Q : VK} {a : Addr} {xs : List V} {Ps : List SP} {g : TG} {tb : TS} {tt : TT} {te : TE} {vs : List Nat} {n : Int}
/-- the turns of a loop, by a word over the slots and the known parts -/
abbrev LW := Nat → L2.St → List SP → Prop
def Nx (J : LW) (i : Nat) : L2.St → Hp → Prop := fun σ H => ∃ Ps, J i σ Ps ∧ Sep Ps H
theorem nx_in {J : LW} {i : Nat} (S : Sep Ps H) (j : J i σ Ps) : Nx J i σ H := ⟨Ps, j, S⟩
abbrev ForW (J : It) (g : TG) (tb : TS) (D : Ends) (σ : L2.St) (H1 : Hp) : Prop := ∃ W : Nat → Nat → L2.St → Hp → Prop, (∃ m, W 0 m σ H1) ∧ ∀ i m σ H, W i m σ H →
  (J.stop i H ∧ D.nx σ H) ∨ (J.go i H ∧ ∃ N : L2.St → Hp → Prop, (∀ σ' H', N σ' H' → ∃ m', m' < m ∧ W (i + 1) m' σ' H') ∧ ∀ x H', J.yld i H x H' → g x σ H' fun σ2 H2 => tb { D with nx := N, ct := N, bk := D.nx } σ2 H2)
theorem r_for_list (J : LW) (S : Sep Ps H) (h0 : J 0 σ Ps) (hl : ∀ i σ Ps H, i ≤ xs.length → J i σ Ps → Sep Ps H → SqL K H a xs)
    (hs : ∀ i x σ Ps H, xs[i]? = some x → J i σ Ps → Sep Ps H → g x σ H fun σ2 H2 => tb { D with nx := Nx J (i + 1), ct := Nx J (i + 1), bk := D.nx } σ2 H2) (hd : ∀ σ Ps H, J xs.length σ Ps → Sep Ps H → D.nx σ H) :
    ∃ a', V.ref a = .ref a' ∧ (∃ xs, SqL K H a' xs) ∧ ForW (Itl K a') g tb D σ H :=
  ⟨a, rfl, ⟨xs, hl 0 σ Ps H (Nat.zero_le _) h0 S⟩, for_list (K := K) (a := a) (xs := xs) (Nx J) ⟨Ps, h0, S⟩ (fun i σ H hi ⟨Ps, j, S⟩ => hl i σ Ps H hi j S) (fun i x σ H hi ⟨Ps, j, S⟩ => hs i x σ Ps H hi j S) fun σ H ⟨Ps, j, S⟩ => hd σ Ps H j S⟩
theorem r_for_tup (J : LW) (S : Sep Ps H) (h0 : J 0 σ Ps) (hl : ∀ i σ Ps H, i ≤ xs.length → J i σ Ps → Sep Ps H → SqT K H a xs)
    (hs : ∀ i x σ Ps H, xs[i]? = some x → J i σ Ps → Sep Ps H → g x σ H fun σ2 H2 => tb { D with nx := Nx J (i + 1), ct := Nx J (i + 1), bk := D.nx } σ2 H2) (hd : ∀ σ Ps H, J xs.length σ Ps → Sep Ps H → D.nx σ H) :
    ∃ a', V.ref a = .ref a' ∧ (∃ xs, SqT K H a' xs) ∧ ForW (Itt K a') g tb D σ H :=
  ⟨a, rfl, ⟨xs, hl 0 σ Ps H (Nat.zero_le _) h0 S⟩, for_tup (K := K) (a := a) (xs := xs) (Nx J) ⟨Ps, h0, S⟩ (fun i σ H hi ⟨Ps, j, S⟩ => hl i σ Ps H hi j S) (fun i x σ H hi ⟨Ps, j, S⟩ => hs i x σ Ps H hi j S) fun σ H ⟨Ps, j, S⟩ => hd σ Ps H j S⟩
/-- over range(n) -/
theorem r_for_rng (J : LW) (S : Sep Ps H) (h1 : -(2 ^ 62) ≤ n) (h2 : n < 2 ^ 62) (h0 : J 0 σ Ps)
    (hs : ∀ (i : Nat) σ Ps H, i < n.toNat → J i σ Ps → Sep Ps H → g (.int (i : Int)) σ H fun σ2 H2 => tb { D with nx := Nx J (i + 1), ct := Nx J (i + 1), bk := D.nx } σ2 H2) (hd : ∀ σ Ps H, J n.toNat σ Ps → Sep Ps H → D.nx σ H) :
    ∃ j : Int, [V.int n] = [.int j] ∧ -(2 ^ 62) ≤ j ∧ j < 2 ^ 62 ∧ ForW (Itr 0 j.toNat) g tb D σ H :=
  ⟨n, rfl, h1, h2, for_range (Nx J) ⟨Ps, h0, S⟩ (fun i σ H hi ⟨Ps, j, S⟩ => by rw [Int.zero_add]; exact hs i σ Ps H hi j S) fun σ H ⟨Ps, j, S⟩ => hd σ Ps H j S⟩
/-! ### comprehensions: J by the turn, what is made, the known parts -/
abbrev CW := Nat → List V → List SP → Prop
abbrev LcW (Jt : It) (g : TG) (tt : TT) (te : TE) (vs : List Nat) (Q : VK) (σ : L2.St) (H1 : Hp) : Prop := ∀ D, H1 D = none → ∃ W : Nat → Nat → Hp → Prop, (∃ m, W 0 m (upd H1 D (.lst []))) ∧ ∀ i m H, W i m H →
  (Jt.stop i H ∧ Q (.ref D) H) ∨ (Jt.go i H ∧ ∃ Nx : Hp → Prop, (∀ H', Nx H' → ∃ m', m' < m ∧ W (i + 1) m' H') ∧ ∀ x H', Jt.yld i H x H' → g x (wipe σ vs) H' fun σ2 H2 => wipe σ2 vs = wipe σ vs ∧ tt σ2 H2 fun b H3 =>
    if b = true then te σ2 H3 fun y H4 => ∃ acc, H4 D = some (.lst acc) ∧ acc.length < sizeLine ∧ Nx (upd H4 D (.lst (acc ++ [y]))) else Nx H3)
def CN (J : CW) (D : Addr) (i : Nat) : Hp → Prop := fun H => ∃ acc Ps, J i acc Ps ∧ Sep (pt D (.lst acc) :: Ps) H
/-- an item is made: the new list holds one more -/
theorem cn_in {J : CW} {D : Addr} {i : Nat} {acc : List V} {y : V} (S : Sep (pt D (.lst acc) :: Ps) H) (hl : acc.length < 100000) (j : J i (acc ++ [y]) Ps) : ∃ acc, H D = some (.lst acc) ∧ acc.length < sizeLine ∧ CN J D i (upd H D (.lst (acc ++ [y]))) :=
  ⟨acc, S.hd_at, Nat.lt_of_lt_of_le hl (by decide), acc ++ [y], Ps, j, S.hd_set _⟩
theorem cn_out {J : CW} {D : Addr} {i : Nat} {acc : List V} (S : Sep (pt D (.lst acc) :: Ps) H) (j : J i acc Ps) : CN J D i H := ⟨acc, Ps, j, S⟩
theorem r_lc (h : ∀ (wi : TI), wi = wi → True) : True := trivial
theorem r_tlc {wi : TI} (h : wi σ H fun Jt H1 => LcW Jt g tt te vs Q σ H1) : tLc wi g tt te vs σ H Q := h
theorem r_lc_list (J : CW) (S : Sep Ps H) (h0 : J 0 [] Ps) (hl : ∀ D i acc Ps H, i ≤ xs.length → J i acc Ps → Sep (pt D (.lst acc) :: Ps) H → SqL K H a xs) (hl0 : SqL K H a xs)
    (hs : ∀ D i x acc Ps H, xs[i]? = some x → J i acc Ps → Sep (pt D (.lst acc) :: Ps) H → g x (wipe σ vs) H fun σ2 H2 => wipe σ2 vs = wipe σ vs ∧ tt σ2 H2 fun b H3 =>
      if b = true then te σ2 H3 fun y H4 => ∃ acc, H4 D = some (.lst acc) ∧ acc.length < sizeLine ∧ CN J D (i + 1) (upd H4 D (.lst (acc ++ [y]))) else CN J D (i + 1) H3)
    (hd : ∀ D acc Ps H, J xs.length acc Ps → Sep (pt D (.lst acc) :: Ps) H → Q (.ref D) H) : ∃ a', V.ref a = .ref a' ∧ (∃ xs, SqL K H a' xs) ∧ LcW (Itl K a') g tt te vs Q σ H :=
  ⟨a, rfl, ⟨xs, hl0⟩, fun D nD => lc_list (K := K) (a := a) (xs := xs) (CN J D) ⟨[], Ps, h0, S.new _ nD⟩ (fun i H hi ⟨acc, Ps, j, S⟩ => hl D i acc Ps H hi j S) (fun i x H hi ⟨acc, Ps, j, S⟩ => hs D i x acc Ps H hi j S) fun H ⟨acc, Ps, j, S⟩ => hd D acc Ps H j S⟩
theorem r_lc_rng (J : CW) (S : Sep Ps H) (h1 : -(2 ^ 62) ≤ n) (h2 : n < 2 ^ 62) (h0 : J 0 [] Ps)
    (hs : ∀ D (i : Nat) acc Ps H, i < n.toNat → J i acc Ps → Sep (pt D (.lst acc) :: Ps) H → g (.int (i : Int)) (wipe σ vs) H fun σ2 H2 => wipe σ2 vs = wipe σ vs ∧ tt σ2 H2 fun b H3 =>
      if b = true then te σ2 H3 fun y H4 => ∃ acc, H4 D = some (.lst acc) ∧ acc.length < sizeLine ∧ CN J D (i + 1) (upd H4 D (.lst (acc ++ [y]))) else CN J D (i + 1) H3)
    (hd : ∀ D acc Ps H, J n.toNat acc Ps → Sep (pt D (.lst acc) :: Ps) H → Q (.ref D) H) : ∃ j : Int, [V.int n] = [.int j] ∧ -(2 ^ 62) ≤ j ∧ j < 2 ^ 62 ∧ LcW (Itr 0 j.toNat) g tt te vs Q σ H :=
  ⟨n, rfl, h1, h2, fun D nD => lc_range (CN J D) ⟨[], Ps, h0, S.new _ nD⟩ (fun i H hi ⟨acc, Ps, j, S⟩ => by rw [Int.zero_add]; exact hs D i acc Ps H hi j S) fun H ⟨acc, Ps, j, S⟩ => hd D acc Ps H j S⟩
theorem r_yes {QT : Bool → Hp → Prop} (h : QT true H) : tYes σ H QT := h
end
end Kt

set_option Elab.async false
set_option linter.all false
set_option maxRecDepth 100000
namespace Kt
open PySem L2 PyProof.Rows
/-! ### data: equal things are equal -/
def Okd (k : Nat) (d : PyData) : Prop := d.canLay0 = true ∧ d.depth ≤ k
theorem okd_int {k : Nat} (i : Int) : Okd k (.int i) := ⟨rfl, Nat.zero_le _⟩
theorem okd_bl {k : Nat} (b : Bool) : Okd k (.bool b) := ⟨rfl, Nat.zero_le _⟩
theorem okd_non {k : Nat} : Okd k .none := ⟨rfl, Nat.zero_le _⟩
theorem okd_all {k : Nat} : ∀ {ds : List PyData}, (∀ d ∈ ds, Okd k d) → PyData.canLayAll0 ds = true ∧ PyData.depthAll ds ≤ k
  | [], _ => ⟨rfl, Nat.zero_le _⟩
  | d :: ds, h => by
    obtain ⟨h1, h2⟩ := okd_all (ds := ds) fun x m => h x (List.mem_cons_of_mem _ m)
    obtain ⟨g1, g2⟩ := h d List.mem_cons_self
    refine ⟨?_, ?_⟩
    · rw [PyData.canLayAll0, g1, h1] <;> rfl
    · rw [PyData.depthAll]; exact Nat.max_le.mpr ⟨g2, h2⟩
theorem okd_list {k : Nat} {ds : List PyData} (h : ∀ d ∈ ds, Okd k d) : Okd (k + 1) (.list ds) := by
  obtain ⟨h1, h2⟩ := okd_all h
  refine ⟨?_, ?_⟩
  · rw [PyData.canLay0]; exact h1
  · rw [PyData.depth]; omega
theorem okd_tuple {k : Nat} {ds : List PyData} (h : ∀ d ∈ ds, Okd k d) : Okd (k + 1) (.tuple ds) := by
  obtain ⟨h1, h2⟩ := okd_all h
  refine ⟨?_, ?_⟩
  · rw [PyData.canLay0]; exact h1
  · rw [PyData.depth]; omega
theorem Okd.shaped {k : Nat} {d : PyData} (h : Okd k d) (hk : k ≤ 64) : SeqAt.shaped d = true := by
  unfold SeqAt.shaped
  rw [h.1, decide_eq_true (Nat.le_trans h.2 hk)]
  rfl
def dInts (ns : List Int) : PyData := .list (ns.map PyData.int)
theorem okd_ints (k : Nat) (ns : List Int) : Okd (k + 1) (dInts ns) := okd_list fun d m => by
  obtain ⟨i, _, rfl⟩ := List.mem_map.mp m
  exact okd_int i
section
variable {K : PySem.W.Frag} {H : Hp} {Q : VK} {x y : V} {a : Addr} {k : Nat} {d : PyData} {n : Int}
theorem dpall_ints : ∀ ns : List Int, DpAll K H (ns.map V.int) (ns.map PyData.int)
  | [] => .nil
  | n :: ns => .cons (.int n) (dpall_ints ns)
theorem dp_ints {ns : List Int} (s : SqL K H a (ns.map V.int)) : Dp K H (.ref a) (dInts ns) := .lst s (dpall_ints ns)
theorem r_eq_same (h1 : Dp K H x d) (h2 : Dp K H y d) (o : Okd k d) (hk : k ≤ 64) (q : Q (.bl true) H) : rEqA K x y H Q := .inr ⟨d, d, h1, h2, o.shaped hk, o.shaped hk, by rw [SeqAt.eqv_refl d o.1]; exact q⟩
theorem r_ne_same (h1 : Dp K H x d) (h2 : Dp K H y d) (o : Okd k d) (hk : k ≤ 64) (q : Q (.bl false) H) : rNeA K x y H Q := .inr ⟨d, d, h1, h2, o.shaped hk, o.shaped hk, by rw [SeqAt.eqv_refl d o.1]; exact q⟩
theorem r_neg (h : Q (.int (-n)) H) : rU (fun i => .int (-i)) (.int n) H Q := ⟨n, rfl, h⟩
end
end Kt

set_option Elab.async false
set_option linter.all false
set_option maxRecDepth 100000
namespace Kt
open PySem L2 PyProof.Rows
/-! ### many lists as one part -/
def big (l : List (Addr × List V)) : SP := Sep (l.map fun p => pt p.1 (.lst p.2))
theorem big_nil {R : List SP} {H : Hp} (S : Sep R H) : Sep (big [] :: R) H := Sep.unflat (As := []) S
theorem pick_mid {A : SP} {Qs : List SP} : ∀ Ps : List SP, Pick A (Ps ++ A :: Qs) (Ps ++ Qs)
  | [] => .hd
  | P :: Ps => .tl (pick_mid Ps)
theorem big_add {l : List (Addr × List V)} {p : Addr} {xs : List V} {R : List SP} {H : Hp} (S : Sep (pt p (.lst xs) :: big l :: R) H) : Sep (big (l ++ [(p, xs)]) :: R) H := by
  have S1 : Sep (pt p (.lst xs) :: ((l.map fun p => pt p.1 (.lst p.2)) ++ R)) H := S.cons_mono fun _ => Sep.flat
  have S2 : Sep ((l.map fun p => pt p.1 (.lst p.2)) ++ pt p (.lst xs) :: R) H := (pick_mid _).back S1
  refine Sep.unflat (As := (l ++ [(p, xs)]).map fun p => pt p.1 (.lst p.2)) ?_
  rw [List.map_append, List.append_assoc]
  exact S2
theorem sep_mem {R : List SP} {H : Hp} : ∀ {l : List (Addr × List V)} {p : Addr} {xs : List V}, Sep ((l.map fun p => pt p.1 (.lst p.2)) ++ R) H → (p, xs) ∈ l → H p = some (.lst xs)
  | [], _, _, _, h => by simp at h
  | q :: l, p, xs, S, h => by
    rcases List.mem_cons.mp h with e | h
    · subst e
      exact Sep.hd_at (Ps := (l.map fun p => pt p.1 (.lst p.2)) ++ R) S
    · exact sep_mem (Sep.tl (Ps := (l.map fun p => pt p.1 (.lst p.2)) ++ R) S) h
theorem big_get {l : List (Addr × List V)} {p : Addr} {xs : List V} {R : List SP} {H : Hp} (S : Sep (big l :: R) H) (h : (p, xs) ∈ l) : H p = some (.lst xs) := sep_mem S.flat h
theorem big_open {l : List (Addr × List V)} {R : List SP} {H : Hp} (S : Sep (big l :: R) H) : Sep ((l.map fun p => pt p.1 (.lst p.2)) ++ R) H := S.flat
section
variable {K : PySem.W.Frag} {H : Hp} {Q : VK} {x y : V} {a : Addr} {xs : List V} {Ps Qs : List SP}
theorem dpall_of {α : Type} (f : α → V) (g : α → PyData) : ∀ {l : List α}, (∀ z ∈ l, Dp K H (f z) (g z)) → DpAll K H (l.map f) (l.map g)
  | [], _ => .nil
  | z :: l, h => .cons (h z List.mem_cons_self) (dpall_of f g fun z m => h z (List.mem_cons_of_mem _ m))
theorem dpall_app : ∀ {xs ys : List V} {ds es : List PyData}, DpAll K H xs ds → DpAll K H ys es → DpAll K H (xs ++ ys) (ds ++ es)
  | _, _, _, _, .nil, h => h
  | _, _, _, _, .cons h t, h2 => .cons h (dpall_app t h2)
theorem r_insert0 (S : Sep Ps H) (r : Repl a (.lst xs) (.lst (y :: xs)) Ps Qs) (hz : xs.length < 100000) (h : ∀ H', Sep Qs H' → Q .non H') : ∃ (l : Addr) (zs : List V) (i : Int) (y' : V), V.ref a = .ref l ∧ [V.int 0, y] = [.int i, y'] ∧ H l = some (.lst zs) ∧ zs.length < sizeLine ∧ 0 ≤ i ∧ i < 2 ^ 63 ∧
    Q .non (upd H l (.lst (zs.take i.toNat ++ y' :: zs.drop i.toNat))) :=
  ⟨a, xs, 0, y, rfl, rfl, by obtain ⟨Rs, p, _⟩ := r.pick; exact S.at_ p, Nat.lt_of_lt_of_le hz (by decide), by decide, by decide, h _ (S.set r)⟩
end
end Kt

set_option Elab.async false
set_option linter.all false
set_option maxRecDepth 100000
namespace Kt
open PySem PySem.Spec PySem.W L2 PyProof.Rows
/-! ### an instance that is called: its class's own __call__ -/
theorem fn_found {K : Frag} {f : Addr} {h : Heap} (X : K.In h) (e : fnIn K f = true) : ∃ (o : Obj) (fd : FuncData), h.get? f = some o ∧ o.data = .func fd := by
  unfold fnIn at e
  split at e
  · rename_i q
    exact ⟨_, _, X _ _ q, rfl⟩
  · cases e
theorem callee_inst {prog : Program} {w : World} {A : Around} {K : Frag} {a C f : Addr} {dx : Addr} {od : Option Obj} {s : Shared} {R : Result → Shared → Prop} {rest : List Value} {kw : List (Str × Value)} {of_ : Obj} {fd : FuncData}
    (X : K.In s.heap) (J : PySem.W.InstAt s.heap a (PySem.W.instObj C dx) C od) (hs : findIn K (.ref C) "__call__" = some (some (.ref f))) (hf : isFn K (.ref f) = true) (hl : s.heap.get? f = some of_) (hd : of_.data = .func fd)
    (h : codeAny (model prog w) A (.call (.ref f) ⟨.ref a :: rest, kw⟩) R s) : codeAny (model prog w) A (.call (.ref a) ⟨rest, kw⟩) R s := by
  have sp : Looks (model prog w) s.heap (specialOf (.ref a) "__call__") (some (.ref f)) := J.type.andThen (looks_findIn X hs)
  have bd : Looks (model prog w) s.heap (bindSpecial (.ref f) (.ref a)) (.ref f, [.ref a]) := bind_fn X _ (beq_iff_eq.mp hf)
  refine codeAny_of_tree ?_
  show wpAny _ _ (callAny (.ref a) _) _ _ _
  refine nd_load J.at_ ?_
  show wpAny _ _ (callAny.viaDunder (.ref a) _) _ _ _
  unfold callAny.viaDunder
  refine wpAny_bind (sp.here ?_)
  refine wpAny_bind (bd.here ?_)
  have pc : Looks (model prog w) s.heap (callAny.plainCallee (.ref f)) true := (Looks.ld (part := none) hl).andThen (by rw [hd]; exact .now)
  refine wpAny_bind (pc.here ?_)
  exact wpAny_pure (a := Fin.again (.call (.ref f) ⟨.ref a :: rest, kw⟩)) (And.intro rfl h)
theorem keeper_inst {M : Model} {a C dx : Addr} {h : Heap} (e : h.get? a = some (PySem.W.instObj C dx)) : Looks M h (keeperOf (.ref a)) Keeper.caller := (Looks.ld (part := none) e).andThen .now
theorem callWith_inst {M : Model} {A : Around} {E : Value → Shared → Prop} {s : Shared} {pos : Pos} {f : Value} {args : List (Bool × Sem Value)} {Q : Value → Shared → Prop} {P : Heap → Prop} (hplain : (args.any (·.1) || ([] : List (Option Str × Sem Value)).any (·.1.isNone)) = false)
    (hk : ∀ h, P h → Looks M h (keeperOf f) Keeper.caller) (h : wpAny M A (evalArgs f true args []) (fun x s1 => P s1.heap ∧ wpAny M A (call f ([] ++ x.pos) x.kw) Q E s1) E s) : wpAny M A (callWith pos f [] args []) Q E s := by
  unfold callWith
  refine wpAny_bind (wpAny_holding (wpAny_mono h (fun x s1 h1 => wpAny_bind (wpAny_standAt ?_)) fun _ _ z => z))
  simp only [hplain]
  refine wpAny_bind ((hk _ h1.1).here ?_)
  dsimp only
  exact wpAny_bind (wpAny_mono (wpAny_operate' h1.2) (fun r s2 hr => wpAny_bind (wpAny_holding (wpAny_point (wpAny_pure hr)))) fun _ _ z => z)
section
variable {X : Cx} {k i : Nat} {x : Str} {C : Addr} {ps : List Str} {sp : Sp} {e : Expr} {es : List Expr} {t : TA} {p pos : Pos}
/-- x(e, ..), the local x holds an instance of C -/
def tCallI (i : Nat) (C : Addr) (sp : Sp) (t : TA) : TE := fun σ H Q => ∃ a, σ[i]? = some (some (.ref a)) ∧ t σ H fun vs H1 => ∃ dx fs, H1 a = some (.ins C dx fs) ∧ sp (.ref a :: vs) H1 Q E0
theorem pe_mfL (M : Mf X.prog X.w X.K X.mg X.base k C "__call__" ps sp) (hfn : ∀ f, findIn X.K (.ref C) "__call__" = some (some (.ref f)) → fnIn X.K f = true) (hr : Room k X.A) (ha : PA X (e :: es) t) (hN : X.N[i]? = some x := by rfl) (hv : Vis X.env.scope x := by first | exact Or.inl rfl | exact Or.inr (Or.inl rfl) | exact Or.inr (Or.inr rfl))
    (hdb : (x == ("__debug__" : Str)) = false := by decide) (hcd : (x == ("__classdict__" : Str)) = false := by decide) (he : starEach (e :: es) X.env = (false, eval e X.env) :: starEach es X.env := by rfl) (hpl : (backTo pos (starEach es X.env)).any (·.1) = false := by rfl) :
    PE X (.Call (.Name x p) (e :: es) [] pos) (tCallI i C sp t) := by
  obtain ⟨f, fd, F, b, hm⟩ := M.fn
  refine ⟨fun pins s σ H Q I h => ?_⟩
  obtain ⟨a, hs, ht⟩ := h
  refine wpAny_Call_Name_kw (thn ((pe_var (pos := p) hN hv hdb hcd).run pins s σ H (fun v H1 => v = .ref a ∧ H1 = H) I ⟨.ref a, hs, rfl, rfl⟩) fun u s1 ⟨v, H1, I1, r1, q1⟩ => ?_)
  obtain ⟨rfl, rfl⟩ := q1
  cases r1
  have h2 : wpAny (model X.prog X.w) X.A (spliced (backTo pos (starEach (e :: es) X.env))) (fun vs s2 => (∃ dx, s2.heap.get? a = some (PySem.W.instObj C dx)) ∧ wpAny (model X.prog X.w) X.A (call (.ref a) ([] ++ vs)) (EP X pins σ Q) X.xe s2) X.xe s1 :=
    thn (ha.run pos pins s1 σ _ _ I1 ht) fun us s2 ⟨vs, H2, I2, r, dx, fs, hH, q⟩ => by
      obtain ⟨mA, O, _⟩ := ins_get I2.hok hH
      refine ⟨⟨dx, O.obj⟩, ?_⟩
      obtain ⟨od, J, _⟩ := O.look
      obtain ⟨of_, fd2, hl, hd2⟩ := fn_found I2.kIn (hfn f hm.at_)
      have rr : Vals (V.ref a :: vs) (Value.ref a :: us) := .cons rfl r
      have ln : (Value.ref a :: us).length = ps.length := by rw [← rr.length]; exact F.len _ _ _ _ q
      have bd := b s2 (.ref a :: us) I2.kIn (by rw [List.append_nil]; exact ln)
      rw [List.append_nil] at bd
      refine wpAny_call (callee_inst I2.kIn J hm.at_ hm.fn hl hd2 (codeAny_mono (F.run X.A X.stack s2 H2 ⟨.ref a :: us, []⟩ (.ref a :: us) (.ref a :: vs) Q E0 hr I2.env0 bd rr q) fun r s' hq => ?_))
      cases r with
      | error z => exact pass0 pins σ H2 s2 z s' I2 hq
      | ok fl => cases fl with
        | ret u => exact I2.after hq
        | _ => exact False.elim hq
  rw [he] at h2 ⊢
  exact callWith_inst (P := fun h => ∃ dx, h.get? a = some (PySem.W.instObj C dx)) (by show ((false || (backTo pos (starEach es X.env)).any (·.1)) || false) = false; rw [hpl]; rfl) (fun h ⟨dx, q⟩ => keeper_inst q) (Calls.evalArgs_plain h2)
/-- an expression read in one of two ways -/
def tEr (t t' : TE) : TE := fun σ H Q => t σ H Q ∨ t' σ H Q
theorem pe_er {e : Expr} {t t' : TE} (h : PE X e t) (h' : PE X e t') : PE X e (tEr t t') := ⟨fun pins s σ H Q I q => q.elim (h.run pins s σ H Q I) (h'.run pins s σ H Q I)⟩
end
end Kt

set_option Elab.async false
set_option linter.all false
set_option maxRecDepth 100000
namespace Kt
open PySem L2 PyProof.Rows
/-! ### properties by name -/
structure Pt (K : PySem.W.Frag) (C : Addr) (m qual : Str) (st : Stmt) (g : Addr) : Prop where
  fn : ∃ fd, Fun K m qual st g fd ∧ Binds K fd ["self"] []
  at_ : ∃ p, PropOf K C m p g
structure Pf (P : Program) (w : World) (K : PySem.W.Frag) (mg : Str → Option Value) (base : Heap) (k : Nat) (C : Addr) (m : Str) (sp : Sp) : Prop where
  fn : ∃ p g fd, FnOk P w K mg base CX0 k g fd ["self"] sp ∧ Binds K fd ["self"] [] ∧ PropOf K C m p g
  cls : Cls K C
theorem Pt.ok {P : Program} {w : World} {K : PySem.W.Frag} {mg : Str → Option Value} {base : Heap} {C : Addr} {x qual : Str} {st : Stmt} {f : Addr} {N : List Str} {k : Nat} {sp : Sp} (T : Pt K C x qual st f) (c : Cls K C) (S : FnScope N ["self"] (defScope st)) (len : ∀ vs H Q E, sp vs H Q E → vs.length = 1)
    (hbody : ∀ (cdv : Value) (A : Around) (outer : List Env) (s : Shared) (H : Hp) (vs : List V) (Q : VK) (E : XK), Room k (A.deeper (envOfC qual (defScope st) s.heap.objs.size f cdv)) → sp vs H Q E →
      ∃ t, PSs (cxOf CX0 P w K mg base N qual (defScope st) f cdv A outer s H E).nox (defBody st) t ∧ t { nx := fun _ H' => Q .non H', rt := Q } (start N vs) H) : Pf P w K mg base (k + 1) C x sp := by
  obtain ⟨fd, F, b⟩ := T.fn
  obtain ⟨p, hp⟩ := T.at_
  exact ⟨⟨p, f, fd, F.ok S len hbody, b, hp⟩, c⟩
theorem pe_pr {X : Cx} {k : Nat} {C : Addr} {f : Str} {sp : Sp} {e : Expr} {pos : Pos} {ta : TE} (M : Pf X.prog X.w X.K X.mg X.base k C f sp) (hr : Room (k + 1) X.A) (he : PE X e ta) (hab : attributeBase e f X.env (eval e X.env) = eval e X.env := by rfl) : PE X (.Attribute e f pos) (tProp C sp [] E0 ta) := by
  obtain ⟨p, g, fd, F, b, hp⟩ := M.fn
  exact pe_prop he M.cls hp F hr b .nil pass0 hab
section
variable {σ : L2.St} {H : Hp} {Q : VK} {C a dx : Addr} {sp : Sp} {ta : TE} {fs : List (Str × V)} {Ps Qs : List SP}
def kProp (C : Addr) (sp : Sp) (Q : VK) : V → Hp → Prop := fun x H1 => ∃ a dx fs, x = .ref a ∧ H1 a = some (.ins C dx fs) ∧ sp [.ref a] H1 Q E0
theorem r_prop (h : ta σ H (kProp C sp Q)) : tProp C sp [] E0 ta σ H Q := h
theorem r_kprop (S : Sep Ps H) (p : Pick (pt a (.ins C dx fs)) Ps Qs) (h : sp [.ref a] H Q E0) : kProp C sp Q (.ref a) H := ⟨a, dx, fs, rfl, S.at_ p, h⟩
end
end Kt

set_option Elab.async false
set_option linter.all false
set_option maxRecDepth 100000
namespace Kt
open PySem PySem.Spec L2 PyProof.Rows
/-! ### promises of defs that are called where no guard stands: what repr of a list asks -/
structure FnG (P : Program) (w : World) (K : PySem.W.Frag) (mg : Str → Option Value) (base : Heap) (k : Nat) (f : Addr) (fd : FuncData) (ps : List Str) (sp : Sp) : Prop where
  len : ∀ vs H Q E, sp vs H Q E → vs.length = ps.length
  run : ∀ (A : Around) (outer : List Env) (s : Shared) (H : Hp) (args : Args) (us : List Value) (vs : List V) (Q : VK) (E : XK), A.guards = some [] → Room k A → Env0 P w K mg base A outer s H → BindsTo s fd args (ps.zip us) → Vals vs us → sp vs H Q E → codeAny (model P w) A (.call (.ref f) args) (CR CX0 outer P w H s Q E) s
section
variable {P : Program} {w : World} {K : PySem.W.Frag} {mg : Str → Option Value} {base : Heap}
theorem fnG_ok {x qual : Str} {st : Stmt} {f : Addr} {fd : FuncData} {N ps : List Str} {k : Nat} {sp : Sp} (F : Fun K x qual st f fd) (S : FnScope N ps (defScope st)) (len : ∀ vs H Q E, sp vs H Q E → vs.length = ps.length)
    (hbody : ∀ (cdv : Value) (A : Around) (outer : List Env) (s : Shared) (H : Hp) (vs : List V) (Q : VK) (E : XK), A.guards = some [] → Room k (A.deeper (envOfC qual (defScope st) s.heap.objs.size f cdv)) → sp vs H Q E →
      ∃ t, PSs (cxOf CX0 P w K mg base N qual (defScope st) f cdv A outer s H E).nox (defBody st) t ∧ t { nx := fun _ H' => Q .non H', rt := Q } (start N vs) H) : FnG P w K mg base (k + 1) f fd ps sp := by
  obtain ⟨oc, od, kV, doc, pm, an, cdv, ct, osl, rfl, lk, hcd⟩ := F.ex
  refine ⟨len, fun A outer s H args us vs Q E hg hr e0 hb r hsp => ?_⟩
  have KX : K.In s.heap := e0.mod.kin.keeps fun b o e => (e0.bs b o e).1
  have lim := e0.mod.nolimit.keeps (h' := s.heap) fun b o e => (e0.bs b o e).1
  have hl : vs.length = ps.length := len vs H Q E hsp
  have kinds : ∀ y ∈ ps.zip us, (defScope st).names.lookup y.1 = some .local ∨ ((defScope st).names.lookup y.1 = some .cell ∧ ((cellsFrom (s.heap.objs.size + 1) (defScope st).names []).lookup y.1).isSome = true) := by
    rintro ⟨n, v⟩ hy
    exact (S.par n (List.of_mem_zip hy).1).imp id fun q => ⟨q, PySem.W.cellsFrom_some _ _ _ (.inl q)⟩
  refine codeAny_call_function hr.depth (KX _ _ lk) rfl S.co S.gen rfl (PySem.W.codeRec_of KX hcd) (hb _ _ _ _ (wpAny_newFunctionEnv_cells S.kind kinds fun env he s1 x => ?_))
  cases he
  refine ⟨lim.keeps x.toInCall.keep, codeAny_func ?_⟩
  obtain ⟨t, ht, hq⟩ := hbody cdv A outer s H vs Q E hg (hr.deeper _) hsp
  refine wpAny_mono (ht.nox.run [] s1 (start N vs) H _ (inv_start S hr.hd e0 hl r x) hq) (fun fl s' hs => ?_) fun _ _ z => z
  rcases fl with u | _ | _ | _
  all_goals first
    | exact (let ⟨v, σ', H', J, rv, q⟩ := hs; ⟨v, H', J.os, J.bare, J.base, J.hok, rv, q⟩)
    | exact (let ⟨σ', H', J, q⟩ := hs; ⟨V.non, H', J.os, J.bare, J.base, J.hok, rfl, q⟩)
    | exact (let ⟨_, _, _, q⟩ := hs; q.elim)
end
/-! ### a def of the text that is called where no guard stands -/
structure Dg (P : Program) (w : World) (K : PySem.W.Frag) (mg : Str → Option Value) (base : Heap) (k : Nat) (x : Str) (f : Addr) (ps : List Str) (sp : Sp) : Prop where
  fn : ∃ fd, FnG P w K mg base k f fd ps sp ∧ Binds K fd ps []
  at_ : mg x = some (.ref f)
  kp : PySem.W.keepIn K (.ref f) = true
theorem Dt.okG {P : Program} {w : World} {K : PySem.W.Frag} {mg : Str → Option Value} {base : Heap} {x : Str} {st : Stmt} {f : Addr} {N ps : List Str} {k : Nat} {sp : Sp} (T : Dt K mg x st ps f) (S : FnScope N ps (defScope st)) (len : ∀ vs H Q E, sp vs H Q E → vs.length = ps.length)
    (hbody : ∀ (cdv : Value) (A : Around) (outer : List Env) (s : Shared) (H : Hp) (vs : List V) (Q : VK) (E : XK), A.guards = some [] → Room k (A.deeper (envOfC x (defScope st) s.heap.objs.size f cdv)) → sp vs H Q E →
      ∃ t, PSs (cxOf CX0 P w K mg base N x (defScope st) f cdv A outer s H E).nox (defBody st) t ∧ t { nx := fun _ H' => Q .non H', rt := Q } (start N vs) H) : Dg P w K mg base (k + 1) x f ps sp := by
  obtain ⟨fd, F, b⟩ := T.fn
  exact ⟨⟨fd, fnG_ok F S len hbody, b⟩, T.at_, F.kp⟩
section
variable {X : Cx} {k : Nat} {x : Str} {f : Addr} {fd : FuncData} {ps : List Str} {sp : Sp} {e : Expr} {es : List Expr} {t : TA} {p pos : Pos}
theorem run_fnG {pins : List (Addr × Obj)} {σ : L2.St} {H : Hp} {s : Shared} {Q : VK} {us : List Value} {vs : List V} (F : FnG X.prog X.w X.K X.mg X.base k f fd ps sp) (hg : X.A.guards = some []) (hr : Room k X.A) (hb : Binds X.K fd ps []) (I : Inv X pins σ H s) (r : Vals vs us) (h : sp vs H Q E0) :
    wpAny (model X.prog X.w) X.A (call (.ref f) us) (EP X pins σ Q) X.xe s := by
  have ln : us.length = ps.length := r.length.symm.trans (F.len _ _ _ _ h)
  have bd := hb s us I.kIn (by rw [List.append_nil]; exact ln)
  rw [List.append_nil] at bd
  refine wpAny_call (codeAny_mono (F.run X.A X.stack s H ⟨us, []⟩ us vs Q E0 hg hr I.env0 bd r h) fun z s' hq => ?_)
  rcases z with z | u | _ | _ | _ <;> first | exact I.after hq | exact pass0 pins σ H s z s' I hq | exact hq.elim
theorem pe_dg (D : Dg X.prog X.w X.K X.mg X.base k x f ps sp) (hg : X.A.guards = some []) (hr : Room k X.A) (ha : PA X (e :: es) t) (hgl : Gl X x := by rfl) (hd : (x == ("__debug__" : Str)) = false := by decide)
    (he : starEach (e :: es) X.env = (false, eval e X.env) :: starEach es X.env := by rfl) (hpl : (backTo pos (starEach es X.env)).any (·.1) = false := by rfl) : PE X (.Call (.Name x p) (e :: es) [] pos) (tCall sp [] E0 t) := by
  obtain ⟨fd, F, b⟩ := D.fn
  refine ⟨fun pins s σ H Q I h => wpAny_Call_Name_kw (ld_glob I hgl D.at_ ?_ hd)⟩
  refine PySem.W.callWith_K (h₀ := X.base) I.ok.mod.kin D.kp (thn (ha.run pos pins s σ H _ I h) fun us s1 ⟨vs, H1, I1, r, q⟩ => ⟨I1.kIn, run_fnG F hg hr b I1 r ?_⟩) he hpl
  have q2 : sp (vs ++ []) H1 Q E0 := q
  rw [List.append_nil] at q2
  exact q2
/-! ### repr of lists and tuples -/
def cRepr (K : PySem.W.Frag) : List V → Hp → VK → Prop := fun xs H Q => ∃ a d, xs = [.ref a] ∧ Dp K H (.ref a) d ∧ d.showable = true ∧ d.hasDict = false ∧ d.depth ≤ 60 ∧ d.shown.length ≤ sizeLine ∧ Q (.str d.shown) H
theorem call_reprA (hg : X.A.guards = some []) (hu : X.A.units + 64 < cLine) : CallR X (.builtin "repr") (cRepr X.K) := by
  intro pins s σ H xs us Q I r h
  obtain ⟨a, d, rfl, hD, hs, hn, hp, hz, q⟩ := h
  obtain ⟨u, rfl, r1⟩ := vals1 r
  cases r1
  obtain ⟨as, rd⟩ := Dp.reads I d _ _ hD rfl
  exact repr_of_reads' rd hs (fun z => by rw [hn] at z; cases z) hg (by omega) (fun _ _ e => e) (fun h' u tk hk => ⟨.str d.shown, H, I.kept hk, ⟨u, rfl⟩, q⟩) hz
end
/-! ### the law itself: it is called where no guard stands -/
section
variable {P : Program} {w : World} {K : PySem.W.Frag} {mg mb : Str → Option Value} {k : Nat} {fa a : Addr} {fd : FuncData} {x : Str} {sp : Sp} {s1 : Shared} {vs : List Value} {ns : List Int}
/-- from a heap in which the script alone may be tracked -/
theorem law_from (KX : K.In s1.heap) (hns : s1.heap.Ns mainGlobals mg) (hb : s1.heap.Ns builtinsNs mb) (hbb : ∀ x : Str, x ≠ "__name__" → mb x = bootBuiltins x) (hlim : s1.heap.NoLimit) (hg : s1.gens = #[])
    (ha : s1.heap.get? a = some { cls := .type "list", data := .seq vs.toArray }) (hr : Room k callerA) (F : ∀ base : Heap, K.In base → base.Ns mainGlobals mg → FnG P w K mg base k fa fd [x] sp) (hbind : ∀ (s : Shared) (u : Value), BindsTo s fd ⟨[u], []⟩ [(x, u)])
    (H : Hp) (hO : Only H) (hq : sp [.ref a] H (fun v _ => v = .bl true) E0) (hok : HOk P w H s1.heap) (hA : ∀ b, H b ≠ none → b = a) (hK : H a ≠ none → K.lookup a = none) :
    codeAny (model P w) callerA (.call (.ref fa) ⟨[.ref a], []⟩) (fun r s' => r = .ok (.ret (.bool true)) ∧ OldK s1.heap s'.heap ∧ s'.os = s1.os ∧ AllBare s'.gens) s1 := by
  have free : ∀ b, b ≠ a → H b = none := fun b nb => by
    cases q : H b with
    | none => rfl
    | some u => exact absurd (hA b (by rw [q]; nofun)) nb
  have dictFree : ∀ {b : Addr} {m : Str → Option Value}, s1.heap.Ns b m → (hidT s1.heap H).Ns b m := by
    rintro b m ⟨o, es, ep, e, d, r⟩
    refine ⟨o, es, ep, hidT_get e (free b ?_), d, r⟩
    rintro rfl
    rw [ha] at e
    cases e
    cases d
  have hKb : K.In (hidT s1.heap H) := fun b o e => hidT_get (KX b o e) (by
    cases q : H b with
    | none => rfl
    | some u =>
      cases hA b (by rw [q]; nofun)
      rw [hK (by rw [q]; nofun)] at e
      cases e)
  obtain ⟨mc, lim1, lim2⟩ := hlim
  have hM : Mod K mg (hidT s1.heap H) := ⟨hKb, dictFree hns, ⟨mb, dictFree hb, hbb⟩, ⟨mc, dictFree lim1, lim2⟩⟩
  have e0 : Env0 P w K mg (hidT s1.heap H) callerA [] s1 H := ⟨rfl, hM, fun b o e => of_hidT e, Nat.le_of_eq (hidT_size _ _), trivial, fun b hb => (List.not_mem_nil (show b ∈ ([] : List Addr) from hb)).elim, hok, .of_eq hg⟩
  refine codeAny_mono ((F _ hKb (dictFree hns)).run callerA [] s1 H ⟨[.ref a], []⟩ [.ref a] [.ref a] _ _ rfl hr e0 (hbind s1 (.ref a)) (.cons rfl .nil) hq) fun r s' h => ?_
  cases r with
  | error e => exact False.elim h
  | ok fl => cases fl with
    | ret u =>
      obtain ⟨v, H', os, bare, un, hok', r', q'⟩ := h
      cases (show v = .bl true from q')
      cases (show u = Value.bool true from r')
      refine ⟨rfl, OldK.of_keep fun b o e => ?_, os, bare⟩
      rcases hO b with z | ⟨ob, xs, z⟩
      · exact un.keep b o e z (fun q => (List.not_mem_nil (show b ∈ ([] : List Addr) from q)).elim) (by simp)
      · obtain ⟨e1, _⟩ := hok b _ z
        obtain ⟨e2, _⟩ := hok' b _ (un.frzs b ob _ z)
        rw [e] at e1
        cases e1
        exact e2
    | _ => exact False.elim h
theorem law_callG (KX : K.In s1.heap) (hns : s1.heap.Ns mainGlobals mg) (hb : s1.heap.Ns builtinsNs mb) (hbb : ∀ x : Str, x ≠ "__name__" → mb x = bootBuiltins x) (hlim : s1.heap.NoLimit) (hg : s1.gens = #[])
    (ha : s1.heap.get? a = some { cls := .type "list", data := .seq vs.toArray }) (hi : IntsAre vs ns) (hl : ns.length ≤ sizeLine) (hr : Room k callerA) (F : ∀ base : Heap, K.In base → base.Ns mainGlobals mg → FnG P w K mg base k fa fd [x] sp)
    (hbind : ∀ (s : Shared) (u : Value), BindsTo s fd ⟨[u], []⟩ [(x, u)]) (hsp : ∀ H : Hp, Only H → SqL K H a (ns.map V.int) → sp [.ref a] H (fun v _ => v = .bl true) E0) :
    codeAny (model P w) callerA (.call (.ref fa) ⟨[.ref a], []⟩) (fun r s' => r = .ok (.ret (.bool true)) ∧ OldK s1.heap s'.heap ∧ s'.os = s1.os ∧ AllBare s'.gens) s1 := by
  have core := law_from (P := P) (w := w) (sp := sp) KX hns hb hbb hlim hg ha hr F hbind
  have lenV := hi.length
  have rv := vals_ints hi
  cases hk : K.lookup a with
  | some o =>
    have e := ha.symm.trans (KX a o hk)
    cases e
    have hO : Only (fun _ => none) := fun _ => .inl rfl
    exact core _ hO (hsp _ hO (.inr ⟨_, vs.toArray, _, hk, rfl, rfl, rfl, by rw [List.size_toArray, lenV]; exact hl, by simpa using rv⟩)) (fun b u z => nomatch (show (none : Option HO) = some u from z)) (fun b z => absurd rfl z) (fun z => absurd rfl z)
  | none =>
    have at_ : (fun b => if b = a then some (HO.frz { cls := .type "list", data := .seq vs.toArray } (.lst (ns.map V.int))) else none : Hp) a = some (HO.frz { cls := .type "list", data := .seq vs.toArray } (.lst (ns.map V.int))) := if_pos rfl
    have off : ∀ b, b ≠ a → (fun b => if b = a then some (HO.frz { cls := .type "list", data := .seq vs.toArray } (.lst (ns.map V.int))) else none : Hp) b = none := fun b nb => if_neg nb
    generalize (fun b => if b = a then some (HO.frz { cls := .type "list", data := .seq vs.toArray } (.lst (ns.map V.int))) else none : Hp) = H at at_ off
    have hO : Only H := fun b => (Decidable.em (b = a)).elim (fun e => .inr ⟨_, _, e ▸ at_⟩) fun e => .inl (off b e)
    refine core H hO (hsp H hO (.inl (.inr ⟨_, at_⟩))) (fun b u z => ?_) (fun b z => Decidable.byContradiction fun e => z (off b e)) fun _ => hk
    obtain rfl : b = a := Decidable.byContradiction fun e => nomatch (off b e).symm.trans z
    cases at_.symm.trans z
    exact ⟨ha, by rw [List.length_map]; exact hl, vs, _, rv, ha⟩
end
theorem walk_G {l : PySem.W.OpenLaw} {n k : Nat} {q : Program} {loose : List Str} {XP : (Str → Option Value) → Heap → Prop} {YP : World → Heap → Prop} {d : DefRec} {K : Params → PySem.W.Frag} {sp : World → Sp} {x : Str} (hn : l.most = some n) (hn2 : n ≤ sizeLine) (hdf : d.params.defaults = []) (hr : Room k callerA)
    (hY : ∀ (w : World) (h : Heap), YP w h → (K w.params).In h) (F : ∀ (w : World) (mg : Str → Option Value) (fa : Addr) (h : Heap), (K w.params).In h → h.Ns mainGlobals mg → mg d.name = some (.ref fa) →
      ∃ fd : FuncData, (∀ (s : Shared) (u : Value), BindsTo s fd ⟨[u], []⟩ [(x, u)]) ∧ ∀ base : Heap, (K w.params).In base → base.Ns mainGlobals mg → FnG l.prog w (K w.params) mg base k fa fd [x] (sp w))
    (hsp : ∀ (w : World) (H : Hp) (a : Addr) (ns : List Int), ns.length ≤ n → (∀ z ∈ ns, Builtin.Int.intBits z ≤ 1048576) → Only H → SqL (K w.params) H a (ns.map V.int) → sp w [.ref a] H (fun v _ => v = .bl true) E0) : PySem.W.WalkO q loose XP YP l.row.toRowW d [] (fun f vs => PySem.call f vs) := by
  refine Att.attach_callB hn hdf fun w s0 s1 mg mb fa o pm cd doc a vs ns G Y ho hd hcd hmg hobj hints hlen hbits hg => ?_
  obtain ⟨fd, hb, hF⟩ := F w mg fa _ (hY w _ Y) G.T.g hmg
  exact law_callG (hY w _ Y) G.T.g G.T.b G.T.builtins G.T.nolimit hg hobj hints (Nat.le_trans hlen hn2) hr hF hb fun H hO hS => hsp w H a ns hlen hbits hO hS
end Kt

set_option Elab.async false
set_option linter.all false
set_option maxRecDepth 100000
namespace Kt
open PySem PySem.Spec L2 PyProof.Rows
/-! ### instances of a class without an own __eq__: == is being the same -/
section
variable {M : Model} {prog : Program} {w : World} {A : Around} {E : Value → Shared → Prop} {s : Shared} {K : PySem.W.Frag} {x y C dx dy : Addr} {od od2 : Option Obj}
theorem isSame_inst {R : Bool → Shared → Prop} (hx : s.heap.get? x = some (PySem.W.instObj C dx)) (hy : s.heap.get? y = some (PySem.W.instObj C dy)) (h : R (decide (x = y)) s) : wpAny M A (isSame (.ref x) (.ref y)) R E s := by
  unfold isSame
  by_cases e : x = y
  · subst e
    rw [decide_eq_true rfl] at h
    refine wpAny_ite_split (fun _ => wpAny_pure h) (fun q => absurd (beq_self_eq_true x) (by simpa using q))
  · rw [decide_eq_false e] at h
    refine wpAny_ite_split (fun q => absurd (beq_iff_eq.mp q) e) (fun _ => ?_)
    refine wpAny_bind (PySem.W.nd_load hx (wpAny_pure ?_))
    refine wpAny_bind (PySem.W.nd_load hy (wpAny_pure ?_))
    exact wpAny_pure h
theorem objEq_inst {Q : Fin → Shared → Prop} (hx : s.heap.get? x = some (PySem.W.instObj C dx)) (hy : s.heap.get? y = some (PySem.W.instObj C dy)) (hq : Q (.done (.ret (if x = y then .bool true else .notImplemented))) s) : wpAny M A (Builtin.«object.__eq__» ⟨[.ref x, .ref y], []⟩) Q E s := by
  unfold Builtin.«object.__eq__»
  repeat (first | with_reducible refine isSame_inst hx hy ?_ | wp_step)
  by_cases e : x = y
  · rw [if_pos e] at hq
    rw [decide_eq_true e]
    exact wpAny_pure hq
  · rw [if_neg e] at hq
    rw [decide_eq_false e]
    exact wpAny_pure hq
theorem try_inst (X : K.In s.heap) (I : PySem.W.InstAt s.heap x (PySem.W.instObj C dx) C od) (hm : PySem.W.mroIn K C (.type "object") = some true) (hs : PySem.W.findIn K (.ref C) "__eq__" = some (some (.builtin "object.__eq__"))) (hy : s.heap.get? y = some (PySem.W.instObj C dy)) :
    wpAny (model prog w) A (tryCompare (.ref x) "__eq__" (.ref y)) (fun r s' => r = (if x = y then some (Value.bool true) else none) ∧ s' = s) E s := by
  unfold tryCompare
  refine wpAny_bind (HN.ifBound_objEq X I hs (wpAny_call (codeAny_call_builtin F.cmp_object.eq.plain F.cmpEntry_eq (PySem.W.check_slot F.cmpKind_eq F.cmpSplit_eq (I.type.andThen (PySem.W.looks_mroIn X hm)) (F.cmpArgs_eq _ _) (objEq_inst I.at_ hy ?_)))))
  by_cases e : x = y
  · rw [if_pos e, if_pos e]
    exact wpAny_pure ⟨rfl, rfl⟩
  · rw [if_neg e, if_neg e]
    exact wpAny_pure ⟨rfl, rfl⟩
theorem rc_inst (hu : A.units < cLine) (X : K.In s.heap) (I : PySem.W.InstAt s.heap x (PySem.W.instObj C dx) C od) (J : PySem.W.InstAt s.heap y (PySem.W.instObj C dy) C od2) (hm : PySem.W.mroIn K C (.type "object") = some true) (hs : PySem.W.findIn K (.ref C) "__eq__" = some (some (.builtin "object.__eq__"))) {Q : Value → Shared → Prop}
    (h : Q (.bool (decide (x = y))) s) : wpAny (model prog w) A (richCompare .Eq (.ref x) (.ref y)) Q E s := by
  simp only [richCompare, cmpInfo_Eq, oneThing_ref]
  refine wpAny_holding (wpAny_bind (wpAny_cRoomFor hu ?_))
  refine wpAny_bind (I.type.here (wpAny_bind (J.type.here ?_)))
  rw [if_neg (by simp)]
  refine wpAny_bind (wpAny_pure ?_)
  simp only [Bool.false_eq_true, if_false, Bool.not_false, if_true]
  refine wpAny_bind (m := tryCompare (.ref x) _ (.ref y)) (wpAny_mono (try_inst X I hm hs J.at_) (fun r s1 z => ?_) fun _ _ e => e)
  obtain ⟨z1, z2⟩ := z
  subst z2
  by_cases e : x = y
  · rw [if_pos e] at z1
    subst z1
    rw [decide_eq_true e] at h
    exact wpAny_pure h
  · rw [if_neg e] at z1
    subst z1
    refine wpAny_bind (m := tryCompare (.ref y) _ (.ref x)) (wpAny_mono (try_inst X J hm hs I.at_) (fun r s2 z => ?_) fun _ _ e => e)
    obtain ⟨z1, z2⟩ := z
    subst z2
    rw [if_neg (fun q => e q.symm)] at z1
    subst z1
    exact wpAny_bind (wpAny_rule (wpAny_bind (isSame_inst I.at_ J.at_ (wpAny_pure h))))
end
def rEqIns (K : PySem.W.Frag) : R2 := fun x y H Q => ∃ a b C dx fs dy gs, x = .ref a ∧ y = .ref b ∧ H a = some (.ins C dx fs) ∧ H b = some (.ins C dy gs) ∧ PySem.W.mroIn K C (.type "object") = some true ∧ PySem.W.findIn K (.ref C) "__eq__" = some (some (.builtin "object.__eq__")) ∧ Q (.bl (decide (a = b))) H
theorem op_eqIns {X : Cx} (hu : X.A.units + 64 < cLine) : OpR X (compareOp .Eq) (rEqIns X.K) := by
  intro pins s σ H x y v u Q I rx ry h
  obtain ⟨a, b, C, dx, fs, dy, gs, rfl, rfl, h1, h2, hm, he, q⟩ := h
  cases (show v = Value.ref a from rx)
  cases (show u = Value.ref b from ry)
  obtain ⟨_, O1, _⟩ := ins_get I.hok h1
  obtain ⟨_, O2, _⟩ := ins_get I.hok h2
  obtain ⟨_, J1, _⟩ := O1.look
  obtain ⟨_, J2, _⟩ := O2.look
  exact rc_inst (by omega) I.kIn J1 J2 hm he ⟨.bl _, H, I, rfl, q⟩
end Kt

set_option Elab.async false
set_option linter.all false
set_option maxRecDepth 100000
namespace Kt
open PySem L2 PyProof.Rows
/-! ### data that may be shown: its texts are short -/
structure Sh (k W : Nat) (d : PyData) : Prop where
  ok : Okd k d
  sh : d.showable = true
  sm : d.leavesShort 64 = true
  wt : d.weight ≤ W
theorem Sh.nd {k W : Nat} {d : PyData} (h : Sh k W d) : d.hasDict = false := PyData.hasDict_of_canLay d h.ok.1
theorem Sh.fits {k W : Nat} {d : PyData} (h : Sh k W d) (hW : W ≤ 200000) : d.shown.length ≤ sizeLine := by
  have h1 := PyData.shown_le 64 (by decide) d h.sm
  have h2 : (64 + 2) * d.weight ≤ 66 * 200000 := Nat.mul_le_mul (by omega) (Nat.le_trans h.wt hW)
  have e : sizeLine = 16777216 := by decide
  omega
theorem Sh.up {k k' W W' : Nat} {d : PyData} (h : Sh k W d) (hk : k ≤ k') (hW : W ≤ W') : Sh k' W' d := ⟨⟨h.ok.1, Nat.le_trans h.ok.2 hk⟩, h.sh, h.sm, Nat.le_trans h.wt hW⟩
theorem sh_int {k : Nat} {i : Int} (h : i.natAbs < 10 ^ 60) : Sh k 200 (.int i) := by
  refine ⟨okd_int i, ?_, ?_, ?_⟩
  · rw [PyData.showable]
    refine decide_eq_true ?_
    have h2 : i.natAbs < 2 ^ 200 := Nat.lt_trans h (by decide)
    by_cases h0 : i.natAbs = 0
    · rw [h0]; decide
    · exact Nat.lt_trans ((Nat.log2_lt h0).mpr h2) (by decide)
  · rw [PyData.leavesShort]
    refine decide_eq_true ?_
    have e := int_text_length_le10 (k := 60) (by decide) h
    show (Str.ofString (toString i)).length ≤ 64
    rw [PySem.ofString_length]
    omega
  · rw [PyData.weight]
    have h2 : i.natAbs < 2 ^ 200 := Nat.lt_trans h (by decide)
    by_cases h0 : i.natAbs = 0
    · rw [h0]
      split
      · decide
      · decide
    · have := (Nat.log2_lt h0).mpr h2
      split
      · decide
      · omega
theorem sh_non {k : Nat} : Sh k 0 .none := ⟨okd_non, rfl, rfl, Nat.le_refl _⟩
theorem sh_bl {k : Nat} (b : Bool) : Sh k 1 (.bool b) := ⟨okd_bl b, rfl, rfl, by cases b <;> decide⟩
theorem sh_all {k W : Nat} : ∀ {ds : List PyData}, (∀ d ∈ ds, Sh k W d) → PyData.showableAll ds = true ∧ PyData.leavesShortAll 64 ds = true ∧ PyData.weightAll ds ≤ ds.length * (W + 1)
  | [], _ => ⟨rfl, rfl, Nat.zero_le _⟩
  | d :: ds, h => by
    obtain ⟨h1, h2, h3⟩ := sh_all (ds := ds) fun x m => h x (List.mem_cons_of_mem _ m)
    have g := h d List.mem_cons_self
    refine ⟨?_, ?_, ?_⟩
    · rw [PyData.showableAll, g.sh, h1]; rfl
    · rw [PyData.leavesShortAll, g.sm, h2]; rfl
    · rw [PyData.weightAll, List.length_cons, Nat.succ_mul]
      have := g.wt
      omega
theorem sh_list {k W : Nat} {ds : List PyData} (h : ∀ d ∈ ds, Sh k W d) : Sh (k + 1) (ds.length * (W + 1)) (.list ds) := by
  obtain ⟨h1, h2, h3⟩ := sh_all h
  exact ⟨okd_list fun d m => (h d m).ok, by rw [PyData.showable]; exact h1, by rw [PyData.leavesShort]; exact h2, by rw [PyData.weight]; exact h3⟩
theorem sh_tuple {k W : Nat} {ds : List PyData} (h : ∀ d ∈ ds, Sh k W d) : Sh (k + 1) (ds.length * (W + 1)) (.tuple ds) := by
  obtain ⟨h1, h2, h3⟩ := sh_all h
  exact ⟨okd_tuple fun d m => (h d m).ok, by rw [PyData.showable]; exact h1, by rw [PyData.leavesShort]; exact h2, by rw [PyData.weight]; exact h3⟩
theorem sh_ints {k : Nat} {ns : List Int} (h : ∀ n ∈ ns, n.natAbs < 10 ^ 60) : Sh (k + 1) (ns.length * 201) (dInts ns) := by
  have := sh_list (k := k) (W := 200) (ds := ns.map PyData.int) fun d m => by
    obtain ⟨i, hi, rfl⟩ := List.mem_map.mp m
    exact sh_int (h i hi)
  rw [List.length_map] at this
  exact this
end Kt

set_option Elab.async false
set_option linter.all false
set_option maxRecDepth 100000
namespace Kt
open PySem PySem.Spec L2 PyProof.Rows
section
variable {X : Cx} {C : Addr} {k : Nat} {ps : List Str} {sp : Sp}
/-! ### own __getitem__, own __len__ -/
def rIxOwn (C : Addr) (sp : Sp) : R2 := fun x y H Q => ∃ a dx fs, x = .ref a ∧ H a = some (.ins C dx fs) ∧ sp [.ref a, y] H Q E0
theorem pe_ixOwn {a b : Expr} {ta tb : TE} {pos : Pos} (M : Mf X.prog X.w X.K X.mg X.base k C "__getitem__" ps sp) (hfn : ∀ f, PySem.W.findIn X.K (.ref C) "__getitem__" = some (some (.ref f)) → PySem.W.fnIn X.K f = true) (hr : Room (k + 1) X.A) (ha : PE X a ta) (hb : PE X b tb)
    (hs : ∀ o i, subscripted b true o i = runValue (.builtin "lifetime.subscript" ⟨[o, i], []⟩) := by exact fun _ _ => rfl) : PE X (.Subscript a b pos) (tOp (rIxOwn C sp) ta tb) := by
  refine ⟨fun pins s σ H Q I h => Subscript_ (binT ha hb I h fun v u s2 x y H2 I2 rx ry q => ?_)⟩
  obtain ⟨o, dx, fs, rfl, ho, q⟩ := q
  cases (show v = Value.ref o from rx)
  obtain ⟨f, fd, F, b, hm⟩ := M.fn
  obtain ⟨ox, od, J⟩ := ins_at I2 ho
  obtain ⟨m, hF⟩ := I2.fr
  have bd := b s2 [.ref o, u] I2.kIn (by rw [List.append_nil]; exact F.len _ _ _ _ q)
  rw [List.append_nil] at bd
  refine PySem.W.sub_K hF I2.ok.mod.kin J hm.at_ (hfn f hm.at_) hm.fn (wpAny_call (codeAny_mono (F.run X.A.in1 X.stack s2 H2 ⟨[.ref o, u], []⟩ [.ref o, u] [.ref o, y] Q E0 hr.in1 I2.env0.in1 bd (.cons rfl (.cons ry .nil)) q) fun z s' hq => ?_)) (hs _ _)
  cases z with
  | error e => exact pass0 pins σ H2 s2 e s' I2 hq
  | ok fl => cases fl with
    | ret u => exact I2.after hq
    | _ => exact False.elim hq
def cLenOwn (C : Addr) (sp : Sp) : List V → Hp → VK → Prop := fun xs H Q => ∃ a dx fs, xs = [.ref a] ∧ H a = some (.ins C dx fs) ∧ sp [.ref a] H (fun v H' => ∃ n : Nat, v = .int n ∧ (n : Int) < 2 ^ 62 ∧ Q (.int n) H') E0
theorem call_lenOwn (M : Mf X.prog X.w X.K X.mg X.base k C "__len__" ps sp) (hr : Room (k + 1) X.A) : CallR X (.builtin "len") (cLenOwn C sp) := by
  intro pins s σ H xs us Q I r h
  obtain ⟨a, dx, fs, rfl, ha, q⟩ := h
  obtain ⟨u, rfl, r1⟩ := vals1 r
  cases r1
  obtain ⟨f, fd, F, b, hm⟩ := M.fn
  obtain ⟨ox, od, J⟩ := ins_at I ha
  obtain ⟨m, hF⟩ := I.fr
  have bd := b s [.ref a] I.kIn (by rw [List.append_nil]; exact F.len _ _ _ _ q)
  rw [List.append_nil] at bd
  refine PySem.W.len_K hF I.ok.mod.kin J hm.at_ hm.fn (wpAny_call (codeAny_mono (F.run X.A.in1 X.stack s H ⟨[.ref a], []⟩ [.ref a] [.ref a] _ E0 hr.in1 I.env0.in1 bd (.cons rfl .nil) q) fun z s' hq => ?_))
  cases z with
  | error e => exact pass0 pins σ H s e s' I hq
  | ok fl => cases fl with
    | ret u =>
      obtain ⟨v, H', I3, rv, n, rfl, hn, q3⟩ := I.after hq
      obtain ⟨t, rfl⟩ := rv
      exact ⟨⟨by omega, by omega⟩, ⟨.int n, H', I3.tok _, ⟨_, rfl⟩, q3⟩⟩
    | _ => exact False.elim hq
/-! ### len(range(n)) -/
def tLenRng (te : TE) : TE := fun σ H Q => te σ H fun x H1 => ∃ n : Nat, x = .int n ∧ (n : Int) < 2 ^ 62 ∧ Q (.int n) H1
theorem pe_lenRng {e : Expr} {te : TE} {p1 p2 pos pos2 : Pos} (he : PE X e te) (g1 : X.mg "len" = none) (g2 : X.mg "range" = none) (l1 : Gl X "len" := by rfl) (l2 : Gl X "range" := by rfl) (h1 : starEach [e] X.env = [(false, eval e X.env)] := by rfl)
    (h2 : starEach [.Call (.Name "range" p2) [e] [] pos2] X.env = (false, eval (.Call (.Name "range" p2) [e] [] pos2) X.env) :: starEach [] X.env := by rfl) (h3 : (backTo pos (starEach [] X.env)).any (·.1) = false := by rfl) :
    PE X (.Call (.Name "len" p1) [.Call (.Name "range" p2) [e] [] pos2] [] pos) (tLenRng te) := by
  refine ⟨fun pins s σ H Q I h => wpAny_Call_Name_kw (ld_blt I l1 g1 PySem.boot_len (callWith_builtin1 ?_ h2 h3))⟩
  rw [h2]
  refine Calls.spliced_cons ?_
  refine Call_ (ld_blt I l2 g2 boot_range (PyProof.Rows.callWith_type1 (e := e) (rest := []) ?_ h1 rfl))
  rw [h1]
  refine Calls.spliced_cons (thn (he.run pins s σ H _ I h) fun u s1 ⟨x, H1, I1, r1, n, e1, hn, q⟩ => ?_)
  subst e1
  obtain ⟨t, rfl⟩ := r1
  refine Calls.spliced_nil (call_range_1 ?_)
  refine Calls.spliced_nil (call_len_range (n := n) (Heap.get?_push_size _ rfl) ?_ (by omega) ⟨.int n, H1, I1.kept fun b o z => Heap.get?_push_of_some _ z, ⟨_, rfl⟩, q⟩)
  rw [rangeSize_one]
  split <;> omega
theorem r_lenRng {σ : L2.St} {H : Hp} {Q : VK} {te : TE} (h : te σ H fun x H1 => ∃ n : Nat, x = .int n ∧ (n : Int) < 2 ^ 62 ∧ Q (.int n) H1) : tLenRng te σ H Q := h
end
end Kt

set_option Elab.async false
set_option linter.all false
set_option maxRecDepth 100000
namespace Kt
open PySem PySem.Spec L2 PyProof.Rows
/-! ### own __eq__ by == and by != -/
section
variable {prog : Program} {w : World} {A : Around} {E : Value → Shared → Prop} {s : Shared} {K : PySem.W.Frag} {x y C f : Addr} {ox oy : Obj} {od od2 : Option Obj}
theorem ifBound_ne {M : Model} {args : List Value} {Q : Option Value → Shared → Prop} (X : K.In s.heap) (I : PySem.W.InstAt s.heap x ox C od) (hs : PySem.W.findIn K (.ref C) "__ne__" = some (some (.builtin "object.__ne__")))
    (h : wpAny M A (call (.builtin "object.__ne__") (.ref x :: args)) (fun v => Q (some v)) E s) : wpAny M A (callSpecialIfBound? (.ref x) "__ne__" args) Q E s := by
  simp only [callSpecialIfBound?, bindSpecialIfBound?]
  refine wpAny_holding (wpAny_bind (wpAny_bind (wpAny_bind (I.type.here ((PySem.W.looks_findIn X hs).here ?_)))))
  refine wpAny_bind (wpAny_askSetting (wpAny_ite ?_))
  have fin : wpAny M A (call (.builtin "object.__ne__") ([.ref x] ++ args) >>= fun v => pure (some v)) Q E s := wpAny_bind (wpAny_mono h (fun v s' h' => wpAny_pure h') fun _ _ h' => h')
  split
  · exact wpAny_bind (wpAny_of_eq (F.cmp_object.ne.bind _) (wpAny_pure (by exact fin)))
  · exact wpAny_tryCatch (wpAny_bind (wpAny_of_eq (F.cmp_object.ne.bind _) (wpAny_pure (by exact fin))))
theorem objNe_own {b : Value} {Q : Fin → Shared → Prop} (hu : A.units < cLine) (X : K.In s.heap) (I : PySem.W.InstAt s.heap x ox C od) (hs : PySem.W.findIn K (.ref C) "__eq__" = some (some (.ref f))) (hf : PySem.W.isFn K (.ref f) = true)
    (hcall : wpAny (model prog w) A (call (.ref f) [.ref x, b]) (fun v s' => ∃ k, v = .bool k ∧ Q (.done (.ret (.bool (!k)))) s') E s) : wpAny (model prog w) A (Builtin.«object.__ne__» ⟨[.ref x, b], []⟩) Q E s := by
  unfold Builtin.«object.__ne__»
  repeat (first
    | with_reducible refine wpAny_cRoomFor hu ?_
    | (refine wpAny_bind (m := callSpecialIfBound? (.ref x) (Str.ofString "__eq__") [b])
        (PySem.W.ifBound_K X I hs hf (wpAny_mono hcall (fun r s' hr => by
          obtain ⟨k, rfl, hq⟩ := hr
          repeat (first | exact hq | exact wpAny_pure hq | exact wpAny_truthy_bool hq | (refine wpAny_bind (m := truthy (.bool _)) (wpAny_truthy_bool ?_)) | wp_step)) fun _ _ e => e)))
    | wp_step)
theorem ne_own {b tb : Value} {Q : Value → Shared → Prop} (hu : A.units + 1 < cLine) (X : K.In s.heap) (I : PySem.W.InstAt s.heap x ox C od) (hb : PySem.W.Looks (model prog w) s.heap (typeOf b) tb) (hn : PySem.W.notFirst K C tb = true)
    (hm : PySem.W.mroIn K C (.type "object") = some true) (hne : PySem.W.findIn K (.ref C) "__ne__" = some (some (.builtin "object.__ne__"))) (hs : PySem.W.findIn K (.ref C) "__eq__" = some (some (.ref f))) (hf : PySem.W.isFn K (.ref f) = true)
    (h : wpAny (model prog w) A.in1 (call (.ref f) [.ref x, b]) (fun v s' => ∃ k, v = .bool k ∧ Q (.bool (!k)) s') E s) : wpAny (model prog w) A (richCompare .NotEq (.ref x) b) Q E s := by
  have one : wpAny (model prog w) A (tryCompare (.ref x) "__ne__" b) (fun r s' => ∃ k, r = some (.bool k) ∧ Q (.bool k) s') E s := by
    unfold tryCompare
    refine wpAny_bind (ifBound_ne X I hne (wpAny_call (codeAny_call_builtin F.cmp_object.ne.plain F.cmpEntry_ne (PySem.W.check_slot F.cmpKind_ne F.cmpSplit_ne (I.type.andThen (PySem.W.looks_mroIn X hm)) (F.cmpArgs_ne _ _)
      (objNe_own (A := A.in1) hu X I hs hf (wpAny_mono h (fun v s' hv => ?_) fun _ _ e => e))))))
    obtain ⟨k, rfl, hq⟩ := hv
    exact ⟨k, rfl, wpAny_pure ⟨_, rfl, hq⟩⟩
  unfold richCompare
  simp only [oneThing_ref]
  refine wpAny_holding (wpAny_bind (wpAny_cRoomFor (by omega) ?_))
  rw [cmpInfo_NotEq]
  refine wpAny_bind (I.type.here (wpAny_bind (hb.here ?_)))
  split
  · rename_i q
    have e : PySem.W.subIn K tb (.ref C) = some false := by
      rcases Bool.or_eq_true_iff.mp hn with e | e
      · rw [beq_iff_eq.mp e] at q; simp at q
      · exact beq_iff_eq.mp e
    refine wpAny_bind ((PySem.W.looks_subIn X e).here ?_)
    simp only [Bool.false_eq_true, if_false]
    refine wpAny_bind (wpAny_mono one (fun r s' z => ?_) fun _ _ e => e)
    obtain ⟨v, rfl, hq⟩ := z
    exact wpAny_pure hq
  · refine wpAny_bind (wpAny_pure ?_)
    simp only [Bool.false_eq_true, if_false]
    refine wpAny_bind (wpAny_mono one (fun r s' z => ?_) fun _ _ e => e)
    obtain ⟨v, rfl, hq⟩ := z
    exact wpAny_pure hq
end
section
variable {X : Cx} {C : Addr} {k : Nat} {ps : List Str} {sp : Sp}
def rEqOwn (C : Addr) (sp : Sp) : R2 := fun x y H Q => ∃ a b dx fs dy gs, x = .ref a ∧ y = .ref b ∧ H a = some (.ins C dx fs) ∧ H b = some (.ins C dy gs) ∧ sp [.ref a, .ref b] H (fun v H' => ∃ k, v = .bl k ∧ Q (.bl k) H') E0
def rNeOwn (C : Addr) (sp : Sp) : R2 := fun x y H Q => ∃ a b dx fs dy gs, x = .ref a ∧ y = .ref b ∧ H a = some (.ins C dx fs) ∧ H b = some (.ins C dy gs) ∧ sp [.ref a, .ref b] H (fun v H' => ∃ k, v = .bl k ∧ Q (.bl (!k)) H') E0
theorem op_eqOwn (M : Mf X.prog X.w X.K X.mg X.base k C "__eq__" ps sp) (hr : Room k X.A) : OpR X (compareOp .Eq) (rEqOwn C sp) := by
  intro pins s σ H x y v u Q I rx ry h
  obtain ⟨a, b, dx, fs, dy, gs, rfl, rfl, ha, hb', q⟩ := h
  cases (show v = Value.ref a from rx)
  cases (show u = Value.ref b from ry)
  obtain ⟨f, fd, F, bb, hm⟩ := M.fn
  obtain ⟨ox, od, J⟩ := ins_at I ha
  obtain ⟨ox', od', J'⟩ := ins_at I hb'
  obtain ⟨m, hF⟩ := I.fr
  refine PySem.W.cmp_K (op := .Eq) (tb := .ref C) hr.units0 hF I.ok.mod.kin J J'.type (by simp [PySem.W.notFirst]) hm.at_ hm.fn ?_
  refine wpAny_mono (run_fn (us := [.ref a, .ref b]) (vs := [.ref a, .ref b]) F hr bb .nil pass0 I (.cons rfl (.cons rfl .nil)) (by rw [List.append_nil]; exact q)) (fun z s' hz => ?_) fun _ _ z => z
  obtain ⟨y', H', I', r', k, rfl, q'⟩ := hz
  cases r'
  exact ⟨.bl k, H', I', rfl, q'⟩
theorem op_neOwn (M : Mf X.prog X.w X.K X.mg X.base k C "__eq__" ps sp) (hr : Room (k + 1) X.A) (hmr : PySem.W.mroIn X.K C (.type "object") = some true) (hne : PySem.W.findIn X.K (.ref C) "__ne__" = some (some (.builtin "object.__ne__"))) : OpR X (compareOp .NotEq) (rNeOwn C sp) := by
  intro pins s σ H x y v u Q I rx ry h
  obtain ⟨a, b, dx, fs, dy, gs, rfl, rfl, ha, hb', q⟩ := h
  cases (show v = Value.ref a from rx)
  cases (show u = Value.ref b from ry)
  obtain ⟨f, fd, F, bb, hm⟩ := M.fn
  obtain ⟨ox, od, J⟩ := ins_at I ha
  obtain ⟨ox', od', J'⟩ := ins_at I hb'
  obtain ⟨m, hF⟩ := I.fr
  have bd := bb s [.ref a, .ref b] I.kIn (by rw [List.append_nil]; exact F.len _ _ _ _ q)
  rw [List.append_nil] at bd
  refine ne_own (tb := .ref C) (by have := hr.units; omega) I.kIn J J'.type (by simp [PySem.W.notFirst]) hmr hne hm.at_ hm.fn ?_
  refine wpAny_call (codeAny_mono (F.run X.A.in1 X.stack s H ⟨[.ref a, .ref b], []⟩ [.ref a, .ref b] [.ref a, .ref b] _ E0 hr.in1 I.env0.in1 bd (.cons rfl (.cons rfl .nil)) q) fun z s' hq => ?_)
  cases z with
  | error e => exact pass0 pins σ H s e s' I hq
  | ok fl => cases fl with
    | ret u =>
      obtain ⟨v, H', I3, rv, k, rfl, q3⟩ := I.after hq
      cases rv
      exact ⟨k, rfl, .bl (!k), H', I3, rfl, q3⟩
    | _ => exact False.elim hq
end
end Kt

set_option Elab.async false
set_option linter.all false
set_option maxRecDepth 100000
namespace Kt
open PySem L2 PyProof.Rows
section
variable {K : PySem.W.Frag} {σ : L2.St} {H : Hp} {D : Ends} {Q : VK} {a b : Addr} {xs ys : List V} {Ps : List SP} {g : TG} {tb : TS} {tr : TA}
def kZip (K : PySem.W.Frag) (R : It → Hp → Prop) : List V → Hp → Prop := fun vs H1 => ∃ a b xs ys, vs = [.ref a, .ref b] ∧ SqL K H1 a xs ∧ SqL K H1 b ys ∧ R (Itz K a b) H1
theorem r_izip {R : It → Hp → Prop} (h : tr σ H (kZip K R)) : iZip K tr σ H R := h
theorem r_for_zip (J : LW) (hlen : xs.length = ys.length) (S : Sep Ps H) (h0 : J 0 σ Ps) (hl : ∀ i σ Ps H, J i σ Ps → Sep Ps H → SqL K H a xs ∧ SqL K H b ys)
    (hs : ∀ i x y T σ Ps H, xs[i]? = some x → ys[i]? = some y → J i σ Ps → Sep (pt T (.tup [x, y]) :: Ps) H → g (.ref T) σ H fun σ2 H2 => tb { D with nx := Nx J (i + 1), ct := Nx J (i + 1), bk := D.nx } σ2 H2) (hd : ∀ σ Ps H, J xs.length σ Ps → Sep Ps H → D.nx σ H) :
    kZip K (fun Jt H1 => ForW Jt g tb D σ H1) [.ref a, .ref b] H :=
  ⟨a, b, xs, ys, rfl, (hl 0 σ Ps H h0 S).1, (hl 0 σ Ps H h0 S).2, RZ.for_zipL (K := K) (a := a) (b := b) hlen (Nx J) ⟨Ps, h0, S⟩ (fun i σ H ⟨Ps, j, S⟩ => hl i σ Ps H j S) (fun i x y T σ H hx hy ⟨Ps, j, S⟩ hT => hs i x y T σ Ps _ hx hy j (S.new _ hT)) fun σ H ⟨Ps, j, S⟩ => hd σ Ps H j S⟩
end
theorem pi_zipK {X : Cx} (K : PySem.W.Frag) {e e2 : Expr} {ta : TA} {p pos tpos : Pos} {elts : List Expr} {kk : Nat} (hg : Gl X "zip") (hm : X.mg "zip" = none) (ha : PA X [e, e2] ta) (hK : X.K = K := by rfl)
    (hs : starEach [e, e2] X.env = (false, eval e X.env) :: starEach [e2] X.env := by rfl) (hpl : (backTo pos (starEach [e2] X.env)).any (·.1) = false := by rfl) :
    PI X (.Tuple elts kk tpos) (.Call (.Name "zip" p) [e, e2] [] pos) (iZip K ta) := hK ▸ pi_zip hg hm ha hs hpl
section
variable {K : PySem.W.Frag} {σ : L2.St} {H : Hp} {D : Ends} {Q : VK} {a b : Addr} {xs ys : List V} {Ps : List SP} {g : TG} {tb : TS} {tr : TA}
theorem eqvAll_ints : ∀ a b : List Int, PyData.eqvAll (a.map PyData.int) (b.map PyData.int) = decide (a = b)
  | [], [] => by simp [PyData.eqvAll]
  | [], y :: b => by simp [PyData.eqvAll]
  | x :: a, [] => by simp [PyData.eqvAll]
  | x :: a, y :: b => by
    simp only [List.map_cons, PyData.eqvAll, eqvAll_ints a b, PyData.eqv]
    by_cases h : x = y
    · subst h
      simp
    · simp [h]
theorem eqv_ints (a b : List Int) : PyData.eqv (dInts a) (dInts b) = decide (a = b) := by
  unfold dInts
  rw [PyData.eqv]
  exact eqvAll_ints a b
theorem r_eq_ints {p q : Addr} {m1 m2 : List Int} (s1 : SqL K H p (m1.map V.int)) (s2 : SqL K H q (m2.map V.int)) (h : Q (.bl (decide (m1 = m2))) H) : rEqA K (.ref p) (.ref q) H Q :=
  .inr ⟨_, _, dp_ints s1, dp_ints s2, (okd_ints 0 _).shaped (by decide), (okd_ints 0 _).shaped (by decide), by rw [eqv_ints]; exact h⟩
theorem r_ne_ints {p q : Addr} {m1 m2 : List Int} (s1 : SqL K H p (m1.map V.int)) (s2 : SqL K H q (m2.map V.int)) (h : Q (.bl (!decide (m1 = m2))) H) : rNeA K (.ref p) (.ref q) H Q :=
  .inr ⟨_, _, dp_ints s1, dp_ints s2, (okd_ints 0 _).shaped (by decide), (okd_ints 0 _).shaped (by decide), by rw [eqv_ints]; exact h⟩
theorem r_par3 {i j l : Nat} (h : tr σ H fun vs H1 => ∃ u v w, vs = [u, v, w] ∧ D.nx (((σ.set i (some u)).set j (some v)).set l (some w)) H1) : tPar3 i j l tr D σ H := h
theorem r_parA3 {i j l : Nat} {x y z : V} {p : L2.St → Hp → Prop} (h : p (((σ.set i (some x)).set j (some y)).set l (some z)) H) : ∃ u v w, [x, y, z] = [u, v, w] ∧ p (((σ.set i (some u)).set j (some v)).set l (some w)) H := ⟨x, y, z, rfl, h⟩
def kRng2 (R : It → Hp → Prop) : List V → Hp → Prop := fun vs H1 => ∃ i j : Int, vs = [.int i, .int j] ∧ (-(2 ^ 62) ≤ i ∧ i < 2 ^ 62 ∧ -(2 ^ 62) ≤ j ∧ j < 2 ^ 62) ∧ R (Itr i (j - i).toNat) H1
theorem r_irng2 {R : It → Hp → Prop} (h : tr σ H (kRng2 R)) : iRng2 tr σ H R := h
theorem r_rep {n : Int} (S : Sep Ps H) (s : H a = some (.lst xs)) (h1 : 0 ≤ n) (h2 : n ≤ 1000) (hz : xs.length ≤ 1000) (h : ∀ p H', Sep (pt p (.lst (List.replicate n.toNat xs).flatten) :: Ps) H' → Q (.ref p) H') : rMulA (.ref a) (.int n) H Q :=
  .inr ⟨a, n, xs, rfl, rfl, s, by omega, by omega, Nat.le_trans (Nat.mul_le_mul hz (show n.toNat ≤ 1000 by omega)) (by decide), fun p np => h p _ (S.new _ np)⟩
theorem r_lc_itr {lo : Int} {n : Nat} {tt : TT} {te : TE} {vs : List Nat} (J : CW) (S : Sep Ps H) (h0 : J 0 [] Ps)
    (hs : ∀ D (i : Nat) acc Ps H, i < n → J i acc Ps → Sep (pt D (.lst acc) :: Ps) H → g (.int (lo + (i : Int))) (wipe σ vs) H fun σ2 H2 => wipe σ2 vs = wipe σ vs ∧ tt σ2 H2 fun b H3 =>
      if b = true then te σ2 H3 fun y H4 => ∃ acc, H4 D = some (.lst acc) ∧ acc.length < sizeLine ∧ CN J D (i + 1) (upd H4 D (.lst (acc ++ [y]))) else CN J D (i + 1) H3)
    (hd : ∀ D acc Ps H, J n acc Ps → Sep (pt D (.lst acc) :: Ps) H → Q (.ref D) H) : LcW (Itr lo n) g tt te vs Q σ H :=
  fun D nD => lc_range (CN J D) ⟨[], Ps, h0, S.new _ nD⟩ (fun i H hi ⟨acc, Ps, j, S⟩ => hs D i acc Ps H hi j S) fun H ⟨acc, Ps, j, S⟩ => hd D acc Ps H j S
theorem q_neB {x y : Bool} (h : Q (.bl (x != y)) H) : rNeA K (.bl x) (.bl y) H Q := .inl ⟨rfl, by
  have e : (!decide (V.bl x = V.bl y)) = (x != y) := by cases x <;> cases y <;> rfl
  rw [e]
  exact h⟩
theorem q_eqB {x y : Bool} (h : Q (.bl (x == y)) H) : rEqA K (.bl x) (.bl y) H Q := .inl ⟨rfl, by
  have e : decide (V.bl x = V.bl y) = (x == y) := by cases x <;> cases y <;> rfl
  rw [e]
  exact h⟩
end
end Kt

set_option Elab.async false
set_option linter.all false
set_option maxRecDepth 100000
namespace Kt
open PySem L2 PyProof.Rows
/-! ### data as parts of the heap -/
section
variable {K : PySem.W.Frag}
theorem Rd.le {G H : Hp} (l : Le G H) {a : Addr} {o : HO} (h : Rd G a o) : Rd H a o := by
  rcases h with h | ⟨ob, h⟩
  · exact .inl (l _ _ h)
  · exact .inr ⟨ob, l _ _ h⟩
theorem SqL.le {G H : Hp} (l : Le G H) {a : Addr} {xs : List V} (h : SqL K G a xs) : SqL K H a xs := h.imp (Rd.le l) id
theorem SqT.le {G H : Hp} (l : Le G H) {a : Addr} {xs : List V} (h : SqT K G a xs) : SqT K H a xs := h.imp (Rd.le l) id
mutual
theorem Dp.le {G H : Hp} (l : Le G H) : ∀ (d : PyData) (v : V), Dp K G v d → Dp K H v d
  | .none, _, h => by cases h; exact .non
  | .bool b, _, h => by cases h; exact .bl b
  | .int i, _, h => by cases h; exact .int i
  | .str x, _, h => by cases h; exact .str x
  | .list ds, _, h => by
    cases h with
    | lst s t => exact .lst (SqL.le l s) (DpAll.le l ds _ t)
  | .tuple ds, _, h => by
    cases h with
    | tup s t => exact .tup (SqT.le l s) (DpAll.le l ds _ t)
  | .dict _, _, h => by cases h
theorem DpAll.le {G H : Hp} (l : Le G H) : ∀ (ds : List PyData) (vs : List V), DpAll K G vs ds → DpAll K H vs ds
  | [], _, h => by cases h; exact .nil
  | d :: ds, _, h => by
    cases h with
    | cons h t => exact .cons (Dp.le l d _ h) (DpAll.le l ds _ t)
end
def dat (K : PySem.W.Frag) (p : Addr) (d : PyData) : SP := fun G => Dp K G (.ref p) d
def dall (K : PySem.W.Frag) (vs : List V) (ds : List PyData) : SP := fun G => DpAll K G vs ds
theorem Sep.join {P Q X : SP} {R : List SP} {H : Hp} (f : ∀ G1 G2 G, Le G1 G → Le G2 G → P G1 → Q G2 → X G) (S : Sep (P :: Q :: R) H) : Sep (X :: R) H :=
  (Sep.unflat (As := [P, Q]) S).hd_mono fun G ⟨G1, l1, p, G2, l2, q, _⟩ => f G1 G2 G l1 (fun a o e => (sub_some (l2 a o e)).2) p q
theorem dat_dp {p : Addr} {d : PyData} {R : List SP} {H : Hp} : Sep (dat K p d :: R) H → Dp K H (.ref p) d := fun ⟨_, l, h, _⟩ => Dp.le l d _ h
theorem dat_list {p : Addr} {vs : List V} {ds : List PyData} {R : List SP} {H : Hp} (S : Sep (pt p (.lst vs) :: dall K vs ds :: R) H) : Sep (dat K p (.list ds) :: R) H :=
  Sep.join (fun G1 G2 G l1 l2 h1 h2 => .lst (SqL.of (l1 _ _ h1)) (DpAll.le l2 _ _ h2)) S
theorem dat_flat {p : Addr} {vs : List V} {ds : List PyData} {R : List SP} {H : Hp} (h : ∀ G, DpAll K G vs ds) (S : Sep (pt p (.lst vs) :: R) H) : Sep (dat K p (.list ds) :: R) H :=
  S.hd_mono fun G e => .lst (SqL.of e) (h G)
theorem dall_nil {R : List SP} {H : Hp} (S : Sep R H) : Sep (dall K [] [] :: R) H :=
  ⟨fun _ => none, fun _ _ (e : (none : Option HO) = some _) => (Option.noConfusion rfl (heq_of_eq e)), .nil, S.mono fun a o e => by rw [sub_of rfl]; exact e⟩
theorem dall_flat {vs : List V} {ds : List PyData} {R : List SP} {H : Hp} (h : ∀ G, DpAll K G vs ds) (S : Sep R H) : Sep (dall K vs ds :: R) H :=
  ⟨fun _ => none, fun _ _ (e : (none : Option HO) = some _) => (Option.noConfusion rfl (heq_of_eq e)), h _, S.mono fun a o e => by rw [sub_of rfl]; exact e⟩
theorem dall_add {p : Addr} {d : PyData} {vs : List V} {ds : List PyData} {R : List SP} {H : Hp} (S : Sep (dat K p d :: dall K vs ds :: R) H) : Sep (dall K (vs ++ [.ref p]) (ds ++ [d]) :: R) H :=
  Sep.join (fun G1 G2 G l1 l2 h1 h2 => dpall_app (DpAll.le l2 _ _ h2) (.cons (Dp.le l1 _ _ h1) .nil)) S
theorem dall_cons {p : Addr} {d : PyData} {vs : List V} {ds : List PyData} {R : List SP} {H : Hp} (S : Sep (dat K p d :: dall K vs ds :: R) H) : Sep (dall K (.ref p :: vs) (d :: ds) :: R) H :=
  Sep.join (fun G1 G2 G l1 l2 h1 h2 => .cons (Dp.le l1 _ _ h1) (DpAll.le l2 _ _ h2)) S
theorem dpall_bls {G : Hp} : ∀ bs : List Bool, DpAll K G (bs.map V.bl) (bs.map PyData.bool)
  | [] => .nil
  | b :: bs => .cons (.bl b) (dpall_bls bs)
end
theorem sh_cons {k W W2 : Nat} {d : PyData} {ds : List PyData} (h : Sh k W d) (t : Sh (k + 1) W2 (.list ds)) : Sh (k + 1) (W + 1 + W2) (.list (d :: ds)) := by
  refine ⟨⟨?_, ?_⟩, ?_, ?_, ?_⟩
  · have := t.ok.1
    rw [PyData.canLay0] at this ⊢
    rw [PyData.canLayAll0, h.ok.1, this]; rfl
  · have h1 := t.ok.2
    have h2 := h.ok.2
    rw [PyData.depth] at h1 ⊢
    rw [PyData.depthAll]
    omega
  · have := t.sh
    rw [PyData.showable] at this ⊢
    rw [PyData.showableAll, h.sh, this]; rfl
  · have := t.sm
    rw [PyData.leavesShort] at this ⊢
    rw [PyData.leavesShortAll, h.sm, this]; rfl
  · have h1 := t.wt
    have h2 := h.wt
    rw [PyData.weight] at h1 ⊢
    rw [PyData.weightAll]
    omega
theorem sh_nil {k : Nat} : Sh (k + 1) 0 (.list []) := ⟨⟨rfl, by show PyData.depth (.list []) ≤ _; rw [PyData.depth]; exact Nat.succ_le_succ (Nat.zero_le _)⟩, rfl, rfl, by rw [PyData.weight]; exact Nat.le_refl _⟩
end Kt

set_option Elab.async false
set_option linter.all false
set_option maxRecDepth 100000
namespace Kt
open PySem PySem.Spec L2 PyProof.Rows
/-! ### the type of a value as a part of the heap -/
section
variable {K : PySem.W.Frag} {G H : Hp} {v : V} {t : Value} {T : String} {R : List SP}
theorem ty_mono (l : Le G H) (h : TyX K G v t) : TyX K H v t := by
  cases h with
  | base b =>
    cases b with
    | non => exact .base .non
    | bl x => exact .base (.bl x)
    | int i => exact .base (.int i)
    | str x => exact .base (.str x)
    | flt x => exact .base (.flt x)
    | lst e => exact .base (.lst (l _ _ e))
    | frz e => exact .base (.frz (l _ _ e))
    | tup e => exact .base (.tup (l _ _ e))
    | dK e => exact .base (.dK (l _ _ e))
    | dT e => exact .base (.dT (l _ _ e))
    | ins e cl ha hn htk hm => exact .base (.ins (l _ _ e) cl ha hn htk hm)
  | byt b => exact .byt b
  | set e => exact .set (l _ _ e)
  | kList e c => exact .kList e c
  | kTuple e c => exact .kTuple e c
  | kDict e c => exact .kDict e c
  | fTuple e => exact .fTuple (l _ _ e)
  | fDict e => exact .fDict (l _ _ e)
def tyP (K : PySem.W.Frag) (v : V) (T : String) : SP := fun G => TyX K G v (.type T)
theorem ty_of (S : Sep (tyP K v T :: R) H) : TyX K H v (.type T) := by
  obtain ⟨G, l, h, _⟩ := S
  exact ty_mono l h
theorem ty_nil (S : Sep R H) (h : TyX K (fun _ => none) v (.type T)) : Sep (tyP K v T :: R) H :=
  ⟨fun _ => none, fun _ _ (e : (none : Option HO) = some _) => (Option.noConfusion rfl (heq_of_eq e)), h, Sep.mono (H := H) (fun a o e => by rw [sub_of rfl]; exact e) S⟩
theorem kit_own {C : Addr} (h1 : PySem.W.isClsIn K C = true) (h2 : PySem.W.typeIn K (.ref C) = some (.type "type")) (h3 : PySem.W.subIn K (.type T) (.ref C) = some false) : PySem.W.kitOne K (.type T) (.ref C) = some false := by
  have e : ((Value.type T) == (Value.ref C)) = false := by rfl
  unfold PySem.W.kitOne PySem.W.kitCls
  rw [e, if_neg Bool.false_ne_true]
  show (if _ then _ else _) = _
  rw [h2, show (PySem.W.clsIn K C).isSome = true from h1]
  simpa using h3
theorem kit_base {C : Addr} (h1 : PySem.W.kitMeta T = true) (h3 : PySem.W.mroIn K C (.type T) = some false) : PySem.W.kitOne K (.ref C) (.type T) = some false := by
  have e : ((Value.ref C) == (Value.type T)) = false := by rfl
  unfold PySem.W.kitOne PySem.W.kitCls
  rw [e, if_neg Bool.false_ne_true]
  show (if _ then _ else _) = _
  rw [if_pos h1]
  exact h3
theorem ty_isInt (h : TyX K H v (.type "int")) : ∃ i, v = .int i := by
  generalize e : Value.type "int" = t at h
  cases h with
  | base b =>
    cases b with
    | int i => exact ⟨i, rfl⟩
    | _ => first | (exact absurd e (by simp)) | (cases e)
  | _ => first | (exact absurd e (by simp)) | (cases e)
end
section
variable {X : Cx} {C : Addr} {k : Nat} {ps : List Str} {sp : Sp}
/-! ### x in o by an own __contains__ -/
def rInOwn (C : Addr) (sp : Sp) : R2 := fun x y H Q => ∃ a dx fs, y = .ref a ∧ H a = some (.ins C dx fs) ∧ sp [.ref a, x] H (fun v H' => ∃ k, v = .bl k ∧ Q (.bl k) H') E0
theorem op_inOwn (M : Mf X.prog X.w X.K X.mg X.base k C "__contains__" ps sp) (hr : Room k X.A) : OpR X (compareOp .In) (rInOwn C sp) := by
  intro pins s σ H x y v u Q I rx ry h
  obtain ⟨a, dx, fs, rfl, ha, q⟩ := h
  cases (show u = Value.ref a from ry)
  obtain ⟨f, fd, F, bb, hm⟩ := M.fn
  obtain ⟨ox, od, J⟩ := ins_at I ha
  obtain ⟨m, hF⟩ := I.fr
  refine PySem.W.in_K hF I.ok.mod.kin J hm.at_ hm.fn ?_
  refine wpAny_mono (run_fn (us := [.ref a, v]) (vs := [.ref a, x]) F hr bb .nil pass0 I (.cons rfl (.cons rx .nil)) (by rw [List.append_nil]; exact q)) (fun z s' hz => ?_) fun _ _ z => z
  obtain ⟨y', H', I', r', k, rfl, q'⟩ := hz
  cases r'
  exact wpAny_truthy_bool ⟨.bl k, H', I', rfl, q'⟩
/-! ### an own == with a value of a built-in type -/
def rEqOwnT (K : PySem.W.Frag) (C : Addr) (sp : Sp) : R2 := fun x y H Q => ∃ a dx fs t, x = .ref a ∧ H a = some (.ins C dx fs) ∧ TyX K H y t ∧ PySem.W.notFirst K C t = true ∧ sp [.ref a, y] H (fun v H' => ∃ k, v = .bl k ∧ Q (.bl k) H') E0
def rNeOwnT (K : PySem.W.Frag) (C : Addr) (sp : Sp) : R2 := fun x y H Q => ∃ a dx fs t, x = .ref a ∧ H a = some (.ins C dx fs) ∧ TyX K H y t ∧ PySem.W.notFirst K C t = true ∧ sp [.ref a, y] H (fun v H' => ∃ k, v = .bl k ∧ Q (.bl (!k)) H') E0
theorem op_eqOwnT (M : Mf X.prog X.w X.K X.mg X.base k C "__eq__" ps sp) (hr : Room k X.A) : OpR X (compareOp .Eq) (rEqOwnT X.K C sp) := by
  intro pins s σ H x y v u Q I rx ry h
  obtain ⟨a, dx, fs, t, rfl, ha, ty, hn, q⟩ := h
  cases (show v = Value.ref a from rx)
  obtain ⟨f, fd, F, bb, hm⟩ := M.fn
  obtain ⟨ox, od, J⟩ := ins_at I ha
  obtain ⟨Pz, Z, p, _⟩ := kit_of I ry ty
  obtain ⟨m, hF⟩ := I.fr
  refine PySem.W.cmp_K (op := .Eq) (tb := t) hr.units0 hF I.ok.mod.kin J (Z.ty _ _ I.kIn p) hn hm.at_ hm.fn ?_
  refine wpAny_mono (run_fn (us := [.ref a, u]) (vs := [.ref a, y]) F hr bb .nil pass0 I (.cons rfl (.cons ry .nil)) (by rw [List.append_nil]; exact q)) (fun z s' hz => ?_) fun _ _ z => z
  obtain ⟨y', H', I', r', k, rfl, q'⟩ := hz
  cases r'
  exact ⟨.bl k, H', I', rfl, q'⟩
theorem op_neOwnT (M : Mf X.prog X.w X.K X.mg X.base k C "__eq__" ps sp) (hr : Room (k + 1) X.A) (hmr : PySem.W.mroIn X.K C (.type "object") = some true) (hne : PySem.W.findIn X.K (.ref C) "__ne__" = some (some (.builtin "object.__ne__"))) : OpR X (compareOp .NotEq) (rNeOwnT X.K C sp) := by
  intro pins s σ H x y v u Q I rx ry h
  obtain ⟨a, dx, fs, t, rfl, ha, ty, hn, q⟩ := h
  cases (show v = Value.ref a from rx)
  obtain ⟨f, fd, F, bb, hm⟩ := M.fn
  obtain ⟨ox, od, J⟩ := ins_at I ha
  obtain ⟨Pz, Z, p, _⟩ := kit_of I ry ty
  obtain ⟨m, hF⟩ := I.fr
  have bd := bb s [.ref a, u] I.kIn (by rw [List.append_nil]; exact F.len _ _ _ _ q)
  rw [List.append_nil] at bd
  refine ne_own (tb := t) (by have := hr.units; omega) I.kIn J (Z.ty _ _ I.kIn p) hn hmr hne hm.at_ hm.fn ?_
  refine wpAny_call (codeAny_mono (F.run X.A.in1 X.stack s H ⟨[.ref a, u], []⟩ [.ref a, u] [.ref a, y] _ E0 hr.in1 I.env0.in1 bd (.cons rfl (.cons ry .nil)) q) fun z s' hq => ?_)
  cases z with
  | error e => exact pass0 pins σ H s e s' I hq
  | ok fl => cases fl with
    | ret u =>
      obtain ⟨v, H', I3, rv, k, rfl, q3⟩ := I.after hq
      cases rv
      exact ⟨k, rfl, .bl (!k), H', I3, rfl, q3⟩
    | _ => exact False.elim hq
end
def cTup (K : PySem.W.Frag) : List V → Hp → VK → Prop := fun xs H Q => ∃ p ys, xs = [.ref p] ∧ ((SqL K H p ys ∧ ∀ l, H l = none → Q (.ref l) (upd H l (.tup ys))) ∨ (SqT K H p ys ∧ Q (.ref p) H))
theorem call_tupA {X : Cx} : CallR X (.type "tuple") (cTup X.K) := call_tuple_of
def cStrI : List V → Hp → VK → Prop := fun xs H Q => ∃ i, xs = [.int i] ∧ i.natAbs.log2 < 1920 ∧ Q (.str (toString i)) H
theorem call_strA {X : Cx} : CallR X (.type "str") cStrI := call_str_int
/-! ### repr of a list, a tuple or a truth -/
def cReprB (K : PySem.W.Frag) : List V → Hp → VK → Prop := fun xs H Q => (∃ b : Bool, xs = [.bl b] ∧ Q (.str (if b then "True" else "False")) H) ∨ cRepr K xs H Q
theorem call_reprB {X : Cx} (hg : X.A.guards = some []) (hu : X.A.units + 64 < cLine) : CallR X (.builtin "repr") (cReprB X.K) := by
  intro pins s σ H xs us Q I r h
  rcases h with ⟨b, rfl, q⟩ | h
  · obtain ⟨u, rfl, r1⟩ := vals1 r
    cases r1
    exact PySem.P.repr_of_bool ⟨.str _, H, I.tok _, ⟨_, rfl⟩, q⟩
  · exact call_reprA hg hu pins s σ H xs us Q I r h
theorem pe_revLK {X : Cx} (K : PySem.W.Frag) {e : Expr} {te : TE} {k : Nat} {p1 p2 p3 pos : Pos} (he : PE X e te) (hK : X.K = K := by rfl) : PE X (.Subscript e (.Slice none none (some (.UnaryOp .USub (.Constant (.int 1) k p1) p2)) p3) pos) (tRevL K te) := hK ▸ pe_revL he
theorem big_pick {l : List (Addr × List V)} {p : Addr} {xs : List V} (h : (p, xs) ∈ l) : ∃ l', (∀ {R H}, Sep (big l :: R) H → Sep (pt p (.lst xs) :: big l' :: R) H) ∧ (∀ {R H}, Sep (pt p (.lst xs) :: big l' :: R) H → Sep (big l :: R) H) := by
  obtain ⟨l1, l2, rfl⟩ := List.append_of_mem h
  refine ⟨l1 ++ l2, fun {R H} S => ?_, fun {R H} S => ?_⟩
  · have S := S.flat
    rw [List.map_append, List.map_cons, List.append_assoc, List.cons_append] at S
    have S : Sep (pt p (.lst xs) :: ((l1.map fun p : Addr × List V => pt p.1 (.lst p.2)) ++ ((l2.map fun p : Addr × List V => pt p.1 (.lst p.2)) ++ R))) H := (pick_mid _).go S
    refine Sep.cons_mono (fun _ S => Sep.unflat (As := (l1 ++ l2).map fun p : Addr × List V => pt p.1 (.lst p.2)) ?_) S
    rw [List.map_append, List.append_assoc]
    exact S
  · have S1 : Sep (pt p (.lst xs) :: (((l1 ++ l2).map fun p : Addr × List V => pt p.1 (.lst p.2)) ++ R)) H := S.cons_mono fun _ => Sep.flat
    rw [List.map_append, List.append_assoc] at S1
    have S2 := (pick_mid _).back S1
    refine Sep.unflat (As := (l1 ++ (p, xs) :: l2).map fun p : Addr × List V => pt p.1 (.lst p.2)) ?_
    rw [List.map_append, List.append_assoc]
    exact S2
section
variable {K : PySem.W.Frag} {σ : L2.St} {H : Hp} {Q : VK} {te : TE} {a : Addr} {xs : List V} {Ps : List SP} {n : Int}
def kRevL (K : PySem.W.Frag) (Q : VK) : V → Hp → Prop := fun x H1 => ∃ a xs, x = .ref a ∧ SqL K H1 a xs ∧ ∀ p, H1 p = none → Q (.ref p) (upd H1 p (.lst xs.reverse))
theorem r_revL (h : te σ H (kRevL K Q)) : tRevL K te σ H Q := h
theorem r_revLk (S : Sep Ps H) (s : SqL K H a xs) (h : ∀ p H', Sep (pt p (.lst xs.reverse) :: Ps) H' → Q (.ref p) H') : kRevL K Q (.ref a) H := ⟨a, xs, rfl, s, fun p np => h p _ (S.new _ np)⟩
theorem r_tupOf (S : Sep Ps H) (s : SqL K H a xs) (h : ∀ p H', Sep (pt p (.tup xs) :: Ps) H' → Q (.ref p) H') : cTup K [V.ref a] H Q := ⟨a, xs, rfl, .inl ⟨s, fun p np => h p _ (S.new _ np)⟩⟩
theorem r_strI (hz : n.natAbs.log2 < 1920) (h : Q (.str (toString n)) H) : cStrI [V.int n] H Q := ⟨n, rfl, hz, h⟩
theorem in_ints {i : Int} : ∀ ns : List Int, inV (.int i) (ns.map V.int) = decide (i ∈ ns)
  | [] => rfl
  | n :: ns => by
    have ih := in_ints (i := i) ns
    unfold inV at ih ⊢
    rw [List.map_cons, List.any_cons, ih]
    show ((n == i) || _) = _
    by_cases e : n = i
    · subst e; simp
    · have : (n == i) = false := beq_eq_false_iff_ne.mpr e
      rw [this, Bool.false_or]
      refine decide_eq_decide.mpr ⟨List.mem_cons_of_mem _, fun m => (List.mem_cons.mp m).resolve_left fun q => e q.symm⟩
theorem flat_ints : ∀ ns : List Int, (ns.map V.int).all flatV = true
  | [] => rfl
  | n :: ns => by rw [List.map_cons, List.all_cons, flat_ints ns]; rfl
theorem r_in_ints {i : Int} {ns : List Int} (s : SqL K H a (ns.map V.int)) (h : Q (.bl (decide (i ∈ ns))) H) : rIn K false (.int i) (.ref a) H Q := ⟨a, _, rfl, .inl s, rfl, flat_ints ns, by rw [in_ints]; exact h⟩
end
end Kt

set_option Elab.async false
set_option linter.all false
set_option maxRecDepth 100000
namespace Kt
open PySem PySem.Spec L2 PyProof.Rows
/-! ### what isinstance asks of a def: its __class__ -/
theorem fk_slot : Slot "function" "__getattribute__" "object.__getattribute__" :=
  .of (n := "__getattribute__") (owner := "object") (by rw [typeLookup_type, builtinLookup_eq_fast]; kernel_rfl) (by decide +kernel) (by decide +kernel) (by decide +kernel) (by first | exact .inl (by decide +kernel) | exact .inr (by decide +kernel)) (by rw [isSubtype_type]; kernel_rfl)
theorem fk_look : typeLookup (.type "function") "__class__" = pure (some (.builtin "object.__class__")) := by rw [typeLookup_type, builtinLookup_eq_fast]; kernel_rfl
theorem fk_owner : isSubtype (.type "function") (.type (".".intercalate ("object.__class__".cutAt '.').dropLast)) = pure true := by rw [PySem.F.owner_object_class, isSubtype_type]; kernel_rfl
section
variable {P : Program} {w : World} {A : Around} {E : Value → Shared → Prop} {hp : Heap} {gs : Array GenState} {dr : Drawn} {n : Nat} {os : OsState} {f : Addr} {ob : Obj}
theorem fk_get {R : Result → Shared → Prop} (e1 : hp.get? f = some ob) (e2 : ob.cls = .type "function") (q : R (.ok (.ret (.type "function"))) ⟨hp, gs, dr, n, os⟩) : codeAny (model P w) A (.call (.builtin "getset_descriptor.__get__") ⟨[.builtin "object.__class__", .ref f, .type "function"], []⟩) R ⟨hp, gs, dr, n, os⟩ := by
  have t1 : (⟨hp, gs, dr, n, os⟩ : Shared).TypeIs (.ref f) "function" := ⟨_, e1, e2⟩
  have t2 : (⟨hp, gs, dr, n, os⟩ : Shared).TypeIs (.builtin "object.__class__") "getset_descriptor" := PySem.F.typeOf_object_class
  have t3 := fk_owner
  refine codeAny_call_builtin PySem.F.slot_gs_get.plain PySem.F.entry_gs_get (PySem.F.slot_gs_get.check _ _ _ _ _ _ _ _ t2 (PySem.F.args_gs_get _ _ _) ?_)
  repeat (any_goals (first | assumption | wp_step))
  exact ⟨Code.quiet_builtin _ (by decide +kernel), codeAny_builtin PySem.F.entry_object_class (by repeat (any_goals (first | assumption | wp_step)))⟩
theorem fk_entry {tk : Tok} {Q : Fin → Shared → Prop} (e1 : hp.get? f = some ob) (e2 : ob.cls = .type "function") (q : Q (.done (.ret (.type "function"))) ⟨hp, gs, dr, n, os⟩) : wpAny (model P w) A (Builtin.«object.__getattribute__» ⟨[.ref f, .str "__class__" tk], []⟩) Q E ⟨hp, gs, dr, n, os⟩ := by
  have t1 : (⟨hp, gs, dr, n, os⟩ : Shared).TypeIs (.ref f) "function" := ⟨_, e1, e2⟩
  have t2 : (⟨hp, gs, dr, n, os⟩ : Shared).TypeIs (.builtin "object.__class__") "getset_descriptor" := PySem.F.typeOf_object_class
  have t3 := fk_look
  have t4 := PySem.F.typeOf_object_class
  have t5 := PySem.F.slot_gs_get.lookup
  have t6 := PySem.F.slot_gs_set.lookup
  repeat (any_goals (first | assumption | wp_step))
  refine fk_get e1 e2 ?_
  repeat (any_goals (first | assumption | wp_step))
theorem fk_by {tk : Tok} {Q : Value → Shared → Prop} (e1 : hp.get? f = some ob) (e2 : ob.cls = .type "function") (q : Q (.type "function") ⟨hp, gs, dr, n, os⟩) : wpAny (model P w) A (getAttrBy (.ref f) (.str "__class__" tk) false) Q E ⟨hp, gs, dr, n, os⟩ := by
  have t1 : (⟨hp, gs, dr, n, os⟩ : Shared).TypeIs (.ref f) "function" := ⟨_, e1, e2⟩
  have t2 := fk_slot.lookup
  have t3 := fk_slot.bind (.ref f)
  repeat (any_goals (first | assumption | wp_step))
  refine codeAny_call_builtin fk_slot.plain PySem.F.entry_object_getattribute (fk_slot.check _ _ _ _ _ _ _ _ (show (⟨hp, gs, dr, n, os⟩ : Shared).TypeIs (.ref f) "function" from t1) (PySem.F.args_object_getattribute_2 _ _) (fk_entry e1 e2 ?_))
  repeat (any_goals (first | assumption | wp_step))
theorem fk_attr {Q : Option Value → Shared → Prop} (e1 : hp.get? f = some ob) (e2 : ob.cls = .type "function") (q : Q (some (.type "function")) ⟨hp, gs, dr, n + 1, os⟩) : wpAny (model P w) A (getAttr? (.ref f) "__class__") Q E ⟨hp, gs, dr, n, os⟩ := by
  unfold getAttr? getAttrBy?
  repeat (any_goals (first | assumption | with_reducible apply fk_by e1 e2 | wp_step))
end
theorem kitx_fun {K : PySem.W.Frag} {f : Addr} : PySem.W.KitX K (.ref f) (.type "function") (PySem.W.KitAt f "function") :=
  PySem.W.kitx_of PySem.W.kitAt_ty (fun {_ _ _ _ _ s} p k => by obtain ⟨hp, gs, dr, n, os⟩ := s; obtain ⟨o, e1, e2⟩ := p; exact fk_attr e1 e2 k)
/-- the type of a value, of a def of the text too -/
def TyY (K : PySem.W.Frag) (H : Hp) (x : V) (t : Value) : Prop := TyX K H x t ∨ ∃ f o, x = .ref f ∧ t = .type "function" ∧ K.lookup f = some o ∧ o.cls = .type "function"
def rIsiY (K : PySem.W.Frag) : List V → Hp → VK → Prop := fun xs H Q => ∃ (x c : V) (t u : Value) (b : Bool), xs = [x, c] ∧ ClsV c u ∧ TyY K H x t ∧ PySem.W.kitOne K t u = some b ∧ Q (.bl b) H
theorem call_isiY {X : Cx} : CallR X (.builtin "isinstance") (rIsiY X.K) := by
  intro pins s σ H xs us Q I r h
  obtain ⟨x, c, t, u, b, rfl, hc, ty, e, q⟩ := h
  rcases ty with ty | ⟨f, o, rfl, rfl, hl, ho⟩
  · exact call_isi pins s σ H _ us Q I r ⟨x, c, t, u, b, rfl, hc, ty, e, q⟩
  · cases r with
    | cons rx rr =>
      cases rr with
      | cons rt rr =>
        cases rr
        cases rx
        have ec := hc.eq rt
        subst ec
        exact PySem.W.kia_one kitx_fun I.kIn ⟨o, I.kIn f o hl, ho⟩ e (fun z => nomatch z) fun tk => ⟨.bl b, H, I.tok _, rfl, q⟩
end Kt

set_option Elab.async false
set_option linter.all false
set_option maxRecDepth 100000
namespace Kt
open PySem PySem.Spec L2 PyProof.Rows
/-! ### methods and classes that may let an error out -/
structure MfX (P : Program) (w : World) (K : PySem.W.Frag) (mg : Str → Option Value) (base : Heap) (k : Nat) (C : Addr) (m : Str) (ps : List Str) (sp : Sp) : Prop where
  fn : ∃ f fd, FnOk P w K mg base (L2.CX P w) k f fd ps sp ∧ Binds K fd ps [] ∧ Meth K C m f
  cls : Cls K C
structure DfX (P : Program) (w : World) (K : PySem.W.Frag) (mg : Str → Option Value) (base : Heap) (k : Nat) (x : Str) (f : Addr) (ps : List Str) (sp : Sp) : Prop where
  fn : ∃ fd, FnOk P w K mg base (L2.CX P w) k f fd ps sp ∧ Binds K fd ps []
  at_ : mg x = some (.ref f)
  kp : PySem.W.keepIn K (.ref f) = true
structure CfX (P : Program) (w : World) (K : PySem.W.Frag) (mg : Str → Option Value) (base : Heap) (k : Nat) (x : Str) (C : Addr) (ps : List Str) (sp : Sp) : Prop where
  fn : ∃ f fd, FnOk P w K mg base (L2.CX P w) k f fd ps sp ∧ Binds K fd ps [] ∧ Mk K C f
  at_ : mg x = some (.ref C)
section
variable {P : Program} {w : World} {K : PySem.W.Frag} {mg : Str → Option Value} {base : Heap}
theorem Mt.okX {C : Addr} {x qual : Str} {st : Stmt} {f : Addr} {N ps : List Str} {k : Nat} {sp : Sp} (T : Mt K C x qual st ps f) (c : Cls K C) (S : FnScope N ps (defScope st)) (len : ∀ vs H Q E, sp vs H Q E → vs.length = ps.length)
    (hbody : ∀ (cdv : Value) (A : Around) (outer : List Env) (s : Shared) (H : Hp) (vs : List V) (Q : VK) (E : XK), Room k (A.deeper (envOfC qual (defScope st) s.heap.objs.size f cdv)) → sp vs H Q E →
      ∃ t, PSs (cxOf (L2.CX P w) P w K mg base N qual (defScope st) f cdv A outer s H E) (defBody st) t ∧ t { nx := fun _ H' => Q .non H', rt := Q } (start N vs) H) : MfX P w K mg base (k + 1) C x ps sp := by
  obtain ⟨fd, F, b⟩ := T.fn
  exact ⟨⟨f, fd, F.okX S len hbody, b, T.at_⟩, c⟩
theorem Dt.okX {x : Str} {st : Stmt} {f : Addr} {N ps : List Str} {k : Nat} {sp : Sp} (T : Dt K mg x st ps f) (S : FnScope N ps (defScope st)) (len : ∀ vs H Q E, sp vs H Q E → vs.length = ps.length)
    (hbody : ∀ (cdv : Value) (A : Around) (outer : List Env) (s : Shared) (H : Hp) (vs : List V) (Q : VK) (E : XK), Room k (A.deeper (envOfC x (defScope st) s.heap.objs.size f cdv)) → sp vs H Q E →
      ∃ t, PSs (cxOf (L2.CX P w) P w K mg base N x (defScope st) f cdv A outer s H E) (defBody st) t ∧ t { nx := fun _ H' => Q .non H', rt := Q } (start N vs) H) : DfX P w K mg base (k + 1) x f ps sp := by
  obtain ⟨fd, F, b⟩ := T.fn
  exact ⟨⟨fd, F.okX S len hbody, b⟩, T.at_, F.kp⟩
theorem MfX.cf {C f : Addr} {x : Str} {ps : List Str} {k : Nat} {sp : Sp} (M : MfX P w K mg base k C "__init__" ps sp) (T : Ct K mg x C f) : CfX P w K mg base k x C ps sp := by
  obtain ⟨g, fd, F, b, m⟩ := M.fn
  have e : g = f := by
    have h1 := m.at_
    rw [T.mkr.init] at h1
    cases h1
    rfl
  subst e
  exact ⟨⟨g, fd, F, b, T.mkr⟩, T.at_⟩
end
section
variable {X : Cx} {k : Nat} {f C : Addr} {fd : FuncData} {ps : List Str} {sp : Sp} {E : L2.St → XK} {x m : Str} {p pos apos : Pos} {e o : Expr} {es : List Expr} {to : TE} {t : TA}
/-- C(e, ..) in a try -/
def tMakeS (C : Addr) (sp : Sp) (E : L2.St → XK) (t : TA) : TE := fun σ H Q => t σ H fun vs H1 => ∀ x dx, H1 x = none → H1 dx = none → dx ≠ x → sp (.ref x :: vs) (upd (upd H1 dx (.own x)) x (.ins C dx [])) (fun v H2 => v = .non ∧ Q (.ref x) H2) (E σ)
theorem pe_cfS (M : CfX X.prog X.w X.K X.mg X.base k x C ps sp) (hr : Room (k + 1) X.A) (hx : ∀ σ, PassesAt (L2.CX X.prog X.w) X σ (E σ)) (ha : PA X (e :: es) t) (hg : Gl X x := by rfl) (hd : (x == ("__debug__" : Str)) = false := by decide)
    (he : starEach (e :: es) X.env = (false, eval e X.env) :: starEach es X.env := by rfl) (hpl : (backTo pos (starEach es X.env)).any (·.1) = false := by rfl) : PE X (.Call (.Name x p) (e :: es) [] pos) (tMakeS C sp E t) := by
  obtain ⟨f, fd, F, b, M'⟩ := M.fn
  refine ⟨fun pins s σ H Q I h => ?_⟩
  refine wpAny_Call_Name_kw (ld_glob I hg M.at_ ?_ hd)
  refine PySem.W.callWith_K (h₀ := X.base) I.ok.mod.kin M'.kp (thn (ha.run pos pins s σ H _ I h) fun us s1 ⟨vs, H1, I1, r, q⟩ => ⟨I1.kIn, ?_⟩) he hpl
  have hq := q (s1.heap.objs.size + 1) s1.heap.objs.size (I1.hok.fresh (Nat.le_succ _)) (I1.hok.fresh (Nat.le_refl _)) (Nat.ne_of_lt (Nat.lt_succ_self _))
  have I2 := Inv.made (C := C) I1
  have r2 : Vals (V.ref (s1.heap.objs.size + 1) :: vs) (Value.ref (s1.heap.objs.size + 1) :: us) := .cons rfl r
  have hl : (Value.ref (s1.heap.objs.size + 1) :: us).length = ps.length := r2.length.symm.trans (F.len _ _ _ _ hq)
  have bd := b _ (Value.ref (s1.heap.objs.size + 1) :: us) I2.kIn (by rw [List.append_nil]; exact hl)
  rw [List.append_nil] at bd
  refine wpAny_call (make_map (f := f) I1.kIn M'.makes M'.init (beq_iff_eq.mp M'.fn) (codeAny_mono (F.run _ X.stack _ _ ⟨Value.ref (s1.heap.objs.size + 1) :: us, []⟩ (Value.ref (s1.heap.objs.size + 1) :: us) _ _ (E σ) (hr.make C us []) (I2.env0.make C us []) bd r2 hq) fun z s' hz => ?_))
  cases z with
  | error z => exact hx σ pins _ _ z s' I2 hz
  | ok fl => cases fl with
    | ret u =>
      obtain ⟨v, H', I3, rv, ev, q3⟩ := I2.after hz
      subst ev
      exact ⟨rv, ⟨V.ref (s1.heap.objs.size + 1), H', I3, rfl, q3⟩⟩
    | _ => exact False.elim hz
theorem pe_dfS (D : DfX X.prog X.w X.K X.mg X.base k x f ps sp) (hr : Room k X.A) (hx : ∀ σ, PassesAt (L2.CX X.prog X.w) X σ (E σ)) (ha : PA X (e :: es) t) (hg : Gl X x := by rfl) (hd : (x == ("__debug__" : Str)) = false := by decide)
    (he : starEach (e :: es) X.env = (false, eval e X.env) :: starEach es X.env := by rfl) (hpl : (backTo pos (starEach es X.env)).any (·.1) = false := by rfl) : PE X (.Call (.Name x p) (e :: es) [] pos) (tCallS sp E t) := by
  obtain ⟨fd, F, b⟩ := D.fn
  exact pe_callS F hr hg D.at_ D.kp b hx ha hd he hpl
/-- o.m(e, ..) in a try -/
def tMethE (C : Addr) (m : Str) (sp : Sp) (E : L2.St → XK) (to : TE) (t : TA) : TE := fun σ H Q => to σ H fun x H1 => ∃ a dx fs, x = .ref a ∧ H1 a = some (.ins C dx fs) ∧ fs.lookup m = none ∧ t σ H1 fun vs H2 => sp (x :: vs) H2 Q (E σ)
theorem r_makeS {σ : L2.St} {H : Hp} {Q : VK} (h : t σ H fun vs H1 => ∀ x dx, H1 x = none → H1 dx = none → dx ≠ x → sp (.ref x :: vs) (upd (upd H1 dx (.own x)) x (.ins C dx [])) (fun v H2 => v = .non ∧ Q (.ref x) H2) (E σ)) : tMakeS C sp E t σ H Q := h
end
/-! ### isinstance of the error that a suite holds, which has fields -/
structure ErC (K : PySem.W.Frag) (D : Addr) : Prop where
  cl : (PySem.W.clsIn K D).isSome = true
  ga : PySem.W.findIn K (.ref D) "__getattribute__" = some (some (.builtin "BaseException.__getattribute__"))
  gt : PySem.W.findIn K (.ref D) "__getattr__" = some none
  sb : PySem.W.subIn K (.ref D) (.type "BaseException") = some true
  ha : PySem.W.findIn K (.ref D) "__class__" = some (some (.builtin "object.__class__"))
  hn : PySem.W.specialIn K (.builtin "object.__class__") "__get__" = some (some (.builtin "getset_descriptor.__get__"))
  ht : PySem.W.takesIn K (.builtin "object.__class__") = some true
  hm : PySem.W.mroIn K D (.type "object") = some true
def rIsED (K : PySem.W.Frag) (D a : Addr) (cls : Value) (d : Option Addr) : List V → Hp → VK → Prop := fun xs H Q => ∃ (c : V) (cv : Value) (b : Bool) (dd : Addr) (fs : List (Str × V)), xs = [.ref a, c] ∧ ClsV c cv ∧ cls = .ref D ∧ d = some dd ∧ H dd = some (.xd fs) ∧ PySem.W.kitOne K (.ref D) cv = some b ∧ Q (.bl b) H
theorem call_isED {X : Cx} {a D : Addr} {oe : Obj} {cls : Value} {d : Option Addr} {pn : List (Addr × Obj)} (T : ErC X.K D) (hz : Zc cls d oe) (hf : ∃ vs, oe.data = .fields vs) : CallR (X.suite a ((a, oe) :: pn)) (.builtin "isinstance") (rIsED X.K D a cls d) := by
  intro pins s σ H xs us Q I r h
  obtain ⟨c, cv, b, dd, fs, rfl, hc, ec, ed, ea, e, q⟩ := h
  subst ec
  subst ed
  cases r with
  | cons rx rr =>
    cases rr with
    | cons rt rr =>
      cases rr
      cases rx
      have e2 := hc.eq rt
      subst e2
      obtain ⟨hget, _⟩ := I.pin (a, oe) (List.mem_append.mpr (.inl List.mem_cons_self))
      obtain ⟨vs, hv⟩ := hf
      have hx : ObjOk X.prog X.w H s.heap dd (.xd fs) := I.hok dd _ ea
      obtain ⟨mA, hns, hr⟩ := hx
      obtain ⟨od, ho, hl⟩ := lookIn_ns hns
      have J : PySem.W.InstAt s.heap a oe D (some od) := ⟨hget, hz.1, by unfold PySem.W.notCls; rw [hv] <;> rfl, by rw [hz.2]; exact ho⟩
      exact PySem.W.kia_one (PySem.W.kitx_exc T.cl T.ga T.gt T.sb T.ha T.hn T.ht T.hm) I.kIn J e (fun z => nomatch z) fun tk => ⟨.bl b, H, I.tok _, rfl, q⟩
end Kt

set_option Elab.async false
set_option linter.all false
set_option maxRecDepth 100000
namespace Kt
open PySem PySem.Spec PySem.W L2 PyProof.Rows
section
variable {X : Cx} {k : Nat} {C : Addr} {ps : List Str} {sp : Sp} {fe e : Expr} {es : List Expr} {tf : TE} {t : TA} {pos : Pos}
/-- f(e, ..), f any expression that gives an instance of C -/
def tCallE (C : Addr) (sp : Sp) (tf : TE) (t : TA) : TE := fun σ H Q => tf σ H fun x H0 => ∃ a, x = .ref a ∧ t σ H0 fun vs H1 => ∃ dx fs, H1 a = some (.ins C dx fs) ∧ sp (.ref a :: vs) H1 Q E0
theorem pe_mfE (M : Mf X.prog X.w X.K X.mg X.base k C "__call__" ps sp) (hfn : ∀ f, findIn X.K (.ref C) "__call__" = some (some (.ref f)) → fnIn X.K f = true) (hr : Room k X.A) (hf : PE X fe tf) (ha : PA X (e :: es) t)
    (hc : eval (.Call fe (e :: es) [] pos) X.env = (do callWith pos (← eval fe X.env) [] (backTo pos (starEach (e :: es) X.env)) (backToKw pos (keywordEach [] X.env))) := by rfl)
    (he : starEach (e :: es) X.env = (false, eval e X.env) :: starEach es X.env := by rfl) (hpl : (backTo pos (starEach es X.env)).any (·.1) = false := by rfl) : PE X (.Call fe (e :: es) [] pos) (tCallE C sp tf t) := by
  obtain ⟨f, fd, F, b, hm⟩ := M.fn
  refine ⟨fun pins s σ H Q I h => ?_⟩
  refine PyProof.Rows.Call_ (thn (hf.run pins s σ H _ I h) fun u s1 ⟨v, H1, I1, r1, a, ev, q1⟩ => ?_) hc
  subst ev
  cases r1
  have h2 : wpAny (model X.prog X.w) X.A (spliced (backTo pos (starEach (e :: es) X.env))) (fun vs s2 => (∃ dx, s2.heap.get? a = some (PySem.W.instObj C dx)) ∧ wpAny (model X.prog X.w) X.A (call (.ref a) ([] ++ vs)) (EP X pins σ Q) X.xe s2) X.xe s1 :=
    thn (ha.run pos pins s1 σ _ _ I1 q1) fun us s2 ⟨vs, H2, I2, r, dx, fs, hH, q⟩ => by
      obtain ⟨mA, O, _⟩ := ins_get I2.hok hH
      refine ⟨⟨dx, O.obj⟩, ?_⟩
      obtain ⟨od, J, _⟩ := O.look
      obtain ⟨of_, fd2, hl, hd2⟩ := fn_found I2.kIn (hfn f hm.at_)
      have rr : Vals (V.ref a :: vs) (Value.ref a :: us) := .cons rfl r
      have ln : (Value.ref a :: us).length = ps.length := by rw [← rr.length]; exact F.len _ _ _ _ q
      have bd := b s2 (.ref a :: us) I2.kIn (by rw [List.append_nil]; exact ln)
      rw [List.append_nil] at bd
      refine wpAny_call (callee_inst I2.kIn J hm.at_ hm.fn hl hd2 (codeAny_mono (F.run X.A X.stack s2 H2 ⟨.ref a :: us, []⟩ (.ref a :: us) (.ref a :: vs) Q E0 hr I2.env0 bd rr q) fun r s' hq => ?_))
      cases r with
      | error z => exact pass0 pins σ H2 s2 z s' I2 hq
      | ok fl => cases fl with
        | ret u => exact I2.after hq
        | _ => exact False.elim hq
  rw [he] at h2 ⊢
  exact callWith_inst (P := fun h => ∃ dx, h.get? a = some (PySem.W.instObj C dx)) (by show ((false || (backTo pos (starEach es X.env)).any (·.1)) || false) = false; rw [hpl]; rfl) (fun h ⟨dx, q⟩ => keeper_inst q) (Calls.evalArgs_plain h2)
end
section
variable {K : Frag} {σ : L2.St} {H : Hp} {Q : VK} {tf : TE} {t : TA} {C a dx : Addr} {sp : Sp} {fs : List (Str × V)} {xs : List V} {Ps Qs : List SP} {n : Int}
theorem r_callE (h : tf σ H fun x H0 => ∃ a, x = .ref a ∧ t σ H0 fun vs H1 => ∃ dx fs, H1 a = some (.ins C dx fs) ∧ sp (.ref a :: vs) H1 Q E0) : tCallE C sp tf t σ H Q := h
/-- repr of a whole number, a list, a tuple -/
def cReprI (K : Frag) : List V → Hp → VK → Prop := fun xs H Q => (∃ i : Int, xs = [.int i] ∧ i.natAbs.log2 < 1920 ∧ Q (.str (toString i)) H) ∨ cRepr K xs H Q
theorem call_reprI {X : Cx} (hg : X.A.guards = some []) (hu : X.A.units + 64 < cLine) : CallR X (.builtin "repr") (cReprI X.K) := by
  intro pins s σ H xs us Q I r h
  rcases h with ⟨i, rfl, hz, q⟩ | h
  · obtain ⟨u, rfl, t, rfl⟩ := vals1 r
    exact PySem.P.repr_of_int hz ⟨.str _, H, I.tok _, ⟨_, rfl⟩, q⟩
  · exact call_reprA hg hu pins s σ H xs us Q I r h
theorem r_rep2 (S : Sep Ps H) (s : H a = some (.lst xs)) (h1 : 0 ≤ n) (h2 : n ≤ 10000) (hz : xs.length ≤ 10) (h : ∀ p H', Sep (pt p (.lst (List.replicate n.toNat xs).flatten) :: Ps) H' → Q (.ref p) H') : rMulA (.ref a) (.int n) H Q :=
  .inr ⟨a, n, xs, rfl, rfl, s, by omega, by omega, Nat.le_trans (Nat.mul_le_mul hz (show n.toNat ≤ 10000 by omega)) (by decide), fun p np => h p _ (S.new _ np)⟩
theorem ty_sq (s : SqL K H a xs) : TyX K H (.ref a) (.type "list") := by
  rcases s with (h | ⟨o, h⟩) | ⟨o, its, n, h, hc, _⟩
  · exact .base (.lst h)
  · exact .base (.frz h)
  · exact .kList h hc
theorem r_isiY {x : V} {T B : String} {k : Bool} (ty : TyX K H x (.type T)) (e : kitB T B = some k) (h : Q (.bl k) H) : rIsiY K [x, .ty B] H Q := ⟨x, .ty B, _, _, k, rfl, .ty B, .inl ty, kit_ty e, h⟩
theorem r_dispP {Ps : List SP} {trs : List (TE × TE)} (S : Sep Ps H) (h : ∀ p H', Sep (pt p (.dK []) :: Ps) H' → tPairs trs σ H' fun ps H2 => H2 p = some (.dK []) ∧ ∃ kvs : List (Key × V), ps = kvs.map (fun kv => (kV kv.1, kv.2)) ∧ kvs.length ≤ 15 ∧ Q (.ref p) (upd H2 p (.dK (mergeK [] kvs)))) : tDisp trs σ H Q := fun p np => h p _ (S.new _ np)
theorem log_ok {i : Int} (h : i.natAbs < 10 ^ 60) : i.natAbs.log2 < 1920 := by
  by_cases e : i.natAbs = 0
  · rw [e]; decide
  · exact Nat.lt_trans ((Nat.log2_lt (n := i.natAbs) (k := 200) e).mpr (Nat.lt_trans h (by decide))) (by decide)
end
/-! ### facts of error classes -/
section
variable {K : Frag} {A B : Addr}
theorem er_cls {r : Option Bool} (i : isClsIn K B = true) (t : typeIn K (.ref B) = some (.type "type")) (m : mroIn K A (.ref B) = r) : kitCls K (.ref A) (.ref B) = r := by
  unfold kitCls
  show (if _ then _ else _) = _
  rw [t, show (clsIn K B).isSome = true from i]
  simpa using (show subIn K (.ref A) (.ref B) = r from m)
theorem er_exm (b : subIn K (.ref B) (.type "BaseException") = some true) (i : isClsIn K B = true) (t : typeIn K (.ref B) = some (.type "type")) (m : mroIn K A (.ref B) = some true) : exmOne K (.ref A) (.ref B) = some true := by
  unfold exmOne
  rw [b]
  exact (if_pos rfl).trans (er_cls i t m)
theorem er_self : kitOne K (.ref A) (.ref A) = some true := by
  unfold kitOne
  simp
theorem er_ne (m1 : mroIn K A (.ref A) = some true) (m2 : mroIn K A (.ref B) = some false) (i : isClsIn K B = true) (t : typeIn K (.ref B) = some (.type "type")) : kitOne K (.ref A) (.ref B) = some false := by
  have hne : A ≠ B := fun e => by
    subst e
    rw [m1] at m2
    cases m2
  have e : ((Value.ref A) == (Value.ref B)) = false := beq_eq_false_iff_ne.mpr fun q => hne (Value.ref.inj q)
  unfold kitOne
  rw [e, if_neg Bool.false_ne_true]
  exact er_cls i t m2
end
end Kt

set_option Elab.async false
set_option linter.all false
set_option maxRecDepth 100000
namespace Kt
open PySem L2 PyProof.Rows
/-! ### a part that only grows: what is known of values is told of it -/
def hp (G : Hp) : SP := fun G' => Le G G'
theorem Le.rfl {G : Hp} : Le G G := fun _ _ e => e
theorem Le.tr {A B C : Hp} (h : Le A B) (h2 : Le B C) : Le A C := fun a o e => h2 a o (h a o e)
section
variable {K : PySem.W.Frag} {G G' H : Hp} {R : List SP} {p : Addr} {o : HO} {v : V} {d : PyData} {vs : List V} {ds : List PyData}
theorem hp_le (S : Sep (hp G :: R) H) : Le G H := by
  obtain ⟨g, l, h, _⟩ := S
  exact fun a u e => l a u (h a u e)
theorem hp_nil (S : Sep R H) : Sep (hp (fun _ => none) :: R) H :=
  ⟨fun _ => none, fun _ _ (e : (none : Option HO) = some _) => (Option.noConfusion rfl (heq_of_eq e)), fun _ _ (e : (none : Option HO) = some _) => (Option.noConfusion rfl (heq_of_eq e)), S.mono fun a o e => by rw [sub_of rfl]; exact e⟩
theorem hp_add (S : Sep (pt p o :: hp G :: R) H) : ∃ G', Le G G' ∧ G' p = some o ∧ Sep (hp G' :: R) H := by
  have S0 := Sep.unflat (As := [pt p o, hp G]) S
  obtain ⟨g, l, ⟨g1, l1, h1, g2, l2, h2, _⟩, r⟩ := S0
  refine ⟨g, fun a u e => (sub_some (l2 a u (h2 a u e))).2, l1 p o h1, g, l, fun _ _ e => e, r⟩
theorem dp_lst (l : Le G G') (e : G' p = some (.lst vs)) (h : DpAll K G vs ds) : Dp K G' (.ref p) (.list ds) := .lst (SqL.of e) (DpAll.le l _ _ h)
theorem dp_tup (l : Le G G') (e : G' p = some (.tup vs)) (h : DpAll K G vs ds) : Dp K G' (.ref p) (.tuple ds) := .tup (SqT.of e) (DpAll.le l _ _ h)
/-- a new list, a new tuple join the part -/
theorem hp_lst (S : Sep (pt p (.lst vs) :: hp G :: R) H) (h : DpAll K G vs ds) : ∃ G', Le G G' ∧ Dp K G' (.ref p) (.list ds) ∧ Sep (hp G' :: R) H := by
  obtain ⟨G', l, e, S⟩ := hp_add S
  exact ⟨G', l, dp_lst l e h, S⟩
theorem hp_tup (S : Sep (pt p (.tup vs) :: hp G :: R) H) (h : DpAll K G vs ds) : ∃ G', Le G G' ∧ Dp K G' (.ref p) (.tuple ds) ∧ Sep (hp G' :: R) H := by
  obtain ⟨G', l, e, S⟩ := hp_add S
  exact ⟨G', l, dp_tup l e h, S⟩
theorem dp_tupInv (h : Dp K G v (.tuple ds)) : ∃ a xs, v = .ref a ∧ SqT K G a xs ∧ DpAll K G xs ds := by
  cases h with
  | tup s t => exact ⟨_, _, rfl, s, t⟩
theorem dp_lstInv (h : Dp K G v (.list ds)) : ∃ a xs, v = .ref a ∧ SqL K G a xs ∧ DpAll K G xs ds := by
  cases h with
  | lst s t => exact ⟨_, _, rfl, s, t⟩
theorem dp_strInv {x : Str} (h : Dp K G v (.str x)) : v = .str x := by cases h; rfl
theorem dp_intInv {i : Int} (h : Dp K G v (.int i)) : v = .int i := by cases h; rfl
theorem dpall_len : ∀ {vs : List V} {ds : List PyData}, DpAll K G vs ds → vs.length = ds.length
  | _, _, .nil => rfl
  | _, _, .cons _ t => by rw [List.length_cons, List.length_cons, dpall_len t]
theorem dpall_at : ∀ {vs : List V} {ds : List PyData}, DpAll K G vs ds → ∀ {i : Nat} {x : V}, vs[i]? = some x → ∃ d, ds[i]? = some d ∧ Dp K G x d
  | _, _, .nil, i, x, h => by simp at h
  | _, _, .cons h t, 0, x, e => by simp at e; subst e; exact ⟨_, by simp, h⟩
  | _, _, .cons h t, i + 1, x, e => by
    rw [List.getElem?_cons_succ] at e ⊢
    exact dpall_at t e
theorem dpall_atD : ∀ {vs : List V} {ds : List PyData}, DpAll K G vs ds → ∀ {i : Nat} {d : PyData}, ds[i]? = some d → ∃ x, vs[i]? = some x ∧ Dp K G x d
  | _, _, .nil, i, x, h => by simp at h
  | _, _, .cons h t, 0, x, e => by simp at e; subst e; exact ⟨_, by simp, h⟩
  | _, _, .cons h t, i + 1, x, e => by
    rw [List.getElem?_cons_succ] at e ⊢
    exact dpall_atD t e
theorem dpall_snoc (h : DpAll K G vs ds) (h2 : Dp K G v d) : DpAll K G (vs ++ [v]) (ds ++ [d]) := dpall_app h (.cons h2 .nil)
theorem dpall_take (n : Nat) : ∀ {vs : List V} {ds : List PyData}, DpAll K G vs ds → DpAll K G (vs.take n) (ds.take n) := by
  induction n with
  | zero => intro vs ds _; rw [List.take_zero, List.take_zero]; exact .nil
  | succ n ih =>
    intro vs ds h
    cases h with
    | nil => exact .nil
    | cons h t => exact .cons h (ih t)
theorem dpall_drop (n : Nat) : ∀ {vs : List V} {ds : List PyData}, DpAll K G vs ds → DpAll K G (vs.drop n) (ds.drop n) := by
  induction n with
  | zero => intro vs ds h; exact h
  | succ n ih =>
    intro vs ds h
    cases h with
    | nil => exact .nil
    | cons h t => exact ih t
theorem dpall_strs : ∀ xs : List Str, DpAll K G (xs.map V.str) (xs.map PyData.str)
  | [] => .nil
  | x :: xs => .cons (.str x) (dpall_strs xs)
theorem dpall_strsInv : ∀ {xs : List Str} {vs : List V}, DpAll K G vs (xs.map PyData.str) → vs = xs.map V.str
  | [], _, h => by cases h; rfl
  | x :: xs, _, h => by
    rw [List.map_cons] at h
    cases h with
    | cons h t => rw [dp_strInv h, dpall_strsInv t]; rfl
theorem flat_strs : ∀ xs : List Str, (xs.map V.str).all flatV = true
  | [] => rfl
  | x :: xs => by rw [List.map_cons, List.all_cons, flat_strs xs]; rfl
theorem in_strs {x : Str} : ∀ xs : List Str, inV (.str x) (xs.map V.str) = decide (x ∈ xs)
  | [] => rfl
  | y :: xs => by
    have ih := in_strs (x := x) xs
    unfold inV at ih ⊢
    rw [List.map_cons, List.any_cons, ih]
    show ((y == x) || _) = _
    by_cases e : y = x
    · subst e; simp
    · have : (y == x) = false := beq_eq_false_iff_ne.mpr e
      rw [this, Bool.false_or]
      refine decide_eq_decide.mpr ⟨List.mem_cons_of_mem _, fun m => (List.mem_cons.mp m).resolve_left fun q => e q.symm⟩
end
/-! ### comprehensions whose source and items are data -/
section
variable {K : PySem.W.Frag} {σ : L2.St} {H : Hp} {Q : VK} {a : Addr} {xs : List V} {ds : List PyData} {g : TG} {tt : TT} {te : TE} {vs : List Nat} {G : Hp} {R : List SP}
/-- one turn over the item d: what it gives, if anything -/
def LcT (K : PySem.W.Frag) (G : Hp) (R : List SP) (g : TG) (tt : TT) (te : TE) (vs : List Nat) (σ : L2.St) (d : PyData) (e : Option PyData) : Prop := ∀ D acc Gi x H (N : Hp → Prop), Le G Gi → Dp K Gi x d → acc.length < 90000 → Sep (pt D (.lst acc) :: hp Gi :: R) H →
  (∀ y z G' H4, Le Gi G' → e = some z → Dp K G' y z → Sep (pt D (.lst acc) :: hp G' :: R) H4 → ∃ acc, H4 D = some (.lst acc) ∧ acc.length < sizeLine ∧ N (upd H4 D (.lst (acc ++ [y])))) → (e = none → ∀ H3, Sep (pt D (.lst acc) :: hp Gi :: R) H3 → N H3) →
  g x (wipe σ vs) H fun σ2 H2 => wipe σ2 vs = wipe σ vs ∧ tt σ2 H2 fun b H3 => if b = true then te σ2 H3 fun y H4 => ∃ acc, H4 D = some (.lst acc) ∧ acc.length < sizeLine ∧ N (upd H4 D (.lst (acc ++ [y]))) else N H3
section
variable {α β : Type} {l : List α} {enc : α → PyData} {enc2 : β → PyData} {f : α → Option β}
theorem lcd_step {i : Nat} {x : α} (e : l[i]? = some x) : ((l.take (i + 1)).filterMap f).map enc2 = ((l.take i).filterMap f).map enc2 ++ (match f x with | some z => [enc2 z] | none => []) := by
  rw [List.take_add_one, e, List.filterMap_append, List.map_append]
  cases q : f x with
  | none => simp [q]
  | some z => simp [q]
theorem r_lcL (S : Sep (hp G :: R) H) (hx : Dp K G (.ref a) (.list (l.map enc))) (hl : l.length ≤ 80000) (f : α → Option β) (enc2 : β → PyData) (turn : ∀ x ∈ l, LcT K G R g tt te vs σ (enc x) ((f x).map enc2))
    (fin : ∀ D acc G' H', Le G G' → DpAll K G' acc ((l.filterMap f).map enc2) → Sep (pt D (.lst acc) :: hp G' :: R) H' → Q (.ref D) H') : ∃ a', V.ref a = .ref a' ∧ (∃ xs, SqL K H a' xs) ∧ LcW (Itl K a') g tt te vs Q σ H := by
  obtain ⟨a', xs, ea, hs, ha⟩ := dp_lstInv hx
  cases ea
  have hlen : xs.length = l.length := by rw [dpall_len ha, List.length_map]
  refine r_lc_list (xs := xs) (fun i acc Ps => ∃ Gi, Le G Gi ∧ Ps = hp Gi :: R ∧ DpAll K Gi acc (((l.take i).filterMap f).map enc2) ∧ acc.length ≤ i) S ⟨G, Le.rfl, rfl, .nil, Nat.zero_le _⟩ (fun D i acc Ps H hi ⟨Gi, le, e, _⟩ S => by subst e; exact SqL.le (le.tr (hp_le S.tl)) hs) (SqL.le (hp_le S) hs) ?_ ?_
  · rintro D i x acc Ps H hi ⟨Gi, le, rfl, hacc, hn⟩ S
    obtain ⟨d, hd, hxd⟩ := dpall_at ha hi
    rw [List.getElem?_map] at hd
    cases ez : l[i]? with
    | none => rw [ez] at hd; cases hd
    | some z =>
      rw [ez] at hd
      cases hd
      have hi' := (List.getElem?_eq_some_iff.mp ez).1
      have st := lcd_step (f := f) (enc2 := enc2) ez
      refine turn z (List.mem_of_getElem? ez) D acc Gi x H _ le (Dp.le le _ _ hxd) (by omega) S (fun y zz G' H4 l4 ey hy S4 => ?_) (fun en H3 S3 => ?_)
      · refine cn_in S4 (by omega) ⟨G', le.tr l4, rfl, ?_, by rw [List.length_append]; simp; omega⟩
        cases q : f z with
        | none => rw [q] at ey; cases ey
        | some w =>
          rw [q] at ey st
          cases ey
          rw [st]
          exact dpall_snoc (DpAll.le l4 _ _ hacc) hy
      · refine cn_out S3 ⟨Gi, le, rfl, ?_, by omega⟩
        cases q : f z with
        | some w => rw [q] at en; cases en
        | none =>
          rw [q] at st
          rw [st, List.append_nil]
          exact hacc
  · rintro D acc Ps H ⟨Gi, le, rfl, hacc, hn⟩ S
    rw [hlen, List.take_length] at hacc
    exact fin D acc Gi H le hacc S
theorem r_lc_tup {Ps : List SP} (J : CW) (S : Sep Ps H) (h0 : J 0 [] Ps) (hl : ∀ D i acc Ps H, i ≤ xs.length → J i acc Ps → Sep (pt D (.lst acc) :: Ps) H → SqT K H a xs) (hl0 : SqT K H a xs)
    (hs : ∀ D i x acc Ps H, xs[i]? = some x → J i acc Ps → Sep (pt D (.lst acc) :: Ps) H → g x (wipe σ vs) H fun σ2 H2 => wipe σ2 vs = wipe σ vs ∧ tt σ2 H2 fun b H3 =>
      if b = true then te σ2 H3 fun y H4 => ∃ acc, H4 D = some (.lst acc) ∧ acc.length < sizeLine ∧ CN J D (i + 1) (upd H4 D (.lst (acc ++ [y]))) else CN J D (i + 1) H3)
    (hd : ∀ D acc Ps H, J xs.length acc Ps → Sep (pt D (.lst acc) :: Ps) H → Q (.ref D) H) : ∃ a', V.ref a = .ref a' ∧ (∃ xs, SqT K H a' xs) ∧ LcW (Itt K a') g tt te vs Q σ H :=
  ⟨a, rfl, ⟨xs, hl0⟩, fun D nD => lc_tup (K := K) (a := a) (xs := xs) (CN J D) ⟨[], Ps, h0, S.new _ nD⟩ (fun i H hi ⟨acc, Ps, j, S⟩ => hl D i acc Ps H hi j S) (fun i x H hi ⟨acc, Ps, j, S⟩ => hs D i x acc Ps H hi j S) fun H ⟨acc, Ps, j, S⟩ => hd D acc Ps H j S⟩
theorem r_lcT (S : Sep (hp G :: R) H) (hx : Dp K G (.ref a) (.tuple (l.map enc))) (hl : l.length ≤ 80000) (f : α → Option β) (enc2 : β → PyData) (turn : ∀ x ∈ l, LcT K G R g tt te vs σ (enc x) ((f x).map enc2))
    (fin : ∀ D acc G' H', Le G G' → DpAll K G' acc ((l.filterMap f).map enc2) → Sep (pt D (.lst acc) :: hp G' :: R) H' → Q (.ref D) H') : ∃ a', V.ref a = .ref a' ∧ (∃ xs, SqT K H a' xs) ∧ LcW (Itt K a') g tt te vs Q σ H := by
  obtain ⟨a', xs, ea, hs, ha⟩ := dp_tupInv hx
  cases ea
  have hlen : xs.length = l.length := by rw [dpall_len ha, List.length_map]
  refine r_lc_tup (xs := xs) (fun i acc Ps => ∃ Gi, Le G Gi ∧ Ps = hp Gi :: R ∧ DpAll K Gi acc (((l.take i).filterMap f).map enc2) ∧ acc.length ≤ i) S ⟨G, Le.rfl, rfl, .nil, Nat.zero_le _⟩ (fun D i acc Ps H hi ⟨Gi, le, e, _⟩ S => by subst e; exact SqT.le (le.tr (hp_le S.tl)) hs) (SqT.le (hp_le S) hs) ?_ ?_
  · rintro D i x acc Ps H hi ⟨Gi, le, rfl, hacc, hn⟩ S
    obtain ⟨d, hd, hxd⟩ := dpall_at ha hi
    rw [List.getElem?_map] at hd
    cases ez : l[i]? with
    | none => rw [ez] at hd; cases hd
    | some z =>
      rw [ez] at hd
      cases hd
      have hi' := (List.getElem?_eq_some_iff.mp ez).1
      have st := lcd_step (f := f) (enc2 := enc2) ez
      refine turn z (List.mem_of_getElem? ez) D acc Gi x H _ le (Dp.le le _ _ hxd) (by omega) S (fun y zz G' H4 l4 ey hy S4 => ?_) (fun en H3 S3 => ?_)
      · refine cn_in S4 (by omega) ⟨G', le.tr l4, rfl, ?_, by rw [List.length_append]; simp; omega⟩
        cases q : f z with
        | none => rw [q] at ey; cases ey
        | some w =>
          rw [q] at ey st
          cases ey
          rw [st]
          exact dpall_snoc (DpAll.le l4 _ _ hacc) hy
      · refine cn_out S3 ⟨Gi, le, rfl, ?_, by omega⟩
        cases q : f z with
        | some w => rw [q] at en; cases en
        | none =>
          rw [q] at st
          rw [st, List.append_nil]
          exact hacc
  · rintro D acc Ps H ⟨Gi, le, rfl, hacc, hn⟩ S
    rw [hlen, List.take_length] at hacc
    exact fin D acc Gi H le hacc S
end
end
end Kt

set_option Elab.async false
set_option linter.all false
set_option maxRecDepth 100000
namespace Kt
open PySem L2 PyProof.Rows
/-! ### the items of a tuple, one after another, in an enumeration -/
section
variable {P : Program} {w : World} {A : Around} {E : Value → Shared → Prop} {s : Shared}
theorem nextTup {jt tu k : Nat} {vs : Array Value} {y : Value} {Z : Value → Shared → Prop} (hj : s.heap.IsTupleIter jt tu k) (hu : s.heap.IsTuple tu vs) (hy : vs[k]? = some y)
    (q : ∀ h2, h2.IsTupleIter jt tu (k + 1) → Heap.SameBut jt s.heap h2 → Z y { s with heap := h2 }) : wpAny (model P w) A (Builtin.SmallTypes.nextOf (.ref jt)) Z E s := by
  obtain ⟨oj, ej, cj, dj⟩ := id hj
  obtain ⟨ou, eu, _, nu, du⟩ := hu
  unfold Builtin.SmallTypes.nextOf
  refine wpAny_bind (wpAny_callSpecial?_slot (name := Str.ofString "__next__") hj.typeIs F.slot_tuple_iterator_next (wpAny_call_entry F.slot_tuple_iterator_next hj.typeIs F.entry_tuple_iterator_next ?_ (F.args_tuple_iterator_next_1 _)))
  show wpAny _ _ (field (.ref jt) 0 >>= _) _ _ s
  refine wpAny_bind (wpAny_field ej dj (x := .ref tu) rfl ?_)
  show wpAny _ _ (if (Value.ref tu == Value.none) = true then _ else _) _ _ s
  rw [if_neg (show ¬ ((Value.ref tu == Value.none) = true) from nofun)]
  show wpAny _ _ (field (.ref jt) 1 >>= _) _ _ s
  refine wpAny_bind (wpAny_field ej dj (x := .int k 0) rfl ?_)
  show wpAny _ _ (seqItems? (.ref tu) >>= _) _ _ s
  refine wpAny_bind (wpAny_seqItems eu du ?_)
  simp only [Int.toNat_natCast, hy]
  refine wpAny_bind (wpAny_setField ej dj (by simp) (wpAny_pure ⟨y, rfl, wpAny_pure (q _ ?_ (Heap.SameBut.update ..))⟩))
  exact ⟨_, Heap.get?_update_self _ ej (Obj.isFreed_of_fields (Obj.data_mapFields dj _)), (Obj.cls_mapFields ..).trans cj, by rw [Obj.data_mapFields dj]; simp [rawInt]⟩
theorem nextTupEnd {jt tu k : Nat} {vs : Array Value} {Z : Value → Shared → Prop} (h0 : A.handled = none) (hj : s.heap.IsTupleIter jt tu k) (hu : s.heap.IsTuple tu vs) (hy : vs[k]? = none)
    (q : ∀ h2 e, Heap.ExtBut jt s.heap h2 → (∃ o, h2.get? e = some o ∧ o.cls = .type "StopIteration") → E (.ref e) { s with heap := h2 }) : wpAny (model P w) A (Builtin.SmallTypes.nextOf (.ref jt)) Z E s := by
  obtain ⟨oj, ej, cj, dj⟩ := id hj
  obtain ⟨ou, eu, _, nu, du⟩ := hu
  unfold Builtin.SmallTypes.nextOf
  refine wpAny_bind (wpAny_callSpecial?_slot (name := Str.ofString "__next__") hj.typeIs F.slot_tuple_iterator_next (wpAny_call_entry F.slot_tuple_iterator_next hj.typeIs F.entry_tuple_iterator_next ?_ (F.args_tuple_iterator_next_1 _)))
  show wpAny _ _ (field (.ref jt) 0 >>= _) _ _ s
  refine wpAny_bind (wpAny_field ej dj (x := .ref tu) rfl ?_)
  show wpAny _ _ (if (Value.ref tu == Value.none) = true then _ else _) _ _ s
  rw [if_neg (show ¬ ((Value.ref tu == Value.none) = true) from nofun)]
  show wpAny _ _ (field (.ref jt) 1 >>= _) _ _ s
  refine wpAny_bind (wpAny_field ej dj (x := .int k 0) rfl ?_)
  show wpAny _ _ (seqItems? (.ref tu) >>= _) _ _ s
  refine wpAny_bind (wpAny_seqItems eu du ?_)
  simp only [Int.toNat_natCast, hy]
  refine wpAny_bind (wpAny_rule (wpAny_bind (wpAny_setField ej dj (by simp) ?_)))
  show wpAny _ _ (newExc (.type "StopIteration") [] >>= _) _ _ _
  refine wpAny_bind (m := newExc _ _) ?_
  simp only [newExc, newTuple]
  refine wpAny_bind (wpAny_newObj_type (by exact (wpAny_bind (m := firstArgMember _ _) (wpAny_of_eq (a := Value.none) (by first | rfl | (simp only [firstArgMember]; rfl)) (by
    refine wpAny_newObj_type (by
      simp only [raiseNew]
      refine wpAny_bind (wpAny_handled (by
        first | rw [show A.in1.handled = none from h0] | rw [h0]
        exact wpAny_bind (wpAny_pure (wpAny_throw (q _ _ (((Heap.SameBut.update ..).extBut.push _).push _) ⟨_, Heap.get?_push_size _ rfl, rfl⟩))))) ) (by size_fits))))) (by size_fits))
end

theorem drawsTup {P : Program} {w : World} {A : Around} (h0 : A.handled = none) (jt tu : Addr) (ne : tu ≠ jt) (vs : Array Value) :
    Draws P w A jt [jt, tu] vs.size (fun k y => vs[k]? = some y) (fun k h => h.IsTupleIter jt tu k ∧ h.IsTuple tu vs) where
  live := fun _ _ z => let ⟨o, ho, _⟩ := z.1; ⟨o, ho⟩
  frame := fun _ _ _ z g => ⟨z.1.at fun o e => g jt (by simp) o e, z.2.at fun o e => g tu (by simp) o e⟩
  item := fun k s Z E lt z q => by
    refine nextTup z.1 z.2 (y := vs[k]) (by simp [lt]) fun h2 hj sb => ?_
    exact q _ h2 s.toks (by simp [lt]) ⟨hj, z.2.extBut sb.extBut ne⟩ sb
  done := fun s Z E z q => nextTupEnd h0 z.1 z.2 (by simp) q
theorem meetsEnumT (tu : Addr) (vs : Array Value) (n : Nat) (dd : Option Addr) (sl : Array (Option Value)) :
    Meets (Builtin.«enumerate.__new__» ⟨[.type "enumerate", .ref tu], []⟩) (fun _ R s => s.heap.get? tu = some { cls := .type "tuple", dict := dd, data := .seq vs n, slots := sl } ∧
      R (.ok (.ret (.ref (s.heap.push { cls := .type "tuple_iterator", data := .fields #[.ref tu, .int 0 0] }).objs.size)))
        { s with heap := (s.heap.push { cls := .type "tuple_iterator", data := .fields #[.ref tu, .int 0 0] }).push { cls := .type "enumerate", data := .fields #[.none, .bool false, .ref s.heap.objs.size, rawInt 0, .none, .none] } }) :=
  .of_wp fun prog w A R s h => by
    obtain ⟨hp, g, d, tk, os⟩ := s; obtain ⟨e1, h⟩ := h
    have hsub := sub_enumerate
    have hT : Heap.IsTuple (Shared.heap ⟨hp, g, d, tk, os⟩) tu vs := ⟨_, e1, rfl, n, rfl⟩
    wp_walk
    refine wpAny_stack_any fun st => wpAny_pure ?_
    split
    · rename_i c _ _ _ _ _
      cases (c == Value.type "enumerate")
      · wp_walk using wpAny_pyIter_tuple hT
        exact ⟨_, rfl, h⟩
      · wp_walk using wpAny_pyIter_tuple hT
        exact ⟨_, rfl, h⟩
    · wp_walk using wpAny_pyIter_tuple hT
      exact ⟨_, rfl, h⟩
theorem callEnumT {P : Program} {w : World} {A : Around} {E : Value → Shared → Prop} {s : Shared} {tu : Addr} {vs : Array Value} {Z : Value → Shared → Prop} (hT : s.heap.IsTuple tu vs)
    (q : ∀ h2, IsEnum h2 (s.heap.objs.size + 1) s.heap.objs.size 0 .none → h2.IsTupleIter s.heap.objs.size tu 0 → h2.IsTuple tu vs → (∀ b o, s.heap.get? b = some o → h2.get? b = some o) → Z (.ref (s.heap.objs.size + 1)) { s with heap := h2 }) :
    wpAny (model P w) A (call (.type "enumerate") [.ref tu]) Z E s := by
  obtain ⟨⟨c, dd, dt, sl⟩, e1, hc, n, hd⟩ := id hT
  replace hc : c = .type "tuple" := hc
  replace hd : dt = .seq vs n := hd
  subst hc hd
  refine callType_new F.called_enumerate (by decide) (F.typeCall_enumerate_1 _) (F.newCall_enumerate_1 _) (fun obj => F.args_object_init_2 obj _) F.entry_enumerate_new (meetsEnumT tu vs n dd sl) ⟨e1, ?_⟩
  have z : (s.heap.push { cls := .type "tuple_iterator", data := .fields #[.ref tu, .int 0 0] }).objs.size = s.heap.objs.size + 1 := Heap.size_push ..
  show _ ∧ _
  rw [z]
  have he : IsEnum ((s.heap.push { cls := .type "tuple_iterator", data := .fields #[.ref tu, .int 0 0] }).push { cls := .type "enumerate", data := .fields #[.none, .bool false, .ref s.heap.objs.size, rawInt 0, .none, .none] }) (s.heap.objs.size + 1) s.heap.objs.size 0 .none := by
    have := Heap.get?_push_size (s.heap.push { cls := .type "tuple_iterator", data := .fields #[.ref tu, .int 0 0] }) (o := { cls := .type "enumerate", data := .fields #[.none, .bool false, .ref s.heap.objs.size, rawInt 0, .none, .none] }) rfl
    rw [z] at this; exact this
  have kk : ∀ b o, s.heap.get? b = some o → ((s.heap.push { cls := .type "tuple_iterator", data := .fields #[.ref tu, .int 0 0] }).push { cls := .type "enumerate", data := .fields #[.none, .bool false, .ref s.heap.objs.size, rawInt 0, .none, .none] }).get? b = some o := fun b o x => Heap.get?_push_of_some _ (Heap.get?_push_of_some _ x)
  exact ⟨⟨_, he, rfl⟩, q _ he ⟨_, Heap.get?_push_of_some _ (Heap.get?_push_size _ rfl), rfl, rfl⟩ (hT.at fun o e => kk tu o e) kk⟩
/-- the tuple at a, each item in a new pair -/
def IteT (K : PySem.W.Frag) (a : Addr) (xs : List V) : It :=
  ⟨fun i H => SqT K H a xs ∧ i < xs.length, fun i H v H' => ∃ T x, v = .ref T ∧ H T = none ∧ H' = upd H T (.tup [.int (i : Nat), x]) ∧ xs[i]? = some x, fun i H => SqT K H a xs ∧ xs.length ≤ i⟩
theorem turnEnumT {P : Program} {w : World} {K : PySem.W.Frag} {elts : List Expr} {kk : Nat} {tpos : Pos} (a e jt : Addr) (xs : List V) :
    Turn P w K (.Tuple elts kk tpos) (IteT K a xs) [e, jt] e (fun i h => (∃ old, IsEnum h e jt ((i : Nat) : Int) old) ∧ h.IsTupleIter jt a i ∧ e ≠ jt) where
  mem := by simp
  obj := fun i h z b hb => by
    obtain ⟨⟨old, he⟩, ⟨o, ho, hc, hd⟩, _⟩ := z
    rcases (show b = e ∨ b = jt by simpa using hb) with y | y
    · rw [y]; exact ⟨_, he, fun v q => nomatch q⟩
    · rw [y]; exact ⟨o, ho, fun v q => by rw [hd] at q; cases q⟩
  keep := fun i h h2 z g => let ⟨⟨old, he⟩, hi, ne⟩ := z; ⟨⟨old, g e (by simp) _ he⟩, hi.at fun o q => g jt (by simp) o q, ne⟩
  item := by
    intro X hP hw hK hc i pins s σ H E I hf z go
    subst hP hw hK
    obtain ⟨⟨old, he⟩, hj, ne⟩ := z
    obtain ⟨hq, hi⟩ := go
    obtain ⟨its, rv, hT, hz⟩ := I.tuple hq
    obtain ⟨x, hx⟩ : ∃ x, xs[i]? = some x := ⟨xs[i], List.getElem?_eq_getElem hi⟩
    obtain ⟨u, hu, ru⟩ := rv.get hx
    have le1 : e < s.heap.objs.size := Heap.lt_size he
    have le2 : jt < s.heap.objs.size := by obtain ⟨_, q, _⟩ := hj; exact Heap.lt_size q
    have aj : a ≠ jt := by
      obtain ⟨o1, e1, c1, _⟩ := hj
      obtain ⟨o2, e2, c2, _⟩ := id hT
      rintro rfl
      rw [e1] at e2
      cases e2
      rw [c1] at c2
      injection c2 with c2
      exact absurd c2 (by decide)
    have ae : e ∉ [jt, a] := by
      obtain ⟨o2, e2, c2, _⟩ := id hT
      simp only [List.mem_cons, List.not_mem_nil, or_false, not_or]
      refine ⟨ne, ?_⟩
      rintro rfl
      rw [he] at e2
      cases e2
      injection c2 with c2
      exact absurd c2 (by decide)
    refine wpAny_pyNext_enum_itemD (drawsTup (P := X.prog) (w := X.w) (A := X.A.in1) (by simp [I.ok.hd hc]) jt a aj its.toArray) he ⟨hj, hT⟩ (by rw [List.size_toArray, ← rv.length]; exact hi) ne ae fun y h2 tk hy ho hst hT2 hsz hk => ?_
    have ey : y = u := by
      have e3 : its[i]? = some y := by simpa using hy
      rw [hu] at e3
      exact (Option.some.inj e3).symm
    subst ey
    refine ⟨_, rfl, wpAny_letOwnedTupleGo_enum (s := { s with heap := h2, toks := tk + 1 }) ho fun h3 he3 sb => ?_⟩
    have at3 : h3.get? s.heap.objs.size = some { cls := .type "tuple", data := .seq #[.int i tk, y] } := (sb.2 _ (Nat.ne_of_gt le1)).trans hT2
    have nw : ObjOk X.prog X.w (upd H s.heap.objs.size (.tup [.int (i : Nat), x])) h3 s.heap.objs.size (.tup [.int (i : Nat), x]) := ⟨by show 2 ≤ sizeLine; decide, [.int i tk, y], .cons ⟨_, rfl⟩ (.cons ru .nil), ⟨_, at3, rfl, _, rfl⟩⟩
    have I1 : Inv X pins σ (upd H s.heap.objs.size (.tup [.int (i : Nat), x])) { s with heap := h3, toks := tk + 1 } :=
      I.turnedNew (ch := [e, jt]) (fun b ob hb q => (sb.2 b (fun z => hb (by simp [z]))).trans (hk b ob (fun z => hb (by simp [z])) (fun z => hb (by simp [z])) q)) hf (Nat.le_refl _) nw
    refine ⟨.ref s.heap.objs.size, _, I1, rfl, ⟨_, x, rfl, I.hok.fresh (Nat.le_refl _), rfl, hx⟩, ⟨⟨y, ?_⟩, hst.1.at fun o q => (sb.2 jt (Ne.symm ne)).trans q, ne⟩, fun b hb => ?_⟩
    · have e1 : ((i + 1 : Nat) : Int) = (i : Int) + 1 := by omega
      rw [e1]; exact he3
    · have lb : b < s.heap.objs.size := by
        rcases (show b = e ∨ b = jt by simpa using hb) with y | y
        · rw [y]; exact le1
        · rw [y]; exact le2
      rw [upd_ne (Nat.ne_of_lt lb)]
      exact (hf b hb).1
  done := by
    intro X hP hw hK hc i pins s σ H E I hf z sp
    subst hP hw hK
    obtain ⟨⟨old, he⟩, hj, ne⟩ := z
    obtain ⟨hq, hi⟩ := sp
    obtain ⟨its, rv, hT, hz⟩ := I.tuple hq
    obtain ⟨f0, f1, f2, f3, f4, f5⟩ := hf jt (by simp)
    have ln := rv.length
    have hTe : s.TypeIs (.ref e) "enumerate" := ⟨_, he, rfl⟩
    unfold pyNext
    refine wpAny_bind (wpAny_attempt (wpAny_callSpecial?_slot (name := Str.ofString "__next__") hTe F.slot_enumerate_next (wpAny_call_entry F.slot_enumerate_next hTe F.entry_enumerate_next ?_ (F.args_enumerate_next_1 _))))
    show wpAny _ _ (field (.ref e) 2 >>= _) _ _ _
    refine wpAny_bind (wpAny_field he rfl (x := .ref jt) rfl ?_)
    refine wpAny_bind (nextTupEnd (vs := its.toArray) (by simp [I.ok.hd hc]) hj hT (by simp; omega) fun h2 x he2 hx2 => ?_)
    obtain ⟨o, ho, hc2⟩ := hx2
    refine wpAny_bind (wpAny_isInstance (T := "StopIteration") (b := true) ⟨o, ho, hc2⟩ isSubtype_stop ?_)
    exact wpAny_pure ⟨rfl, I.turned (t' := s.toks) (fun b o hb q => he2 b o hb q) f0 f1 f3 f4 f5⟩
  self := fun A i s Q E z q => let ⟨⟨_, he⟩, _⟩ := z; wpAny_pyIter_enum he q
def iEnumT (K : PySem.W.Frag) (ta : TA) : TI := fun σ H R => ta σ H fun vs H1 => ∃ a xs, vs = [.ref a] ∧ SqT K H1 a xs ∧ R (IteT K a xs) H1
theorem pi_enumT {X : Cx} (K : PySem.W.Frag) {e : Expr} {ta : TA} {p pos tpos : Pos} {elts : List Expr} {kk : Nat} (hg : Gl X "enumerate") (hm : X.mg "enumerate" = none) (ha : PA X [e] ta) (hK : X.K = K := by rfl) (hs : starEach [e] X.env = [(false, eval e X.env)] := by rfl) :
    PI X (.Tuple elts kk tpos) (.Call (.Name "enumerate" p) [e] [] pos) (iEnumT K ta) := by
  subst hK
  refine ⟨fun pins s σ H R I h => ?_⟩
  refine Call_ (ld_blt I hg hm boot_enumerate (PyProof.Rows.callWith_type1 (thn (ha.run pos pins s σ H _ I h) fun us s1 ⟨vs, H1, I1, r1, q1⟩ => ?_) hs rfl))
  obtain ⟨a, xs, rfl, hq, q⟩ := q1
  cases r1 with
  | cons r rr =>
    cases rr
    cases r
    obtain ⟨its, rv, hT, hz⟩ := I1.tuple hq
    refine callEnumT hT fun h2 he hit _ hk => wpAny_pyIter_enum he ?_
    have I2 : Inv X pins σ H1 { s1 with heap := h2 } := I1.kept (t' := s1.toks) hk
    refine ⟨s1.heap.objs.size + 1, [s1.heap.objs.size + 1, s1.heap.objs.size], _, _, H1, rfl, I2, turnEnumT a (s1.heap.objs.size + 1) s1.heap.objs.size xs, ⟨⟨.none, he⟩, hit, Nat.succ_ne_self _⟩, fun b hb => ?_, q⟩
    have lb : s1.heap.objs.size ≤ b := by
      rcases (show b = s1.heap.objs.size + 1 ∨ b = s1.heap.objs.size by simpa using hb) with y | y
      · rw [y]; exact Nat.le_add_right _ _
      · rw [y]; exact Nat.le_refl _
    exact I1.fpOk lb (I1.hok.fresh lb)
section
variable {K : PySem.W.Frag} {σ : L2.St} {H : Hp} {D : Ends} {Q : VK} {a : Addr} {xs : List V} {Ps : List SP} {g : TG} {tb : TS} {tr : TA}
def kEnumT (K : PySem.W.Frag) (R : It → Hp → Prop) : List V → Hp → Prop := fun vs H1 => ∃ a xs, vs = [.ref a] ∧ SqT K H1 a xs ∧ R (IteT K a xs) H1
theorem r_ienumT {R : It → Hp → Prop} (h : tr σ H (kEnumT K R)) : iEnumT K tr σ H R := h
theorem r_for_enumT (J : LW) (S : Sep Ps H) (h0 : J 0 σ Ps) (hl : ∀ i σ Ps H, J i σ Ps → Sep Ps H → SqT K H a xs)
    (hs : ∀ i x T σ Ps H, xs[i]? = some x → J i σ Ps → Sep (pt T (.tup [.int (i : Nat), x]) :: Ps) H → g (.ref T) σ H fun σ2 H2 => tb { D with nx := Nx J (i + 1), ct := Nx J (i + 1), bk := D.nx } σ2 H2) (hd : ∀ σ Ps H, J xs.length σ Ps → Sep Ps H → D.nx σ H) :
    kEnumT K (fun Jt H1 => ForW Jt g tb D σ H1) [.ref a] H := by
  refine ⟨a, xs, rfl, hl 0 σ Ps H h0 S, fun i m σ H => m = xs.length - i ∧ i ≤ xs.length ∧ Nx J i σ H, ⟨xs.length, by simp, Nat.zero_le _, Ps, h0, S⟩, ?_⟩
  rintro i m σ H ⟨rfl, hi, Ps, j, S⟩
  by_cases he : i = xs.length
  · subst he
    exact .inl ⟨⟨hl _ σ Ps H j S, Nat.le_refl _⟩, hd σ Ps H j S⟩
  · refine .inr ⟨⟨hl _ σ Ps H j S, by omega⟩, Nx J (i + 1), fun σ' H' n => ⟨xs.length - (i + 1), by omega, rfl, by omega, n⟩, ?_⟩
    rintro x H' ⟨T, y, rfl, hT, rfl, hy⟩
    exact hs i y T σ Ps _ hy j (S.new _ hT)
end
/-! ### sorted of a list of data that are alike -/
def rSortD (K : PySem.W.Frag) : List V → Hp → VK → Prop := fun xs H Q => ∃ (a : Addr) (ds : List PyData) (G : Hp), xs = [.ref a] ∧ Le G H ∧ Dp K G (.ref a) (.list ds) ∧ PySem.W.AllAlike ds ∧ PySem.W.Sortable ds ∧ (∀ d ∈ ds, d.depth ≤ 50) ∧
  ∀ p out, H p = none → DpAll K G out (ds.mergeSort (PySem.W.dataLe false id)) → Q (.ref p) (upd H p (.lst out))
theorem each_out {K : PySem.W.Frag} {H : Hp} : ∀ {us : List Value} {ds : List PyData}, PySem.W.EachIs (fun u d => ∃ v, RelV v u ∧ Dp K H v d) us ds → ∃ vs, Vals vs us ∧ DpAll K H vs ds
  | _, _, .nil => ⟨[], .nil, .nil⟩
  | _, _, .cons ⟨v, r, h⟩ t => by
    obtain ⟨vs, rs, hs⟩ := each_out t
    exact ⟨v :: vs, .cons r rs, .cons h hs⟩
theorem each_in {X : Cx} {pins : List (Addr × Obj)} {σ : L2.St} {G H : Hp} {s : Shared} (le : Le G H) (I : Inv X pins σ H s) : ∀ {vs : List V} {us : List Value} {ds : List PyData}, Vals vs us → DpAll X.K G vs ds →
    PySem.W.EachIs (fun u d => ∃ v, RelV v u ∧ Dp X.K G v d) us ds ∧ PySem.W.EachIs (fun u d => ∃ as, Reads s.heap u d as) us ds
  | _, _, _, .nil, .nil => ⟨.nil, .nil⟩
  | _, _, _, .cons r rs, .cons h hs => by
    obtain ⟨e1, e2⟩ := each_in le I rs hs
    exact ⟨.cons ⟨_, r, h⟩ e1, .cons (Dp.reads I _ _ _ (Dp.le le _ _ h) r) e2⟩
theorem cr_sortD {X : Cx} (hu : X.A.units + 64 < cLine) : CallR X (.builtin "sorted") (rSortD X.K) := by
  intro pins s σ H xs us Q I r h
  obtain ⟨a, ds, G, rfl, le, hD, hal, hk, hdp, q⟩ := h
  obtain ⟨a', vs, ea, hs, hall⟩ := dp_lstInv hD
  cases ea
  obtain ⟨its, rv, pl, hz⟩ := I.list (SqL.le le hs)
  rw [Vals.ref1 r]
  obtain ⟨e1, e2⟩ := each_in le I rv hall
  have ln : its.length = ds.length := e1.length
  refine PySem.W.sorted_data (vs := its) (enc := id) (bs := ds) pl.isList e1 e2 (by rw [List.map_id]; exact hal) (by rw [List.map_id]; exact hk) (by rw [← ln, ← rv.length]; exact hz) (fun d m => by have := hdp d m; show X.A.units + 2 + d.depth < cLine; omega) fun out lo eo => ?_
  obtain ⟨ep, at1⟩ := sortedAll_at s.heap its out.toArray
  obtain ⟨ws, rw', dw⟩ := each_out eo
  have lw : ws.length ≤ sizeLine := by rw [rw'.length, lo, ← ln, ← rv.length]; exact hz
  exact ⟨.ref _, upd H (s.heap.objs.size + 1) (.lst ws), I.laid (t' := s.toks) (fun _ _ => sortedAll_old) (Nat.le_succ _) ⟨lw, out, ep, rw', at1⟩, rfl, q _ ws (I.hok.fresh (Nat.le_succ _)) dw⟩
end Kt

set_option Elab.async false
set_option linter.all false
set_option maxRecDepth 100000
namespace Kt
open PySem PySem.Spec L2 PyProof.Rows
/-! ### set(xs), xs a list of whole numbers -/
abbrev soOf (w : World) : Obj := { cls := .type "set", dict := none, data := .set #[] 0 (.fresh 0 0 (!w.params.followText "set-order")) }
section
variable {P : Program} {w : World} {A : Around} {E : Value → Shared → Prop} {s : Shared}
set_option maxHeartbeats 3200000 in
theorem callSetL {l : Addr} {vs : Array Value} (ns : List Int) {Z : Value → Shared → Prop} (h0 : A.handled = none) (hL : s.heap.IsList l vs) (hI : IntsAre vs.toList ns) (hB : ns.length + 1 < scanBound)
    (q : ∀ (h2 : Heap) (tk c : Nat), SetR w h2 s.heap.objs.size (fun j => decide (j ∈ ns)) c → c ≤ ns.length → (∀ b o, s.heap.get? b = some o → h2.get? b = some o) → Z (.ref s.heap.objs.size) { s with heap := h2, toks := tk }) :
    wpAny (model P w) A (call (.type "set") [.ref l]) Z E s := by
  have sz : vs.size = ns.length := (Array.length_toList ..).symm.trans (IntsAre.length hI)
  obtain ⟨c, tl, hmro⟩ := F.called_set.mro
  have hmade := F.called_set.made
  have hsub := F.called_set.sub
  refine wpAny_call (codeAny_of_tree ?_)
  show wpAny _ _ (callAny (.type "set") _) _ _ _
  refine wpAny_pure ⟨Code.quiet_builtin _ (by decide +kernel), codeAny_builtin F.entry_type_call ?_⟩
  rw [Around.under_plain (weight_type_call_type "set" [.ref l] []) rfl]
  have g1 := F.called_set.notType
  have g2 := F.called_set.canCreate
  have g3 := F.typeCall_set_1 (.ref l)
  repeat (any_goals (first | assumption | wp_step))
  refine codeAny_mono (code_set_led1 (.ref l) (E := E) (Q₁ := fun ob s₁ => ob = .ref s.heap.objs.size ∧ s₁ = { s with heap := s.heap.push (soOf w) }) ⟨rfl, rfl⟩) fun r s₁ hr => ?_
  cases r with
  | error e => exact hr
  | ok fl =>
    cases fl with
    | ret ob =>
      obtain ⟨rfl, rfl⟩ := hr
      have eS : (s.heap.push (soOf w)).get? s.heap.objs.size = some (soOf w) := Heap.get?_push_size _ rfl
      have tS : Shared.TypeIs { s with heap := s.heap.push (soOf w) } (.ref s.heap.objs.size) "set" := ⟨_, eS, rfl⟩
      have i1 := F.called_set.init.lookup
      have i2 := F.called_set.init.bind (.ref s.heap.objs.size)
      repeat (any_goals (first | assumption | wp_step))
      refine codeAny_mono (codeAny_call_builtin (R := wants (fun r s₂ => r = .none ∧ ∃ h2 tk c, s₂ = { s with heap := h2, toks := tk } ∧ SetR w h2 s.heap.objs.size (fun j => decide (j ∈ ns)) c ∧ c ≤ ns.length ∧ (∀ b o, s.heap.get? b = some o → h2.get? b = some o)) E) F.called_set.init.plain F.entry_set_init (check_set_init_1 tS ?_)) fun r₂ s₂ hr₂ => ?_
      · obtain ⟨ol, eol, col, nl, dol⟩ := hL
        obtain ⟨kc, kd, kt, ks⟩ := ol
        simp only at col dol
        subst col; subst dol
        have eo2 : (s.heap.push (soOf w)).get? l = some { cls := .type "list", dict := kd, data := .seq vs nl, slots := ks } := Heap.get?_push_of_some _ eol
        have sb1 := F.sub_list_set
        have sb2 := F.sub_list_frozenset
        have hne : (Value.type "list" == Value.type "dict") = false := by decide
        have hL1 : (s.heap.push (soOf w)).IsList l vs := ⟨_, eo2, rfl, nl, rfl⟩
        unfold Builtin.«set.__init__» noKeywords Builtin.Frozenset.updateFrom
        generalize hPI : pyIter = PI
        wp_walk
        subst hPI
        refine wpAny_pyIter_list hL1 ?_
        refine wpAny_bind (wpAny_runValue ?_)
        have ll : l < s.heap.objs.size := Heap.lt_size eol
        have hh3 : A.in1.in1.in1.handled = none := by simp [h0]
        have zz : (s.heap.push (soOf w)).objs.size = s.heap.objs.size + 1 := Heap.size_push ..
        have ne1 : l ≠ (s.heap.push (soOf w)).objs.size := by rw [zz]; exact Nat.ne_of_lt (Nat.lt_succ_of_lt ll)
        have ne2 : s.heap.objs.size ∉ [(s.heap.push (soOf w)).objs.size, l] := by
          rw [zz]; simp only [List.mem_cons, List.not_mem_nil, or_false, not_or]
          exact ⟨Nat.ne_of_lt (Nat.lt_succ_self _), Nat.ne_of_gt ll⟩
        have val : ∀ (i : Nat) (v : Value), vs[i]? = some v → ∃ k t, ns[i]? = some k ∧ v = .int k t := fun i v hv => by
          have hi : i < ns.length := by rw [← sz]; exact (Array.getElem?_eq_some_iff.mp hv).1
          obtain ⟨t, e⟩ := PyProof.Rows.IntsAre.int_at hI i v (by rw [Array.getElem?_toList]; exact hv)
          exact ⟨ns[i], t, List.getElem?_eq_getElem hi, by rw [e, List.getD_eq_getElem?_getD, List.getElem?_eq_getElem hi] <;> rfl⟩
        refine set_update_ints ((Walks.list hh3 _ l ne1 vs).toS) s.heap.objs.size ne2 ns sz hB val (vs.size - 0) 0 _ (by omega) (Nat.zero_le _) ⟨⟨_, Heap.get?_push_size _ rfl, rfl, rfl⟩, (hL1.push _)⟩ ?k0 ?k1
        case k0 => exact ⟨0, Nat.le_refl 0, setR_new_at (Heap.get?_push_of_some _ eS)⟩
        case k1 =>
          intro s' c' hm hc' hS'
          obtain ⟨h2, g2, d2, tk, os2⟩ := s'
          obtain rfl : g2 = s.gens := hm.gens
          obtain rfl : d2 = s.drawn := hm.drawn
          obtain rfl : os2 = s.os := hm.os
          show wpAny _ _ _ _ _ _
          refine wpAny_pure ?_
          show wpAny _ _ (ret Value.none) _ _ _
          rw [sz] at hc'
          refine wpAny_pure ⟨rfl, h2, tk, c', rfl, hS', hc', fun b o e => ?_⟩
          have lb : b < s.heap.objs.size := Heap.lt_size e
          exact hm.heap b o (by rw [zz]; simp only [List.mem_cons, List.not_mem_nil, or_false, not_or]; exact ⟨Nat.ne_of_lt lb, Nat.ne_of_lt (Nat.lt_succ_of_lt lb)⟩) (Heap.get?_push_of_some _ (Heap.get?_push_of_some _ e))
      · cases r₂ with
        | error e => exact hr₂
        | ok fl₂ =>
          cases fl₂ with
          | ret r =>
            obtain ⟨rfl, h2, tk, c', rfl, hS', hc', hk'⟩ := hr₂
            repeat (any_goals (first | assumption | wp_step))
            exact q _ _ _ hS' hc' hk'
          | _ => exact hr₂.elim
    | _ => exact hr.elim
end
/-- set(xs) -/
def rSetL (K : PySem.W.Frag) (w : World) : List V → Hp → VK → Prop := fun xs H Q => ∃ (a : Addr) (ns : List Int), xs = [.ref a] ∧ SqL K H a (ns.map V.int) ∧ ns.length ≤ 1000 ∧ ∀ p c, H p = none → c ≤ ns.length → Q (.ref p) (upd H p (SetO w p (fun j => decide (j ∈ ns)) c))
theorem cr_setL {X : Cx} (hc : X.calm = true) : CallR X (.type "set") (rSetL X.K X.w) := by
  intro pins s σ H xs us Q I r h
  obtain ⟨a, ns, rfl, hs, hl, q⟩ := h
  obtain ⟨its, rv, pl, hz⟩ := I.list hs
  rw [Vals.ref1 r]
  refine callSetL ns (I.ok.hd hc) pl.isList (by simpa using rv.ints) (Nat.lt_of_le_of_lt (Nat.add_le_add_right hl 1) (by unfold scanBound; decide)) fun h2 tk c R lc hk => ?_
  exact ⟨.ref _, upd H s.heap.objs.size (SetO X.w s.heap.objs.size (fun j => decide (j ∈ ns)) c), I.laid (t' := tk) hk (Nat.le_refl _) (setO_new R), rfl, q _ c (I.hok.fresh (Nat.le_refl _)) lc⟩
/-! ### sorted of a list of data, or of a set of whole numbers -/
theorem asc_ext : ∀ {a b : List Int}, a.Pairwise (· < ·) → b.Pairwise (· < ·) → (∀ k, k ∈ a ↔ k ∈ b) → a = b
  | [], [], _, _, _ => rfl
  | [], y :: b, _, _, h => by have := (h y).mpr List.mem_cons_self; cases this
  | x :: a, [], _, _, h => by have := (h x).mp List.mem_cons_self; cases this
  | x :: a, y :: b, ha, hb, h => by
    obtain ⟨a1, a2⟩ := List.pairwise_cons.mp ha
    obtain ⟨b1, b2⟩ := List.pairwise_cons.mp hb
    have e : x = y := by
      rcases List.mem_cons.mp ((h x).mp List.mem_cons_self) with e | m
      · exact e
      · rcases List.mem_cons.mp ((h y).mpr List.mem_cons_self) with e | m2
        · exact e.symm
        · have := b1 x m
          have := a1 y m2
          omega
    subst e
    congr 1
    refine asc_ext a2 b2 fun k => ⟨fun m => ?_, fun m => ?_⟩
    · rcases List.mem_cons.mp ((h k).mp (List.mem_cons_of_mem _ m)) with e | m2
      · subst e; have := a1 _ m; omega
      · exact m2
    · rcases List.mem_cons.mp ((h k).mpr (List.mem_cons_of_mem _ m)) with e | m2
      · subst e; have := b1 _ m; omega
      · exact m2
def rSortA (K : PySem.W.Frag) (w : World) : List V → Hp → VK → Prop := fun xs H Q => rSortD K xs H Q ∨ rSortedSet w xs H Q
theorem cr_sortA {X : Cx} (hc : X.calm = true) (hu : X.A.units + 64 < cLine) : CallR X (.builtin "sorted") (rSortA X.K X.w) := fun pins s σ H xs us Q I r h => h.elim (cr_sortD hu pins s σ H xs us Q I r) (cr_sortedSet hc pins s σ H xs us Q I r)
end Kt

set_option Elab.async false
set_option linter.all false
set_option maxRecDepth 100000
namespace Kt
open PySem L2 PyProof.Rows
/-! ### orders and shapes as data -/
abbrev Lv := List Str
abbrev Od := List Lv
def dLv (l : Lv) : PyData := .tuple (l.map PyData.str)
def dOd (o : Od) : PyData := .tuple (o.map dLv)
def dOds (os : List Od) : PyData := .list (os.map dOd)
def dShp (os : List Od) : PyData := .tuple (os.map dOd)
def dNs (l : List Str) : PyData := .list (l.map PyData.str)
def leOd : Od → Od → Bool := PySem.W.dataLe false dOd
def leS : Str → Str → Bool := PySem.W.dataLe false PyData.str
def sortS (l : List Str) : List Str := l.mergeSort leS
def lvO (o : Od) (x : Str) : Option Nat := o.findIdx? fun l => decide (x ∈ l)
def dOpt : Option Nat → PyData
  | none => .none
  | some n => .int n
def vOpt : Option Nat → V
  | none => .non
  | some n => .int n
def dOptI : Option Int → PyData
  | none => .none
  | some n => .int n
def vOptI : Option Int → V
  | none => .non
  | some n => .int n
def cmpO (o : Od) (x y : Str) : Option Int :=
  match lvO o x, lvO o y with
  | some i, some j => some (if i = j then 0 else if i < j then -1 else 1)
  | _, _ => none
def onlyO (ps : List Str) (o : Od) : Od := (o.map (List.filter fun x => decide (x ∈ ps))).filter fun l => !l.isEmpty
def shpO (os : List Od) : List Od := (os.filter fun o => !o.isEmpty).mergeSort leOd
def arrO (s : List Od) (x : Str) : Option Nat := s.findIdx? fun o => (lvO o x).isSome
def stO (s : List Od) (x y : Str) : Option Int := s.findSome? fun o => cmpO o x y
def passedS : List Str := ["+0", "+1"]
def commonS : List Str := ["=", "^", "!"]
def keptP (s : List Od) (ns : List Str) : List Od := shpO ((s.filter fun o => !(onlyO (ns ++ passedS) o).isEmpty).map (onlyO (ns ++ passedS ++ commonS)))
section
variable {K : PySem.W.Frag} {G H : Hp} {v : V}
theorem dp_opt (o : Option Nat) : Dp K G (vOpt o) (dOpt o) := by
  cases o with
  | none => exact .non
  | some n => exact .int _
theorem dp_optI (o : Option Int) : Dp K G (vOptI o) (dOptI o) := by
  cases o with
  | none => exact .non
  | some n => exact .int _
/-! ### all of these are alike -/
theorem alike_strs : ∀ a b : List Str, PySem.W.alikeAll (a.map PyData.str) (b.map PyData.str) = true
  | [], _ => by simp [PySem.W.alikeAll]
  | _ :: _, [] => by simp [PySem.W.alikeAll]
  | x :: a, y :: b => by
    show PySem.W.alikeAll (.str x :: a.map PyData.str) (.str y :: b.map PyData.str) = true
    rw [PySem.W.alikeAll, alike_strs a b]
    simp [PySem.W.alike]
theorem alike_lv (a b : Lv) : PySem.W.alike (dLv a) (dLv b) = true := by
  unfold dLv
  rw [PySem.W.alike]
  exact alike_strs a b
theorem alike_lvs : ∀ a b : Od, PySem.W.alikeAll (a.map dLv) (b.map dLv) = true
  | [], _ => by simp [PySem.W.alikeAll]
  | _ :: _, [] => by simp [PySem.W.alikeAll]
  | x :: a, y :: b => by
    show PySem.W.alikeAll (dLv x :: a.map dLv) (dLv y :: b.map dLv) = true
    rw [PySem.W.alikeAll, alike_lvs a b, alike_lv]
    rfl
theorem alike_od (a b : Od) : PySem.W.alike (dOd a) (dOd b) = true := by
  unfold dOd
  rw [PySem.W.alike]
  exact alike_lvs a b
theorem depth_strs : ∀ a : List Str, PyData.depthAll (a.map PyData.str) = 0
  | [] => by simp [PyData.depthAll]
  | x :: a => by
    show PyData.depthAll (.str x :: a.map PyData.str) = 0
    rw [PyData.depthAll, depth_strs a]
    simp [PyData.depth]
theorem depth_lv (a : Lv) : (dLv a).depth ≤ 1 := by
  unfold dLv
  rw [PyData.depth, depth_strs]
  decide
theorem depth_lvs : ∀ a : Od, PyData.depthAll (a.map dLv) ≤ 1
  | [] => by simp [PyData.depthAll]
  | x :: a => by
    show PyData.depthAll (dLv x :: a.map dLv) ≤ 1
    rw [PyData.depthAll]
    have h1 := depth_lv x
    have h2 := depth_lvs a
    omega
theorem depth_od (a : Od) : (dOd a).depth ≤ 2 := by
  unfold dOd
  rw [PyData.depth]
  have := depth_lvs a
  omega
theorem allAlike_od (os : List Od) : PySem.W.AllAlike (os.map dOd) := PySem.W.AllAlike.of alike_od
theorem allAlike_str (l : List Str) : PySem.W.AllAlike (l.map PyData.str) := PySem.W.AllAlike.of fun a b => by simp [PySem.W.alike]
theorem sortable_str (l : List Str) : PySem.W.Sortable (l.map PyData.str) := PySem.W.Sortable.others fun b => ⟨nofun, nofun⟩
theorem sortable_od {os : List Od} (h : ∀ o ∈ os, o ≠ []) : PySem.W.Sortable (os.map dOd) := .inl fun d hd => by
  obtain ⟨o, ho, rfl⟩ := List.mem_map.mp hd
  cases o with
  | nil => exact absurd rfl (h _ ho)
  | cons l o => exact ⟨dLv l, o.map dLv, rfl⟩
theorem sort_od (os : List Od) : (os.map dOd).mergeSort (PySem.W.dataLe false id) = (os.mergeSort leOd).map dOd := (List.map_mergeSort (f := dOd) (r := leOd) (s := PySem.W.dataLe false id) (l := os) (fun a _ b _ => rfl)).symm
theorem sort_str (l : List Str) : (l.map PyData.str).mergeSort (PySem.W.dataLe false id) = (sortS l).map PyData.str := (List.map_mergeSort (f := PyData.str) (r := leS) (s := PySem.W.dataLe false id) (l := l) (fun a _ b _ => rfl)).symm
/-- sorted of texts, of orders -/
theorem r_sortS {Q : VK} {w : World} {a : Addr} {l : List Str} (le : Le G H) (hD : Dp K G (.ref a) (dNs l)) (h : ∀ p, H p = none → Q (.ref p) (upd H p (.lst ((sortS l).map V.str)))) : rSortA K w [.ref a] H Q :=
  .inl ⟨a, _, G, rfl, le, hD, allAlike_str l, sortable_str l, fun d m => by
    obtain ⟨x, _, rfl⟩ := List.mem_map.mp m
    exact Nat.zero_le _, fun p out np ho => by
    rw [sort_str] at ho
    rw [dpall_strsInv ho]
    exact h p np⟩
theorem r_sortOd {Q : VK} {w : World} {a : Addr} {os : List Od} (le : Le G H) (hD : Dp K G (.ref a) (dOds os)) (h0 : ∀ o ∈ os, o ≠ []) (h : ∀ p out, H p = none → DpAll K G out ((os.mergeSort leOd).map dOd) → Q (.ref p) (upd H p (.lst out))) : rSortA K w [.ref a] H Q :=
  .inl ⟨a, _, G, rfl, le, hD, allAlike_od os, sortable_od h0, fun d m => by
    obtain ⟨x, _, rfl⟩ := List.mem_map.mp m
    have := depth_od x
    omega, fun p out np ho => by
    rw [sort_od] at ho
    exact h p out np ho⟩
/-- sorted of a set of whole numbers: the list that ascends -/
theorem r_sortSet {Q : VK} {w : World} {a : Addr} {ns ms : List Int} {c : Nat} (e : H a = some (SetO w a (fun j => decide (j ∈ ns)) c)) (hc : c < 64) (hm : ms.Pairwise (· < ·)) (hi : ∀ k, k ∈ ms ↔ k ∈ ns) (h : ∀ p, H p = none → Q (.ref p) (upd H p (.lst (ms.map V.int)))) : rSortA K w [.ref a] H Q :=
  .inr ⟨a, _, c, rfl, e, hc, fun zs p h1 h2 h3 np => by
    have : zs = ms := asc_ext h1 hm fun k => by rw [h2, hi]; simp
    rw [this]
    exact h p np⟩
end
/-! ### a star in a display -/
theorem pa_starK {X : Cx} (K : PySem.W.Frag) {e : Expr} {es : List Expr} {te : TE} {t : TA} {p : Pos} (he : PE X e te) (hr : PA X es t) (hK : X.K = K := by rfl) (hs : starEach (.Starred e p :: es) X.env = (true, eval e X.env) :: starEach es X.env := by rfl) : PA X (.Starred e p :: es) (StX.tStar K te t) := by
  subst hK
  exact StX.pa_star he hr hs
section
variable {K : PySem.W.Frag} {σ : L2.St} {G H : Hp} {Q : VK} {QA : List V → Hp → Prop} {QT : Bool → Hp → Prop} {a : Addr} {xs : List V} {ds : List PyData} {te : TE} {tr : TA} {R : List SP} {v : V} {d : PyData}
def kStar (K : PySem.W.Frag) (t : Hp → (List V → Hp → Prop) → Prop) (QA : List V → Hp → Prop) : V → Hp → Prop := fun x H1 => ∃ p xs, x = V.ref p ∧ (SqT K H1 p xs ∨ SqL K H1 p xs) ∧ t H1 fun ys H2 => QA (xs ++ ys) H2
theorem r_star (h : te σ H (kStar K (tr σ) QA)) : StX.tStar K te tr σ H QA := h
theorem r_starT (s : SqT K H a xs) (h : tr σ H fun ys H2 => QA (xs ++ ys) H2) : kStar K (tr σ) QA (.ref a) H := ⟨a, xs, rfl, .inl s, h⟩
theorem r_starL (s : SqL K H a xs) (h : tr σ H fun ys H2 => QA (xs ++ ys) H2) : kStar K (tr σ) QA (.ref a) H := ⟨a, xs, rfl, .inr s, h⟩
/-! ### what the growing part says -/
theorem hp_dp (S : Sep (hp G :: R) H) (h : Dp K G v d) : Dp K H v d := Dp.le (hp_le S) _ _ h
theorem hp_sqL (S : Sep (hp G :: R) H) (h : SqL K G a xs) : SqL K H a xs := SqL.le (hp_le S) h
theorem hp_sqT (S : Sep (hp G :: R) H) (h : SqT K G a xs) : SqT K H a xs := SqT.le (hp_le S) h
theorem dns_sq {l : List Str} (h : Dp K G (.ref a) (dNs l)) : SqL K G a (l.map V.str) := by
  obtain ⟨b, xs, e, s, t⟩ := dp_lstInv h
  cases e
  rw [← dpall_strsInv t]
  exact s
theorem dlv_sq {l : Lv} (h : Dp K G (.ref a) (dLv l)) : SqT K G a (l.map V.str) := by
  obtain ⟨b, xs, e, s, t⟩ := dp_tupInv h
  cases e
  rw [← dpall_strsInv t]
  exact s
theorem r_in_strs {i : Str} {ns : List Str} (s : SqL K H a (ns.map V.str) ∨ SqT K H a (ns.map V.str)) (h : Q (.bl (decide (i ∈ ns))) H) : rIn K false (.str i) (.ref a) H Q := ⟨a, _, rfl, s, rfl, flat_strs ns, by rw [in_strs]; exact h⟩
theorem r_notin_strs {i : Str} {ns : List Str} (s : SqL K H a (ns.map V.str) ∨ SqT K H a (ns.map V.str)) (h : Q (.bl (!decide (i ∈ ns))) H) : rIn K true (.str i) (.ref a) H Q := ⟨a, _, rfl, s, rfl, flat_strs ns, by rw [in_strs]; exact h⟩
/-! ### a test by truth -/
def tTru (K : PySem.W.Frag) (te : TE) : TT := fun σ H QT => te σ H fun x H1 => ∃ k, TruV K x H1 k ∧ QT k H1
def kTru (K : PySem.W.Frag) (QT : Bool → Hp → Prop) : V → Hp → Prop := fun x H1 => ∃ k, TruV K x H1 k ∧ QT k H1
theorem pt_truK {X : Cx} (K : PySem.W.Frag) {e : Expr} {te : TE} (he : PE X e te) (hK : X.K = K := by rfl) (hw : ∀ whole, isTrue e X.env whole = (do let v ← whole; standAt e.pos; holding [v] (truthy v)) := by intro _; rfl) : PT X e (tTru K te) := by
  subst hK
  exact pt_truth he hw
theorem r_tru (h : te σ H (kTru K QT)) : tTru K te σ H QT := h
theorem r_truT (s : SqT K H a xs) (h : QT (!xs.isEmpty) H) : kTru K QT (.ref a) H := ⟨_, .inr (.inl ⟨xs, s, rfl⟩), h⟩
theorem r_truL (s : SqL K H a xs) (h : QT (!xs.isEmpty) H) : kTru K QT (.ref a) H := ⟨_, .inl ⟨xs, s, rfl⟩, h⟩
theorem r_itup {R : It → Hp → Prop} {tl : TE} (h : tl σ H fun x H1 => ∃ a, x = .ref a ∧ (∃ xs, SqT K H1 a xs) ∧ R (Itt K a) H1) : iTup K tl σ H R := h
end
end Kt

set_option Elab.async false
set_option linter.all false
set_option maxRecDepth 100000
namespace Kt
open PySem L2 PyProof.Rows
/-! ### dicts whose keys are texts, whose values are whole numbers -/
abbrev Rk := List (Str × Int)
def kS (x : Str) : Key := .inr x
def encK (l : Rk) : List (Key × V) := l.map fun e => (kS e.1, .int e.2)
theorem encK_len (l : Rk) : (encK l).length = l.length := List.length_map ..
def rkGet (l : Rk) (p : Str) : Option Int := (l.find? fun e => decide (e.1 = p)).map (·.2)
theorem valV_enc (l : Rk) (p : Str) : valV (encK l) (kS p) = (rkGet l p).map V.int := by
  unfold valV rkGet encK
  rw [List.find?_map]
  have e : ((fun kv : Key × V => decide (kv.1 = kS p)) ∘ fun e : Str × Int => (kS e.1, V.int e.2)) = fun e : Str × Int => decide (e.1 = p) := by
    funext e
    exact decide_eq_decide.mpr ⟨fun h => Sum.inr.inj h, fun h => congrArg kS h⟩
  rw [e]
  cases (l.find? fun e => decide (e.1 = p)) <;> rfl
theorem putK_enc {l : Rk} {p : Str} {i : Int} (h : ∀ e ∈ l, e.1 ≠ p) : putK (encK l) (kS p) (.int i) = encK (l ++ [(p, i)]) := by
  unfold putK
  rw [if_neg]
  · unfold encK
    rw [List.map_append]
    rfl
  · intro q
    obtain ⟨kv, m, hd⟩ := List.any_eq_true.mp q
    obtain ⟨e, me, rfl⟩ := List.mem_map.mp m
    exact h e me (Sum.inr.inj (of_decide_eq_true hd))
theorem rkGet_mem {l : Rk} (hn : (l.map Prod.fst).Nodup) {e : Str × Int} (h : e ∈ l) : rkGet l e.1 = some e.2 := by
  induction l with
  | nil => cases h
  | cons x l ih =>
    rw [List.map_cons, List.nodup_cons] at hn
    unfold rkGet
    rw [List.find?_cons]
    rcases List.mem_cons.mp h with q | q
    · subst q
      simp
    · have ne : x.1 ≠ e.1 := fun z => hn.1 (z ▸ List.mem_map_of_mem (f := Prod.fst) q)
      rw [decide_eq_false ne]
      exact ih hn.2 q
section
variable {K : PySem.W.Frag} {σ : L2.St} {G H : Hp} {D : Ends} {Q : VK} {QT : Bool → Hp → Prop} {d : Addr} {kvs : List (Key × V)} {td ty tv : TE} {x y v : V} {R Ps : List SP} {p : Str} {l : Rk} {vs : List Nat} {g : TG} {tt : TT} {te : TE}
def kDGet (Q : VK) (x y : V) (H : Hp) : Prop := ∃ a v, x = .ref a ∧ DGet H a y (some v) ∧ Q v H
theorem r_dget (h : td σ H fun x H1 => ty σ H1 fun y H2 => kDGet Q x y H2) : tDGet td ty σ H Q := h
theorem r_dgetK {i : Int} (e : Rd H d (.dK (encK l))) (hv : rkGet l p = some i) (q : Q (.int i) H) : kDGet Q (.ref d) (.str p) H :=
  ⟨d, _, rfl, .inl ⟨_, kS p, e, rfl, by rw [valV_enc, hv]; rfl⟩, q⟩
def kDIn (Q : VK) (y x : V) (H : Hp) : Prop := ∃ a o, x = .ref a ∧ DGet H a y o ∧ Q (.bl o.isSome) H
def kDNotIn (Q : VK) (y x : V) (H : Hp) : Prop := ∃ a o, x = .ref a ∧ DGet H a y o ∧ Q (.bl (!o.isSome)) H
theorem r_din (h : ty σ H fun y H1 => td σ H1 fun x H2 => kDIn Q y x H2) : tDIn ty td σ H Q := h
theorem r_dnotin (h : ty σ H fun y H1 => td σ H1 fun x H2 => kDNotIn Q y x H2) : tDNotIn ty td σ H Q := h
theorem opt_map_some {α β : Type} {f : α → β} (o : Option α) : (o.map f).isSome = o.isSome := by cases o <;> rfl
theorem r_dinK (e : Rd H d (.dK (encK l))) (q : Q (.bl (rkGet l p).isSome) H) : kDIn Q (.str p) (.ref d) H :=
  ⟨d, _, rfl, .inl ⟨_, kS p, e, rfl, rfl⟩, by rw [valV_enc, opt_map_some]; exact q⟩
theorem r_dnotinK (e : Rd H d (.dK (encK l))) (q : Q (.bl (!(rkGet l p).isSome)) H) : kDNotIn Q (.str p) (.ref d) H :=
  ⟨d, _, rfl, .inl ⟨_, kS p, e, rfl, rfl⟩, by rw [valV_enc, opt_map_some]; exact q⟩
def kDPut (D : Ends) (σ : L2.St) (v x y : V) (H : Hp) : Prop := ∃ a H4, x = .ref a ∧ DPut H a y v H4 ∧ D.nx σ H4
theorem r_dput (h : tv σ H fun v H1 => td σ H1 fun x H2 => ty σ H2 fun y H3 => kDPut D σ v x y H3) : sDPut td ty tv D σ H := h
theorem r_dputK {i : Int} (S : Sep (pt d (.dK (encK l)) :: R) H) (hn : ∀ e ∈ l, e.1 ≠ p) (hl : l.length ≤ 100000) (q : ∀ H', Sep (pt d (.dK (encK (l ++ [(p, i)]))) :: R) H' → D.nx σ H') : kDPut D σ (.int i) (.ref d) (.str p) H :=
  ⟨d, _, rfl, .inl ⟨_, kS p, S.hd_at, rfl, by rw [encK_len]; exact Nat.lt_of_le_of_lt hl (by decide), rfl⟩, q _ (by rw [← putK_enc hn]; exact S.hd_set _)⟩
/-! ### a comprehension over a dict's keys -/
section
variable {β : Type} {enc2 : β → PyData} {f : Str × Int → Option β}
theorem r_lcD {iv : Nat} (S : Sep (pt d (.dK (encK l)) :: hp G :: R) H) (hv : σ[iv]? = some (some (.ref d))) (hl : l.length ≤ 80000) (f : Str × Int → Option β) (enc2 : β → PyData)
    (turn : ∀ e ∈ l, ∀ od, LcT K G (pt d (.frz od (.dK (encK l))) :: R) g tt te vs σ (.str e.1) ((f e).map enc2))
    (fin : ∀ D acc G' H', Le G G' → DpAll K G' acc ((l.filterMap f).map enc2) → Sep (pt D (.lst acc) :: hp G' :: pt d (.dK (encK l)) :: R) H' → Q (.ref D) H') : tLockE (tLc (iKeys (tVar iv)) g tt te vs) σ H Q := by
  refine ⟨d, .dK (encK l), S.hd_at, ?_, fun od => ?_⟩
  · first | trivial | exact .inr rfl | exact ⟨⟩ | simp [Mut]
  have S1 : Sep (hp G :: pt d (.frz od (.dK (encK l))) :: R) (upd H d (.frz od (.dK (encK l)))) := (S.hd_set _).swap
  refine r_tlc (q_var hv ⟨d, od, rfl, .inl ⟨encK l, upd_same, fun D nD => ?_⟩⟩)
  refine lc_it (walk_keys (d := d) (o := od) (kvs := encK l)) (CN (fun i acc Ps => ∃ Gi, Le G Gi ∧ Ps = hp Gi :: pt d (.frz od (.dK (encK l))) :: R ∧ DpAll K Gi acc (((l.take i).filterMap f).map enc2) ∧ acc.length ≤ i) D) ?_ ?_ ?_ ?_
  · exact ⟨[], _, ⟨G, Le.rfl, rfl, .nil, Nat.zero_le _⟩, S1.new _ nD⟩
  · rintro i H hi ⟨acc, Ps, ⟨Gi, le, rfl, _⟩, S⟩
    exact S.tl.tl.hd_at
  · rintro i x H H' hi ⟨acc, Ps, ⟨Gi, le, rfl, hacc, hn⟩, S⟩ ⟨rfl, k, v, hk, rfl⟩
    unfold encK at hk
    rw [List.getElem?_map] at hk
    rw [encK_len] at hi
    cases ez : l[i]? with
    | none => rw [ez] at hk; cases hk
    | some z =>
      rw [ez] at hk
      cases hk
      have st := lcd_step (f := f) (enc2 := enc2) ez
      refine turn z (List.mem_of_getElem? ez) od D acc Gi _ _ _ le (.str _) (by omega) S (fun y zz G' H4 l4 ey hy S4 => ?_) (fun en H3 S3 => ?_)
      · refine cn_in S4 (by omega) ⟨G', le.tr l4, rfl, ?_, by rw [List.length_append]; simp; omega⟩
        cases q : f z with
        | none => rw [q] at ey; cases ey
        | some w =>
          rw [q] at ey st
          cases ey
          rw [st]
          exact dpall_snoc (DpAll.le l4 _ _ hacc) hy
      · refine cn_out S3 ⟨Gi, le, rfl, ?_, by omega⟩
        cases q : f z with
        | some w => rw [q] at en; cases en
        | none =>
          rw [q] at st
          rw [st, List.append_nil]
          exact hacc
  · rintro H' ⟨acc, Ps, ⟨Gi, le, rfl, hacc, hn⟩, S⟩
    rw [encK_len, List.take_length] at hacc
    refine ⟨S.tl.tl.hd_at, fin D acc Gi _ le hacc ?_⟩
    have S3 : Sep (pt d (.frz od (.dK (encK l))) :: pt D (.lst acc) :: hp Gi :: R) H' := (S.cons_mono fun _ => Sep.swap).swap
    have S4 := S3.hd_set (.dK (encK l))
    exact S4.swap.cons_mono fun _ => Sep.swap
end
/-! ### ints in a list; pairs in a list -/
theorem dpall_intsInv : ∀ {xs : List Int} {vs : List V}, DpAll K G vs (xs.map PyData.int) → vs = xs.map V.int
  | [], _, h => by cases h; rfl
  | x :: xs, _, h => by
    rw [List.map_cons] at h
    cases h with
    | cons h t => rw [dp_intInv h, dpall_intsInv t]; rfl
def dPr (e : Str × Int) : PyData := .tuple [.str e.1, .int e.2]
theorem dpall_prs : ∀ {l : Rk} {vs : List V}, DpAll K G vs (l.map dPr) → ∃ ps : List Addr, vs = ps.map V.ref ∧ Paired (fun p kv => SqT K G p [kV kv.1, kv.2]) ps (encK l)
  | [], _, h => by cases h; exact ⟨[], rfl, .nil⟩
  | e :: l, _, h => by
    rw [List.map_cons] at h
    cases h with
    | cons h t =>
      obtain ⟨ps, rfl, hp⟩ := dpall_prs t
      obtain ⟨a, xs, rfl, hs, hx⟩ := dp_tupInv (ds := [.str e.1, .int e.2]) h
      cases hx with
      | cons h1 t1 =>
        cases t1 with
        | cons h2 t2 =>
          cases t2
          rw [dp_strInv h1, dp_intInv h2] at hs
          exact ⟨a :: ps, rfl, .cons hs hp⟩
theorem mergeK_app : ∀ {l l2 : Rk}, ((l ++ l2).map Prod.fst).Nodup → mergeK (encK l) (encK l2) = encK (l ++ l2)
  | l, [], _ => by rw [List.append_nil]; rfl
  | l, e :: l2, hn => by
    have ne : ∀ z ∈ l, z.1 ≠ e.1 := by
      intro z m q
      rw [List.map_append, List.nodup_append] at hn
      exact hn.2.2 z.1 (List.mem_map_of_mem m) e.1 (by simp) q
    show mergeK (putK (encK l) (kS e.1) (.int e.2)) (encK l2) = _
    have e1 : l ++ e :: l2 = (l ++ [e]) ++ l2 := by simp
    rw [putK_enc ne, e1]
    exact mergeK_app (by rw [← e1]; exact hn)
def rDictP (K : PySem.W.Frag) : List V → Hp → VK → Prop := fun xs H Q => ∃ (a : Addr) (ps : List Addr) (kvs : List (Key × V)), xs = [.ref a] ∧ SqL K H a (ps.map V.ref) ∧ Paired (fun p kv => SqT K H p [kV kv.1, kv.2]) ps kvs ∧
    ∀ p, H p = none → Q (.ref p) (upd H p (.dK (mergeK [] kvs)))
theorem cr_dictP {X : Cx} (hc : X.calm = true) : CallR X (.type "dict") (rDictP X.K) := call_dictP hc
theorem paired_imp {α β : Type} {p q : α → β → Prop} (h : ∀ a b, p a b → q a b) : ∀ {as : List α} {bs : List β}, Paired p as bs → Paired q as bs
  | _, _, .nil => .nil
  | _, _, .cons x t => .cons (h _ _ x) (paired_imp h t)
theorem r_dictP {a : Addr} (S : Sep (hp G :: R) H) (h : Dp K G (.ref a) (.list (l.map dPr))) (hn : (l.map Prod.fst).Nodup) (q : ∀ p H', Sep (pt p (.dK (encK l)) :: hp G :: R) H' → Q (.ref p) H') : rDictP K [.ref a] H Q := by
  obtain ⟨a', vs, e, hs, hx⟩ := dp_lstInv h
  cases e
  obtain ⟨ps, rfl, hpp⟩ := dpall_prs hx
  refine ⟨a, ps, encK l, rfl, hp_sqL S hs, paired_imp (fun p kv => hp_sqT S) hpp, fun p np => q p _ ?_⟩
  have e : mergeK [] (encK l) = encK l := mergeK_app (l := []) (l2 := l) hn
  rw [e]
  exact S.new _ np
theorem r_setI {w : World} {a : Addr} {ns : List Int} (S : Sep Ps H) (s : SqL K H a (ns.map V.int)) (hl : ns.length ≤ 1000) (q : ∀ p c H', c ≤ ns.length → Sep (pt p (SetO w p (fun j => decide (j ∈ ns)) c) :: Ps) H' → Q (.ref p) H') : rSetL K w [.ref a] H Q :=
  ⟨a, ns, rfl, s, hl, fun p c np hc => q p c _ hc (S.new _ np)⟩
end
end Kt

set_option Elab.async false
set_option linter.all false
set_option maxRecDepth 100000
namespace Kt
open PySem L2 PyProof.Rows
/-! ### the order of texts -/
theorem leS_eq : leS = fun a b => decide (a.cps.toList ≤ b.cps.toList) := PySem.W.dataLe_str (fun b : Str => b)
theorem leS_trans (a b c : Str) (h : leS a b = true) (h2 : leS b c = true) : leS a c = true := by
  rw [leS_eq] at h h2 ⊢
  exact decide_eq_true (List.le_trans (of_decide_eq_true h) (of_decide_eq_true h2))
theorem leS_total (a b : Str) : (leS a b || leS b a) = true := by
  rw [leS_eq]
  rcases List.le_total a.cps.toList b.cps.toList with h | h
  · show (decide _ || decide _) = true
    rw [decide_eq_true h]
    rfl
  · show (decide _ || decide _) = true
    rw [decide_eq_true h, Bool.or_true]
def Asc (l : List Str) : Prop := l.Pairwise fun a b => leS a b = true
theorem asc_sort (l : List Str) : Asc (sortS l) := List.pairwise_mergeSort leS_trans leS_total l
theorem sort_asc {l : List Str} (h : Asc l) : sortS l = l := List.mergeSort_of_pairwise h
theorem asc_filter {l : List Str} (p : Str → Bool) (h : Asc l) : Asc (l.filter p) := h.filter p
theorem sort_perm (l : List Str) : (sortS l).Perm l := List.mergeSort_perm l leS
/-! ### ranks -/
def rkF : Nat → Od → Rk
  | _, [] => []
  | n, l :: o => l.map (fun x => (x, (n : Int))) ++ rkF (n + 1) o
theorem rkF_app : ∀ (a b : Od) (n : Nat), rkF n (a ++ b) = rkF n a ++ rkF (n + a.length) b
  | [], b, n => by simp [rkF]
  | l :: a, b, n => by
    show l.map _ ++ rkF (n + 1) (a ++ b) = _
    rw [rkF_app a b (n + 1), List.length_cons, show n + 1 + a.length = n + (a.length + 1) by omega, ← List.append_assoc]
    rfl
theorem rkF_take {o : Od} {i : Nat} {l : Lv} (h : o[i]? = some l) : rkF 0 (o.take (i + 1)) = rkF 0 (o.take i) ++ l.map (fun x => (x, (i : Int))) := by
  have hi := (List.getElem?_eq_some_iff.mp h).1
  rw [List.take_add_one, h, rkF_app]
  have e : (o.take i).length = i := by rw [List.length_take]; omega
  rw [e, Nat.zero_add]
  show _ ++ (l.map _ ++ rkF (i + 1) []) = _
  rw [show rkF (i + 1) [] = [] from rfl, List.append_nil]
theorem rkF_keys : ∀ (o : Od) (n : Nat), (rkF n o).map Prod.fst = o.flatten
  | [], _ => rfl
  | l :: o, n => by
    show (l.map _ ++ rkF (n + 1) o).map Prod.fst = _
    rw [List.map_append, rkF_keys o, List.map_map, List.flatten_cons]
    congr 1
    exact List.map_id _
theorem rkF_len (o : Od) (n : Nat) : (rkF n o).length = o.flatten.length := by rw [← rkF_keys o n, List.length_map]
theorem rkGet_app (a b : Rk) (p : Str) : rkGet (a ++ b) p = (rkGet a p).or (rkGet b p) := by
  unfold rkGet
  rw [List.find?_append]
  cases a.find? fun e => decide (e.1 = p) <;> rfl
theorem rkGet_lv (p : Str) (n : Int) : ∀ l : Lv, rkGet (l.map fun x => (x, n)) p = if p ∈ l then some n else none
  | [] => by simp [rkGet]
  | x :: l => by
    have ih := rkGet_lv p n l
    unfold rkGet at ih ⊢
    rw [List.map_cons, List.find?_cons]
    by_cases e : x = p
    · subst e; simp
    · rw [decide_eq_false e]
      rw [ih]
      have : p ∈ x :: l ↔ p ∈ l := ⟨fun m => (List.mem_cons.mp m).resolve_left fun q => e q.symm, List.mem_cons_of_mem _⟩
      simp [this]
theorem lvO_cons (l : Lv) (o : Od) (p : Str) : lvO (l :: o) p = if p ∈ l then some 0 else (lvO o p).map (· + 1) := by
  unfold lvO
  rw [List.findIdx?_cons]
  by_cases h : p ∈ l <;> simp [h]
theorem rkGet_rkF (p : Str) : ∀ (o : Od) (n : Nat), rkGet (rkF n o) p = (lvO o p).map fun i => (n : Int) + (i : Int)
  | [], n => rfl
  | l :: o, n => by
    show rkGet (l.map _ ++ rkF (n + 1) o) p = _
    rw [rkGet_app, rkGet_lv, rkGet_rkF p o, lvO_cons]
    by_cases h : p ∈ l
    · simp [h]
    · simp only [h, if_false, Option.none_or, Option.map_map]
      cases lvO o p with
      | none => rfl
      | some i => simp; omega
theorem rkGet_0 (p : Str) (o : Od) : rkGet (rkF 0 o) p = (lvO o p).map fun i : Nat => (i : Int) := by
  rw [rkGet_rkF]
  cases lvO o p with
  | none => rfl
  | some i => simp
theorem lvO_mem {o : Od} {p : Str} : (lvO o p).isSome = true ↔ p ∈ o.flatten := by
  unfold lvO
  rw [List.findIdx?_isSome, List.any_eq_true]
  simp only [List.mem_flatten, decide_eq_true_eq]
theorem lvO_none {o : Od} {p : Str} : lvO o p = none ↔ p ∉ o.flatten := by
  rw [← lvO_mem]
  cases lvO o p <;> simp
/-! ### what is kept of an order -/
theorem onlyO_congr {ps qs : List Str} (h : ∀ x, x ∈ ps ↔ x ∈ qs) (o : Od) : onlyO ps o = onlyO qs o := by
  unfold onlyO
  have e : (fun x => decide (x ∈ ps)) = fun x => decide (x ∈ qs) := by
    funext x
    exact decide_eq_decide.mpr (h x)
  rw [e]
theorem onlyO_nil (ps : List Str) : onlyO ps [] = [] := rfl
theorem onlyO_cons (ps : List Str) (l : Lv) (o : Od) : onlyO ps (l :: o) = if (l.filter fun x => decide (x ∈ ps)).isEmpty = true then onlyO ps o else (l.filter fun x => decide (x ∈ ps)) :: onlyO ps o := by
  unfold onlyO
  rw [List.map_cons, List.filter_cons]
  cases (l.filter fun x => decide (x ∈ ps)).isEmpty <;> rfl
theorem onlyO_flat (ps : List Str) : ∀ o : Od, (onlyO ps o).flatten = o.flatten.filter fun x => decide (x ∈ ps)
  | [] => rfl
  | l :: o => by
    rw [onlyO_cons, List.flatten_cons, List.filter_append, ← onlyO_flat ps o]
    split
    · rename_i h
      rw [List.isEmpty_iff.mp h, List.nil_append]
    · rfl
theorem onlyO_ne {ps : List Str} {o : Od} {l : Lv} (h : l ∈ onlyO ps o) : l ≠ [] := by
  have := (List.mem_filter.mp h).2
  intro e
  rw [e] at this
  cases this
theorem onlyO_empty (ps : List Str) (o : Od) : (onlyO ps o).isEmpty = (o.flatten.filter fun x => decide (x ∈ ps)).isEmpty := by
  rw [← onlyO_flat]
  cases e : onlyO ps o with
  | nil => rfl
  | cons l t =>
    have := onlyO_ne (ps := ps) (o := o) (l := l) (by rw [e]; exact List.mem_cons_self)
    cases l with
    | nil => exact absurd rfl this
    | cons x l => rfl
/-! ### an order out of its ranks -/
def ordL (kv : Rk) (ms : List Int) : Od := ms.map fun r => sortS ((kv.filter fun e => decide (e.2 = r)).map Prod.fst)
def kvP (ps : List Str) (n : Nat) (o : Od) : Rk := (rkF n o).filter fun e => decide (e.1 ∈ ps)
def msO (ps : List Str) : Nat → Od → List Int
  | _, [] => []
  | n, l :: o => if (l.filter fun x => decide (x ∈ ps)).isEmpty = true then msO ps (n + 1) o else (n : Int) :: msO ps (n + 1) o
theorem kvP_cons (ps : List Str) (n : Nat) (l : Lv) (o : Od) : kvP ps n (l :: o) = (l.filter fun x => decide (x ∈ ps)).map (fun x => (x, (n : Int))) ++ kvP ps (n + 1) o := by
  unfold kvP
  show (l.map _ ++ rkF (n + 1) o).filter _ = _
  rw [List.filter_append, List.filter_map]
  rfl
theorem msO_cons (ps : List Str) (n : Nat) (l : Lv) (o : Od) : msO ps n (l :: o) = if (l.filter fun x => decide (x ∈ ps)).isEmpty = true then msO ps (n + 1) o else (n : Int) :: msO ps (n + 1) o := rfl
theorem msO_ge (ps : List Str) : ∀ (o : Od) (n : Nat) (k : Int), k ∈ msO ps n o → (n : Int) ≤ k
  | [], n, k, h => by cases h
  | l :: o, n, k, h => by
    unfold msO at h
    split at h
    · have := msO_ge ps o (n + 1) k h; omega
    · rcases List.mem_cons.mp h with e | m
      · omega
      · have := msO_ge ps o (n + 1) k m; omega
theorem msO_asc (ps : List Str) : ∀ (o : Od) (n : Nat), (msO ps n o).Pairwise (· < ·)
  | [], n => .nil
  | l :: o, n => by
    unfold msO
    split
    · exact msO_asc ps o (n + 1)
    · refine .cons (fun k m => ?_) (msO_asc ps o (n + 1))
      have := msO_ge ps o (n + 1) k m
      omega
theorem kvP_ge (ps : List Str) : ∀ (o : Od) (n : Nat) (e : Str × Int), e ∈ kvP ps n o → (n : Int) ≤ e.2
  | [], n, e, h => by cases h
  | l :: o, n, e, h => by
    rw [kvP_cons] at h
    rcases List.mem_append.mp h with m | m
    · obtain ⟨x, _, rfl⟩ := List.mem_map.mp m; exact Int.le_refl _
    · have := kvP_ge ps o (n + 1) e m; omega
theorem msO_mem (ps : List Str) (k : Int) : ∀ (o : Od) (n : Nat), k ∈ msO ps n o ↔ k ∈ (kvP ps n o).map Prod.snd
  | [], n => by simp [msO, kvP, rkF]
  | l :: o, n => by
    rw [kvP_cons, List.map_append, List.mem_append, ← msO_mem ps k o (n + 1), List.map_map, msO_cons]
    cases e : l.filter fun x => decide (x ∈ ps) with
    | nil => simp
    | cons y t =>
      rw [if_neg (by simp), List.mem_cons]
      refine or_congr ⟨fun h => by rw [h]; simp, fun h => ?_⟩ Iff.rfl
      obtain ⟨x, _, hx⟩ := List.mem_map.mp h
      exact hx.symm
theorem filter_none {α : Type} {p : α → Bool} {l : List α} (h : ∀ x ∈ l, p x = false) : l.filter p = [] := List.filter_eq_nil_iff.mpr fun x m => by rw [h x m]; decide
theorem ordL_only (ps : List Str) : ∀ (o : Od) (n : Nat), (∀ l ∈ o, Asc l) → ordL (kvP ps n o) (msO ps n o) = onlyO ps o
  | [], n, _ => rfl
  | l :: o, n, h => by
    have ih := ordL_only ps o (n + 1) fun x m => h x (List.mem_cons_of_mem _ m)
    have key : ∀ k ∈ msO ps (n + 1) o, (kvP ps n (l :: o)).filter (fun e => decide (e.2 = k)) = (kvP ps (n + 1) o).filter fun e => decide (e.2 = k) := fun k m => by
      have := msO_ge ps o (n + 1) k m
      rw [kvP_cons, List.filter_append, filter_none, List.nil_append]
      intro e me
      obtain ⟨x, _, rfl⟩ := List.mem_map.mp me
      exact decide_eq_false fun q => by have q : (n : Int) = k := q; omega
    have key2 : ordL (kvP ps n (l :: o)) (msO ps (n + 1) o) = onlyO ps o := by
      rw [← ih]
      exact List.map_congr_left fun k m => by rw [key k m]
    rw [onlyO_cons]
    unfold msO
    by_cases e : (l.filter fun x => decide (x ∈ ps)).isEmpty = true
    · rw [if_pos e, if_pos e]
      exact key2
    · rw [if_neg e, if_neg e]
      show sortS _ :: ordL _ (msO ps (n + 1) o) = _
      rw [key2]
      congr 1
      have e1 : (kvP ps n (l :: o)).filter (fun e => decide (e.2 = (n : Int))) = (l.filter fun x => decide (x ∈ ps)).map fun x => (x, (n : Int)) := by
        rw [kvP_cons, List.filter_append, filter_none (l := kvP ps (n + 1) o), List.append_nil, List.filter_eq_self]
        · intro e me
          obtain ⟨x, _, rfl⟩ := List.mem_map.mp me
          exact decide_eq_true rfl
        · intro e me
          have := kvP_ge ps o (n + 1) e me
          exact decide_eq_false fun q => by omega
      rw [e1, List.map_map]
      have e2 : ((l.filter fun x => decide (x ∈ ps)).map (Prod.fst ∘ fun x => (x, (n : Int)))) = l.filter fun x => decide (x ∈ ps) := List.map_id _
      rw [e2]
      exact sort_asc (asc_filter _ (h l List.mem_cons_self))
/-! ### names that stand in one order at most -/
def Apart (p : Str) (s : List Od) : Prop := s.Pairwise fun a b => ¬ (p ∈ a.flatten ∧ p ∈ b.flatten)
theorem arrO_cons (o : Od) (s : List Od) (p : Str) : arrO (o :: s) p = if p ∈ o.flatten then some 0 else (arrO s p).map (· + 1) := by
  unfold arrO
  rw [List.findIdx?_cons]
  by_cases h : p ∈ o.flatten
  · rw [if_pos h, if_pos (lvO_mem.mpr h)]
  · rw [if_neg h, if_neg fun q => h (lvO_mem.mp q)]
theorem cmpO_none {o : Od} {p q : Str} : cmpO o p q = none ↔ ¬ (p ∈ o.flatten ∧ q ∈ o.flatten) := by
  rw [← lvO_mem, ← lvO_mem]
  unfold cmpO
  cases lvO o p <;> cases lvO o q <;> simp
theorem stO_cons (o : Od) (s : List Od) (p q : Str) : stO (o :: s) p q = (cmpO o p q).or (stO s p q) := by
  unfold stO
  rw [List.findSome?_cons]
  cases cmpO o p q <;> rfl
theorem stO_away {s : List Od} {p q : Str} (h : ∀ o ∈ s, p ∉ o.flatten ∨ q ∉ o.flatten) : stO s p q = none := by
  unfold stO
  rw [List.findSome?_eq_none_iff]
  intro o m
  refine cmpO_none.mpr fun ⟨a, b⟩ => ?_
  rcases h o m with z | z
  · exact z a
  · exact z b
/-- where two names stand: in the order that holds both, if there is one -/
theorem stO_arr : ∀ {s : List Od} {p q : Str}, Apart p s → Apart q s → stO s p q = match arrO s p, arrO s q with
    | some i, some j => if i = j then cmpO (s.getD i []) p q else none
    | _, _ => none
  | [], p, q, _, _ => rfl
  | o :: s, p, q, hp, hq => by
    obtain ⟨p1, p2⟩ := List.pairwise_cons.mp hp
    obtain ⟨q1, q2⟩ := List.pairwise_cons.mp hq
    have ih := stO_arr p2 q2
    rw [stO_cons, arrO_cons, arrO_cons]
    by_cases a : p ∈ o.flatten
    · by_cases b : q ∈ o.flatten
      · rw [if_pos a, if_pos b]
        cases e : cmpO o p q with
        | none => exact absurd ⟨a, b⟩ (cmpO_none.mp e)
        | some z =>
          show some z = cmpO o p q
          exact e.symm
      · rw [if_pos a, if_neg b, cmpO_none.mpr fun z => b z.2, stO_away fun x m => .inl fun z => p1 x m ⟨a, z⟩]
        cases arrO s q <;> simp
    · by_cases b : q ∈ o.flatten
      · rw [if_neg a, if_pos b, cmpO_none.mpr fun z => a z.1, stO_away fun x m => .inr fun z => q1 x m ⟨b, z⟩]
        cases arrO s p <;> simp
      · rw [if_neg a, if_neg b, cmpO_none.mpr fun z => a z.1, Option.none_or, ih]
        cases arrO s p with
        | none => rfl
        | some i =>
          cases arrO s q with
          | none => rfl
          | some j => simp
theorem arrO_some {s : List Od} {p : Str} {i : Nat} (h : arrO s p = some i) : ∃ o, s[i]? = some o ∧ p ∈ o.flatten := by
  unfold arrO at h
  rw [List.findIdx?_eq_some_iff_getElem] at h
  obtain ⟨hi, h1, _⟩ := h
  exact ⟨s[i], List.getElem?_eq_getElem hi, lvO_mem.mp h1⟩
theorem stO_isSome {s : List Od} {p q : Str} (hp : Apart p s) (hq : Apart q s) : (stO s p q).isSome = ((arrO s p).isSome && decide (arrO s p = arrO s q)) := by
  rw [stO_arr hp hq]
  cases e1 : arrO s p with
  | none => rfl
  | some i =>
    cases e2 : arrO s q with
    | none => simp
    | some j =>
      by_cases e : i = j
      · subst e
        obtain ⟨o, ho, m1⟩ := arrO_some e1
        obtain ⟨o2, ho2, m2⟩ := arrO_some e2
        rw [ho] at ho2
        cases ho2
        have : s.getD i [] = o := by rw [List.getD_eq_getElem?_getD, ho]; rfl
        simp only [if_true, this]
        cases e3 : cmpO o p q with
        | none => exact absurd ⟨m1, m2⟩ (cmpO_none.mp e3)
        | some z => simp
      · simp [e]
theorem apart_filter {p : Str} {s : List Od} (f : Od → Bool) (h : Apart p s) : Apart p (s.filter f) := h.filter f
theorem apart_perm {p : Str} {s t : List Od} (h : Apart p s) (e : s.Perm t) : Apart p t := e.pairwise h fun z w => z ⟨w.2, w.1⟩
theorem shpO_perm (os : List Od) : (shpO os).Perm (os.filter fun o => !o.isEmpty) := List.mergeSort_perm _ leOd
theorem shpO_mem {os : List Od} {o : Od} : o ∈ shpO os ↔ o ∈ os ∧ o ≠ [] := by
  rw [(shpO_perm os).mem_iff, List.mem_filter]
  cases o <;> simp
theorem shpO_apart {p : Str} {os : List Od} (h : Apart p os) : Apart p (shpO os) := apart_perm (apart_filter _ h) (shpO_perm os).symm
end Kt

set_option Elab.async false
set_option linter.all false
set_option maxRecDepth 100000
namespace Kt
open PySem L2 PyProof.Rows
section
variable {K : PySem.W.Frag} {σ : L2.St} {G H : Hp} {D : Ends} {Q : VK} {a b : Addr} {xs : List V} {y : V} {Ps R : List SP} {ds : List PyData} {k : Nat}
theorem r_dnew (S : Sep Ps H) (q : ∀ p H', Sep (pt p (.dK (encK [])) :: Ps) H' → Q (.ref p) H') : tDNewK σ H Q := fun p np => q p _ (S.new _ np)
/-- xs.insert(i, y) -/
def rIns : V → List V → Hp → VK → Prop := fun x vs H Q => ∃ (l : Addr) (xs : List V) (i : Int) (y : V), x = .ref l ∧ vs = [.int i, y] ∧ H l = some (.lst xs) ∧ xs.length < sizeLine ∧ 0 ≤ i ∧ i < 2 ^ 63 ∧ Q .non (upd H l (.lst (xs.take i.toNat ++ [y] ++ xs.drop i.toNat)))
theorem mt_insertK {X : Cx} : MtR X "list.insert" rIns := mt_insert
theorem r_ins {i : Int} (S : Sep (pt a (.lst xs) :: R) H) (h0 : 0 ≤ i) (hi : i ≤ 1000000) (hz : xs.length < 100000) (h : ∀ H', Sep (pt a (.lst (xs.take i.toNat ++ y :: xs.drop i.toNat)) :: R) H' → Q .non H') : rIns (.ref a) [.int i, y] H Q :=
  ⟨a, xs, i, y, rfl, rfl, S.hd_at, Nat.lt_of_lt_of_le hz (by decide), h0, by omega, by
    have e : xs.take i.toNat ++ [y] ++ xs.drop i.toNat = xs.take i.toNat ++ y :: xs.drop i.toNat := by simp
    rw [e]
    exact h _ (S.hd_set _)⟩
/-! ### while -/
def WhN (J : LW) (m : Nat) : L2.St → Hp → Prop := fun σ' H' => ∃ m', m' < m ∧ Nx J m' σ' H'
theorem wh_in {J : LW} {m m' : Nat} (h : m' < m) (S : Sep Ps H) (j : J m' σ Ps) : WhN J m σ H := ⟨m', h, Ps, j, S⟩
theorem wh_go {tb : TS} {J : LW} {m : Nat} (h : tb { D with nx := WhN J m, ct := WhN J m, bk := D.nx } σ H) : ∃ N : L2.St → Hp → Prop, (∀ σ' H', N σ' H' → ∃ m', m' < m ∧ Nx J m' σ' H') ∧ tb { D with nx := N, ct := N, bk := D.nx } σ H := ⟨WhN J m, fun _ _ h => h, h⟩
theorem r_while {tc : TT} {tb : TS} (J : LW) (m : Nat) (S : Sep Ps H) (h0 : J m σ Ps) (hs : ∀ m σ Ps H, J m σ Ps → Sep Ps H → tc σ H fun b H1 => if b = true then ∃ N : L2.St → Hp → Prop, (∀ σ' H', N σ' H' → ∃ m', m' < m ∧ Nx J m' σ' H') ∧ tb { D with nx := N, ct := N, bk := D.nx } σ H1 else D.nx σ H1) : tWhile tc tb D σ H :=
  ⟨Nx J, ⟨m, nx_in S h0⟩, fun m σ H ⟨Ps, j, S⟩ => hs m σ Ps H j S⟩
/-! ### compared with what is empty -/
theorem eqv_nil : ∀ ds : List PyData, PyData.eqvAll ds [] = ds.isEmpty
  | [] => by simp [PyData.eqvAll]
  | d :: ds => by simp [PyData.eqvAll]
theorem r_ne_nilL (h1 : Dp K H (.ref a) (.list ds)) (o : Okd k (.list ds)) (hk : k ≤ 64) (s : SqL K H b []) (h : Q (.bl (!ds.isEmpty)) H) : rNeA K (.ref a) (.ref b) H Q :=
  .inr ⟨_, .list [], h1, .lst s .nil, o.shaped hk, (okd_list (k := 0) (by simp)).shaped (by decide), by rw [PyData.eqv, eqv_nil]; exact h⟩
theorem r_eq_nilL (h1 : Dp K H (.ref a) (.list ds)) (o : Okd k (.list ds)) (hk : k ≤ 64) (s : SqL K H b []) (h : Q (.bl ds.isEmpty) H) : rEqA K (.ref a) (.ref b) H Q :=
  .inr ⟨_, .list [], h1, .lst s .nil, o.shaped hk, (okd_list (k := 0) (by simp)).shaped (by decide), by rw [PyData.eqv, eqv_nil]; exact h⟩
theorem r_ne_nilT (h1 : Dp K H (.ref a) (.tuple ds)) (o : Okd k (.tuple ds)) (hk : k ≤ 64) (s : SqT K H b []) (h : Q (.bl (!ds.isEmpty)) H) : rNeA K (.ref a) (.ref b) H Q :=
  .inr ⟨_, .tuple [], h1, .tup s .nil, o.shaped hk, (okd_tuple (k := 0) (by simp)).shaped (by decide), by rw [PyData.eqv, eqv_nil]; exact h⟩
/-! ### names: texts that may be laid down -/
def Nms (l : List Str) : Prop := ∀ x ∈ l, PyData.strOk x = true
theorem okd_str {k : Nat} {x : Str} (h : PyData.strOk x = true) : Okd k (.str x) := ⟨h, Nat.zero_le _⟩
theorem okd_strs {k : Nat} {l : List Str} (h : Nms l) : ∀ d ∈ l.map PyData.str, Okd k d := fun d m => by
  obtain ⟨x, hx, rfl⟩ := List.mem_map.mp m
  exact okd_str (h x hx)
theorem okd_ns {l : List Str} (h : Nms l) : Okd 1 (dNs l) := okd_list (okd_strs h)
theorem okd_lv {l : List Str} (h : Nms l) : Okd 1 (dLv l) := okd_tuple (okd_strs h)
theorem okd_lvs {o : Od} (h : Nms o.flatten) : ∀ d ∈ o.map dLv, Okd 1 d := fun d m => by
  obtain ⟨x, hx, rfl⟩ := List.mem_map.mp m
  exact okd_lv fun z mz => h z (List.mem_flatten.mpr ⟨x, hx, mz⟩)
theorem okd_od {o : Od} (h : Nms o.flatten) : Okd 2 (dOd o) := okd_tuple (okd_lvs h)
theorem okd_ods {s : List Od} (h : ∀ o ∈ s, Nms o.flatten) : ∀ d ∈ s.map dOd, Okd 2 d := fun d m => by
  obtain ⟨x, hx, rfl⟩ := List.mem_map.mp m
  exact okd_od (h x hx)
theorem okd_shp {s : List Od} (h : ∀ o ∈ s, Nms o.flatten) : Okd 3 (dShp s) := okd_tuple (okd_ods h)
theorem okd_os {s : List Od} (h : ∀ o ∈ s, Nms o.flatten) : Okd 3 (dOds s) := okd_list (okd_ods h)
/-! ### tests that are known -/
theorem iteD {p A B : Prop} [Decidable p] (hp : p) (h : A) : if decide p = true then A else B := by rw [decide_eq_true hp]; exact h
theorem iteDN {p A B : Prop} [Decidable p] (hp : ¬ p) (h : B) : if decide p = true then A else B := by rw [decide_eq_false hp]; exact h
theorem iteB {b : Bool} {A B : Prop} (hb : b = true) (h : A) : if b = true then A else B := by rw [hb]; exact h
theorem iteBN {b : Bool} {A B : Prop} (hb : b = false) (h : B) : if b = true then A else B := by rw [hb]; exact h
theorem iteND {p A B : Prop} [Decidable p] (hp : ¬ p) (h : A) : if (!decide p) = true then A else B := by rw [decide_eq_false hp]; exact h
theorem iteNDN {p A B : Prop} [Decidable p] (hp : p) (h : B) : if (!decide p) = true then A else B := by rw [decide_eq_true hp]; exact h
theorem r_notN {x : V} (h : Q (.bl (!decide (x = .non))) H) : rNotN x .non H Q := ⟨rfl, h⟩
/-! ### cut in two -/
theorem cut_pre {n : Nat} : cutV xs none (some (n : Int)) = xs.take n := by
  unfold cutV HT.sIx
  simp only [List.drop_zero, Nat.sub_zero]
  rw [if_neg (by omega), Int.toNat_natCast, List.take_eq_take_iff]
  omega
theorem cut_suf {n : Nat} : cutV xs (some (n : Int)) none = xs.drop n := by
  unfold cutV HT.sIx
  simp only
  rw [if_neg (by omega), Int.toNat_natCast]
  by_cases h : n ≤ xs.length
  · rw [Nat.min_eq_left h, List.take_of_length_le (by rw [List.length_drop]; omega)]
  · rw [Nat.min_eq_right (by omega), List.drop_eq_nil_of_le (Nat.le_refl _), List.take_nil, List.drop_eq_nil_of_le (by omega)]
/-! ### a list of data that is of the heap's own -/
def LD (K : PySem.W.Frag) (G : Hp) (a : Addr) (ds : List PyData) : Prop := ∃ vs, G a = some (.lst vs) ∧ DpAll K G vs ds
theorem LD.le {G' : Hp} (h : LD K G a ds) (l : Le G G') : LD K G' a ds := by
  obtain ⟨vs, e, d⟩ := h
  exact ⟨vs, l _ _ e, DpAll.le l _ _ d⟩
theorem LD.dp (h : LD K G a ds) : Dp K G (.ref a) (.list ds) := by
  obtain ⟨vs, e, d⟩ := h
  exact .lst (SqL.of e) d
theorem LD.sq {l : List Str} (h : LD K G a (l.map PyData.str)) : SqL K G a (l.map V.str) := dns_sq h.dp
theorem hp_LD {p : Addr} (S : Sep (pt p (.lst xs) :: hp G :: R) H) (h : DpAll K G xs ds) : ∃ G', Le G G' ∧ LD K G' p ds ∧ Sep (hp G' :: R) H := by
  obtain ⟨G', l, e, S⟩ := hp_add S
  exact ⟨G', l, ⟨xs, e, DpAll.le l _ _ h⟩, S⟩
/-- a piece of a list of data, as a list of data -/
theorem r_pre {n : Nat} (S : Sep (hp G :: R) H) (hx : Dp K G (.ref a) (.list ds)) (h : ∀ p G' H', Le G G' → LD K G' p (ds.take n) → Sep (hp G' :: R) H' → Q (.ref p) H') : kSl K Q (.ref a) none (some (n : Int)) H := by
  obtain ⟨a', vs, e, hs, hv⟩ := dp_lstInv hx
  cases e
  refine r_ksl S (hp_sqL S hs) fun p H' S => ?_
  rw [cut_pre] at S
  obtain ⟨G', le, hd, S⟩ := hp_LD S (dpall_take n hv)
  exact h p G' H' le hd S
theorem r_suf {n : Nat} (S : Sep (hp G :: R) H) (hx : Dp K G (.ref a) (.list ds)) (h : ∀ p G' H', Le G G' → LD K G' p (ds.drop n) → Sep (hp G' :: R) H' → Q (.ref p) H') : kSl K Q (.ref a) (some (n : Int)) none H := by
  obtain ⟨a', vs, e, hs, hv⟩ := dp_lstInv hx
  cases e
  refine r_ksl S (hp_sqL S hs) fun p H' S => ?_
  rw [cut_suf] at S
  obtain ⟨G', le, hd, S⟩ := hp_LD S (dpall_drop n hv)
  exact h p G' H' le hd S
/-- two lists of data, one after the other -/
theorem r_catD {es : List PyData} (S : Sep (hp G :: R) H) (h1 : LD K G a ds) (h2 : LD K G b es) (hz : ds.length + es.length ≤ 100000) (h : ∀ p G' H', Le G G' → LD K G' p (ds ++ es) → Sep (hp G' :: R) H' → Q (.ref p) H') : rAddA (.ref a) (.ref b) H Q := by
  obtain ⟨v1, e1, d1⟩ := h1
  obtain ⟨v2, e2, d2⟩ := h2
  have l1 := dpall_len d1
  have l2 := dpall_len d2
  refine r_cat S (hp_le S _ _ e1) (hp_le S _ _ e2) (by omega) fun p H' S => ?_
  obtain ⟨G', le, hd, S⟩ := hp_LD S (dpall_app d1 d2)
  exact h p G' H' le hd S
/-- one list of data made new -/
theorem r_newD (S : Sep (hp G :: R) H) (hd : DpAll K G xs ds) (hl : xs.length ≤ 1000) (h : ∀ p G' H', Le G G' → LD K G' p ds → Sep (hp G' :: R) H' → Q (.ref p) H') : kLst Q xs H :=
  q_new S hl fun p H' S => by
    obtain ⟨G', le, hd, S⟩ := hp_LD S hd
    exact h p G' H' le hd S
theorem r_newTD (S : Sep (hp G :: R) H) (hd : DpAll K G xs ds) (hl : xs.length ≤ 1000) (h : ∀ p G' H', Le G G' → Dp K G' (.ref p) (.tuple ds) → Sep (hp G' :: R) H' → Q (.ref p) H') : kTup Q xs H :=
  q_newT S hl fun p H' S => by
    obtain ⟨G', le, hd, S⟩ := hp_tup S hd
    exact h p G' H' le hd S
end
end Kt

set_option Elab.async false
set_option linter.all false
set_option maxRecDepth 100000
namespace Kt
open PySem PySem.Spec L2 PyProof.Rows PySem.Froz
/-! ### a set of texts: what it holds, and that it can be walked -/
structure SxT (P : Program) (w : World) (h : Heap) (a : Addr) (l : List Str) : Prop where
  at_ : ∃ D : SD, h.get? a = some (sObj "set" D) ∧ TxOk P w D l ∧ Ris D.2.2.place.toList ∧ (w.params.followText "set-order" = true ∨ D.2.2.led = true)
  nd : l.Nodup
section
variable {P : Program} {w : World} {A : Around} {E : Value → Shared → Prop} {s : Shared} {h h' : Heap} {a : Addr} {l : List Str}
theorem SxT.to (R : SxT P w h a l) (k : ∀ o, h.get? a = some o → h'.get? a = some o) : SxT P w h' a l := by
  obtain ⟨⟨D, e, r⟩, n⟩ := R
  exact ⟨⟨D, k _ e, r⟩, n⟩
theorem tail_ris {ep : Nat} {es : Array (Int × Value)} {t : SetTable} {wd : Bool} (r : Ris t.place.toList) : Ris (tailTx ep es t wd).2.2.place.toList := by
  unfold tailTx
  split
  · exact relayAll_ris ..
  · exact r
theorem tail_led {ep : Nat} {es : Array (Int × Value)} {t : SetTable} {wd : Bool} : (tailTx ep es t wd).2.2.led = t.led := by
  unfold tailTx
  split
  · exact relayAll_led ..
  · rfl
theorem addTx_ris {x : Int} {v : Value} {D : SD} (r : Ris D.2.2.place.toList) : Ris (addTx x v D).2.2.place.toList := by
  have q := layNew_ris D.2.2 D.1 x v r
  unfold addTx
  refine tail_ris ?_
  split <;> exact q
theorem addTx_led {x : Int} {v : Value} {D : SD} : (addTx x v D).2.2.led = D.2.2.led := by
  have q := layNew_led D.2.2 D.1 x v
  unfold addTx
  refine tail_led.trans ?_
  split <;> exact q
/-- a text that the set holds already: nothing changes -/
theorem again_x {D : SD} {k : Str} {u : Tok} {Q : Bool → Shared → Prop} (ho : s.heap.get? a = some (sObj "set" D)) (F : TxOk P w D l) (hk : k ∈ l) (hb : l.length < scanBound) (q : Q false s) : wpAny (model P w) A (setAddHashed a (.str k u) (hashStr w k)) Q E s := by
  obtain ⟨es, ep, t⟩ := D
  have dd : (sObj "set" (es, ep, t)).data = .set es ep t := rfl
  have e0 : ElemsOf (strKind P w) es.toList := F.el
  have lt0 : es.size < scanBound := by have := F.sz; simp only at this; omega
  have me := is_str (P := P) (w := w) k u
  obtain ⟨e, he, hq⟩ := (F.mem k).mp hk
  unfold setAddHashed setAddHashedIn
  refine wpAny_holding (wpAny_bind (wpAny_setState_of ho dd F.fit ?_))
  dsimp only
  rw [byScan_of rfl lt0 e0]
  simp only [↓reduceIte]
  unfold setAddByScan
  refine wpAny_bind (wpAny_bind (wpAny_rule (wpAny_bind (wpAny_setScan_of (knd := strKind P w) (k := k) me ho dd F.fit e0 ?_))))
  cases fi : List.findIdx? (fun e => (strKind P w).is k e.2) es.toList with
  | none =>
    have := List.findIdx?_eq_none_iff.mp fi e he
    rw [hq] at this
    cases this
  | some j =>
    dsimp only
    exact wpAny_pure (wpAny_pure q)
/-- one more text -/
theorem sxt_add {k : Str} {u : Tok} {Q : Bool → Shared → Prop} (R : SxT P w s.heap a l) (room : l.length + 1 < scanBound) (q : ∀ (b : Bool) h2 l2, Heap.SameBut a s.heap h2 → SxT P w h2 a l2 → (∀ x, x ∈ l2 ↔ x ∈ l ∨ x = k) → l2.length ≤ l.length + 1 → Q b { s with heap := h2 }) :
    wpAny (model P w) A (setAddHashed a (.str k u) (hashStr w k)) Q E s := by
  obtain ⟨⟨D, e, F, r, ld⟩, nd⟩ := id R
  by_cases hk : k ∈ l
  · exact again_x e F hk (by omega) (q false s.heap l (Heap.SameBut.refl a s.heap) R (fun x => ⟨.inl, fun z => z.elim id fun z => z ▸ hk⟩) (Nat.le_succ _))
  · refine add_x e F hk room ?_
    refine q true _ (k :: l) (Heap.SameBut.update ..) ⟨⟨addTx (hashStr w k) (.str k u) D, get_upd _ e rfl, add_ok u F, addTx_ris r, ld.imp id fun z => addTx_led.trans z⟩, List.nodup_cons.mpr ⟨hk, nd⟩⟩ (fun x => ?_) (Nat.le_refl _)
    rw [List.mem_cons, or_comm]
/-- the loop that fills a set with the texts of an iterator -/
theorem fill_txt {I : Addr} {fp wr : List Addr} {G : Array GenState → Array GenState → Prop} {n : Nat} {Pv : Nat → Value → Prop} {St : Nat → Shared → Prop} {R : Result → Shared → Prop}
    (W : WalksS P w A.in1 I fp wr G n Pv St) (S : Addr) (nf : S ∉ fp) (ts : List Str) (hn : n = ts.length) (hb : ts.length + 1 < scanBound) (hv : ∀ i v, Pv i v → ∃ k t, ts[i]? = some k ∧ v = .str k t) :
    ∀ (m i : Nat) (s : Shared), n - i = m → i ≤ n → St i s → (∃ l, l.length ≤ i ∧ (∀ x, x ∈ l ↔ x ∈ ts.take i) ∧ SxT P w s.heap S l) →
      (∀ s' l, Moved (S :: wr) G s s' → l.length ≤ n → (∀ x, x ∈ l ↔ x ∈ ts) → SxT P w s'.heap S l → R (.ok (.ret .none)) s') →
      codeAny (model P w) A (.builtin "set.update.loop" ⟨[.ref S, .ref I], []⟩) R s := by
  have nw : S ∉ wr := fun z => nf (W.sub _ z)
  have up : ∀ b ∈ wr, b ∈ S :: wr := fun b z => List.mem_cons_of_mem _ z
  intro m
  induction m with
  | zero =>
    intro i s em hi st ⟨l, hl, hm, hS⟩ fin
    have hin : i = n := by omega
    subst hin
    refine codeAny_builtin F.entry_set_update_loop ?_
    rw [Around.under_plainId F.plain_set_update_loop _]
    refine wpAny_bind (m := pyNext (.ref I)) (W.done s _ _ st fun s2 mv => ?_)
    rw [List.take_of_length_le (by omega)] at hm
    exact wpAny_pure (fin s2 l (mv.mono up) hl hm (hS.to fun o e => mv.heap S o nw e))
  | succ m ih =>
    intro i s em hi st ⟨l, hl, hm, hS⟩ fin
    have lt : i < n := by omega
    refine codeAny_builtin F.entry_set_update_loop ?_
    rw [Around.under_plainId F.plain_set_update_loop _]
    refine wpAny_bind (m := pyNext (.ref I)) (W.item i s _ _ lt st fun v s2 hP st2 mv => ?_)
    obtain ⟨z, t, hz, rfl⟩ := hv i v hP
    have hS2 : SxT P w s2.heap S l := hS.to fun o e => mv.heap S o nw e
    refine wpAny_bind (m := holding [Value.str z t] (setAdd S (.str z t))) (wpAny_holding ?_)
    unfold setAdd
    refine wpAny_holding (wpAny_bind ((strKind P w).pyHash (k := z) (is_str z t) ?_))
    refine sxt_add (s := { s2 with toks := s2.toks + 1 }) hS2 (by omega) fun b h2 l2 sb hS3 hm3 hl3 => ?_
    have hm4 : ∀ x, x ∈ l2 ↔ x ∈ ts.take (i + 1) := fun x => by
      rw [hm3, hm, List.take_add_one, hz]
      simp
    refine wpAny_pure ⟨plainId_quiet F.plain_set_update_loop _, ih (i + 1) _ (by omega) lt (W.frame _ s2 _ _ st2 (Nat.le_succ _) fun c hc o e => ?_) ⟨l2, by omega, hm4, hS3⟩ fun s3 l3 mv3 hl3 hm3 hS4 => ?_⟩
    · have ne : c ≠ S := fun z => nf (z ▸ hc)
      exact (sb.2 c ne).trans e
    · refine fin s3 l3 (Moved.trans W.gtrans ((mv.mono up).then_heap (Nat.le_succ _) fun c o hc e => ?_) mv3) hl3 hm3 hS4
      have ne : c ≠ S := fun z => hc (z ▸ List.mem_cons_self)
      exact (sb.2 c ne).trans e

set_option maxHeartbeats 3200000 in
theorem callSetTL {l : Addr} {vs : Array Value} (ts : List Str) {Z : Value → Shared → Prop} (h0 : A.handled = none) (hL : s.heap.IsList l vs) (hI : StrsAre vs.toList ts) (hB : ts.length + 1 < scanBound)
    (q : ∀ (h2 : Heap) (tk : Nat) (ks : List Str), SxT P w h2 s.heap.objs.size ks → ks.length ≤ ts.length → (∀ x, x ∈ ks ↔ x ∈ ts) → (∀ b o, s.heap.get? b = some o → h2.get? b = some o) → Z (.ref s.heap.objs.size) { s with heap := h2, toks := tk }) :
    wpAny (model P w) A (call (.type "set") [.ref l]) Z E s := by
  have sz : vs.size = ts.length := (Array.length_toList ..).symm.trans hI.len_eq
  obtain ⟨c, tl, m0⟩ := F.called_set.mro
  have m1 := F.called_set.made
  have m2 := F.called_set.sub
  refine wpAny_call (codeAny_of_tree ?_)
  refine wpAny_pure ⟨Code.quiet_builtin _ (by decide +kernel), codeAny_builtin F.entry_type_call ?_⟩
  rw [Around.under_plain (weight_type_call_type "set" [.ref l] []) rfl]
  have g1 := F.called_set.notType
  have g2 := F.called_set.canCreate
  have g3 := F.typeCall_set_1 (.ref l)
  repeat (any_goals (first | assumption | wp_step))
  refine codeAny_mono (code_set_led1 (.ref l) (E := E) (Q₁ := fun ob z₁ => ob = .ref s.heap.objs.size ∧ z₁ = { s with heap := s.heap.push (soOf w) }) ⟨rfl, rfl⟩) fun r z₁ hr => ?_
  cases r with
  | error e => exact hr
  | ok fl =>
    cases fl with
    | ret ob =>
      obtain ⟨rfl, rfl⟩ := hr
      have eS : (s.heap.push (soOf w)).get? s.heap.objs.size = some (soOf w) := Heap.get?_push_size _ rfl
      have tS : Shared.TypeIs { s with heap := s.heap.push (soOf w) } (.ref s.heap.objs.size) "set" := ⟨_, eS, rfl⟩
      have i1 := F.called_set.init.lookup
      have i2 := F.called_set.init.bind (.ref s.heap.objs.size)
      repeat (any_goals (first | assumption | wp_step))
      refine codeAny_mono (codeAny_call_builtin (R := wants (fun r z₂ => r = .none ∧ ∃ h2 tk ks, z₂ = { s with heap := h2, toks := tk } ∧ SxT P w h2 s.heap.objs.size ks ∧ ks.length ≤ ts.length ∧ (∀ x, x ∈ ks ↔ x ∈ ts) ∧ (∀ b o, s.heap.get? b = some o → h2.get? b = some o)) E) F.called_set.init.plain F.entry_set_init (check_set_init_1 tS ?_)) fun r₂ z₂ hr₂ => ?_
      · obtain ⟨ol, eol, col, nl, dol⟩ := hL
        obtain ⟨kc, kd, kt, ks⟩ := ol
        simp only at col dol
        subst col; subst dol
        have eo2 : (s.heap.push (soOf w)).get? l = some { cls := .type "list", dict := kd, data := .seq vs nl, slots := ks } := Heap.get?_push_of_some _ eol
        have sb1 := F.sub_list_set
        have sb2 := F.sub_list_frozenset
        have hne : (Value.type "list" == Value.type "dict") = false := by decide
        have hL1 : (s.heap.push (soOf w)).IsList l vs := ⟨_, eo2, rfl, nl, rfl⟩
        unfold Builtin.«set.__init__» noKeywords Builtin.Frozenset.updateFrom
        generalize hPI : pyIter = PI
        wp_walk
        subst hPI
        refine wpAny_pyIter_list hL1 ?_
        refine wpAny_bind (wpAny_runValue ?_)
        have ll : l < s.heap.objs.size := Heap.lt_size eol
        have hh3 : A.in1.in1.in1.handled = none := by simp [h0]
        have zz : (s.heap.push (soOf w)).objs.size = s.heap.objs.size + 1 := Heap.size_push ..
        have n1 : l ≠ (s.heap.push (soOf w)).objs.size := by rw [zz]; exact Nat.ne_of_lt (Nat.lt_succ_of_lt ll)
        have n2 : s.heap.objs.size ∉ [(s.heap.push (soOf w)).objs.size, l] := by
          rw [zz]; simp only [List.mem_cons, List.not_mem_nil, or_false, not_or]
          exact ⟨Nat.ne_of_lt (Nat.lt_succ_self _), Nat.ne_of_gt ll⟩
        have val : ∀ (i : Nat) (v : Value), vs[i]? = some v → ∃ k t, ts[i]? = some k ∧ v = .str k t := fun i v hv => by
          have hi : i < ts.length := by rw [← sz]; exact (Array.getElem?_eq_some_iff.mp hv).1
          obtain ⟨t, e⟩ := SS.strs_at hI i v (by rw [Array.getElem?_toList]; exact hv)
          exact ⟨ts[i], t, List.getElem?_eq_getElem hi, by rw [e, List.getD_eq_getElem?_getD, List.getElem?_eq_getElem hi] <;> rfl⟩
        refine fill_txt ((Walks.list hh3 _ l n1 vs).toS) s.heap.objs.size n2 ts sz hB val (vs.size - 0) 0 _ (by omega) (Nat.zero_le _) ⟨⟨_, Heap.get?_push_size _ rfl, rfl, rfl⟩, (hL1.push _)⟩ ?k0 ?k1
        case k0 =>
          refine ⟨[], Nat.le_refl 0, fun x => by simp, ⟨(#[], 0, .fresh 0 0 (!w.params.followText "set-order")), Heap.get?_push_of_some _ eS, TxOk.nil (by rfl), List.Pairwise.nil, ?_⟩, List.nodup_nil⟩
          show _ ∨ (!w.params.followText "set-order") = true
          cases w.params.followText "set-order"
          · exact .inr rfl
          · exact .inl rfl
        case k1 =>
          intro z' ks2 hm hc' hms hS'
          obtain ⟨h2, g2, d2, tk, os2⟩ := z'
          obtain rfl : g2 = s.gens := hm.gens
          obtain rfl : d2 = s.drawn := hm.drawn
          obtain rfl : os2 = s.os := hm.os
          show wpAny _ _ _ _ _ _
          refine wpAny_pure ?_
          show wpAny _ _ (ret Value.none) _ _ _
          rw [sz] at hc'
          refine wpAny_pure ⟨rfl, h2, tk, ks2, rfl, hS', hc', hms, fun b o e => ?_⟩
          have lb : b < s.heap.objs.size := Heap.lt_size e
          exact hm.heap b o (by rw [zz]; simp only [List.mem_cons, List.not_mem_nil, or_false, not_or]; exact ⟨Nat.ne_of_lt lb, Nat.ne_of_lt (Nat.lt_succ_of_lt lb)⟩) (Heap.get?_push_of_some _ (Heap.get?_push_of_some _ e))
      · cases r₂ with
        | error e => exact hr₂
        | ok fl₂ =>
          cases fl₂ with
          | ret r =>
            obtain ⟨rfl, h2, tk, ks2, rfl, hS', hc', hms, hk'⟩ := hr₂
            repeat (any_goals (first | assumption | wp_step))
            exact q _ _ _ hS' hc' hms hk'
          | _ => exact hr₂.elim
    | _ => exact hr.elim

set_option maxHeartbeats 3200000 in
theorem callSetTT {l : Addr} {vs : Array Value} (ts : List Str) {Z : Value → Shared → Prop} (h0 : A.handled = none) (hL : s.heap.IsTuple l vs) (hI : StrsAre vs.toList ts) (hB : ts.length + 1 < scanBound)
    (q : ∀ (h2 : Heap) (tk : Nat) (ks : List Str), SxT P w h2 s.heap.objs.size ks → ks.length ≤ ts.length → (∀ x, x ∈ ks ↔ x ∈ ts) → (∀ b o, s.heap.get? b = some o → h2.get? b = some o) → Z (.ref s.heap.objs.size) { s with heap := h2, toks := tk }) :
    wpAny (model P w) A (call (.type "set") [.ref l]) Z E s := by
  have sz : vs.size = ts.length := (Array.length_toList ..).symm.trans hI.len_eq
  obtain ⟨c, tl, m0⟩ := F.called_set.mro
  have m1 := F.called_set.made
  have m2 := F.called_set.sub
  refine wpAny_call (codeAny_of_tree ?_)
  refine wpAny_pure ⟨Code.quiet_builtin _ (by decide +kernel), codeAny_builtin F.entry_type_call ?_⟩
  rw [Around.under_plain (weight_type_call_type "set" [.ref l] []) rfl]
  have g1 := F.called_set.notType
  have g2 := F.called_set.canCreate
  have g3 := F.typeCall_set_1 (.ref l)
  repeat (any_goals (first | assumption | wp_step))
  refine codeAny_mono (code_set_led1 (.ref l) (E := E) (Q₁ := fun ob z₁ => ob = .ref s.heap.objs.size ∧ z₁ = { s with heap := s.heap.push (soOf w) }) ⟨rfl, rfl⟩) fun r z₁ hr => ?_
  cases r with
  | error e => exact hr
  | ok fl =>
    cases fl with
    | ret ob =>
      obtain ⟨rfl, rfl⟩ := hr
      have eS : (s.heap.push (soOf w)).get? s.heap.objs.size = some (soOf w) := Heap.get?_push_size _ rfl
      have tS : Shared.TypeIs { s with heap := s.heap.push (soOf w) } (.ref s.heap.objs.size) "set" := ⟨_, eS, rfl⟩
      have i1 := F.called_set.init.lookup
      have i2 := F.called_set.init.bind (.ref s.heap.objs.size)
      repeat (any_goals (first | assumption | wp_step))
      refine codeAny_mono (codeAny_call_builtin (R := wants (fun r z₂ => r = .none ∧ ∃ h2 tk ks, z₂ = { s with heap := h2, toks := tk } ∧ SxT P w h2 s.heap.objs.size ks ∧ ks.length ≤ ts.length ∧ (∀ x, x ∈ ks ↔ x ∈ ts) ∧ (∀ b o, s.heap.get? b = some o → h2.get? b = some o)) E) F.called_set.init.plain F.entry_set_init (check_set_init_1 tS ?_)) fun r₂ z₂ hr₂ => ?_
      · obtain ⟨ol, eol, col, nl, dol⟩ := hL
        obtain ⟨kc, kd, kt, ks⟩ := ol
        simp only at col dol
        subst col; subst dol
        have eo2 : (s.heap.push (soOf w)).get? l = some { cls := .type "tuple", dict := kd, data := .seq vs nl, slots := ks } := Heap.get?_push_of_some _ eol
        have sb1 := F.sub_tuple_set
        have sb2 := F.sub_tuple_frozenset
        have hne : (Value.type "tuple" == Value.type "dict") = false := by decide
        have hL1 : (s.heap.push (soOf w)).IsTuple l vs := ⟨_, eo2, rfl, nl, rfl⟩
        unfold Builtin.«set.__init__» noKeywords Builtin.Frozenset.updateFrom
        generalize hPI : pyIter = PI
        wp_walk
        subst hPI
        refine wpAny_pyIter_tuple hL1 ?_
        refine wpAny_bind (wpAny_runValue ?_)
        have ll : l < s.heap.objs.size := Heap.lt_size eol
        have hh3 : A.in1.in1.in1.handled = none := by simp [h0]
        have zz : (s.heap.push (soOf w)).objs.size = s.heap.objs.size + 1 := Heap.size_push ..
        have n1 : l ≠ (s.heap.push (soOf w)).objs.size := by rw [zz]; exact Nat.ne_of_lt (Nat.lt_succ_of_lt ll)
        have n2 : s.heap.objs.size ∉ [(s.heap.push (soOf w)).objs.size, l] := by
          rw [zz]; simp only [List.mem_cons, List.not_mem_nil, or_false, not_or]
          exact ⟨Nat.ne_of_lt (Nat.lt_succ_self _), Nat.ne_of_gt ll⟩
        have val : ∀ (i : Nat) (v : Value), vs[i]? = some v → ∃ k t, ts[i]? = some k ∧ v = .str k t := fun i v hv => by
          have hi : i < ts.length := by rw [← sz]; exact (Array.getElem?_eq_some_iff.mp hv).1
          obtain ⟨t, e⟩ := SS.strs_at hI i v (by rw [Array.getElem?_toList]; exact hv)
          exact ⟨ts[i], t, List.getElem?_eq_getElem hi, by rw [e, List.getD_eq_getElem?_getD, List.getElem?_eq_getElem hi] <;> rfl⟩
        refine fill_txt ((Walks.tuple hh3 _ l n1 vs).toS) s.heap.objs.size n2 ts sz hB val (vs.size - 0) 0 _ (by omega) (Nat.zero_le _) ⟨⟨_, Heap.get?_push_size _ rfl, rfl, rfl⟩, (hL1.push _)⟩ ?k0 ?k1
        case k0 =>
          refine ⟨[], Nat.le_refl 0, fun x => by simp, ⟨(#[], 0, .fresh 0 0 (!w.params.followText "set-order")), Heap.get?_push_of_some _ eS, TxOk.nil (by rfl), List.Pairwise.nil, ?_⟩, List.nodup_nil⟩
          show _ ∨ (!w.params.followText "set-order") = true
          cases w.params.followText "set-order"
          · exact .inr rfl
          · exact .inl rfl
        case k1 =>
          intro z' ks2 hm hc' hms hS'
          obtain ⟨h2, g2, d2, tk, os2⟩ := z'
          obtain rfl : g2 = s.gens := hm.gens
          obtain rfl : d2 = s.drawn := hm.drawn
          obtain rfl : os2 = s.os := hm.os
          show wpAny _ _ _ _ _ _
          refine wpAny_pure ?_
          show wpAny _ _ (ret Value.none) _ _ _
          rw [sz] at hc'
          refine wpAny_pure ⟨rfl, h2, tk, ks2, rfl, hS', hc', hms, fun b o e => ?_⟩
          have lb : b < s.heap.objs.size := Heap.lt_size e
          exact hm.heap b o (by rw [zz]; simp only [List.mem_cons, List.not_mem_nil, or_false, not_or]; exact ⟨Nat.ne_of_lt lb, Nat.ne_of_lt (Nat.lt_succ_of_lt lb)⟩) (Heap.get?_push_of_some _ (Heap.get?_push_of_some _ e))
      · cases r₂ with
        | error e => exact hr₂
        | ok fl₂ =>
          cases fl₂ with
          | ret r =>
            obtain ⟨rfl, h2, tk, ks2, rfl, hS', hc', hms, hk'⟩ := hr₂
            repeat (any_goals (first | assumption | wp_step))
            exact q _ _ _ hS' hc' hms hk'
          | _ => exact hr₂.elim
    | _ => exact hr.elim
end
end Kt

set_option Elab.async false
set_option linter.all false
set_option maxRecDepth 100000
namespace Kt
open PySem PySem.Spec L2 PyProof.Rows PySem.Froz
/-! ### what is sorted is one list -/
theorem leS_anti {a b : Str} (h : leS a b = true) (h2 : leS b a = true) : a = b := by
  rw [leS_eq] at h h2
  have e := List.le_antisymm (of_decide_eq_true h) (of_decide_eq_true h2)
  obtain ⟨⟨x⟩⟩ := a
  obtain ⟨⟨y⟩⟩ := b
  have e : x = y := e
  rw [e]
theorem sortS_perm {a b : List Str} (h : a.Perm b) : sortS a = sortS b :=
  List.Perm.eq_of_pairwise (le := fun a b => leS a b = true) (fun _ _ _ _ => leS_anti) (asc_sort a) (asc_sort b) (((sort_perm a).trans h).trans (sort_perm b).symm)
theorem sort_uniq {a b : List Str} (h : Asc a) (e : a.Perm b) : sortS b = a := by rw [← sortS_perm e, sort_asc h]
theorem perm_of_nodup : ∀ {a b : List Str}, a.Nodup → (∀ x ∈ a, x ∈ b) → b.length ≤ a.length → b.Perm a
  | [], b, _, _, hl => by
    have : b = [] := List.length_eq_zero_iff.mp (Nat.le_zero.mp hl)
    rw [this]
  | x :: a, b, nd, hs, hl => by
    obtain ⟨h1, h2⟩ := List.nodup_cons.mp nd
    have m := hs x List.mem_cons_self
    have e := List.length_erase_of_mem m
    have ih := perm_of_nodup (a := a) (b := b.erase x) h2 (fun y my => (List.mem_erase_of_ne fun (z : y = x) => h1 (z ▸ my)).mpr (hs y (List.mem_cons_of_mem _ my))) (by rw [e]; rw [List.length_cons] at hl; omega)
    exact (List.perm_cons_erase m).trans (ih.cons x)
/-- the texts, each once -/
def nubS : List Str → List Str
  | [] => []
  | x :: l => if x ∈ l then nubS l else x :: nubS l
theorem mem_nub {x : Str} : ∀ {l : List Str}, x ∈ nubS l ↔ x ∈ l
  | [] => Iff.rfl
  | y :: l => by
    unfold nubS
    split
    · rename_i h
      rw [mem_nub, List.mem_cons]
      exact ⟨.inr, fun z => z.elim (fun e => e ▸ h) id⟩
    · rw [List.mem_cons, List.mem_cons, mem_nub]
theorem nub_nd : ∀ l : List Str, (nubS l).Nodup
  | [] => List.nodup_nil
  | y :: l => by
    unfold nubS
    split
    · exact nub_nd l
    · rename_i h
      exact List.nodup_cons.mpr ⟨fun z => h (mem_nub.mp z), nub_nd l⟩
theorem nub_len : ∀ l : List Str, (nubS l).length ≤ l.length
  | [] => Nat.le_refl _
  | y :: l => by
    have := nub_len l
    unfold nubS
    split <;> rw [List.length_cons] <;> first | omega | (rw [List.length_cons]; omega)
theorem nub_of {l : List Str} (h : l.Nodup) : nubS l = l := by
  induction l with
  | nil => rfl
  | cons x l ih =>
    obtain ⟨h1, h2⟩ := List.nodup_cons.mp h
    unfold nubS
    rw [if_neg h1, ih h2]
def setS (l : List Str) : List Str := sortS (nubS l)
theorem set_eq {ks l : List Str} (nd : ks.Nodup) (hm : ∀ x, x ∈ ks ↔ x ∈ l) : sortS ks = setS l := by
  have h1 : (nubS l).Perm ks := by
    have a1 := perm_of_nodup (a := ks) (b := nubS l) nd (fun x m => mem_nub.mpr ((hm x).mp m))
    have a2 := perm_of_nodup (a := nubS l) (b := ks) (nub_nd l) (fun x m => (hm x).mpr (mem_nub.mp m))
    by_cases h : (nubS l).length ≤ ks.length
    · exact a1 h
    · exact (a2 (by omega)).symm
  exact sortS_perm h1.symm
theorem mem_set {x : Str} {l : List Str} : x ∈ setS l ↔ x ∈ l := (sort_perm _).mem_iff.trans mem_nub
theorem set_asc (l : List Str) : Asc (setS l) := asc_sort _
theorem set_nd (l : List Str) : (setS l).Nodup := (sort_perm _).nodup_iff.mpr (nub_nd l)
theorem set_len (l : List Str) : (setS l).length ≤ l.length := by
  unfold setS
  rw [(sort_perm _).length_eq]
  exact nub_len l
theorem set_ext {a b : List Str} (h : ∀ x, x ∈ a ↔ x ∈ b) : setS a = setS b := set_eq (nub_nd a) fun x => mem_nub.trans (h x)
theorem set_nodup {l : List Str} (h : l.Nodup) : setS l = sortS l := by unfold setS; rw [nub_of h]
/-! ### a set of texts as an object -/
def SetXO (P : Program) (w : World) (a : Addr) (l : List Str) : HO := .ext fun h => SxT P w h a l
def strOfV : Value → Str
  | .str x _ => x
  | _ => Str.empty
theorem each_strs : ∀ {vs : List Value}, (∀ v ∈ vs, ∃ x t, v = .str x t) → PySem.W.EachIs (fun v b => ∃ t, v = .str b t) vs (vs.map strOfV)
  | [], _ => .nil
  | v :: vs, h => by
    obtain ⟨x, t, rfl⟩ := h v List.mem_cons_self
    exact .cons ⟨t, rfl⟩ (each_strs fun u m => h u (List.mem_cons_of_mem _ m))
theorem each_vals : ∀ {vs : List Value} {bs : List Str}, PySem.W.EachIs (fun v b => ∃ t, v = Value.str b t) vs bs → Vals (bs.map V.str) vs
  | _, _, .nil => .nil
  | _, _, .cons h t => .cons h (each_vals t)
section
variable {P : Program} {w : World} {A : Around} {E : Value → Shared → Prop} {s : Shared} {a : Addr} {l : List Str}
theorem tx_keys {D : SD} (F : TxOk P w D l) (nd : l.Nodup) : (∀ v ∈ D.1.toList.map (·.2), ∃ x t, v = Value.str x t) ∧ ((D.1.toList.map (·.2)).map strOfV).Perm l := by
  have h1 : ∀ v ∈ D.1.toList.map (·.2), ∃ x t, v = Value.str x t := fun v m => by
    obtain ⟨e, he, rfl⟩ := List.mem_map.mp m
    obtain ⟨⟨k, hk, _⟩, _⟩ := F.el e he
    obtain ⟨t, ht⟩ := Value.isStrOf_shape hk
    exact ⟨k, t, ht⟩
  refine ⟨h1, perm_of_nodup nd (fun x m => ?_) ?_⟩
  · obtain ⟨e, he, hq⟩ := (F.mem x).mp m
    obtain ⟨t, ht⟩ := Value.isStrOf_shape hq
    rw [List.map_map]
    exact List.mem_map.mpr ⟨e, he, by show strOfV e.2 = x; rw [ht]; rfl⟩
  · rw [List.length_map, List.length_map, Array.length_toList, F.sz]
    exact Nat.le_refl _
set_option maxHeartbeats 2000000 in
theorem sorted_setX {Z : Value → Shared → Prop} (R : SxT P w s.heap a l) (h0 : A.handled = none) (hl : l.length ≤ 1000) (hu : A.units + 64 < cLine)
    (q : ∀ s2 p (out : List Value) (c : Nat), (∀ b o, s.heap.get? b = some o → s2.heap.get? b = some o) → s2.gens = s.gens → s2.os = s.os → s.heap.objs.size ≤ p → s2.heap.get? p = some (seqObj "list" out.toArray c) → Vals ((sortS l).map V.str) out → Z (.ref p) s2) :
    wpAny (model P w) A (call (.builtin "sorted") [.ref a]) Z E s := by
  obtain ⟨⟨D, e, F, r, ld⟩, nd⟩ := R
  have sc : (1001 : Nat) < scanBound := by unfold scanBound; decide
  have hz : D.1.size = l.length := F.sz
  refine Calls.call_function_entry kind_sorted plain_sorted entry_sorted (args_sorted1 _) ?_
  unfold Builtin.«sorted»
  refine wpAny_bind (m := checkCount "sorted" 1 1 _) (wpAny_pure ?_)
  refine wpAny_bind (collect_set (A := A.in1) h0 (es := D.1) (ep := D.2.1) (t := D.2.2) ⟨_, e, rfl, rfl⟩ F.fit (by omega) r ld fun z1 vs k1 hz1 g1 o1 pm => ?_)
  obtain ⟨hs, hp⟩ := tx_keys F nd
  have hs2 : ∀ v ∈ vs, ∃ x t, v = Value.str x t := fun v m => hs v (pm.mem_iff.mp m)
  have ee := each_strs hs2
  have pl : (vs.map strOfV).Perm l := (pm.map strOfV).trans hp
  have hvl : vs.length = l.length := by rw [← pl.length_eq, List.length_map]
  refine wpAny_bind (wpAny_newList ?_ (by rw [hvl, sizeLine_eq]; omega))
  have eL : (z1.heap.push (seqObj "list" vs.toArray 0)).get? z1.heap.objs.size = some (seqObj "list" vs.toArray 0) := Heap.get?_push_size _ rfl
  refine wpAny_bind (wpAny_holding (PySem.W.list_sort_data (enc := PyData.str) (s := { z1 with heap := z1.heap.push (seqObj "list" vs.toArray 0) }) eL ee (ee.mono fun v b ⟨t, ht⟩ => ⟨[], ht ▸ .str b t, nofun⟩) (allAlike_str _) (sortable_str _) (by rw [List.length_map, hvl, sizeLine_eq]; omega) (fun b _ => by show A.units + 1 + 1 + 0 < cLine; omega) fun out lo eo => ?_))
  obtain ⟨c, hc⟩ := sortedHeap_at (vs := vs) (out := out.toArray) eL
  refine wpAny_pure ⟨_, rfl, q { z1 with heap := sortedHeap (z1.heap.push (seqObj "list" vs.toArray 0)) z1.heap.objs.size vs out.toArray } z1.heap.objs.size out c (fun b u eb => ?_) g1 o1 hz1 hc ?_⟩
  · have q2 := k1 b u eb
    have lt := Heap.lt_size q2
    show (sortedHeap (z1.heap.push (seqObj "list" vs.toArray 0)) z1.heap.objs.size vs out.toArray).get? b = some u
    have lt2 : b < (z1.heap.push (seqObj "list" vs.toArray 0)).objs.size := by rw [size_push']; exact Nat.lt_succ_of_lt lt
    rw [sortedHeap_old (Nat.ne_of_lt lt) lt2]
    exact Heap.get?_push_of_some _ q2
  · have e3 : (vs.map strOfV).mergeSort (PySem.W.dataLe false PyData.str) = sortS l := sortS_perm pl
    rw [← e3]
    exact each_vals eo
end
section
variable {X : Cx}
theorem setX_new {P : Program} {w : World} {H : Hp} {h : Heap} {a : Addr} {l : List Str} (R : SxT P w h a l) : ObjOk P w H h a (SetXO P w a l) := by
  obtain ⟨⟨D, e, r⟩, n⟩ := id R
  exact ⟨R, ⟨_, e⟩, fun h1 h2 p k => SxT.to p k⟩
theorem setX_get {pins : List (Addr × Obj)} {σ : L2.St} {H : Hp} {s : Shared} {a : Addr} {l : List Str} (I : Inv X pins σ H s) (e : H a = some (SetXO X.prog X.w a l)) : SxT X.prog X.w s.heap a l := (I.hok a _ e).1
def rSetX (K : PySem.W.Frag) (P : Program) (w : World) : List V → Hp → VK → Prop := fun xs H Q => ∃ (a : Addr) (ts : List Str), xs = [.ref a] ∧ (SqL K H a (ts.map V.str) ∨ SqT K H a (ts.map V.str)) ∧ ts.length ≤ 1000 ∧ ∀ p ks, H p = none → ks.Nodup → (∀ x, x ∈ ks ↔ x ∈ ts) → ks.length ≤ ts.length → Q (.ref p) (upd H p (SetXO P w p ks))
theorem cr_setX (hc : X.calm = true) : CallR X (.type "set") (rSetX X.K X.prog X.w) := by
  intro pins s σ H xs us Q I r h
  obtain ⟨a, ts, rfl, hs, hl, q⟩ := h
  rw [Vals.ref1 r]
  have sc : ts.length + 1 < scanBound := Nat.lt_of_le_of_lt (Nat.add_le_add_right hl 1) (by unfold scanBound; decide)
  rcases hs with hs | hs
  · obtain ⟨its, rv, pl, hz⟩ := I.list hs
    refine callSetTL ts (I.ok.hd hc) pl.isList (by simpa using strsAre_of rv) sc fun h2 tk ks R lk hm hk => ?_
    exact ⟨.ref _, upd H s.heap.objs.size (SetXO X.prog X.w s.heap.objs.size ks), I.laid (t' := tk) hk (Nat.le_refl _) (setX_new R), rfl, q _ ks (I.hok.fresh (Nat.le_refl _)) R.nd hm lk⟩
  · obtain ⟨its, rv, pl, hz⟩ := I.tuple hs
    refine callSetTT ts (I.ok.hd hc) pl (by simpa using strsAre_of rv) sc fun h2 tk ks R lk hm hk => ?_
    exact ⟨.ref _, upd H s.heap.objs.size (SetXO X.prog X.w s.heap.objs.size ks), I.laid (t' := tk) hk (Nat.le_refl _) (setX_new R), rfl, q _ ks (I.hok.fresh (Nat.le_refl _)) R.nd hm lk⟩
def rSortSetX (P : Program) (w : World) : List V → Hp → VK → Prop := fun xs H Q => ∃ (a : Addr) (l : List Str), xs = [.ref a] ∧ H a = some (SetXO P w a l) ∧ l.length ≤ 1000 ∧ ∀ p, H p = none → Q (.ref p) (upd H p (.lst ((sortS l).map V.str)))
theorem cr_sortSetX (hc : X.calm = true) (hu : X.A.units + 64 < cLine) : CallR X (.builtin "sorted") (rSortSetX X.prog X.w) := by
  intro pins s σ H xs us Q I r h
  obtain ⟨a, l, rfl, ha, hl, q⟩ := h
  have R := setX_get I ha
  rw [Vals.ref1 r]
  refine sorted_setX R (I.ok.hd hc) hl hu fun s2 p out c k g o hp hg hv => ?_
  have hlen : ((sortS l).map V.str).length ≤ sizeLine := by rw [List.length_map, (sort_perm l).length_eq, sizeLine_eq]; omega
  have np : H p = none := I.hok.fresh hp
  have J : Inv X pins σ (upd H p (.lst ((sortS l).map V.str))) { s with heap := s2.heap, gens := s2.gens, drawn := s2.drawn, toks := s2.toks } :=
    I.call (ch := []) (Un.laid k hp np) (I.hok.laid k hp ⟨hlen, out, c, hv, hg⟩) (by rw [g]; exact I.bare) (fun _ z => nomatch z)
  have e : s2 = { s with heap := s2.heap, gens := s2.gens, drawn := s2.drawn, toks := s2.toks } := by
    cases s2
    cases s
    cases o
    rfl
  rw [e]
  exact ⟨.ref p, _, J, rfl, q p np⟩
/-- sorted of data, of a set of whole numbers, of a set of texts -/
def rSortB (K : PySem.W.Frag) (P : Program) (w : World) : List V → Hp → VK → Prop := fun xs H Q => rSortA K w xs H Q ∨ rSortSetX P w xs H Q
theorem cr_sortB (hc : X.calm = true) (hu : X.A.units + 64 < cLine) : CallR X (.builtin "sorted") (rSortB X.K X.prog X.w) := fun pins s σ H xs us Q I r h => h.elim (cr_sortA hc hu pins s σ H xs us Q I r) (cr_sortSetX hc hu pins s σ H xs us Q I r)
/-- set of whole numbers, of texts -/
def rSetB (K : PySem.W.Frag) (P : Program) (w : World) : List V → Hp → VK → Prop := fun xs H Q => rSetL K w xs H Q ∨ rSetX K P w xs H Q
theorem cr_setB (hc : X.calm = true) : CallR X (.type "set") (rSetB X.K X.prog X.w) := fun pins s σ H xs us Q I r h => h.elim (cr_setL hc pins s σ H xs us Q I r) (cr_setX hc pins s σ H xs us Q I r)
end
section
variable {K : PySem.W.Frag} {P : Program} {w : World} {H : Hp} {Q : VK} {a : Addr} {ts : List Str} {Ps : List SP}
theorem r_setX (S : Sep Ps H) (s : SqL K H a (ts.map V.str) ∨ SqT K H a (ts.map V.str)) (hl : ts.length ≤ 1000) (q : ∀ p ks H', ks.Nodup → (∀ x, x ∈ ks ↔ x ∈ ts) → ks.length ≤ ts.length → Sep (pt p (SetXO P w p ks) :: Ps) H' → Q (.ref p) H') : rSetX K P w [.ref a] H Q :=
  ⟨a, ts, rfl, s, hl, fun p ks np nd hm hk => q p ks _ nd hm hk (S.new _ np)⟩
theorem r_sortSetX {l : List Str} (S : Sep Ps H) (e : H a = some (SetXO P w a l)) (hl : l.length ≤ 1000) (q : ∀ p H', Sep (pt p (.lst ((sortS l).map V.str)) :: Ps) H' → Q (.ref p) H') : rSortSetX P w [.ref a] H Q :=
  ⟨a, l, rfl, e, hl, fun p np => q p _ (S.new _ np)⟩
end
end Kt

set_option Elab.async false
set_option linter.all false
set_option maxRecDepth 100000
namespace Kt
open PySem L2 PyProof.Rows
/-! ### statements and bodies, with their containers: false a list, true a tuple -/
mutual
inductive Stm where
  | two (w v u : Str)
  | one (w v : Str)
  | call (v f : Str) (t : Bool) (as : List Str)
  | either (t : Bool) (bs : List Bdy)
  | loop (b : Bdy)
inductive Bdy where
  | mk (t : Bool) (l : List Stm)
end
def sqD (t : Bool) (ds : List PyData) : PyData := if t = true then .tuple ds else .list ds
def dStrs (t : Bool) (l : List Str) : PyData := sqD t (l.map PyData.str)
mutual
def Stm.enc : Stm → PyData
  | .two w v u => .tuple [.str w, .str v, .str u]
  | .one w v => .tuple [.str w, .str v]
  | .call v f t as => .tuple [.str "call", .str v, .str f, dStrs t as]
  | .either t bs => .tuple [.str "either", sqD t (encBs bs)]
  | .loop b => .tuple [.str "loop", Bdy.enc b]
def Bdy.enc : Bdy → PyData
  | .mk t l => sqD t (encSs l)
def encBs : List Bdy → List PyData
  | [] => []
  | b :: bs => Bdy.enc b :: encBs bs
def encSs : List Stm → List PyData
  | [] => []
  | s :: l => Stm.enc s :: encSs l
end
theorem encBs_map : ∀ bs : List Bdy, encBs bs = bs.map Bdy.enc
  | [] => rfl
  | b :: bs => by rw [encBs, encBs_map bs]; rfl
theorem encSs_map : ∀ l : List Stm, encSs l = l.map Stm.enc
  | [] => rfl
  | s :: l => by rw [encSs, encSs_map l]; rfl
mutual
/-- how many statements, those within counted too -/
def Stm.size : Stm → Nat
  | .two _ _ _ => 1
  | .one _ _ => 1
  | .call _ _ _ _ => 1
  | .either _ bs => 1 + sizeBs bs
  | .loop b => 1 + Bdy.size b
def Bdy.size : Bdy → Nat
  | .mk _ l => sizeSs l
def sizeBs : List Bdy → Nat
  | [] => 0
  | b :: bs => Bdy.size b + sizeBs bs
def sizeSs : List Stm → Nat
  | [] => 0
  | s :: l => Stm.size s + sizeSs l
end
mutual
/-- bodies within bodies -/
def Stm.dep : Stm → Nat
  | .two _ _ _ => 0
  | .one _ _ => 0
  | .call _ _ _ _ => 0
  | .either _ bs => 1 + depBs bs
  | .loop b => 1 + Bdy.dep b
def Bdy.dep : Bdy → Nat
  | .mk _ l => depSs l
def depBs : List Bdy → Nat
  | [] => 0
  | b :: bs => max (Bdy.dep b) (depBs bs)
def depSs : List Stm → Nat
  | [] => 0
  | s :: l => max (Stm.dep s) (depSs l)
end
mutual
/-- the names that stand in a statement -/
def Stm.names : Stm → List Str
  | .two _ v u => [v, u]
  | .one _ v => [v]
  | .call v _ _ as => v :: as
  | .either _ bs => namesBs bs
  | .loop b => Bdy.names b
def Bdy.names : Bdy → List Str
  | .mk _ l => namesSs l
def namesBs : List Bdy → List Str
  | [] => []
  | b :: bs => Bdy.names b ++ namesBs bs
def namesSs : List Stm → List Str
  | [] => []
  | s :: l => Stm.names s ++ namesSs l
end
def w1S : List Str := ["new", "set", "keep", "look"]
def w2S : List Str := ["take", "cut", "put", "copy", "copycut", "copyput"]
mutual
/-- right words, and names and callees of which p holds -/
def Stm.Ok (p : Str → Prop) : Stm → Prop
  | .two w v u => w ∈ w2S ∧ p v ∧ p u
  | .one w v => w ∈ w1S ∧ p v
  | .call v f _ as => p v ∧ p f ∧ ∀ a ∈ as, p a
  | .either _ bs => bs.length ≤ 100 ∧ okBs p bs
  | .loop b => Bdy.Ok p b
def Bdy.Ok (p : Str → Prop) : Bdy → Prop
  | .mk _ l => okSs p l
def okBs (p : Str → Prop) : List Bdy → Prop
  | [] => True
  | b :: bs => Bdy.Ok p b ∧ okBs p bs
def okSs (p : Str → Prop) : List Stm → Prop
  | [] => True
  | s :: l => Stm.Ok p s ∧ okSs p l
end
theorem okBs_iff {p : Str → Prop} : ∀ {bs : List Bdy}, okBs p bs ↔ ∀ b ∈ bs, Bdy.Ok p b
  | [] => by simp [okBs]
  | b :: bs => by rw [okBs, okBs_iff, List.forall_mem_cons]
theorem okSs_iff {p : Str → Prop} : ∀ {l : List Stm}, okSs p l ↔ ∀ s ∈ l, Stm.Ok p s
  | [] => by simp [okSs]
  | s :: l => by rw [okSs, okSs_iff, List.forall_mem_cons]
def Stm.word : Stm → Str
  | .two w _ _ => w
  | .one w _ => w
  | .call _ _ _ _ => "call"
  | .either _ _ => "either"
  | .loop _ => "loop"
def Stm.inner : Stm → List Bdy
  | .two _ _ _ => []
  | .one _ _ => []
  | .call _ _ _ _ => []
  | .either _ bs => bs
  | .loop b => [b]
def Stm.own : Stm → List Str
  | .two _ v u => [v, u]
  | .one _ v => [v]
  | .call v _ _ as => v :: as
  | .either _ _ => []
  | .loop _ => []
def Bdy.list : Bdy → List Stm
  | .mk _ l => l
theorem bdy_names (b : Bdy) : Bdy.names b = namesSs b.list := by cases b; rw [Bdy.names, Bdy.list]
theorem bdy_size (b : Bdy) : Bdy.size b = sizeSs b.list := by cases b; rw [Bdy.size, Bdy.list]
theorem namesSs_app : ∀ a b : List Stm, namesSs (a ++ b) = namesSs a ++ namesSs b
  | [], b => by rw [namesSs, List.nil_append, List.nil_append]
  | s :: a, b => by rw [List.cons_append, namesSs, namesSs, namesSs_app a b, List.append_assoc]
theorem sizeSs_app : ∀ a b : List Stm, sizeSs (a ++ b) = sizeSs a + sizeSs b
  | [], b => by rw [sizeSs, List.nil_append, Nat.zero_add]
  | s :: a, b => by rw [List.cons_append, sizeSs, sizeSs, sizeSs_app a b, Nat.add_assoc]
theorem namesBs_flat : ∀ bs : List Bdy, namesBs bs = namesSs (bs.flatMap Bdy.list)
  | [] => rfl
  | b :: bs => by rw [namesBs, List.flatMap_cons, namesSs_app, namesBs_flat bs, bdy_names]
theorem sizeBs_flat : ∀ bs : List Bdy, sizeBs bs = sizeSs (bs.flatMap Bdy.list)
  | [] => rfl
  | b :: bs => by rw [sizeBs, List.flatMap_cons, sizeSs_app, sizeBs_flat bs, bdy_size]
theorem stm_names (s : Stm) : s.names = s.own ++ namesSs (s.inner.flatMap Bdy.list) := by
  cases s with
  | either t bs => rw [Stm.names, Stm.own, Stm.inner, namesBs_flat, List.nil_append]
  | loop b => rw [Stm.names, Stm.own, Stm.inner, bdy_names, List.flatMap_cons, List.flatMap_nil, List.append_nil, List.nil_append]
  | two w v u => rw [Stm.names]; rfl
  | one w v => rw [Stm.names]; rfl
  | call v f t as => rw [Stm.names]; simp [Stm.own, Stm.inner, namesSs]
theorem stm_size (s : Stm) : s.size = 1 + sizeSs (s.inner.flatMap Bdy.list) := by
  cases s with
  | either t bs => rw [Stm.size, Stm.inner, sizeBs_flat]
  | loop b => rw [Stm.size, Stm.inner, bdy_size, List.flatMap_cons, List.flatMap_nil, List.append_nil]
  | two w v u => rw [Stm.size]; rfl
  | one w v => rw [Stm.size]; rfl
  | call v f t as => rw [Stm.size]; rfl
theorem size_len : ∀ l : List Stm, l.length ≤ sizeSs l
  | [] => Nat.zero_le _
  | s :: l => by
    have := size_len l
    have := stm_size s
    rw [sizeSs, List.length_cons]
    omega
theorem inner_ok {p : Str → Prop} {s : Stm} (h : s.Ok p) : ∀ b ∈ s.inner, Bdy.Ok p b := by
  cases s with
  | either t bs => exact okBs_iff.mp (by rw [Stm.Ok] at h; exact h.2)
  | loop b =>
    intro x m
    rw [Stm.inner, List.mem_singleton] at m
    subst m
    rw [Stm.Ok] at h
    exact h
  | two w v u => nofun
  | one w v => nofun
  | call v f t as => nofun
theorem inner_len {p : Str → Prop} {s : Stm} (h : s.Ok p) : s.inner.length ≤ 100 := by
  cases s with
  | either t bs => rw [Stm.Ok] at h; exact h.1
  | loop b => exact Nat.le_of_ble_eq_true rfl
  | two w v u => exact Nat.zero_le _
  | one w v => exact Nat.zero_le _
  | call v f t as => exact Nat.zero_le _
theorem size_pre (bs : List Bdy) (i : Nat) : sizeSs ((bs.take i).flatMap Bdy.list) ≤ sizeSs (bs.flatMap Bdy.list) := by
  have e : bs.flatMap Bdy.list = (bs.take i).flatMap Bdy.list ++ (bs.drop i).flatMap Bdy.list := by rw [← List.flatMap_append, List.take_append_drop]
  rw [e, sizeSs_app]
  omega
theorem list_ok {p : Str → Prop} {b : Bdy} (h : Bdy.Ok p b) : ∀ s ∈ b.list, Stm.Ok p s := by
  cases b with
  | mk t l => exact okSs_iff.mp (by rw [Bdy.Ok] at h; exact h)
theorem bdy_enc (b : Bdy) : ∃ t, Bdy.enc b = sqD t (b.list.map Stm.enc) := by
  cases b with
  | mk t l => exact ⟨t, by rw [Bdy.enc, encSs_map]; rfl⟩
section
variable {K : PySem.W.Frag} {G H : Hp} {v : V} {t : Bool} {ds : List PyData}
theorem dp_sqInv (h : Dp K G v (sqD t ds)) : ∃ a xs, v = .ref a ∧ (SqL K G a xs ∨ SqT K G a xs) ∧ DpAll K G xs ds := by
  unfold sqD at h
  cases t with
  | true =>
    obtain ⟨a, xs, e, s, d⟩ := dp_tupInv (show Dp K G v (.tuple ds) from h)
    exact ⟨a, xs, e, .inr s, d⟩
  | false =>
    obtain ⟨a, xs, e, s, d⟩ := dp_lstInv (show Dp K G v (.list ds) from h)
    exact ⟨a, xs, e, .inl s, d⟩
theorem sq_le {a : Addr} {xs : List V} (l : Le G H) (h : SqL K G a xs ∨ SqT K G a xs) : SqL K H a xs ∨ SqT K H a xs := h.imp (SqL.le l) (SqT.le l)
end
/-! ### drawn statements: names out of nm, calls as C says; within bodies of at most three -/
mutual
def Stm.Wf (nm : List Str) (C : Bool → Str → Nat → Prop) : Bool → Stm → Prop
  | _, .two w v u => w ∈ w2S ∧ v ∈ nm ∧ u ∈ nm
  | _, .one w v => w ∈ w1S ∧ v ∈ nm
  | fr, .call v f t as => v ∈ nm ∧ (∀ a ∈ as, a ∈ nm) ∧ t = true ∧ C fr f as.length
  | fr, .either t bs => t = false ∧ 1 ≤ bs.length ∧ bs.length ≤ 3 ∧ wfBs nm C fr bs
  | _, .loop b => Bdy.Wf nm C true b
def Bdy.Wf (nm : List Str) (C : Bool → Str → Nat → Prop) : Bool → Bdy → Prop
  | fr, .mk t l => t = false ∧ l.length ≤ 3 ∧ wfSs nm C fr l
def wfBs (nm : List Str) (C : Bool → Str → Nat → Prop) : Bool → List Bdy → Prop
  | _, [] => True
  | fr, b :: bs => Bdy.Wf nm C fr b ∧ wfBs nm C fr bs
def wfSs (nm : List Str) (C : Bool → Str → Nat → Prop) : Bool → List Stm → Prop
  | _, [] => True
  | fr, s :: l => Stm.Wf nm C fr s ∧ wfSs nm C fr l
end
section
variable {nm : List Str} {C : Bool → Str → Nat → Prop} {p : Str → Prop} {fr : Bool}
theorem wfBs_iff : ∀ {bs : List Bdy}, wfBs nm C fr bs ↔ ∀ b ∈ bs, Bdy.Wf nm C fr b
  | [] => by simp [wfBs]
  | b :: bs => by rw [wfBs, wfBs_iff, List.forall_mem_cons]
theorem wfSs_iff : ∀ {l : List Stm}, wfSs nm C fr l ↔ ∀ s ∈ l, Stm.Wf nm C fr s
  | [] => by simp [wfSs]
  | s :: l => by rw [wfSs, wfSs_iff, List.forall_mem_cons]
mutual
theorem wf_ok (hn : ∀ x ∈ nm, p x) (hC : ∀ fr f n, C fr f n → p f) : ∀ (s : Stm) (fr : Bool), s.Wf nm C fr → s.Ok p
  | .two w v u, fr, h => by
    rw [Stm.Wf] at h
    rw [Stm.Ok]
    exact ⟨h.1, hn v h.2.1, hn u h.2.2⟩
  | .one w v, fr, h => by
    rw [Stm.Wf] at h
    rw [Stm.Ok]
    exact ⟨h.1, hn v h.2⟩
  | .call v f t as, fr, h => by
    rw [Stm.Wf] at h
    rw [Stm.Ok]
    exact ⟨hn v h.1, hC _ _ _ h.2.2.2, fun a m => hn a (h.2.1 a m)⟩
  | .either t bs, fr, h => by
    rw [Stm.Wf] at h
    rw [Stm.Ok]
    exact ⟨Nat.le_trans h.2.2.1 (by decide), wfBs_ok hn hC bs fr h.2.2.2⟩
  | .loop b, fr, h => by
    rw [Stm.Wf] at h
    rw [Stm.Ok]
    exact wfB_ok hn hC b true h
theorem wfB_ok (hn : ∀ x ∈ nm, p x) (hC : ∀ fr f n, C fr f n → p f) : ∀ (b : Bdy) (fr : Bool), b.Wf nm C fr → b.Ok p
  | .mk t l, fr, h => by
    rw [Bdy.Wf] at h
    rw [Bdy.Ok]
    exact wfSs_ok hn hC l fr h.2.2
theorem wfBs_ok (hn : ∀ x ∈ nm, p x) (hC : ∀ fr f n, C fr f n → p f) : ∀ (bs : List Bdy) (fr : Bool), wfBs nm C fr bs → okBs p bs
  | [], _, _ => by rw [okBs]; trivial
  | b :: bs, fr, h => by
    rw [wfBs] at h
    rw [okBs]
    exact ⟨wfB_ok hn hC b fr h.1, wfBs_ok hn hC bs fr h.2⟩
theorem wfSs_ok (hn : ∀ x ∈ nm, p x) (hC : ∀ fr f n, C fr f n → p f) : ∀ (l : List Stm) (fr : Bool), wfSs nm C fr l → okSs p l
  | [], _, _ => by rw [okSs]; trivial
  | s :: l, fr, h => by
    rw [wfSs] at h
    rw [okSs]
    exact ⟨wf_ok hn hC s fr h.1, wfSs_ok hn hC l fr h.2⟩
end
/-- as many statements as a depth lets -/
def sizeB : Nat → Nat
  | 0 => 1
  | d + 1 => 1 + 9 * sizeB d
theorem sizeB_mono : ∀ {a b : Nat}, a ≤ b → sizeB a ≤ sizeB b
  | 0, 0, _ => Nat.le_refl _
  | 0, b + 1, _ => by
    have := sizeB_mono (Nat.zero_le b)
    show 1 ≤ 1 + 9 * sizeB b
    omega
  | a + 1, b + 1, h => by
    have := sizeB_mono (Nat.le_of_succ_le_succ h)
    show 1 + 9 * sizeB a ≤ 1 + 9 * sizeB b
    omega
mutual
theorem wf_size : ∀ (s : Stm) (fr : Bool) (d : Nat), s.Wf nm C fr → s.dep ≤ d → s.size ≤ sizeB d
  | .two w v u, fr, d, _, _ => by
    rw [Stm.size]
    exact sizeB_mono (Nat.zero_le d)
  | .one w v, fr, d, _, _ => by
    rw [Stm.size]
    exact sizeB_mono (Nat.zero_le d)
  | .call v f t as, fr, d, _, _ => by
    rw [Stm.size]
    exact sizeB_mono (Nat.zero_le d)
  | .either t bs, fr, 0, h, hd => by
    rw [Stm.dep] at hd
    omega
  | .either t bs, fr, d + 1, h, hd => by
    rw [Stm.Wf] at h
    rw [Stm.dep] at hd
    rw [Stm.size]
    have := wfBs_size bs fr d h.2.2.2 (by omega)
    have h2 : bs.length * (3 * sizeB d) ≤ 3 * (3 * sizeB d) := Nat.mul_le_mul_right _ h.2.2.1
    show 1 + _ ≤ 1 + 9 * sizeB d
    omega
  | .loop b, fr, 0, h, hd => by
    rw [Stm.dep] at hd
    omega
  | .loop b, fr, d + 1, h, hd => by
    rw [Stm.Wf] at h
    rw [Stm.dep] at hd
    rw [Stm.size]
    have := wfB_size b true d h (by omega)
    show 1 + _ ≤ 1 + 9 * sizeB d
    omega
theorem wfB_size : ∀ (b : Bdy) (fr : Bool) (d : Nat), b.Wf nm C fr → b.dep ≤ d → b.size ≤ 3 * sizeB d
  | .mk t l, fr, d, h, hd => by
    rw [Bdy.Wf] at h
    rw [Bdy.dep] at hd
    rw [Bdy.size]
    exact Nat.le_trans (wfSs_size l fr d h.2.2 hd) (Nat.mul_le_mul_right _ h.2.1)
theorem wfBs_size : ∀ (bs : List Bdy) (fr : Bool) (d : Nat), wfBs nm C fr bs → depBs bs ≤ d → sizeBs bs ≤ bs.length * (3 * sizeB d)
  | [], _, _, _, _ => by rw [sizeBs]; exact Nat.zero_le _
  | b :: bs, fr, d, h, hd => by
    rw [wfBs] at h
    rw [depBs] at hd
    rw [sizeBs, List.length_cons, Nat.succ_mul]
    have := wfB_size b fr d h.1 (by omega)
    have := wfBs_size bs fr d h.2 (by omega)
    omega
theorem wfSs_size : ∀ (l : List Stm) (fr : Bool) (d : Nat), wfSs nm C fr l → depSs l ≤ d → sizeSs l ≤ l.length * sizeB d
  | [], _, _, _, _ => by rw [sizeSs]; exact Nat.zero_le _
  | s :: l, fr, d, h, hd => by
    rw [wfSs] at h
    rw [depSs] at hd
    rw [sizeSs, List.length_cons, Nat.succ_mul]
    have := wf_size s fr d h.1 (by omega)
    have := wfSs_size l fr d h.2 (by omega)
    omega
end
end
theorem depSs_le {d : Nat} : ∀ {l : List Stm}, depSs l ≤ d ↔ ∀ s ∈ l, s.dep ≤ d
  | [] => by simp [depSs]
  | s :: l => by rw [depSs, List.forall_mem_cons, ← depSs_le (l := l)]; omega
theorem depBs_le {d : Nat} : ∀ {l : List Bdy}, depBs l ≤ d ↔ ∀ s ∈ l, s.dep ≤ d
  | [] => by simp [depBs]
  | s :: l => by rw [depBs, List.forall_mem_cons, ← depBs_le (l := l)]; omega
end Kt

set_option Elab.async false
set_option linter.all false
set_option maxRecDepth 100000
namespace Kt
open PySem PySem.Spec L2 PyProof.Rows
/-! ### dicts of the top with text keys: asked at a key -/
def KHas (K : PySem.W.Frag) (w : World) (d : Addr) (x : Str) (v : V) : Prop := ∃ es n u, KDict K w d es n ∧ PySem.W.nsIn K d x = some (some u) ∧ RelV v u
def KNo (K : PySem.W.Frag) (w : World) (d : Addr) (x : Str) : Prop := ∃ es n, KDict K w d es n ∧ PySem.W.nsIn K d x = some none
def rKIn (K : PySem.W.Frag) (w : World) : R2 := fun x y H Q => ∃ z d, x = .str z ∧ y = .ref d ∧ ((∃ v, KHas K w d z v ∧ Q (.bl true) H) ∨ (KNo K w d z ∧ Q (.bl false) H))
section
variable {X : Cx}
theorem op_kin : OpR X (compareOp .In) (rKIn X.K X.w) := by
  intro pins s σ H x y v u Q I rx ry h
  obtain ⟨z, d, ex, ey, h⟩ := h
  rcases h with ⟨r, ⟨es, n, uu, D, e, _⟩, q⟩ | ⟨⟨es, n, D, e⟩, q⟩
  · exact op_in_kd D pins s σ H x y v u Q I rx ry ⟨z, _, ex, ey, e, q⟩
  · exact op_in_kd D pins s σ H x y v u Q I rx ry ⟨z, _, ex, ey, e, q⟩
def kKGet (K : PySem.W.Frag) (w : World) (Q : VK) (x y : V) (H : Hp) : Prop := ∃ d z, x = .ref d ∧ y = .str z ∧ ((∃ v, KHas K w d z v ∧ Q v H) ∨ (KNo K w d z ∧ Q .non H))
def tKGet (K : PySem.W.Frag) (w : World) (td ty : TE) : TE := fun σ H Q => td σ H fun x H1 => (∃ d, x = .ref d ∧ ∃ es n, KDict K w d es n) ∧ ty σ H1 fun y H2 => kKGet K w Q x y H2
theorem pe_kget {o e : Expr} {apos cpos : Pos} {td ty : TE} (ho : PE X o td) (he : PE X e ty) (m : M1 X o "get" apos e cpos) : PE X (.Call (.Attribute o "get" apos) [e] [] cpos) (tKGet X.K X.w td ty) := by
  refine ⟨fun pins s σ H Q I h => ?_⟩
  refine wpAny_Call_method m.base m.few m.line PySem.F.plainAttrs_dict PySem.F.slot_dict_get PySem.F.type_dict_get (thn (ho.run pins s σ H _ I h) fun u s1 ⟨x, H1, I1, rx, ⟨d, ex, es, n, D⟩, q1⟩ => ?_)
  subst ex
  obtain rfl : u = Value.ref d := rx
  have mm := PySem.W.mapOf_K (prog := X.prog) (w := X.w) I1.kIn D.at_ D.lit
  refine ⟨mm.typeIs, mm.noDict, ?_⟩
  rw [m.trees]
  refine Calls.callWith_builtin rfl (Calls.evalArgs_plain (Calls.spliced_cons (thn (he.run pins s1 σ H1 _ I1 q1) fun iv s2 ⟨y, H2, I2, ry, d2, z, e2, ey, q2⟩ => Calls.spliced_nil ?_)))
  cases e2
  subst ey
  obtain ⟨t, rfl⟩ := ry
  rcases q2 with ⟨v, ⟨es2, n2, uu, D2, e, r⟩, q⟩ | ⟨⟨es2, n2, D2, e⟩, q⟩
  · have m2 := PySem.W.mapOf_K (prog := X.prog) (w := X.w) I2.kIn D2.at_ D2.lit
    refine call_meetsIn PySem.F.slot_dict_get m2.typeIs PySem.F.entry_dict_get (PySem.F.args_dict_get_2 _ _) (meets_dict_get (PySem.strKind X.prog X.w) d (PySem.strKind_is X.prog X.w z t) D2.low) ⟨_, m2, ?_⟩
    rw [PySem.W.find_K D2.at_ e]
    exact ⟨v, H2, I2.tok _, r, q⟩
  · have m2 := PySem.W.mapOf_K (prog := X.prog) (w := X.w) I2.kIn D2.at_ D2.lit
    refine call_meetsIn PySem.F.slot_dict_get m2.typeIs PySem.F.entry_dict_get (PySem.F.args_dict_get_2 _ _) (meets_dict_get (PySem.strKind X.prog X.w) d (PySem.strKind_is X.prog X.w z t) D2.low) ⟨_, m2, ?_⟩
    rw [PySem.W.find_K D2.at_ e]
    exact ⟨.non, H2, I2.tok _, rfl, q⟩
end
section
variable {K : PySem.W.Frag} {w : World} {σ : L2.St} {H : Hp} {Q : VK} {td ty te : TE}
theorem r_kget (h : td σ H fun x H1 => (∃ d, x = .ref d ∧ ∃ es n, KDict K w d es n) ∧ ty σ H1 fun y H2 => kKGet K w Q x y H2) : tKGet K w td ty σ H Q := h
/-! ### x or y by truth -/
theorem r_orT {ta tb : TE} (h : ta σ H fun x H1 => ∃ k, TruV K x H1 k ∧ if k = true then Q x H1 else tb σ H1 Q) : tOrT K ta tb σ H Q := h
end
/-! ### xs.extend(b), b any list, any tuple -/
section
theorem ext_with {T : String} (hT : T = "list" ∨ T = "tuple") (l b : Addr) (xs ys : Array Value) (n m : Nat) (dd : Option Addr) (sl : Array (Option Value)) (door : ¬ (!xs.isEmpty && Builtin.List.listTooLong (xs.size + ys.size)) = true) (h1 : xs.size ≤ sizeLine) (h2 : xs.size + ys.size ≤ sizeLine + 1) :
    Meets (Builtin.«list.extend» ⟨[.ref l, .ref b], []⟩) (fun _ R z => z.heap.get? l = some { cls := .type "list", data := .seq xs n } ∧ z.heap.get? b = some { cls := .type T, dict := dd, data := .seq ys m, slots := sl } ∧ R (.ok (.ret Value.none)) { z with heap := z.heap.update l (Obj.mapSeq fun x => x ++ ys) }) :=
  .of_wp fun prog w A R z hh => by
    obtain ⟨hp, g, d, tk, os⟩ := z
    obtain ⟨el, eb, hq⟩ := hh
    have u1 := AutoSeq1.idx_int
    have u2 := AutoSeq1.sub_tuple_tuple
    have u3 := AutoSeq1.sub_list_list
    have u4 := AutoSeq1.sub_tuple_list
    have u5 := AutoSeq1.sub_list_tuple
    have fit : (xs ++ ys).size ≤ sizeLine + 1 := by rw [Array.size_append]; exact h2
    rcases hT with rfl | rfl
    · wp_walk using (wpAny_updateSeq el rfl (hz := h1) (_hz' := fit)), AutoSeq1.wpAny_loadPart' el, AutoSeq1.wpAny_loadPart' eb
      exact ⟨_, rfl, hq⟩
    · wp_walk using (wpAny_updateSeq el rfl (hz := h1) (_hz' := fit)), AutoSeq1.wpAny_loadPart' el, AutoSeq1.wpAny_loadPart' eb
      exact ⟨_, rfl, hq⟩
def rExtA (K : PySem.W.Frag) : V → List V → Hp → VK → Prop := fun x vs H Q => ∃ l b xs zs, x = .ref l ∧ vs = [.ref b] ∧ H l = some (.lst xs) ∧ (SqL K H b zs ∨ SqT K H b zs) ∧ xs.length + zs.length ≤ sizeLine ∧ Q .non (upd H l (.lst (xs ++ zs)))
theorem mt_extendA {X : Cx} : MtM X "list.extend" (rExtA X.K) := by
  intro pins s σ H x vs v us Q I rx rv h
  obtain ⟨l, b, xs, zs, rfl, rfl, hH, hB, hz, q⟩ := h
  cases rx
  obtain ⟨u, rfl, ru⟩ := rv.one
  cases ru
  obtain ⟨z, its, n, r, hl, e⟩ := I.lstM hH
  obtain ⟨T, hT, its2, m, dd, sl, r2, e2⟩ : ∃ T, (T = "list" ∨ T = "tuple") ∧ ∃ (its2 : List Value) (m : Nat) (dd : Option Addr) (sl : Array (Option Value)), Vals zs its2 ∧ s.heap.get? b = some { cls := .type T, dict := dd, data := .seq its2.toArray m, slots := sl } := by
    rcases hB with hB | hB
    · obtain ⟨its2, r2, ⟨⟨oc, od, dt, sl⟩, m, eo, hc, _, hd⟩, _⟩ := I.list hB
      simp only at hc hd
      subst hc hd
      exact ⟨"list", .inl rfl, its2, m, od, sl, r2, eo⟩
    · obtain ⟨its2, r2, ⟨⟨oc, od, dt, sl⟩, eo, hc, m, hd⟩, _⟩ := I.tuple hB
      simp only at hc hd
      subst hc hd
      exact ⟨"tuple", .inr rfl, its2, m, od, sl, r2, eo⟩
  have l2 := r2.length
  have fit : its.toArray.size + its2.toArray.size ≤ sizeLine := by rw [List.size_toArray, List.size_toArray]; omega
  have door : ¬ (!its.toArray.isEmpty && Builtin.List.listTooLong (its.toArray.size + its2.toArray.size)) = true := by
    rw [notLongL fit, Bool.and_false]
    exact Bool.false_ne_true
  refine call_meets F.slot_list_extend ⟨_, e, rfl⟩ F.entry_list_extend (F.args_list_extend_2 _ _) (ext_with hT l b its.toArray its2.toArray n m dd sl door (by rw [List.size_toArray]; omega) (by omega)) ⟨e, e2, ?_⟩
  refine ⟨.non, _, I.lset (its' := its ++ its2) hH e (by simp) (r.append r2) ?_, rfl, q⟩
  rw [List.length_append]
  exact hz
end
theorem mt_extendAK {X : Cx} (K : PySem.W.Frag) (hK : X.K = K := by rfl) : MtM X "list.extend" (rExtA K) := by
  subst hK
  exact mt_extendA
theorem dpall_snocInv {K : PySem.W.Frag} {G : Hp} : ∀ {ds : List PyData} {d : PyData} {xs : List V}, DpAll K G xs (ds ++ [d]) → ∃ ys y, xs = ys ++ [y] ∧ DpAll K G ys ds ∧ Dp K G y d
  | [], _, _, .cons h .nil => ⟨[], _, rfl, .nil, h⟩
  | _ :: _, _, _, .cons h t => by
    obtain ⟨ys, y, rfl, h1, h2⟩ := dpall_snocInv t
    exact ⟨_ :: ys, y, rfl, .cons h h1, h2⟩
section
variable {K : PySem.W.Frag} {H : Hp} {Q : VK} {a b : Addr} {xs zs : List V} {y : V} {Ps Qs R : List SP}
theorem r_extA (S : Sep Ps H) (r : Repl a (.lst xs) (.lst (xs ++ zs)) Ps Qs) (s : SqL K H b zs ∨ SqT K H b zs) (hl : xs.length + zs.length ≤ 100000) (q : ∀ H', Sep Qs H' → Q .non H') : rExtA K (.ref a) [.ref b] H Q :=
  ⟨a, b, xs, zs, rfl, rfl, by obtain ⟨Rs, p, _⟩ := r.pick; exact S.at_ p, s, Nat.le_trans hl (by decide), q _ (S.set r)⟩
theorem r_pop (S : Sep (pt a (.lst (xs ++ [y])) :: R) H) (q : ∀ H', Sep (pt a (.lst xs) :: R) H' → Q y H') : rPop (.ref a) [] H Q :=
  ⟨a, xs ++ [y], y, rfl, rfl, S.hd_at, by simp, q _ (by
    have e : (xs ++ [y]).dropLast = xs := by simp
    rw [e]
    exact S.hd_set _)⟩
/-- a piece of a tuple -/
def kSlA (K : PySem.W.Frag) (Q : VK) : V → Option Int → Option Int → Hp → Prop := fun x lo hi H => rSlA K x lo hi H Q
theorem r_slA {σ : L2.St} {te : TE} {tl th : TO} (h : te σ H fun x H1 => tl σ H1 fun l H2 => th σ H2 fun u H3 => kSlA K Q x l u H3) : tSl (rSlA K) te tl th σ H Q := h
theorem r_sufT {n : Nat} (S : Sep Ps H) (s : SqT K H a xs) (h0 : 0 < n) (hn : 0 < xs.length) (q : ∀ p H', Sep (pt p (.tup (xs.drop n)) :: Ps) H' → Q (.ref p) H') : kSlA K Q (.ref a) (some (n : Int)) none H := by
  have ne : HT.sIx xs.length 0 (some (n : Int)) ≠ 0 := by
    unfold HT.sIx
    simp only
    rw [if_neg (by omega), Int.toNat_natCast]
    omega
  refine ⟨a, xs, rfl, s, fun h => absurd h.1 ne, fun _ p np => ?_⟩
  rw [cut_suf]
  exact q p _ (S.new _ np)
theorem r_preT {n : Nat} (S : Sep Ps H) (s : SqT K H a xs) (hn : n < xs.length) (q : ∀ p H', Sep (pt p (.tup (xs.take n)) :: Ps) H' → Q (.ref p) H') : kSlA K Q (.ref a) none (some (n : Int)) H := by
  have ne : HT.sIx xs.length xs.length (some (n : Int)) ≠ xs.length := by
    unfold HT.sIx
    simp only
    rw [if_neg (by omega), Int.toNat_natCast]
    omega
  refine ⟨a, xs, rfl, s, fun h => absurd h.2 ne, fun _ p np => ?_⟩
  rw [cut_pre]
  exact q p _ (S.new _ np)
end
end Kt

set_option Elab.async false
set_option linter.all false
set_option maxRecDepth 100000
namespace Kt
open PySem L2 PyProof.Rows
/-! ### names: one to eight small letters -/
structure NmOk (x : Str) : Prop where
  lo : 1 ≤ x.length
  hi : x.length ≤ 8
  az : ∀ c ∈ x.cps.toList, 97 ≤ c ∧ c ≤ 122
theorem nm_by {x : Str} (h : (decide (1 ≤ x.length) && decide (x.length ≤ 8) && x.cps.toList.all fun c => decide (97 ≤ c) && decide (c ≤ 122)) = true) : NmOk x := by
  simp only [Bool.and_eq_true, decide_eq_true_eq, List.all_eq_true] at h
  exact ⟨h.1.1, h.1.2, fun c m => h.2 c m⟩
theorem nm_str {x : Str} (h : NmOk x) : PyData.strOk x = true := by
  unfold PyData.strOk
  rw [← Array.all_toList, List.all_eq_true]
  intro c m
  have := (h.az c m).2
  exact decide_eq_true (by omega)
theorem sh_txt {k n : Nat} {x : Str} (h1 : PyData.strOk x = true) (h2 : x.length ≤ n) : Sh k n (.str x) := by
  refine ⟨okd_str h1, rfl, ?_, ?_⟩
  · rw [PyData.leavesShort, List.all_eq_true]
    intro c m
    unfold PyData.strOk at h1
    rw [← Array.all_toList, List.all_eq_true] at h1
    have := of_decide_eq_true (h1 c m)
    exact decide_eq_true (Nat.lt_of_lt_of_le this (by decide))
  · rw [PyData.weight]
    exact h2
theorem sh_nm {k : Nat} {x : Str} (h : NmOk x) : Sh k 8 (.str x) := sh_txt (nm_str h) h.hi
/-! ### letters -/
def lettersS : Str := "abcdefghijklmnopqrstuvwxyz"
def lt1 (c : Nat) : Str := ⟨#[c]⟩
theorem letters_eq : lettersS.cps.toList = (List.range 26).map (97 + ·) := by decide +kernel
theorem letters_at {k : Nat} (h : k < 26) : lettersS.cps.toList[k]? = some (97 + k) := by
  rw [letters_eq, List.getElem?_map, List.getElem?_range h]
  rfl
section
variable {K : PySem.W.Frag} {σ : L2.St} {H : Hp} {Q : VK} {z a b : Str} {n : Nat} {i : Int} {p : Addr} {ys : List Str} {Ps : List SP}
theorem r_letter (h0 : 0 ≤ i) (h1 : i < 26) (q : Q (.str (lt1 (97 + i.toNat))) H) : rIx K (.str lettersS) (.int i) H Q := by
  obtain ⟨k, rfl⟩ := Int.eq_ofNat_of_zero_le h0
  exact .inr (.inr ⟨_, _, _, rfl, rfl, (show (26 : Nat) ≤ sizeLine by decide), atI_nat (letters_at (by omega)), q⟩)
theorem r_addS (hl : a.length + b.length ≤ 1000) (q : Q (.str (a ++ b)) H) : rAddA (.str a) (.str b) H Q := .inr (.inr ⟨a, b, rfl, rfl, Nat.le_trans hl (by decide), q⟩)
/-! ### join, split -/
theorem r_m1 {r : V → List V → Hp → VK → Prop} {to te : TE} (h : to σ H fun x H1 => (∃ a, x = .str a) ∧ te σ H1 fun y H2 => r x [y] H2 Q) : tM1 r to te σ H Q := h
theorem r_isS {p : Prop} (h : p) : (∃ a, V.str z = .str a) ∧ p := ⟨⟨z, rfl⟩, h⟩
def rJoin (K : PySem.W.Frag) : V → List V → Hp → VK → Prop := fun x xs H Q => ∃ a p, ∃ ys : List Str, x = .str a ∧ xs = [.ref p] ∧ (SqL K H p (ys.map V.str) ∨ SqT K H p (ys.map V.str)) ∧ (ys.map (·.length)).sum + ys.length * a.length ≤ 16777216 ∧ Q (.str (Txt.join a ys)) H
theorem pe_joinK {X : Cx} (K : PySem.W.Frag) {o e : Expr} {to te : TE} {apos pos : Pos} (ho : PE X o to) (he : PE X e te) (hK : X.K = K := by rfl) (hs : starEach [e] X.env = [(false, eval e X.env)] := by rfl) (hbase : attributeBase o "join" X.env (eval o X.env) = eval o X.env := by rfl) (hline : (apos.endLine == pos.line) = true := by rfl) :
    PE X (.Call (.Attribute o "join" apos) [e] [] pos) (tM1 (rJoin K) to te) := by
  subst hK
  exact pe_join ho he hs hbase hline
def rSplit : V → List V → Hp → VK → Prop := fun x xs H Q => ∃ a b, x = .str a ∧ xs = [.str b] ∧ (b.length == 0) = false ∧ a.length + 2 ≤ sizeLine ∧ rNewStrs (Txt.split a b) H Q
theorem pe_splitK {X : Cx} {o e : Expr} {to te : TE} {apos pos : Pos} (ho : PE X o to) (he : PE X e te) (hs : starEach [e] X.env = [(false, eval e X.env)] := by rfl) (hbase : attributeBase o "split" X.env (eval o X.env) = eval o X.env := by rfl) (hline : (apos.endLine == pos.line) = true := by rfl) :
    PE X (.Call (.Attribute o "split" apos) [e] [] pos) (tM1 rSplit to te) := pe_split ho he hs hbase hline
theorem r_split (S : Sep Ps H) (e : Txt.split a b = ys) (hb : (b.length == 0) = false) (hl : a.length ≤ 1000) (q : ∀ p H', Sep (pt p (.lst (ys.map V.str)) :: Ps) H' → Q (.ref p) H') : rSplit (.str a) [.str b] H Q :=
  ⟨a, b, rfl, rfl, hb, Nat.le_trans (Nat.add_le_add_right hl 2) (by decide), fun p np => q p _ (by rw [e]; exact S.new _ np)⟩
end
theorem join0_cps : ∀ ys : List Str, (Str.join Str.empty ys).cps.toList = (ys.map fun y => y.cps.toList).flatten
  | [] => rfl
  | [x] => by simp [Str.join]
  | x :: z :: r => by
    have ih := join0_cps (z :: r)
    have e : Str.join Str.empty (x :: z :: r) = x ++ Str.empty ++ Str.join Str.empty (z :: r) := rfl
    rw [e, List.map_cons, List.flatten_cons, ← ih]
    show ((x.cps ++ Str.empty.cps) ++ _).toList = _
    rw [Array.toList_append, Array.toList_append]
    show (x.cps.toList ++ []) ++ _ = _
    rw [List.append_nil]
theorem r_join0 {K : PySem.W.Frag} {H : Hp} {Q : VK} {p : Addr} {cs : List Nat} (s : SqL K H p ((cs.map lt1).map V.str)) (hl : cs.length ≤ 1000) (q : ∀ z : Str, z.cps.toList = cs → Q (.str z) H) : rJoin K (.str Str.empty) [.ref p] H Q := by
  have e1 : ((cs.map lt1).map (·.length)).sum = cs.length := by
    rw [List.map_map]
    have : ((fun x : Str => x.length) ∘ lt1) = fun _ => 1 := rfl
    rw [this]
    have e2 : ∀ l : List Nat, (l.map fun _ => 1).sum = l.length := fun l => by
      induction l with
      | nil => rfl
      | cons c l ih => rw [List.map_cons, List.sum_cons, ih, List.length_cons, Nat.add_comm]
    exact e2 cs
  refine ⟨_, p, cs.map lt1, rfl, rfl, .inl s, ?_, q _ ?_⟩
  · rw [e1]
    show _ + _ * 0 ≤ _
    omega
  · rw [show Txt.join Str.empty (cs.map lt1) = Str.join Str.empty (cs.map lt1) from StrLaws.glued_eq_join _ _, join0_cps, List.map_map]
    have : ((fun y : Str => y.cps.toList) ∘ lt1) = fun c => [c] := rfl
    rw [this]
    have e3 : ∀ l : List Nat, (l.map fun c => [c]).flatten = l := fun l => by
      induction l with
      | nil => rfl
      | cons c l ih => rw [List.map_cons, List.flatten_cons, ih]; rfl
    exact e3 cs
/-- a base and one letter more -/
theorem add_lt_inj {z : Str} {c d : Nat} (h : z ++ lt1 c = z ++ lt1 d) : c = d := by
  have h := congrArg (fun x : Str => x.cps.toList) h
  have h2 : z.cps.toList ++ [c] = z.cps.toList ++ [d] := by
    have e : ∀ c, (z ++ lt1 c).cps.toList = z.cps.toList ++ [c] := fun c => by
      show (z.cps ++ #[c]).toList = _
      rw [Array.toList_append]
    rw [← e, ← e]
    exact h
  exact List.singleton_inj.mp (List.append_cancel_left h2)
theorem add_lt_ok {z : Str} {c : Nat} (h : ∀ c ∈ z.cps.toList, 97 ≤ c ∧ c ≤ 122) (hl : z.length ≤ 7) (hc : 97 ≤ c ∧ c ≤ 122) : NmOk (z ++ lt1 c) := by
  have e : (z ++ lt1 c).cps.toList = z.cps.toList ++ [c] := by
    show (z.cps ++ #[c]).toList = _
    rw [Array.toList_append]
  have e2 : (z ++ lt1 c).length = z.length + 1 := by
    show (z.cps ++ #[c]).size = _
    rw [Array.size_append]
    rfl
  refine ⟨by omega, by omega, fun d m => ?_⟩
  rw [e] at m
  rcases List.mem_append.mp m with m | m
  · exact h d m
  · rw [List.mem_singleton] at m
    subst m
    exact hc
/-! ### heads of functions -/
structure Hd where
  fn : Str
  names : List Str
  pars : List Str
  res : Str
structure HdOk (h : Hd) : Prop where
  nm : ∀ x ∈ h.names, NmOk x
  nd : h.names.Nodup
  n1 : h.names ≠ []
  nl : h.names.length ≤ 8
  pm : ∀ x ∈ h.pars, x ∈ h.names
  pd : h.pars.Nodup
  pl : h.pars.length ≤ 2
  rm : h.res ∈ h.names
structure HdsOk (hs : List Hd) : Prop where
  ln : hs.length ≤ 9
  each : ∀ h ∈ hs, HdOk h ∧ NmOk h.fn
  nd : (hs.map Hd.fn).Nodup
  main : (hs.map Hd.fn).head? = some "main"
def HdAt (K : PySem.W.Frag) (G : Hp) (v : V) (h : Hd) : Prop := ∃ a ni pi, v = .ref a ∧ G a = some (.dK [(.inr "names", .ref ni), (.inr "parameters", .ref pi), (.inr "result", .str h.res)]) ∧ LD K G ni (h.names.map PyData.str) ∧ LD K G pi (h.pars.map PyData.str)
def HdsAt (K : PySem.W.Frag) (G : Hp) (kvs : List (Key × V)) (hs : List Hd) : Prop := Paired (fun kv h => kv.1 = kS h.fn ∧ HdAt K G kv.2 h) kvs hs
section
variable {K : PySem.W.Frag} {G G' H : Hp} {v : V} {h : Hd} {hs : List Hd} {kvs : List (Key × V)} {σ : L2.St} {D : Ends} {R : List SP} {d : Addr} {x : Str}
theorem HdAt.le (h1 : HdAt K G v h) (l : Le G G') : HdAt K G' v h := by
  obtain ⟨a, ni, pi, rfl, e, d1, d2⟩ := h1
  exact ⟨a, ni, pi, rfl, l _ _ e, d1.le l, d2.le l⟩
theorem HdsAt.le (h1 : HdsAt K G kvs hs) (l : Le G G') : HdsAt K G' kvs hs := paired_imp (fun a b z => ⟨z.1, z.2.le l⟩) h1
theorem HdsAt.keys (h1 : HdsAt K G kvs hs) : kvs.map Prod.fst = hs.map fun h => kS h.fn := by
  induction h1 with
  | nil => rfl
  | cons z _ ih => rw [List.map_cons, List.map_cons, z.1, ih]
theorem HdsAt.snoc {a : V} (h1 : HdsAt K G kvs hs) (h2 : HdAt K G a h) : HdsAt K G (kvs ++ [(kS h.fn, a)]) (hs ++ [h]) := Paired.snoc h1 ⟨rfl, h2⟩
theorem putK_new {l : List (Key × V)} {k : Key} (hn : k ∉ l.map Prod.fst) : putK l k v = l ++ [(k, v)] := by
  unfold putK
  rw [if_neg]
  intro q
  obtain ⟨kv, m, hd⟩ := List.any_eq_true.mp q
  exact hn (by rw [← of_decide_eq_true hd]; exact List.mem_map_of_mem m)
theorem r_dputN (S : Sep (pt d (.dK kvs) :: R) H) (hn : kS x ∉ kvs.map Prod.fst) (hl : kvs.length ≤ 100000) (q : ∀ H', Sep (pt d (.dK (kvs ++ [(kS x, v)])) :: R) H' → D.nx σ H') : kDPut D σ v (.ref d) (.str x) H :=
  ⟨d, _, rfl, .inl ⟨_, kS x, S.hd_at, rfl, Nat.lt_of_le_of_lt hl (by decide), rfl⟩, q _ (by rw [← putK_new hn]; exact S.hd_set _)⟩
theorem valV_at : ∀ {l : List (Key × V)} {k : Key} {v : V}, (l.map Prod.fst).Nodup → (k, v) ∈ l → valV l k = some v
  | e :: l, k, v, nd, m => by
    rw [List.map_cons, List.nodup_cons] at nd
    unfold valV
    rw [List.find?_cons]
    rcases List.mem_cons.mp m with rfl | m
    · simp
    · have ne : e.1 ≠ k := fun q => nd.1 (by rw [q]; exact List.mem_map_of_mem (f := Prod.fst) m)
      rw [decide_eq_false ne]
      exact valV_at nd.2 m
theorem r_dgetV {Q : VK} (e : Rd H d (.dK kvs)) (hv : valV kvs (kS x) = some v) (q : Q v H) : kDGet Q (.ref d) (.str x) H :=
  ⟨d, _, rfl, .inl ⟨_, kS x, e, rfl, hv.symm⟩, q⟩
end
theorem mergeK_nd : ∀ {l l2 : List (Key × V)}, ((l ++ l2).map Prod.fst).Nodup → mergeK l l2 = l ++ l2
  | l, [], _ => by rw [List.append_nil]; rfl
  | l, e :: l2, hn => by
    have ne : e.1 ∉ l.map Prod.fst := fun m => by
      rw [List.map_append, List.nodup_append] at hn
      exact hn.2.2 _ m e.1 (by simp) rfl
    show mergeK (putK l e.1 e.2) l2 = _
    have e1 : l ++ e :: l2 = (l ++ [e]) ++ l2 := by simp
    rw [putK_new ne, e1]
    exact mergeK_nd (by rw [← e1]; exact hn)
theorem q_pair {tk tv : TE} {r : List (TE × TE)} {σ : L2.St} {H : Hp} {Q : List (V × V) → Hp → Prop} (h : tk σ H fun x H1 => tv σ H1 fun y H2 => tPairs r σ H2 fun ps H3 => Q ((x, y) :: ps) H3) : tPairs ((tk, tv) :: r) σ H Q := h
theorem q_pairN {σ : L2.St} {H : Hp} {Q : List (V × V) → Hp → Prop} (h : Q [] H) : tPairs [] σ H Q := h
theorem mt_indexK {X : Cx} (K : PySem.W.Frag) (hK : X.K = K := by rfl) : MtR X "list.index" (rIndex K) := by
  subst hK
  exact mt_index
theorem eqV_str (x y : Str) : eqV (.str x) (.str y) = decide (x = y) := by
  show (x == y) = _
  by_cases h : x = y
  · subst h; simp
  · rw [decide_eq_false h]; exact beq_eq_false_iff_ne.mpr h
section
variable {K : PySem.W.Frag} {H : Hp} {Q : VK} {a d : Addr} {fs : List Str} {f : Str} {j : Nat} {kvs : List (Key × V)} {Ps : List SP}
theorem r_index (s : SqL K H a (fs.map V.str)) (nd : fs.Nodup) (hj : fs[j]? = some f) (q : Q (.int j) H) : rIndex K (.ref a) [.str f] H Q := by
  have h1 := List.getElem?_eq_some_iff.mp hj
  refine ⟨a, fs.map V.str, .str f, j, .str f, rfl, rfl, s, rfl, flat_strs fs, by rw [List.getElem?_map, hj]; rfl, by rw [eqV_str]; simp, fun m z hm hz => ?_, q⟩
  rw [List.getElem?_map] at hz
  cases e : fs[m]? with
  | none => rw [e] at hz; cases hz
  | some y =>
    rw [e] at hz
    cases hz
    have h2 := List.getElem?_eq_some_iff.mp e
    rw [eqV_str]
    refine decide_eq_false fun q => ?_
    have := (List.getElem_inj (h₀ := h2.1) (h₁ := h1.1) nd).mp (h2.2.trans (q.trans h1.2.symm))
    omega
theorem r_listD (S : Sep (pt d (.dK kvs) :: Ps) H) (q : ∀ p H', Sep (pt p (.lst (kvs.map fun kv => kV kv.1)) :: pt d (.dK kvs) :: Ps) H' → Q (.ref p) H') : rListD [.ref d] H Q :=
  ⟨d, kvs, rfl, S.hd_at, fun p np => q p _ (S.new _ np)⟩
end
/-! ### a dict that is read, locked or not -/
theorem rd_part {D : SP} {d : Addr} {kvs : List (Key × V)} {R : List SP} {H : Hp} (hD : ∀ g, D g → Rd g d (.dK kvs)) (S : Sep (D :: R) H) : Rd H d (.dK kvs) := by
  obtain ⟨g, l, h, _⟩ := S
  exact Rd.le l (hD g h)
def rListR : List V → Hp → VK → Prop := fun xs H Q => ∃ (a : Addr) (kvs : List (Key × V)), xs = [.ref a] ∧ Rd H a (.dK kvs) ∧ ∀ p, H p = none → Q (.ref p) (upd H p (.lst (kvs.map fun kv => kV kv.1)))
theorem cr_listR {X : Cx} (hc : X.calm = true) : CallR X (.type "list") rListR := call_listD hc
theorem r_listR {d : Addr} {kvs : List (Key × V)} {Ps : List SP} {H : Hp} {Q : VK} (S : Sep Ps H) (e : Rd H d (.dK kvs)) (q : ∀ p H', Sep (pt p (.lst (kvs.map fun kv => kV kv.1)) :: Ps) H' → Q (.ref p) H') : rListR [.ref d] H Q :=
  ⟨d, kvs, rfl, e, fun p np => q p _ (S.new _ np)⟩
end Kt

set_option Elab.async false
set_option linter.all false
set_option maxRecDepth 100000
set_option maxHeartbeats 4000000
namespace PySem
open Sem (wp)
theorem args_sum2 (a b : Value) : argsOk "sum" ⟨[a, b], []⟩ := by unfold argsOk; kernel_rfl
section
variable {prog : Program} {w : World} {A : Around} {R : Result → Shared → Prop} {I : Addr} {fp wr : List Addr} {n : Nat} {P : Nat → Value → Prop} {St : Nat → Heap → Prop}
/-- sum of lists from a list: the loop -/
theorem codeAny_sum_loopL (h0 : Heap) (W : Walks prog w A.in1 I fp wr n P St) (hw0 : ∀ b ∈ wr, h0.get? b = none) (hsz : ∀ i h, St i h → ∀ b ∈ wr, b < h.objs.size) (hfp : ∀ i h, St i h → ∀ b ∈ fp, b < h.objs.size) (L : Nat → Addr) (its : Nat → Array Value) (hval : ∀ i v, P i v → v = .ref (L i))
    (hL : ∀ i, i < n → ∃ c, IsL h0 (L i) (its i) c) (S : Addr) (hS0 : h0.get? S = none) (hSf : S ∉ fp) (pre : Nat → Array Value) (hpre : ∀ i, i < n → pre (i + 1) = pre i ++ its i) (hz : ∀ i, i ≤ n → (pre i).size ≤ sizeLine) :
    ∀ (k i : Nat) (s : Shared) (T : Addr) (cT cS : Nat), n - i = k → i ≤ n → St i s.heap → (∀ b o, h0.get? b = some o → s.heap.get? b = some o) → s.heap.get? S = some { cls := .type "list", dict := none, data := .seq #[.ref T] cS, slots := #[] } →
    IsL s.heap T (pre i) cT → T ∉ wr → T ≠ S →
    (∀ h' tk T' c, (∀ b o, h0.get? b = some o → h'.get? b = some o) → IsL h' T' (pre n) c → ((i = n ∧ T' = T) ∨ h0.get? T' = none) → R (.ok (.ret (.ref T'))) { s with heap := h', toks := tk }) →
    codeAny (model prog w) A (.builtin "sum.loop" ⟨[.ref I, .ref S, rawInt 2, rawInt 0], []⟩) R s := by
  have hSw : S ∉ wr := fun h => hSf (W.sub _ h)
  have hne : ∀ b o, h0.get? b = some o → b ∉ wr ∧ b ≠ S := fun b o e => ⟨fun m => (by rw [hw0 b m] at e; cases e), fun q => (by rw [q, hS0] at e; cases e)⟩
  intro k
  induction k with
  | zero =>
    intro i s T cT cS hk hi hst h0k hS hT hTw hTS hR
    have hin : i = n := by omega
    subst hin
    refine codeAny_builtin F.entry_sum_loop ?_
    rw [Around.under_plainId F.plain_sum_loop _]
    show wpAny _ A.in1 (seqItems? (.ref S) >>= _) _ _ s
    refine wpAny_bind (wpAny_seqItems hS rfl ?_)
    show wpAny _ A.in1 (tryCatch (pyNext (.ref I)) _ >>= _) _ _ s
    refine wpAny_bind (wpAny_tryCatch (W.done s _ _ hst fun h' tk hk' => ?_))
    exact wpAny_pure (hR h' tk T cT (fun b o e => hk' b o (hne b o e).1 (h0k b o e)) (hk' T _ hTw hT) (.inl ⟨rfl, rfl⟩))
  | succ k ih =>
    intro i s T cT cS hk hi hst h0k hS hT hTw hTS hR
    have hlt : i < n := by omega
    refine codeAny_builtin F.entry_sum_loop ?_
    rw [Around.under_plainId F.plain_sum_loop _]
    show wpAny _ A.in1 (seqItems? (.ref S) >>= _) _ _ s
    refine wpAny_bind (wpAny_seqItems hS rfl ?_)
    show wpAny _ A.in1 (tryCatch (pyNext (.ref I)) _ >>= _) _ _ s
    refine wpAny_bind (wpAny_tryCatch (W.item i s _ _ hlt hst fun v h' tk hP hst' hk' => ?_))
    obtain rfl := hval i v hP
    have hS' := hk' S _ hSw hS
    have hT' := hk' T _ hTw hT
    have h0k' : ∀ b o, h0.get? b = some o → h'.get? b = some o := fun b o e => hk' b o (hne b o e).1 (h0k b o e)
    obtain ⟨cL, hLi⟩ := hL i hlt
    have hLi' := h0k' _ _ hLi
    have hz1 := hz (i + 1) hlt
    rw [hpre i hlt, Array.size_append] at hz1
    show wpAny _ A.in1 ((holding [Value.ref (L i)] (binaryOp .Add (.ref T) (.ref (L i)))).attempt >>= _) _ _ _
    refine wpAny_bind (wpAny_attempt (wpAny_holding (_root_.PySem.P.add_list hT' hLi' ?_ hz1)))
    have hSlt : S < h'.objs.size := Heap.lt_size hS'
    have hS2 := Heap.get?_push_of_some { cls := .type "list", data := .seq (pre i ++ its i) } hS'
    show wpAny _ A.in1 (updateSeq S (fun _ => #[.ref h'.objs.size]) >>= _) _ _ _
    refine wpAny_bind (wpAny_updateSeq hS2 rfl ?_)
    have hS3 := Heap.get?_update_self (Obj.mapSeq fun _ => #[Value.ref h'.objs.size]) hS2 rfl
    refine wpAny_bind (wpAny_letGo ?_)
    have hSp : S ≠ h'.objs.size := Nat.ne_of_lt hSlt
    have keep : ∀ b o, b ≠ S → h'.get? b = some o → (((h'.push { cls := .type "list", data := .seq (pre i ++ its i) }).update S (Obj.mapSeq fun _ => #[Value.ref h'.objs.size])).update S (Obj.mapSeq fun _ => #[Value.ref h'.objs.size])).get? b = some o := fun b o hb e =>
      (Heap.get?_update_other _ _ (Ne.symm hb)).trans ((Heap.get?_update_other _ _ (Ne.symm hb)).trans (Heap.get?_push_of_some _ e))
    refine wpAny_bind (wpAny_updateSeq hS3 rfl (wpAny_pure ⟨plainId_quiet F.plain_sum_loop _, ih (i + 1) _ h'.objs.size 0 _ (by omega) hlt (W.frame _ _ _ hst' fun b hb o e => keep b o (fun h => hSf (h ▸ hb)) e) (fun b o e => keep b o (hne b o e).2 (h0k' b o e)) (Heap.get?_update_self _ hS3 rfl) ?_ ?_ (Ne.symm hSp) ?_⟩))
    · rw [hpre i hlt]
      exact (Heap.get?_update_other _ _ hSp).trans ((Heap.get?_update_other _ _ hSp).trans (Heap.get?_push_size _ rfl))
    · exact fun m => Nat.lt_irrefl _ (hsz _ _ hst' _ m)
    · intro h'' tk'' T' c'' hk'' hT'' hor
      refine hR h'' tk'' T' c'' hk'' hT'' (.inr ?_)
      rcases hor with ⟨_, rfl⟩ | q
      · cases e : h0.get? h'.objs.size with
        | none => rfl
        | some o => exact absurd (Heap.lt_size (h0k' _ _ e)) (Nat.lt_irrefl _)
      · exact q
end
section
variable {prog : Program} {w : World} {A : Around} {E : Value → Shared → Prop} {s : Shared}
theorem call_sumL {l b : Addr} {ls : List Addr} {its : Nat → Array Value} {start : Array Value} {cb : Nat} {Q : Value → Shared → Prop} (hh : A.handled = none) (hl : s.heap.IsList l (ls.map Value.ref).toArray) (hb : IsL s.heap b start cb)
    (hL : ∀ i x, ls[i]? = some x → ∃ c, IsL s.heap x (its i) c) (pre : Nat → Array Value) (hp0 : pre 0 = start) (hpre : ∀ i, i < ls.length → pre (i + 1) = pre i ++ its i) (hz : ∀ i, i ≤ ls.length → (pre i).size ≤ sizeLine)
    (h : ∀ h' tk T' c, (∀ b o, s.heap.get? b = some o → h'.get? b = some o) → IsL h' T' (pre ls.length) c → ((ls = [] ∧ T' = b) ∨ s.heap.get? T' = none) → Q (.ref T') { s with heap := h', toks := tk }) :
    wpAny (model prog w) A (call (.builtin "sum") [.ref l, .ref b]) Q E s := by
  refine call_function_tree F.kind_sum F.plain_sum F.entry_sum (args_sum2 _ _) ?_
  unfold Builtin.«sum»
  simp only [List.length_cons, List.length_nil]
  rw [if_neg (by decide)]
  refine wpAny_bind (wpAny_of_eq (show Builtin.Builtins.bindParams "sum" ["start"] 0 ⟨[.ref b], []⟩ = pure [some (.ref b)] from rfl) ?_)
  refine wpAny_bind (wpAny_pyIter_list hl ?_)
  refine wpAny_bind (wpAny_pure ?_)
  have hlt : l < s.heap.objs.size := by obtain ⟨_, e, _⟩ := hl; exact Heap.lt_size e
  have hblt : b < s.heap.objs.size := Heap.lt_size hb
  have hb1 := Heap.get?_push_of_some (h := s.heap) { cls := .type "list_iterator", data := .fields #[.ref l, .int 0 0] } hb
  simp only [List.forIn_cons, List.forIn_nil]
  refine wpAny_bind (wpAny_bind (wpAny_bind (wpAny_isInstance (T := "list") (b := false) ⟨_, hb1, rfl⟩ F.sub_list_str ?_)))
  simp only [Bool.false_eq_true, if_false]
  refine wpAny_pure (wpAny_bind (wpAny_bind (wpAny_isInstance (T := "list") (b := false) ⟨_, hb1, rfl⟩ F.sub_list_bytes ?_)))
  simp only [Bool.false_eq_true, if_false]
  refine wpAny_pure (wpAny_bind (wpAny_bind (wpAny_isInstance (T := "list") (b := false) ⟨_, hb1, rfl⟩ F.sub_list_bytearray ?_)))
  simp only [Bool.false_eq_true, if_false]
  refine wpAny_pure (wpAny_pure ?_)
  refine wpAny_bind (wpAny_newObj_type ?_)
  have hIs : s.heap.get? s.heap.objs.size = none := by
    cases e : s.heap.get? s.heap.objs.size with
    | none => rfl
    | some o => exact absurd (Heap.lt_size e) (Nat.lt_irrefl _)
  have hsz1 : (s.heap.push { cls := .type "list_iterator", data := .fields #[.ref l, .int 0 0] }).objs.size = s.heap.objs.size + 1 := Heap.size_push ..
  have hS1 : s.heap.get? (s.heap.push { cls := .type "list_iterator", data := .fields #[.ref l, .int 0 0] }).objs.size = none := by
    cases e : s.heap.get? (s.heap.push { cls := .type "list_iterator", data := .fields #[.ref l, .int 0 0] }).objs.size with
    | none => rfl
    | some o =>
      have := Heap.lt_size e
      rw [hsz1] at this
      exact absurd (Nat.lt_of_succ_lt this) (Nat.lt_irrefl _)
  have hSf : (s.heap.push { cls := .type "list_iterator", data := .fields #[.ref l, .int 0 0] }).objs.size ∉ [s.heap.objs.size, l] := by
    rw [hsz1]
    intro m
    rcases List.mem_cons.mp m with e | m
    · exact absurd e (Nat.succ_ne_self _)
    · rw [List.mem_singleton] at m
      rw [← m] at hlt
      exact Nat.lt_irrefl _ (Nat.lt_of_succ_lt hlt)
  have hb2 := Heap.get?_push_of_some { cls := .type "list", data := .seq #[Value.ref b] } hb1
  have old : ∀ c o, s.heap.get? c = some o → ((s.heap.push { cls := .type "list_iterator", data := .fields #[.ref l, .int 0 0] }).push { cls := .type "list", data := .seq #[Value.ref b] }).get? c = some o := fun c o e => Heap.get?_push_of_some _ (Heap.get?_push_of_some _ e)
  refine wpAny_pure ⟨plainId_quiet F.plain_sum_loop _, codeAny_sum_loopL s.heap (Walks.list (A := A.in1) hh s.heap.objs.size l (Nat.ne_of_lt hlt) (ls.map Value.ref).toArray) (fun c m => ?_) (fun i h st c m => ?_) (fun i h st c m => ?_) (fun i => ls.getD i 0) its (fun i v hv => ?_) (fun i hi => ?_) _ hS1 hSf pre (fun i hi => hpre i (by simpa using hi)) (fun i hi => hz i (by simpa using hi)) _ 0 _ b cb 0 rfl (Nat.zero_le _) ⟨⟨_, Heap.get?_push_of_some _ (Heap.get?_push_size _ rfl), rfl, rfl⟩, hl.push _ |>.push _⟩ old (Heap.get?_push_size _ rfl) ?_ ?_ ?_ fun h' tk T' c k1 k2 k3 => ?_⟩
  · rw [List.mem_singleton] at m
    rw [m]
    exact hIs
  · rw [List.mem_singleton] at m
    rw [m]
    obtain ⟨⟨o, e, _⟩, _⟩ := st
    exact Heap.lt_size e
  · rcases List.mem_cons.mp m with e | m
    · rw [e]
      obtain ⟨⟨o, e, _⟩, _⟩ := st
      exact Heap.lt_size e
    · rw [List.mem_singleton] at m
      rw [m]
      obtain ⟨_, ⟨o, e, _⟩⟩ := st
      exact Heap.lt_size e
  · have hv : (ls.map Value.ref).toArray[i]? = some v := hv
    rw [List.getElem?_toArray, List.getElem?_map] at hv
    cases e : ls[i]? with
    | none => rw [e] at hv; cases hv
    | some x =>
      rw [e] at hv
      cases hv
      rw [List.getD_eq_getElem?_getD, e]
      rfl
  · have hi : i < ls.length := by simpa using hi
    obtain ⟨c, e⟩ := hL i ls[i] (List.getElem?_eq_getElem hi)
    refine ⟨c, ?_⟩
    rw [List.getD_eq_getElem?_getD, List.getElem?_eq_getElem hi]
    exact e
  · rw [hp0]
    exact hb2
  · intro m
    rw [List.mem_singleton] at m
    rw [m] at hblt
    exact Nat.lt_irrefl _ hblt
  · rw [hsz1]
    intro m
    rw [m] at hblt
    exact Nat.lt_irrefl _ (Nat.lt_of_succ_lt hblt)
  · refine h h' tk T' c k1 (by simpa using k2) ?_
    rcases k3 with ⟨e, q⟩ | q
    · refine .inl ⟨?_, q⟩
      have e : 0 = ls.length := by simpa using e
      exact List.length_eq_zero_iff.mp e.symm
    · exact .inr q
end
end PySem
namespace Kt
open PySem L2 PyProof.Rows
/-- sum(lists, start) -/
def rSumL (K : PySem.W.Frag) : List V → Hp → VK → Prop := fun vs H Q => ∃ (a b : Addr) (ls : List Addr) (xss : List (List V)) (zs : List V), vs = [.ref a, .ref b] ∧ SqL K H a (ls.map V.ref) ∧ H b = some (.lst zs) ∧ Paired (fun l xs => H l = some (.lst xs)) ls xss ∧ (zs ++ xss.flatten).length ≤ sizeLine ∧
  (ls = [] → Q (.ref b) H) ∧ ∀ p, H p = none → Q (.ref p) (upd H p (.lst (zs ++ xss.flatten)))
theorem vals_app : ∀ {xs ys : List V} {us vs : List Value}, Vals xs us → Vals ys vs → Vals (xs ++ ys) (us ++ vs)
  | _, _, _, _, h1, h2 => h1.append h2
theorem vals_refs : ∀ {ls : List Addr} {us : List Value}, Vals (ls.map V.ref) us → us = ls.map Value.ref
  | [], _, h => by cases h; rfl
  | l :: ls, _, h => by
    rw [List.map_cons] at h
    cases h with
    | cons h1 h2 =>
      cases h1
      rw [vals_refs h2]
      rfl
theorem lists_at {X : Cx} {pins : List (Addr × Obj)} {σ : L2.St} {H : Hp} {s : Shared} (I : L2.Inv X pins σ H s) : ∀ {ls : List Addr} {xss : List (List V)}, Paired (fun l xs => H l = some (.lst xs)) ls xss → ∃ vss : List (List Value), vss.length = ls.length ∧ (∀ i l, ls[i]? = some l → ∃ c, IsL s.heap l (vss.getD i []).toArray c) ∧ Vals xss.flatten vss.flatten
  | _, _, .nil => ⟨[], rfl, fun i l e => by simp at e, .nil⟩
  | l :: ls, xs :: xss, .cons h t => by
    obtain ⟨vss, h1, h2, h3⟩ := lists_at I t
    obtain ⟨_, its, n, r, _, e⟩ := I.lstM h
    refine ⟨its :: vss, by rw [List.length_cons, List.length_cons, h1], fun i x ex => ?_, r.append h3⟩
    cases i with
    | zero =>
      cases ex
      exact ⟨n, e⟩
    | succ i => exact h2 i x ex
theorem cr_sumL {X : Cx} (hc : X.calm = true) : CallR X (.builtin "sum") (rSumL X.K) := by
  intro pins s σ H vs us Q I r h
  obtain ⟨a, b, ls, xss, zs, rfl, hs, hb, hp, hz, q1, q2⟩ := h
  obtain ⟨its, rv, hl, _⟩ := I.list hs
  obtain ⟨zb, itb, nb, rb, hlb, eb⟩ := I.lstM hb
  obtain rfl := vals_refs rv
  cases r with | cons r1 r2 => cases r2 with | cons r3 r4 =>
  cases r4
  cases r1
  cases r3
  obtain ⟨vss, h1, h2, h3⟩ := lists_at I hp
  have hvl := (rb.append h3).length
  have tk : ∀ i, (vss.take i).flatten.length ≤ vss.flatten.length := fun i => by
    have e : vss.flatten = (vss.take i).flatten ++ (vss.drop i).flatten := by rw [← List.flatten_append, List.take_append_drop]
    rw [e, List.length_append]
    exact Nat.le_add_right _ _
  refine call_sumL (ls := ls) (its := fun i => (vss.getD i []).toArray) (start := itb.toArray) (I.ok.hd hc) hl.isList eb h2 (fun i => (itb ++ (vss.take i).flatten).toArray) (by rw [List.take_zero, List.flatten_nil, List.append_nil]) (fun i hi => ?_) (fun i hi => ?_) fun h' tk' T' c k1 k2 k3 => ?_
  · have hi2 : i < vss.length := by rw [h1]; exact hi
    have e1 : vss.getD i [] = vss[i] := by rw [List.getD_eq_getElem?_getD, List.getElem?_eq_getElem hi2]; rfl
    have e2 : (vss.take (i + 1)).flatten = (vss.take i).flatten ++ vss[i] := by rw [List.take_add_one, List.getElem?_eq_getElem hi2, List.flatten_append]; simp
    show (itb ++ (vss.take (i + 1)).flatten).toArray = (itb ++ (vss.take i).flatten).toArray ++ (vss.getD i []).toArray
    rw [e1, e2, ← List.append_assoc]
    simp
  · rw [List.size_toArray, List.length_append]
    have e3 : (itb ++ vss.flatten).length = itb.length + vss.flatten.length := List.length_append
    have := tk i
    omega
  · rw [show ls.length = vss.length from h1.symm, List.take_length] at k2
    rcases k3 with ⟨e, rfl⟩ | k3
    · exact ⟨.ref _, H, I.kept k1, rfl, q1 e⟩
    · have hn : H T' = none := by
        cases q : H T' with
        | none => rfl
        | some o =>
          obtain ⟨u, e⟩ := objOk_get (I.hok T' o q)
          rw [k3] at e
          cases e
      exact ⟨.ref T', _, I.laidN (o := .lst (zs ++ xss.flatten)) k1 k3 hn ⟨hz, itb ++ vss.flatten, c, rb.append h3, k2⟩, rfl, q2 T' hn⟩
/-! ### over a list or a tuple -/
def iAny (K : PySem.W.Frag) (td : TE) : TI := fun σ H R => td σ H fun v H1 => ∃ a, v = .ref a ∧ (((∃ xs, SqL K H1 a xs) ∧ R (Itl K a) H1) ∨ ((∃ xs, SqT K H1 a xs) ∧ R (Itt K a) H1))
theorem pi_any {X : Cx} {tg l : Expr} {tl : TE} (hl : PE X l tl) : PI X tg l (iAny X.K tl) := by
  refine ⟨fun pins s σ H R I h => ?_⟩
  refine thn (hl.run pins s σ H _ I h) fun v s1 ⟨x, H1, I1, r1, q1⟩ => ?_
  obtain ⟨a, e, q1⟩ := q1
  subst e
  cases r1
  have fin : ∀ b ∈ [s1.heap.objs.size], FpOk X pins H1 b := fun b hb => by
    have e : b = s1.heap.objs.size := by simpa using hb
    subst e
    exact I1.fpOk (Nat.le_refl _) (I1.hok.fresh (Nat.le_refl _))
  rcases q1 with ⟨⟨xs, hq⟩, q⟩ | ⟨⟨xs, hq⟩, q⟩
  · obtain ⟨its, rv, p, hz⟩ := I1.list hq
    refine wpAny_pyIter_list p.isList ?_
    exact ⟨s1.heap.objs.size, [s1.heap.objs.size], _, _, H1, rfl, I1.kept (t' := s1.toks) fun b o e => Heap.get?_push_of_some _ e, turn_list a _, ⟨_, Heap.get?_push_size _ rfl, rfl, rfl⟩, fin, q⟩
  · obtain ⟨its, rv, p, hz⟩ := I1.tuple hq
    refine wpAny_pyIter_tuple (show s1.heap.IsTuple a its.toArray from p) ?_
    exact ⟨s1.heap.objs.size, [s1.heap.objs.size], _, _, H1, rfl, I1.kept (t' := s1.toks) fun b o e => Heap.get?_push_of_some _ e, turn_tuple a _, ⟨_, Heap.get?_push_size _ rfl, rfl, rfl⟩, fin, q⟩
theorem pi_anyK {X : Cx} (K : PySem.W.Frag) {tg l : Expr} {tl : TE} (hl : PE X l tl) (hK : X.K = K := by rfl) : PI X tg l (iAny K tl) := hK ▸ pi_any hl
section
variable {K : PySem.W.Frag} {σ : L2.St} {G H : Hp} {D : Ends} {Q : VK} {a : Addr} {xs : List V} {Ps : List SP} {g : TG} {tb : TS} {tt : TT} {te : TE} {vs : List Nat}
theorem r_iany {R : It → Hp → Prop} {tl : TE} (h : tl σ H fun x H1 => ∃ a, x = .ref a ∧ (((∃ xs, SqL K H1 a xs) ∧ R (Itl K a) H1) ∨ ((∃ xs, SqT K H1 a xs) ∧ R (Itt K a) H1))) : iAny K tl σ H R := h
theorem r_for_any (J : LW) (hsq : SqL K G a xs ∨ SqT K G a xs) (S : Sep Ps H) (h0 : J 0 σ Ps) (hl : ∀ i σ Ps H, i ≤ xs.length → J i σ Ps → Sep Ps H → Le G H)
    (hs : ∀ i x σ Ps H, xs[i]? = some x → J i σ Ps → Sep Ps H → g x σ H fun σ2 H2 => tb { D with nx := Nx J (i + 1), ct := Nx J (i + 1), bk := D.nx } σ2 H2) (hd : ∀ σ Ps H, J xs.length σ Ps → Sep Ps H → D.nx σ H) :
    ∃ a', V.ref a = .ref a' ∧ (((∃ xs, SqL K H a' xs) ∧ ForW (Itl K a') g tb D σ H) ∨ ((∃ xs, SqT K H a' xs) ∧ ForW (Itt K a') g tb D σ H)) := by
  rcases hsq with q | q
  · obtain ⟨a', e, h1, h2⟩ := r_for_list (K := K) (a := a) (D := D) J S h0 (fun i σ Ps H hi j S => SqL.le (hl i σ Ps H hi j S) q) hs hd
    exact ⟨a', e, .inl ⟨h1, h2⟩⟩
  · obtain ⟨a', e, h1, h2⟩ := r_for_tup (K := K) (a := a) (D := D) J S h0 (fun i σ Ps H hi j S => SqT.le (hl i σ Ps H hi j S) q) hs hd
    exact ⟨a', e, .inr ⟨h1, h2⟩⟩
theorem r_lc_any (J : CW) (hsq : SqL K G a xs ∨ SqT K G a xs) (S : Sep Ps H) (h0 : J 0 [] Ps) (hl : ∀ D i acc Ps H, i ≤ xs.length → J i acc Ps → Sep (pt D (.lst acc) :: Ps) H → Le G H) (hl0 : Le G H)
    (hs : ∀ D i x acc Ps H, xs[i]? = some x → J i acc Ps → Sep (pt D (.lst acc) :: Ps) H → g x (wipe σ vs) H fun σ2 H2 => wipe σ2 vs = wipe σ vs ∧ tt σ2 H2 fun b H3 =>
      if b = true then te σ2 H3 fun y H4 => ∃ acc, H4 D = some (.lst acc) ∧ acc.length < sizeLine ∧ CN J D (i + 1) (upd H4 D (.lst (acc ++ [y]))) else CN J D (i + 1) H3)
    (hd : ∀ D acc Ps H, J xs.length acc Ps → Sep (pt D (.lst acc) :: Ps) H → Q (.ref D) H) : ∃ a', V.ref a = .ref a' ∧ (((∃ xs, SqL K H a' xs) ∧ LcW (Itl K a') g tt te vs Q σ H) ∨ ((∃ xs, SqT K H a' xs) ∧ LcW (Itt K a') g tt te vs Q σ H)) := by
  rcases hsq with q | q
  · obtain ⟨a', e, h1, h2⟩ := r_lc_list (K := K) (a := a) (xs := xs) J S h0 (fun D i acc Ps H hi j S => SqL.le (hl D i acc Ps H hi j S) q) (SqL.le hl0 q) hs hd
    exact ⟨a', e, .inl ⟨h1, h2⟩⟩
  · obtain ⟨a', e, h1, h2⟩ := r_lc_tup (K := K) (a := a) (xs := xs) J S h0 (fun D i acc Ps H hi j S => SqT.le (hl D i acc Ps H hi j S) q) (SqT.le hl0 q) hs hd
    exact ⟨a', e, .inr ⟨h1, h2⟩⟩
end
/-! ### enumerate of a list; list(range(n)) -/
theorem pi_enumK {X : Cx} (K : PySem.W.Frag) {e : Expr} {ta : TA} {p pos tpos : Pos} {elts : List Expr} {kk : Nat} (hg : Gl X "enumerate") (hm : X.mg "enumerate" = none) (ha : PA X [e] ta) (hK : X.K = K := by rfl) (hs : starEach [e] X.env = [(false, eval e X.env)] := by rfl) :
    PI X (.Tuple elts kk tpos) (.Call (.Name "enumerate" p) [e] [] pos) (iEnum K ta) := hK ▸ pi_enum hg hm ha hs
section
variable {K : PySem.W.Frag} {σ : L2.St} {H : Hp} {D : Ends} {Q : VK} {a : Addr} {xs : List V} {Ps : List SP} {g : TG} {tb : TS} {tr : TA} {ta : TE}
def kEnum (K : PySem.W.Frag) (R : It → Hp → Prop) : List V → Hp → Prop := fun vs H1 => ∃ a xs, vs = [.ref a] ∧ SqL K H1 a xs ∧ R (Ite K a) H1
theorem r_ienum {R : It → Hp → Prop} (h : tr σ H (kEnum K R)) : iEnum K tr σ H R := h
theorem r_for_enum (J : LW) (S : Sep Ps H) (h0 : J 0 σ Ps) (hl : ∀ i σ Ps H, J i σ Ps → Sep Ps H → SqL K H a xs)
    (hs : ∀ i x T σ Ps H, xs[i]? = some x → J i σ Ps → Sep (pt T (.tup [.int (i : Nat), x]) :: Ps) H → g (.ref T) σ H fun σ2 H2 => tb { D with nx := Nx J (i + 1), ct := Nx J (i + 1), bk := D.nx } σ2 H2) (hd : ∀ σ Ps H, J xs.length σ Ps → Sep Ps H → D.nx σ H) :
    kEnum K (fun Jt H1 => ForW Jt g tb D σ H1) [.ref a] H := by
  refine ⟨a, xs, rfl, hl 0 σ Ps H h0 S, fun i m σ H => m = xs.length - i ∧ i ≤ xs.length ∧ Nx J i σ H, ⟨xs.length, by simp, Nat.zero_le _, Ps, h0, S⟩, ?_⟩
  rintro i m σ H ⟨rfl, hi, Ps, j, S⟩
  by_cases he : i = xs.length
  · subst he
    exact .inl ⟨⟨xs, hl _ σ Ps H j S, Nat.le_refl _⟩, hd σ Ps H j S⟩
  · have hlt : i < xs.length := by omega
    refine .inr ⟨⟨xs, xs[i], hl _ σ Ps H j S, List.getElem?_eq_getElem hlt⟩, Nx J (i + 1), fun σ' H' n => ⟨xs.length - (i + 1), by omega, rfl, by omega, n⟩, ?_⟩
    rintro x H' ⟨T, y, rfl, hT, rfl, hy⟩
    exact hs i y T σ Ps _ (hy xs (hl _ σ Ps H j S)) j (S.new _ hT)
def kLrg (Q : VK) : VK := fun x H1 => ∃ n, x = .int n ∧ (RgOk 0 n ∧ ∀ q, H1 q = none → Q (.ref q) (upd H1 q (.lst (rgV 0 n))))
theorem r_lrg (h : ta σ H (kLrg Q)) : tLstRg (tRg1 ta) σ H Q := h
theorem r_klrg {n : Nat} (S : Sep Ps H) (hn : n ≤ 100000) (h : ∀ p H', Sep (pt p (.lst ((List.range n).map fun i => V.int (i : Nat))) :: Ps) H' → Q (.ref p) H') : kLrg Q (.int n) H := by
  refine ⟨n, rfl, RgOk.of_le (Int.le_refl 0) (by omega) (by omega) (by omega), fun q nq => h q _ ?_⟩
  have e : rgV 0 (n : Int) = (List.range n).map fun i => V.int (i : Nat) := by
    unfold rgV
    rw [Int.sub_zero, Int.toNat_natCast]
    refine List.map_congr_left fun i _ => ?_
    rw [Int.zero_add]
  rw [e]
  exact S.new _ nq
end
end Kt

set_option Elab.async false
set_option linter.all false
set_option maxRecDepth 100000
set_option maxHeartbeats 4000000
namespace Pf
open PySem L2 Kt
set_option hygiene false
local macro_rules | `(tactic| walk_at "mem") => `(tactic| (with_reducible (repeat (first | exact Pick.hd | apply Pick.tl)); done))
local macro_rules | `(tactic| walk_at "rep") => `(tactic| (with_reducible (repeat (first | exact Repl.hd | apply Repl.tl)); done))
local macro_rules | `(tactic| walk_at "sel") => `(tactic| ((repeat (with_reducible apply Sel.cons; (focus walk_at "mem"))); (with_reducible apply Sel.nil); (with_reducible (repeat (first | exact Dr.all | apply Dr.skip)); done)))
local macro_rules | `(tactic| walk_at "at") => `(tactic| (refine' Sep.at_ (by assumption) ?kkpk; (case kkpk => walk_at "mem")))
local macro_rules | `(tactic| walk_at "sq") => `(tactic| first | assumption | (refine' Sep.sq (by assumption) ?kkpk; (case kkpk => walk_at "mem")))
local macro_rules | `(tactic| walk_at "st") => `(tactic| first | assumption | (refine' Sep.st (by assumption) ?kkpk; (case kkpk => walk_at "mem")))
local macro_rules | `(tactic| walk_at "lk") => `(tactic| (repeat (first | (with_reducible exact lk_eq) | exact rfl | refine (lk_ne (by decide +kernel)).trans ?_)))
local macro_rules | `(tactic| walk_at "pf") => `(tactic| (repeat (first | (with_reducible exact pf_nil) | (with_reducible exact pf_eq) | (apply pf_ne; (focus decide +kernel)))))
local macro_rules | `(tactic| walk_at "ty") => `(tactic| first | exact ty_int | (refine' ty_lst ?kkh; (case kkh => walk_at "at")))
local macro_rules | `(tactic| walk_at "k1") => `(tactic| with_reducible first
  | refine q_seq ?_ | refine q_set ?_ | refine q_asg ?_ | refine q_ret ?_ | refine q_drop ?_ | refine q_next ?_ | refine q_c ?_ | refine q_op ?_ | refine q_un ?_ | refine q_nil ?_ | refine q_cons ?_ | refine q_cb ?_
  | refine q_call ?_ | refine q_ifs ?_ | refine q_if ?_ | refine q_test ?_ | refine q_tb ?_ | refine q_bl ?_ | refine q_notT ?_ | refine q_andT ?_ | refine q_orT ?_ | refine q_andV ?_ | refine q_orV ?_ | refine q_notV ?_
  | refine q_addA ?_ | refine q_subI ?_ | refine q_ltI ?_ | refine q_leI ?_ | refine q_gtI ?_ | refine q_geI ?_ | refine q_eqI ?_ | refine q_neI ?_ | refine q_abs ?_ | refine q_int ?_ | refine q_intB ?_ | refine q_max ?_ | refine q_min ?_
  | refine q_ipAdd ?_ | refine q_ipSub ?_ | refine q_gsub ?_ | refine q_augs ?_ | refine q_lst ?_ | refine q_tup ?_ | refine q_blI ?_ | refine iteT ?_ | refine iteF ?_ | refine iteNT ?_ | refine iteNF ?_
  | refine r_prop ?_ | refine r_fld ?_ | refine r_sfld ?_ | refine r_meth ?_ | refine r_make ?_ | refine r_sl ?_ | refine r_nopart ?_ | refine r_part ?_ | refine r_parti ?_ | refine r_gsl ?_ | refine r_bm ?_ | refine r_bm0 ?_ | refine r_for ?_ | refine r_ilist ?_ | refine r_irng ?_
  | refine r_gname ?_ | refine r_gcons ?_ | refine r_gnil ?_ | refine r_par ?_ | refine r_parA ?_ | refine r_chain ?_ | refine r_isN ?_ | refine r_tlc ?_ | refine r_yes ?_ | refine r_makek ?_ | refine r_neg ?_)
local macro_rules | `(tactic| walk_at "k2") => `(tactic| first
  | ((with_reducible refine' q_var ?kke ?_); (case kke => rfl))
  | ((with_reducible refine' q_aug ?kke ?_); (case kke => rfl))
  | ((with_reducible refine' q_ixL ?kks ?kke ?_); (case kks => walk_at "sq"); (case kke => first | rfl | assumption))
  | ((with_reducible refine' q_ixT ?kks ?kke ?_); (case kks => walk_at "st"); (case kke => first | rfl | assumption))
  | ((with_reducible refine' q_ixLL ?kks ?kke ?_); (case kks => walk_at "sq"); (case kke => first | rfl | assumption))
  | ((with_reducible refine' q_lenL ?kks ?_); (case kks => walk_at "sq"))
  | ((with_reducible refine' q_mulI ?kkc ?_); (case kkc => first | exact .inl (by omega) | exact .inr (by omega)))
  | ((with_reducible refine' q_modI ?kkc ?_); (case kkc => omega))
  | ((with_reducible refine' q_divI ?kkc ?_); (case kkc => exact ⟨by omega, by omega⟩))
  | ((with_reducible refine' q_powI ?kkc ?_); (case kkc => exact ⟨by decide, by decide, by decide⟩))
  | ((with_reducible refine' r_kfld ?kkS ?kkp ?kkc ?kkn ?kkl ?_); (case kkS => assumption); (case kkp => walk_at "mem"); (case kkc => walk_at "cls"); (case kkn => walk_at "na"); (case kkl => walk_at "lk"))
  | ((with_reducible refine' r_kprop ?kkS ?kkp ?_); (case kkS => assumption); (case kkp => walk_at "mem"))
  | ((with_reducible refine' r_kmeth ?kkS ?kkp ?kkl ?_); (case kkS => assumption); (case kkp => walk_at "mem"); (case kkl => walk_at "lk"))
  | ((with_reducible refine' r_calll ?kks ?_); (case kks => rfl))
  | ((with_reducible refine' r_tyl ?kks ?_); (case kks => walk_at "sq"))
  | ((with_reducible refine' r_isi (k := true) ?kkt ?kke ?_); (case kkt => walk_at "ty"); (case kke => decide +kernel))
  | ((with_reducible refine' r_isi (k := false) ?kkt ?kke ?_); (case kkt => walk_at "ty"); (case kke => decide +kernel)))
local macro_rules | `(tactic| walk_at "k3") => `(tactic| first
  | ((with_reducible refine' q_setS ?kkS ?kkr ?kke ?_); (case kkS => assumption); (case kkr => walk_at "rep"); (case kke => rfl); intro H S)
  | ((with_reducible refine' r_kset ?kkS ?kkr ?kkc ?kkn ?kkl ?kke ?_); (case kkS => assumption); (case kkr => walk_at "rep"); (case kkc => walk_at "cls"); (case kkn => walk_at "na"); (case kkl => first | exact Nat.le_of_ble_eq_true rfl | assumption | omega | (simp; done) | (simp; omega)); (case kke => walk_at "pf"); intro H S)
  | ((with_reducible refine' q_new ?kkS ?kkl ?_); (case kkS => assumption); (case kkl => first | exact Nat.le_of_ble_eq_true rfl | assumption | omega | (simp; done) | (simp; omega)); intro p H S)
  | ((with_reducible refine' q_newT ?kkS ?kkl ?_); (case kkS => assumption); (case kkl => first | exact Nat.le_of_ble_eq_true rfl | assumption | omega | (simp; done) | (simp; omega)); intro p H S)
  | ((with_reducible refine' r_knew ?kkS ?_); (case kkS => assumption); intro x dx H S)
  | ((with_reducible refine' r_knewk ?kkS ?kkl1 ?kkl2 ?_); (case kkS => assumption); (case kkl1 => rfl); (case kkl2 => rfl); intro x dx H S)
  | ((with_reducible refine' r_ksl ?kkS ?kks ?_); (case kkS => assumption); (case kks => walk_at "sq"); intro p H S)
  | ((with_reducible refine' r_list ?kkS ?kks ?_); (case kkS => assumption); (case kks => walk_at "sq"); intro p H S)
  | ((with_reducible refine' r_cat ?kkS ?kks1 ?kks2 ?kkz ?_); (case kkS => assumption); (case kks1 => walk_at "at"); (case kks2 => walk_at "at"); (case kkz => first | omega | (simp; omega)); intro p H S)
  | ((with_reducible refine' r_append ?kkS ?kkr ?kkz ?_); (case kkS => assumption); (case kkr => walk_at "rep"); (case kkz => first | omega | (simp; omega)); intro H S)
  | ((with_reducible refine' r_reverse ?kkS ?kkr ?_); (case kkS => assumption); (case kkr => walk_at "rep"); intro H S)
  | ((with_reducible refine' r_clear ?kkS ?kkr ?_); (case kkS => assumption); (case kkr => walk_at "rep"); intro H S))
local macro_rules | `(tactic| walk_at "gn") => `(tactic| repeat (first | walk_at "k1" | walk_at "k2"))
local macro_rules | `(tactic| walk_at "go") => `(tactic| repeat (first | walk_at "k1" | walk_at "k2" | walk_at "k3"))

local macro_rules | `(tactic| walk_at "sq") => `(tactic| first | assumption | (refine' Sep.sq ?kkS ?kkpk; (case kkS => assumption); (case kkpk => walk_at "mem")) | (refine' hp_sqL ?kkS ?kkx; (case kkS => assumption); (case kkx => assumption)) | (refine' hp_sqL (Sep.tl ?kkS) ?kkx; (case kkS => assumption); (case kkx => assumption)) | (refine' hp_sqL (Sep.tl (Sep.tl ?kkS)) ?kkx; (case kkS => assumption); (case kkx => assumption)))
local macro_rules | `(tactic| walk_at "st") => `(tactic| first | assumption | (refine' Sep.st ?kkS ?kkpk; (case kkS => assumption); (case kkpk => walk_at "mem")) | (refine' hp_sqT ?kkS ?kkx; (case kkS => assumption); (case kkx => assumption)) | (refine' hp_sqT (Sep.tl ?kkS) ?kkx; (case kkS => assumption); (case kkx => assumption)) | (refine' hp_sqT (Sep.tl (Sep.tl ?kkS)) ?kkx; (case kkS => assumption); (case kkx => assumption)))
local macro_rules | `(tactic| walk_at "k1") => `(tactic| with_reducible first | refine r_ienumT ?_ | refine r_tru ?_ | refine r_itup ?_ | refine r_star ?_ | refine r_par3 ?_ | refine r_parA3 ?_ | refine r_dget ?_ | refine r_din ?_ | refine r_dnotin ?_ | refine r_dput ?_)

local macro_rules | `(tactic| walk_at "k1") => `(tactic| with_reducible first | refine r_kget ?_ | refine r_orT ?_ | refine r_slA ?_ | refine r_m1 ?_ | refine r_isS ?_)

def top (i : Nat) : Stmt := PySem.Challenge.pw_sparetails_k12_parts_of_statements.main.body.getD i (.Pass ⟨0, 0, 0, 0⟩)
abbrev s_inner_bodies : Stmt := top 5
abbrev N_inner_bodies : List Str := ["statement"]
abbrev s_bodies : Stmt := top 6
abbrev N_bodies : List Str := ["statement", "body"]
abbrev s_made : Stmt := top 7
abbrev N_made : List Str := ["statement"]
abbrev s_read : Stmt := top 8
abbrev N_read : List Str := ["statement", "word"]
abbrev s_own_names : Stmt := top 9
abbrev N_own_names : List Str := ["statement"]
abbrev s_named : Stmt := top 10
abbrev N_named : List Str := ["statement", "found", "waiting", "item", "body"]
abbrev s_copying : Stmt := top 11
abbrev N_copying : List Str := ["statement", "word"]
abbrev s_sharing : Stmt := top 12
abbrev N_sharing : List Str := ["statement", "word"]
abbrev s_l_bag : Stmt := top 14
abbrev N_l_bag : List Str := ["_law_script", "_law_cell"]
abbrev s_l_take : Stmt := top 15
abbrev N_l_take : List Str := ["_law_bag_here", "_law_many", "_law_cell", "_law_mixed_here", "_law_value", "_law_begin", "_law_second"]
abbrev s_l_alike : Stmt := top 16
abbrev N_l_alike : List Str := ["_law_found", "_law_due"]
abbrev s_l_mixed : Stmt := top 17
abbrev N_l_mixed : List Str := ["_law_bag_here", "_law_things", "_law_found", "_law_thing"]
abbrev s_l_draw_names : Stmt := top 18
abbrev N_l_draw_names : List Str := ["_law_bag_here", "_law_many", "_law_letters", "_law_words", "_law_way", "_law_turn", "_law_base", "_law_k"]
abbrev s_l_draw_heads : Stmt := top 19
abbrev N_l_draw_heads : List Str := ["_law_bag_here", "_law_many", "_law_most", "_law_labels", "_law_found", "_law_function", "_law_names", "_law_parameters", "_law_name"]
abbrev s_l_draw_call : Stmt := top 20
abbrev N_l_draw_call : List Str := ["_law_bag_here", "_law_heads", "_law_function", "_law_is_free", "_law_order", "_law_names", "_law_some", "_law_callee", "_law_handed_in", "_law_parameter"]
abbrev s_l_draw_statement : Stmt := top 21
abbrev N_l_draw_statement : List Str := ["_law_bag_here", "_law_heads", "_law_function", "_law_depth", "_law_is_free", "_law_names", "_law_way", "_law_v", "_law_w", "_law_told_here", "_law_many", "_law_k"]
abbrev s_l_draw_body : Stmt := top 22
abbrev N_l_draw_body : List Str := ["_law_bag_here", "_law_heads", "_law_function", "_law_many", "_law_depth", "_law_is_free", "_law_k"]
abbrev s_l_size : Stmt := top 23
abbrev N_l_size : List Str := ["_law_body", "_law_many", "_law_statement", "_law_inner_here"]
abbrev s_l_draw_functions : Stmt := top 24
abbrev N_l_draw_functions : List Str := ["_law_bag_here", "_law_many", "_law_most", "_law_long", "_law_heads", "_law_found", "_law_function", "_law_body"]
abbrev s_l_handed_body : Stmt := top 25
abbrev N_l_handed_body : List Str := ["_law_bag_here", "_law_body", "_law_found", "_law_statement", "_law_some", "_law_inner_here"]
abbrev s_l_names_in : Stmt := top 26
abbrev N_l_names_in : List Str := ["_law_body", "_law_found", "_law_statement", "_law_inner_here"]
abbrev s_l_inner : Stmt := top 27
abbrev N_l_inner : List Str := ["_law_statement", "_law_body"]
abbrev s_l_wide : Stmt := top 28
abbrev N_l_wide : List Str := ["_law_bag_here", "_law_some", "_law_k"]
abbrev s_l_made : Stmt := top 29
abbrev N_l_made : List Str := ["_law_statement"]
abbrev s_l_read : Stmt := top 30
abbrev N_l_read : List Str := ["_law_statement", "_law_word"]
abbrev s_l_turned : Stmt := top 31
abbrev N_l_turned : List Str := ["_law_statement", "_law_words", "_law_others"]
abbrev s_l_told : Stmt := top 32
abbrev N_l_told : List Str := ["_law_statement", "_law_found"]
abbrev s_l_right : Stmt := top 33
abbrev N_l_right : List Str := ["_law_statement", "_law_plain", "_law_copies", "_law_due", "_law_shown", "_law_again", "_law_found", "_law_at", "_law_body"]
abbrev s_law : Stmt := top 34
abbrev N_law : List Str := ["_law_script", "_law_bag_here", "_law_turn", "_law_functions", "_law_body", "_law_statement", "_law_told_here"]
structure Txt (K : PySem.W.Frag) (mg : Str → Option Value) (f_NAMES_IN f_MAKING f_COPYING f_SHARING : Addr) : Prop where
  z_enumerate : mg "enumerate" = none
  z_tuple : mg "tuple" = none
  z_sorted : mg "sorted" = none
  z_len : mg "len" = none
  z_int : mg "int" = none
  z_abs : mg "abs" = none
  z_set : mg "set" = none
  z_dict : mg "dict" = none
  z_range : mg "range" = none
  z_repr : mg "repr" = none
  z_list : mg "list" = none
  z_sum : mg "sum" = none
  g_NAMES_IN : mg "NAMES_IN" = some (.ref f_NAMES_IN)
  g_MAKING : mg "MAKING" = some (.ref f_MAKING)
  g_COPYING : mg "COPYING" = some (.ref f_COPYING)
  g_SHARING : mg "SHARING" = some (.ref f_SHARING)
abbrev Tx (K : PySem.W.Frag) (mg : Str → Option Value) (f_NAMES_IN f_MAKING f_COPYING f_SHARING : Addr) := Txt K mg f_NAMES_IN f_MAKING f_COPYING f_SHARING
/-! ### the tables of the top -/
def makingS : List Str := ["new", "take", "cut", "put", "copy", "copycut", "copyput", "call"]
def cpF (x : Str) : Option Str := if x = "take" then some "copy" else if x = "cut" then some "copycut" else if x = "put" then some "copyput" else none
def shF (x : Str) : Option Str := if x = "copy" then some "take" else if x = "copycut" then some "cut" else if x = "copyput" then some "put" else none
def wordsA : List Str := w1S ++ w2S ++ (["call", "either", "loop"] : List Str)
structure KC (K : PySem.W.Frag) (w : World) (dN tM dC dS : Addr) : Prop where
  n1 : ∀ x ∈ w1S, KHas K w dN x (.int 1)
  n2 : ∀ x ∈ w2S, KHas K w dN x (.int 2)
  n0 : ∀ x ∈ (["call", "either", "loop"] : List Str), KNo K w dN x
  mkg : SqT K (fun _ => none) tM (makingS.map V.str)
  cp : ∀ x ∈ wordsA, match cpF x with | some y => KHas K w dC x (.str y) | none => KNo K w dC x
  sh : ∀ x ∈ wordsA, match shF x with | some y => KHas K w dS x (.str y) | none => KNo K w dS x
theorem word_in {p : Str → Prop} {s : Stm} (h : s.Ok p) : s.word ∈ wordsA := by
  cases s with
  | two wd v u =>
    rw [Stm.Ok] at h
    exact List.mem_append_left _ (List.mem_append_right _ h.1)
  | one wd v =>
    rw [Stm.Ok] at h
    exact List.mem_append_left _ (List.mem_append_left _ h.1)
  | call v f t as => exact List.mem_append_right _ (show ("call" : Str) ∈ (["call", "either", "loop"] : List Str) by decide)
  | either t bs => exact List.mem_append_right _ (show ("either" : Str) ∈ (["call", "either", "loop"] : List Str) by decide)
  | loop b => exact List.mem_append_right _ (show ("loop" : Str) ∈ (["call", "either", "loop"] : List Str) by decide)
theorem w2_ne : ∀ x ∈ w2S, x ≠ ("either" : Str) ∧ x ≠ "loop" ∧ x ≠ "call" ∧ x ∉ w1S := by decide +kernel
theorem w1_ne : ∀ x ∈ w1S, x ≠ ("either" : Str) ∧ x ≠ "loop" ∧ x ≠ "call" ∧ x ∉ w2S := by decide +kernel
section
variable {K : PySem.W.Frag} {G H : Hp} {Q : VK} {a : Addr} {s : Stm} {v x : V} {i j : Str}
/-- the first item of a statement is its word -/
theorem stm_sq (h : Dp K G v s.enc) : ∃ a xs, v = .ref a ∧ SqT K G a (.str s.word :: xs) ∧ (match s with
    | .two _ v u => xs = [.str v, .str u]
    | .one _ v => xs = [.str v]
    | .call v f t as => ∃ y, xs = [.str v, .str f, y] ∧ Dp K G y (dStrs t as)
    | .either t bs => ∃ y, xs = [y] ∧ Dp K G y (sqD t (bs.map Bdy.enc))
    | .loop b => ∃ y, xs = [y] ∧ Dp K G y (Bdy.enc b)) := by
  cases s with
  | two wd v' u =>
    rw [Stm.enc] at h
    obtain ⟨a, xs, rfl, hs, hx⟩ := dp_tupInv h
    cases hx with | cons h1 t1 => cases t1 with | cons h2 t2 => cases t2 with | cons h3 t3 =>
    cases t3
    rw [dp_strInv h1, dp_strInv h2, dp_strInv h3] at hs
    exact ⟨a, _, rfl, hs, rfl⟩
  | one wd v' =>
    rw [Stm.enc] at h
    obtain ⟨a, xs, rfl, hs, hx⟩ := dp_tupInv h
    cases hx with | cons h1 t1 => cases t1 with | cons h2 t2 =>
    cases t2
    rw [dp_strInv h1, dp_strInv h2] at hs
    exact ⟨a, _, rfl, hs, rfl⟩
  | call v' f t as =>
    rw [Stm.enc] at h
    obtain ⟨a, xs, rfl, hs, hx⟩ := dp_tupInv h
    cases hx with | cons h1 t1 => cases t1 with | cons h2 t2 => cases t2 with | cons h3 t3 => cases t3 with | cons h4 t4 =>
    cases t4
    rw [dp_strInv h1, dp_strInv h2, dp_strInv h3] at hs
    exact ⟨a, _, rfl, hs, _, rfl, h4⟩
  | either t bs =>
    rw [Stm.enc] at h
    obtain ⟨a, xs, rfl, hs, hx⟩ := dp_tupInv h
    cases hx with | cons h1 t1 => cases t1 with | cons h2 t2 =>
    cases t2
    rw [dp_strInv h1] at hs
    rw [encBs_map] at h2
    exact ⟨a, _, rfl, hs, _, rfl, h2⟩
  | loop b =>
    rw [Stm.enc] at h
    obtain ⟨a, xs, rfl, hs, hx⟩ := dp_tupInv h
    cases hx with | cons h1 t1 => cases t1 with | cons h2 t2 =>
    cases t2
    rw [dp_strInv h1] at hs
    exact ⟨a, _, rfl, hs, _, rfl, h2⟩
theorem r_eqS (h : Q (.bl (decide (i = j))) H) : rEqA K (.str i) (.str j) H Q := .inl ⟨rfl, by
  have e : decide (V.str i = V.str j) = decide (i = j) := decide_eq_decide.mpr ⟨fun q => V.str.inj q, fun q => congrArg _ q⟩
  rw [e]
  exact h⟩
end
section
variable {P : Program} {w : World} {K : PySem.W.Frag} {mg : Str → Option Value} {base : Heap} {f_NAMES_IN f_MAKING f_COPYING f_SHARING : Addr}
theorem sc_inner_bodies : FnScope N_inner_bodies ["statement"] (defScope s_inner_bodies) := ⟨rfl, rfl, rfl, by decide +kernel, rfl, by decide +kernel, by decide +kernel⟩
def spInner (K : PySem.W.Frag) : Sp := fun vs H Q _ => ∃ (a : Addr) (s : Stm) (pn : Str → Prop) (G : Hp) (R : List SP), vs = [.ref a] ∧ s.Ok pn ∧ s.inner.length ≤ 1000 ∧ Dp K G (.ref a) s.enc ∧ Sep (hp G :: R) H ∧
  ∀ p xs H', DpAll K G xs (s.inner.map Bdy.enc) → Sep (pt p (.lst xs) :: hp G :: R) H' → Q (.ref p) H'
theorem ok_inner_bodies {f : Addr} (F : Dt K mg "inner_bodies" s_inner_bodies ["statement"] f) (T : Tx K mg f_NAMES_IN f_MAKING f_COPYING f_SHARING) : Df P w K mg base 1 "inner_bodies" f ["statement"] (spInner K) := by
  refine F.ok sc_inner_bodies (fun vs H Q E h => ?_) (fun cdv A outer s H vs Q E hr h => ?_)
  · obtain ⟨a, s, pn, G, R, rfl, _⟩ := h
    rfl
  obtain ⟨a, st, pn, G, R, rfl, ok, hl, hx, S, q⟩ := h
  refine ⟨_, (pss_cons (ps_if (pt_cmpR (r := rEqA K) (op_eqA hr.units) (pe_ix (r := rIx K) ix_seq (pv 0) pe_int (fun _ _ => rfl)) pe_str (nomark _)) (pss_one (ps_ret (pe_callTy (r := cList K) call_list_of (by rfl) T.z_list (by decide +kernel) (pa_cons (pe_ix (r := rIx K) ix_seq (pv 0) pe_int (fun _ _ => rfl)) pa_nil)))) pss_nil)
      (pss_cons (ps_if (pt_cmpR (r := rEqA K) (op_eqA hr.units) (pe_ix (r := rIx K) ix_seq (pv 0) pe_int (fun _ _ => rfl)) pe_str (nomark _)) (pss_one (ps_ret (pe_lst (pa_cons (pe_ix (r := rIx K) ix_seq (pv 0) pe_int (fun _ _ => rfl)) pa_nil)))) pss_nil)
      (pss_one (ps_ret (pe_lst pa_nil))))), ?_⟩
  obtain ⟨a', xs, e, hs, hm⟩ := stm_sq hx
  cases e
  have hs := hp_sqT S hs
  walk_at "go"
  refine q_ixT hs (atI_nat (j := 0) rfl) ?_
  walk_at "go"
  refine r_eqS ?_
  walk_at "go"
  cases st with
  | either t bs =>
    refine iteT ?_
    obtain ⟨y, rfl, hy⟩ := hm
    obtain ⟨ya, ys, rfl, hys, hda⟩ := dp_sqInv hy
    walk_at "go"
    refine ⟨ya, ys, rfl, sq_le (hp_le S) hys, fun p np => ?_⟩
    exact q p ys _ hda (S.new _ np)
  | loop b =>
    refine iteF ?_
    obtain ⟨y, rfl, hy⟩ := hm
    walk_at "go"
    refine r_eqS ?_
    walk_at "go"
    refine iteT ?_
    walk_at "go"
    exact q p [y] H (.cons hy .nil) S
  | two wd v u =>
    rw [Stm.Ok] at ok
    obtain ⟨n1, n2, _⟩ := w2_ne _ ok.1
    refine iteDN n1 ?_
    walk_at "go"
    refine q_ixT hs (atI_nat (j := 0) rfl) ?_
    walk_at "go"
    refine r_eqS ?_
    walk_at "go"
    refine iteDN n2 ?_
    walk_at "go"
    exact q p [] H .nil S
  | one wd v =>
    rw [Stm.Ok] at ok
    obtain ⟨n1, n2, _⟩ := w1_ne _ ok.1
    refine iteDN n1 ?_
    walk_at "go"
    refine q_ixT hs (atI_nat (j := 0) rfl) ?_
    walk_at "go"
    refine r_eqS ?_
    walk_at "go"
    refine iteDN n2 ?_
    walk_at "go"
    exact q p [] H .nil S
  | call v f t as =>
    refine iteF ?_
    walk_at "go"
    refine q_ixT hs (atI_nat (j := 0) rfl) ?_
    walk_at "go"
    refine r_eqS ?_
    walk_at "go"
    refine iteF ?_
    walk_at "go"
    exact q p [] H .nil S
theorem sc_own_names : FnScope N_own_names ["statement"] (defScope s_own_names) := ⟨rfl, rfl, rfl, by decide +kernel, rfl, by decide +kernel, by decide +kernel⟩
def spOwn (K : PySem.W.Frag) : Sp := fun vs H Q _ => ∃ (a : Addr) (s : Stm) (pn : Str → Prop) (G : Hp) (R : List SP), vs = [.ref a] ∧ s.Ok pn ∧ s.own.length ≤ 1000 ∧ Dp K G (.ref a) s.enc ∧ Sep (hp G :: R) H ∧
  ∀ p H', Sep (pt p (.lst (s.own.map V.str)) :: hp G :: R) H' → Q (.ref p) H'
theorem ok_own_names {f : Addr} (F : Dt K mg "own_names" s_own_names ["statement"] f) (T : Tx K mg f_NAMES_IN f_MAKING f_COPYING f_SHARING) (C : KC K w f_NAMES_IN f_MAKING f_COPYING f_SHARING) : Df P w K mg base 1 "own_names" f ["statement"] (spOwn K) := by
  refine F.ok sc_own_names (fun vs H Q E h => ?_) (fun cdv A outer s H vs Q E hr h => ?_)
  · obtain ⟨a, s, pn, G, R, rfl, _⟩ := h
    rfl
  obtain ⟨a, st, pn, G, R, rfl, ok, hl, hx, S, q⟩ := h
  refine ⟨_, (pss_cons (ps_if (pt_cmpR (r := rEqA K) (op_eqA hr.units) (pe_ix (r := rIx K) ix_seq (pv 0) pe_int (fun _ _ => rfl)) pe_str (nomark _)) (pss_one (ps_ret (pe_lst (pa_cons (pe_ix (r := rIx K) ix_seq (pv 0) pe_int (fun _ _ => rfl)) (pa_starK K (pe_ix (r := rIx K) ix_seq (pv 0) pe_int (fun _ _ => rfl)) pa_nil))))) pss_nil)
      (pss_one (ps_ret (pe_ifExp (pt_cmpR (r := rKIn K w) op_kin (pe_ix (r := rIx K) ix_seq (pv 0) pe_int (fun _ _ => rfl)) (pe_glob (v := .ref f_NAMES_IN) rfl T.g_NAMES_IN rfl) (by rfl)) (pe_callTy (r := cList K) call_list_of (by rfl) T.z_list (by decide +kernel) (pa_cons (pe_slice (r := rSlA K) sl_tupA (pv 0) (po_some pe_int) po_none) pa_nil)) (pe_lst pa_nil))))), ?_⟩
  obtain ⟨a', xs, e, hs, hm⟩ := stm_sq hx
  cases e
  have hs := hp_sqT S hs
  walk_at "go"
  refine q_ixT hs (atI_nat (j := 0) rfl) ?_
  walk_at "go"
  refine r_eqS ?_
  walk_at "go"
  have wi := word_in ok
  cases st with
  | call v f t as =>
    refine iteT ?_
    obtain ⟨y, rfl, hy⟩ := hm
    obtain ⟨ya, ys, rfl, hys, hda⟩ := dp_sqInv hy
    rw [dpall_strsInv hda] at hys
    walk_at "go"
    refine ⟨ya, _, rfl, (sq_le (hp_le S) hys).symm, ?_⟩
    walk_at "go"
    refine q_new S (by simp [Stm.own] at hl ⊢; omega) fun p H S => ?_
    have e : V.str v :: (as.map V.str ++ []) = (Stm.call v f t as).own.map V.str := by simp [Stm.own]
    rw [e] at S
    exact q p H S
  | either t bs =>
    refine iteF ?_
    walk_at "go"
    refine q_ixT hs (atI_nat (j := 0) rfl) ?_
    refine ⟨_, _, rfl, rfl, .inr ⟨C.n0 "either" (by decide), ?_⟩⟩
    walk_at "go"
    exact q p H S
  | loop b =>
    refine iteF ?_
    walk_at "go"
    refine q_ixT hs (atI_nat (j := 0) rfl) ?_
    refine ⟨_, _, rfl, rfl, .inr ⟨C.n0 "loop" (by decide), ?_⟩⟩
    walk_at "go"
    exact q p H S
  | two wd v u =>
    subst hm
    rw [Stm.Ok] at ok
    refine iteDN (w2_ne _ ok.1).2.2.1 ?_
    walk_at "go"
    refine ⟨_, _, rfl, rfl, .inl ⟨_, C.n2 _ ok.1, ?_⟩⟩
    walk_at "go"
    refine r_sufT (n := 1) S hs (by decide) (by simp) fun p H S => ?_
    have S : Sep (pt p (.tup [.str v, .str u]) :: hp G :: R) H := S
    refine ⟨p, [.str v, .str u], rfl, .inr (by walk_at "st"), fun p2 np => ?_⟩
    have S := S.new (.lst [.str v, .str u]) np
    exact q p2 _ (S.s2 (A := pt p2 (.lst [.str v, .str u])) (B := hp G) (by walk_at "sel"))
  | one wd v =>
    subst hm
    rw [Stm.Ok] at ok
    refine iteDN (w1_ne _ ok.1).2.2.1 ?_
    walk_at "go"
    refine ⟨_, _, rfl, rfl, .inl ⟨_, C.n1 _ ok.1, ?_⟩⟩
    walk_at "go"
    refine r_sufT (n := 1) S hs (by decide) (by simp) fun p H S => ?_
    have S : Sep (pt p (.tup [.str v]) :: hp G :: R) H := S
    refine ⟨p, [.str v], rfl, .inr (by walk_at "st"), fun p2 np => ?_⟩
    have S := S.new (.lst [.str v]) np
    exact q p2 _ (S.s2 (A := pt p2 (.lst [.str v])) (B := hp G) (by walk_at "sel"))
theorem KHas.d {d : Addr} {x : Str} {v : V} (h : KHas K w d x v) : ∃ es n, KDict K w d es n := by
  obtain ⟨es, n, u, D, _⟩ := h
  exact ⟨es, n, D⟩
theorem sc_made : FnScope N_made ["statement"] (defScope s_made) := ⟨rfl, rfl, rfl, by decide +kernel, rfl, by decide +kernel, by decide +kernel⟩
def madeV : Stm → V
  | .two _ v _ => .str v
  | .one w v => if w = "new" then .str v else .non
  | .call v _ _ _ => .str v
  | .either _ _ => .non
  | .loop _ => .non
def spMade (K : PySem.W.Frag) : Sp := fun vs H Q _ => ∃ (a : Addr) (s : Stm) (pn : Str → Prop) (G : Hp) (R : List SP), vs = [.ref a] ∧ s.Ok pn ∧ Dp K G (.ref a) s.enc ∧ Sep (hp G :: R) H ∧ ∀ H', Sep (hp G :: R) H' → Q (madeV s) H'
theorem mk1 : ∀ x ∈ w1S, (x ∈ makingS ↔ x = ("new" : Str)) := by decide +kernel
theorem mk2 : ∀ x ∈ w2S, (x ∈ makingS ↔ (1 : Nat) = 1) := by decide +kernel
theorem no_le {H : Hp} : Le (fun _ => none) H := fun _ _ (e : (none : Option HO) = some _) => (Option.noConfusion rfl (heq_of_eq e))
theorem ok_made {f : Addr} (F : Dt K mg "made" s_made ["statement"] f) (T : Tx K mg f_NAMES_IN f_MAKING f_COPYING f_SHARING) (C : KC K w f_NAMES_IN f_MAKING f_COPYING f_SHARING) : Df P w K mg base 1 "made" f ["statement"] (spMade K) := by
  refine F.ok sc_made (fun vs H Q E h => ?_) (fun cdv A outer s H vs Q E hr h => ?_)
  · obtain ⟨a, s, pn, G, R, rfl, _⟩ := h
    rfl
  obtain ⟨a, st, pn, G, R, rfl, ok, hx, S, q⟩ := h
  refine ⟨_, (pss_one (ps_ret (pe_ifExp (pt_cmpR (r := rIn K false) op_in_seq (pe_ix (r := rIx K) ix_seq (pv 0) pe_int (fun _ _ => rfl)) (pe_glob (v := .ref f_MAKING) rfl T.g_MAKING rfl) (by rfl)) (pe_ix (r := rIx K) ix_seq (pv 0) pe_int (fun _ _ => rfl)) pe_non))), ?_⟩
  obtain ⟨a', xs, e, hs, hm⟩ := stm_sq hx
  cases e
  have hs := hp_sqT S hs
  walk_at "go"
  refine q_ixT hs (atI_nat (j := 0) rfl) ?_
  walk_at "go"
  refine r_in_strs (.inr (SqT.le no_le C.mkg)) ?_
  walk_at "go"
  cases st with
  | call v f t as =>
    refine iteD (show ("call" : Str) ∈ makingS by decide) ?_
    obtain ⟨y, rfl, hy⟩ := hm
    walk_at "go"
    exact q H S
  | either t bs =>
    refine iteDN (show ("either" : Str) ∉ makingS by decide) ?_
    walk_at "go"
    exact q H S
  | loop b =>
    refine iteDN (show ("loop" : Str) ∉ makingS by decide) ?_
    walk_at "go"
    exact q H S
  | two wd v u =>
    subst hm
    rw [Stm.Ok] at ok
    refine iteD ((mk2 _ ok.1).mpr rfl) ?_
    walk_at "go"
    exact q H S
  | one wd v =>
    subst hm
    rw [Stm.Ok] at ok
    rw [madeV] at q
    by_cases e : wd = "new"
    · rw [if_pos e] at q
      refine iteD ((mk1 _ ok.1).mpr e) ?_
      walk_at "go"
      exact q H S
    · rw [if_neg e] at q
      refine iteDN (fun z => e ((mk1 _ ok.1).mp z)) ?_
      walk_at "go"
      exact q H S
theorem sc_copying : FnScope N_copying ["statement"] (defScope s_copying) := ⟨rfl, rfl, rfl, by decide +kernel, rfl, by decide +kernel, by decide +kernel⟩
def turnS (f : Str → Option Str) : Stm → Option Stm
  | .two w v u => (f w).map fun x => .two x v u
  | _ => none
def dOptS (o : Option Stm) : PyData := match o with
  | none => .none
  | some s => s.enc
def spTurn (K : PySem.W.Frag) (g : Str → Option Str) : Sp := fun vs H Q _ => ∃ (a : Addr) (s : Stm) (pn : Str → Prop) (G : Hp) (R : List SP), vs = [.ref a] ∧ s.Ok pn ∧ Dp K G (.ref a) s.enc ∧ Sep (hp G :: R) H ∧
  ∀ v G' H', Le G G' → Dp K G' v (dOptS (turnS g s)) → Sep (hp G' :: R) H' → Q v H'
theorem cp1 : ∀ x ∈ w1S, cpF x = none := by decide +kernel
theorem sh1 : ∀ x ∈ w1S, shF x = none := by decide +kernel
theorem ok_copying {f : Addr} (F : Dt K mg "copying" s_copying ["statement"] f) (T : Tx K mg f_NAMES_IN f_MAKING f_COPYING f_SHARING) (C : KC K w f_NAMES_IN f_MAKING f_COPYING f_SHARING) : Df P w K mg base 1 "copying" f ["statement"] (spTurn K cpF) := by
  refine F.ok sc_copying (fun vs H Q E h => ?_) (fun cdv A outer s H vs Q E hr h => ?_)
  · obtain ⟨a, s, pn, G, R, rfl, _⟩ := h
    rfl
  obtain ⟨a, st, pn, G, R, rfl, ok, hx, S, q⟩ := h
  refine ⟨_, (pss_cons (ps_set (i := 1) sc_copying.nd rfl (by first | exact Or.inl rfl | exact Or.inr rfl) (pe_kget (pe_glob (v := .ref f_COPYING) rfl T.g_COPYING rfl) (pe_ix (r := rIx K) ix_seq (pv 0) pe_int (fun _ _ => rfl)) ⟨rfl, rfl, rfl, rfl⟩))
      (pss_one (ps_ret (pe_ifExp (pt_cmpR (r := rIsN) op_isN (pv 1) pe_non (nomark _)) pe_non (pe_tup (pa_cons (pv 1) (pa_cons (pe_ix (r := rIx K) ix_seq (pv 0) pe_int (fun _ _ => rfl)) (pa_cons (pe_ix (r := rIx K) ix_seq (pv 0) pe_int (fun _ _ => rfl)) pa_nil)))))))), ?_⟩
  obtain ⟨a', xs, e, hs, hm⟩ := stm_sq hx
  cases e
  have hs := hp_sqT S hs
  have wi := C.cp _ (word_in ok)
  walk_at "go"
  refine ⟨⟨_, rfl, KHas.d (C.cp "take" (by decide))⟩, ?_⟩
  walk_at "go"
  refine q_ixT hs (atI_nat (j := 0) rfl) ?_
  cases e1 : cpF st.word with
  | none =>
    rw [e1] at wi
    refine ⟨_, _, rfl, rfl, .inr ⟨wi, ?_⟩⟩
    have et : turnS cpF st = none := by
      cases st with
      | two wd v u => show ((cpF wd).map _) = none; rw [show cpF wd = none from e1]; rfl
      | one wd v => rfl
      | call v f t as => rfl
      | either t bs => rfl
      | loop b => rfl
    rw [et] at q
    walk_at "go"
    refine iteD rfl ?_
    walk_at "go"
    exact q .non G H Le.rfl .non S
  | some y =>
    rw [e1] at wi
    refine ⟨_, _, rfl, rfl, .inl ⟨_, wi, ?_⟩⟩
    obtain ⟨wd, v, u, rfl⟩ : ∃ wd v u, st = .two wd v u := by
      cases st with
      | two wd v u => exact ⟨_, _, _, rfl⟩
      | one wd v =>
        rw [Stm.Ok] at ok
        rw [show cpF (Stm.one wd v).word = none from cp1 wd ok.1] at e1
        cases e1
      | call v f t as => exact absurd ((show cpF "call" = none by decide +kernel).symm.trans e1) nofun
      | either t bs => exact absurd ((show cpF "either" = none by decide +kernel).symm.trans e1) nofun
      | loop b => exact absurd ((show cpF "loop" = none by decide +kernel).symm.trans e1) nofun
    subst hm
    walk_at "go"
    refine iteDN (fun h => nomatch h) ?_
    walk_at "go"
    have et : turnS cpF (.two wd v u) = some (.two y v u) := by show ((cpF wd).map _) = _; rw [show cpF wd = some y from e1]; rfl
    rw [et] at q
    obtain ⟨G2, le2, hd, S⟩ := hp_tup (K := K) S (ds := [.str y, .str v, .str u]) (.cons (.str _) (.cons (.str _) (.cons (.str _) .nil)))
    refine q _ G2 H le2 ?_ S
    show Dp K G2 _ (Stm.enc _)
    rw [Stm.enc]
    exact hd
theorem sc_sharing : FnScope N_sharing ["statement"] (defScope s_sharing) := ⟨rfl, rfl, rfl, by decide +kernel, rfl, by decide +kernel, by decide +kernel⟩
theorem ok_sharing {f : Addr} (F : Dt K mg "sharing" s_sharing ["statement"] f) (T : Tx K mg f_NAMES_IN f_MAKING f_COPYING f_SHARING) (C : KC K w f_NAMES_IN f_MAKING f_COPYING f_SHARING) : Df P w K mg base 1 "sharing" f ["statement"] (spTurn K shF) := by
  refine F.ok sc_sharing (fun vs H Q E h => ?_) (fun cdv A outer s H vs Q E hr h => ?_)
  · obtain ⟨a, s, pn, G, R, rfl, _⟩ := h
    rfl
  obtain ⟨a, st, pn, G, R, rfl, ok, hx, S, q⟩ := h
  refine ⟨_, (pss_cons (ps_set (i := 1) sc_sharing.nd rfl (by first | exact Or.inl rfl | exact Or.inr rfl) (pe_kget (pe_glob (v := .ref f_SHARING) rfl T.g_SHARING rfl) (pe_ix (r := rIx K) ix_seq (pv 0) pe_int (fun _ _ => rfl)) ⟨rfl, rfl, rfl, rfl⟩))
      (pss_one (ps_ret (pe_ifExp (pt_cmpR (r := rIsN) op_isN (pv 1) pe_non (nomark _)) pe_non (pe_tup (pa_cons (pv 1) (pa_cons (pe_ix (r := rIx K) ix_seq (pv 0) pe_int (fun _ _ => rfl)) (pa_cons (pe_ix (r := rIx K) ix_seq (pv 0) pe_int (fun _ _ => rfl)) pa_nil)))))))), ?_⟩
  obtain ⟨a', xs, e, hs, hm⟩ := stm_sq hx
  cases e
  have hs := hp_sqT S hs
  have wi := C.sh _ (word_in ok)
  walk_at "go"
  refine ⟨⟨_, rfl, KHas.d (C.sh "copy" (by decide))⟩, ?_⟩
  walk_at "go"
  refine q_ixT hs (atI_nat (j := 0) rfl) ?_
  cases e1 : shF st.word with
  | none =>
    rw [e1] at wi
    refine ⟨_, _, rfl, rfl, .inr ⟨wi, ?_⟩⟩
    have et : turnS shF st = none := by
      cases st with
      | two wd v u => show ((shF wd).map _) = none; rw [show shF wd = none from e1]; rfl
      | one wd v => rfl
      | call v f t as => rfl
      | either t bs => rfl
      | loop b => rfl
    rw [et] at q
    walk_at "go"
    refine iteD rfl ?_
    walk_at "go"
    exact q .non G H Le.rfl .non S
  | some y =>
    rw [e1] at wi
    refine ⟨_, _, rfl, rfl, .inl ⟨_, wi, ?_⟩⟩
    obtain ⟨wd, v, u, rfl⟩ : ∃ wd v u, st = .two wd v u := by
      cases st with
      | two wd v u => exact ⟨_, _, _, rfl⟩
      | one wd v =>
        rw [Stm.Ok] at ok
        rw [show shF (Stm.one wd v).word = none from sh1 wd ok.1] at e1
        cases e1
      | call v f t as => exact absurd ((show shF "call" = none by decide +kernel).symm.trans e1) nofun
      | either t bs => exact absurd ((show shF "either" = none by decide +kernel).symm.trans e1) nofun
      | loop b => exact absurd ((show shF "loop" = none by decide +kernel).symm.trans e1) nofun
    subst hm
    walk_at "go"
    refine iteDN (fun h => nomatch h) ?_
    walk_at "go"
    have et : turnS shF (.two wd v u) = some (.two y v u) := by show ((shF wd).map _) = _; rw [show shF wd = some y from e1]; rfl
    rw [et] at q
    obtain ⟨G2, le2, hd, S⟩ := hp_tup (K := K) S (ds := [.str y, .str v, .str u]) (.cons (.str _) (.cons (.str _) (.cons (.str _) .nil)))
    refine q _ G2 H le2 ?_ S
    show Dp K G2 _ (Stm.enc _)
    rw [Stm.enc]
    exact hd
end
end Pf

set_option Elab.async false
set_option linter.all false
set_option maxRecDepth 100000
set_option maxHeartbeats 4000000
namespace Pf
open PySem L2 Kt
set_option hygiene false
local macro_rules | `(tactic| walk_at "mem") => `(tactic| (with_reducible (repeat (first | exact Pick.hd | apply Pick.tl)); done))
local macro_rules | `(tactic| walk_at "rep") => `(tactic| (with_reducible (repeat (first | exact Repl.hd | apply Repl.tl)); done))
local macro_rules | `(tactic| walk_at "sel") => `(tactic| ((repeat (with_reducible apply Sel.cons; (focus walk_at "mem"))); (with_reducible apply Sel.nil); (with_reducible (repeat (first | exact Dr.all | apply Dr.skip)); done)))
local macro_rules | `(tactic| walk_at "at") => `(tactic| (refine' Sep.at_ (by assumption) ?kkpk; (case kkpk => walk_at "mem")))
local macro_rules | `(tactic| walk_at "sq") => `(tactic| first | assumption | (refine' Sep.sq (by assumption) ?kkpk; (case kkpk => walk_at "mem")))
local macro_rules | `(tactic| walk_at "st") => `(tactic| first | assumption | (refine' Sep.st (by assumption) ?kkpk; (case kkpk => walk_at "mem")))
local macro_rules | `(tactic| walk_at "lk") => `(tactic| (repeat (first | (with_reducible exact lk_eq) | exact rfl | refine (lk_ne (by decide +kernel)).trans ?_)))
local macro_rules | `(tactic| walk_at "pf") => `(tactic| (repeat (first | (with_reducible exact pf_nil) | (with_reducible exact pf_eq) | (apply pf_ne; (focus decide +kernel)))))
local macro_rules | `(tactic| walk_at "ty") => `(tactic| first | exact ty_int | (refine' ty_lst ?kkh; (case kkh => walk_at "at")))
local macro_rules | `(tactic| walk_at "k1") => `(tactic| with_reducible first
  | refine q_seq ?_ | refine q_set ?_ | refine q_asg ?_ | refine q_ret ?_ | refine q_drop ?_ | refine q_next ?_ | refine q_c ?_ | refine q_op ?_ | refine q_un ?_ | refine q_nil ?_ | refine q_cons ?_ | refine q_cb ?_
  | refine q_call ?_ | refine q_ifs ?_ | refine q_if ?_ | refine q_test ?_ | refine q_tb ?_ | refine q_bl ?_ | refine q_notT ?_ | refine q_andT ?_ | refine q_orT ?_ | refine q_andV ?_ | refine q_orV ?_ | refine q_notV ?_
  | refine q_addA ?_ | refine q_subI ?_ | refine q_ltI ?_ | refine q_leI ?_ | refine q_gtI ?_ | refine q_geI ?_ | refine q_eqI ?_ | refine q_neI ?_ | refine q_abs ?_ | refine q_int ?_ | refine q_intB ?_ | refine q_max ?_ | refine q_min ?_
  | refine q_ipAdd ?_ | refine q_ipSub ?_ | refine q_gsub ?_ | refine q_augs ?_ | refine q_lst ?_ | refine q_tup ?_ | refine q_blI ?_ | refine iteT ?_ | refine iteF ?_ | refine iteNT ?_ | refine iteNF ?_
  | refine r_prop ?_ | refine r_fld ?_ | refine r_sfld ?_ | refine r_meth ?_ | refine r_make ?_ | refine r_sl ?_ | refine r_nopart ?_ | refine r_part ?_ | refine r_parti ?_ | refine r_gsl ?_ | refine r_bm ?_ | refine r_bm0 ?_ | refine r_for ?_ | refine r_ilist ?_ | refine r_irng ?_
  | refine r_gname ?_ | refine r_gcons ?_ | refine r_gnil ?_ | refine r_par ?_ | refine r_parA ?_ | refine r_chain ?_ | refine r_isN ?_ | refine r_tlc ?_ | refine r_yes ?_ | refine r_makek ?_ | refine r_neg ?_)
local macro_rules | `(tactic| walk_at "k2") => `(tactic| first
  | ((with_reducible refine' q_var ?kke ?_); (case kke => rfl))
  | ((with_reducible refine' q_aug ?kke ?_); (case kke => rfl))
  | ((with_reducible refine' q_ixL ?kks ?kke ?_); (case kks => walk_at "sq"); (case kke => first | rfl | assumption))
  | ((with_reducible refine' q_ixT ?kks ?kke ?_); (case kks => walk_at "st"); (case kke => first | rfl | assumption))
  | ((with_reducible refine' q_ixLL ?kks ?kke ?_); (case kks => walk_at "sq"); (case kke => first | rfl | assumption))
  | ((with_reducible refine' q_lenL ?kks ?_); (case kks => walk_at "sq"))
  | ((with_reducible refine' q_mulI ?kkc ?_); (case kkc => first | exact .inl (by omega) | exact .inr (by omega)))
  | ((with_reducible refine' q_modI ?kkc ?_); (case kkc => omega))
  | ((with_reducible refine' q_divI ?kkc ?_); (case kkc => exact ⟨by omega, by omega⟩))
  | ((with_reducible refine' q_powI ?kkc ?_); (case kkc => exact ⟨by decide, by decide, by decide⟩))
  | ((with_reducible refine' r_kfld ?kkS ?kkp ?kkc ?kkn ?kkl ?_); (case kkS => assumption); (case kkp => walk_at "mem"); (case kkc => walk_at "cls"); (case kkn => walk_at "na"); (case kkl => walk_at "lk"))
  | ((with_reducible refine' r_kprop ?kkS ?kkp ?_); (case kkS => assumption); (case kkp => walk_at "mem"))
  | ((with_reducible refine' r_kmeth ?kkS ?kkp ?kkl ?_); (case kkS => assumption); (case kkp => walk_at "mem"); (case kkl => walk_at "lk"))
  | ((with_reducible refine' r_calll ?kks ?_); (case kks => rfl))
  | ((with_reducible refine' r_tyl ?kks ?_); (case kks => walk_at "sq"))
  | ((with_reducible refine' r_isi (k := true) ?kkt ?kke ?_); (case kkt => walk_at "ty"); (case kke => decide +kernel))
  | ((with_reducible refine' r_isi (k := false) ?kkt ?kke ?_); (case kkt => walk_at "ty"); (case kke => decide +kernel)))
local macro_rules | `(tactic| walk_at "k3") => `(tactic| first
  | ((with_reducible refine' q_setS ?kkS ?kkr ?kke ?_); (case kkS => assumption); (case kkr => walk_at "rep"); (case kke => rfl); intro H S)
  | ((with_reducible refine' r_kset ?kkS ?kkr ?kkc ?kkn ?kkl ?kke ?_); (case kkS => assumption); (case kkr => walk_at "rep"); (case kkc => walk_at "cls"); (case kkn => walk_at "na"); (case kkl => first | exact Nat.le_of_ble_eq_true rfl | assumption | omega | (simp; done) | (simp; omega)); (case kke => walk_at "pf"); intro H S)
  | ((with_reducible refine' q_new ?kkS ?kkl ?_); (case kkS => assumption); (case kkl => first | exact Nat.le_of_ble_eq_true rfl | assumption | omega | (simp; done) | (simp; omega)); intro p H S)
  | ((with_reducible refine' q_newT ?kkS ?kkl ?_); (case kkS => assumption); (case kkl => first | exact Nat.le_of_ble_eq_true rfl | assumption | omega | (simp; done) | (simp; omega)); intro p H S)
  | ((with_reducible refine' r_knew ?kkS ?_); (case kkS => assumption); intro x dx H S)
  | ((with_reducible refine' r_knewk ?kkS ?kkl1 ?kkl2 ?_); (case kkS => assumption); (case kkl1 => rfl); (case kkl2 => rfl); intro x dx H S)
  | ((with_reducible refine' r_ksl ?kkS ?kks ?_); (case kkS => assumption); (case kks => walk_at "sq"); intro p H S)
  | ((with_reducible refine' r_list ?kkS ?kks ?_); (case kkS => assumption); (case kks => walk_at "sq"); intro p H S)
  | ((with_reducible refine' r_cat ?kkS ?kks1 ?kks2 ?kkz ?_); (case kkS => assumption); (case kks1 => walk_at "at"); (case kks2 => walk_at "at"); (case kkz => first | omega | (simp; omega)); intro p H S)
  | ((with_reducible refine' r_append ?kkS ?kkr ?kkz ?_); (case kkS => assumption); (case kkr => walk_at "rep"); (case kkz => first | omega | (simp; omega)); intro H S)
  | ((with_reducible refine' r_reverse ?kkS ?kkr ?_); (case kkS => assumption); (case kkr => walk_at "rep"); intro H S)
  | ((with_reducible refine' r_clear ?kkS ?kkr ?_); (case kkS => assumption); (case kkr => walk_at "rep"); intro H S))
local macro_rules | `(tactic| walk_at "gn") => `(tactic| repeat (first | walk_at "k1" | walk_at "k2"))
local macro_rules | `(tactic| walk_at "go") => `(tactic| repeat (first | walk_at "k1" | walk_at "k2" | walk_at "k3"))

local macro_rules | `(tactic| walk_at "sq") => `(tactic| first | assumption | (refine' Sep.sq ?kkS ?kkpk; (case kkS => assumption); (case kkpk => walk_at "mem")) | (refine' hp_sqL ?kkS ?kkx; (case kkS => assumption); (case kkx => assumption)) | (refine' hp_sqL (Sep.tl ?kkS) ?kkx; (case kkS => assumption); (case kkx => assumption)) | (refine' hp_sqL (Sep.tl (Sep.tl ?kkS)) ?kkx; (case kkS => assumption); (case kkx => assumption)))
local macro_rules | `(tactic| walk_at "st") => `(tactic| first | assumption | (refine' Sep.st ?kkS ?kkpk; (case kkS => assumption); (case kkpk => walk_at "mem")) | (refine' hp_sqT ?kkS ?kkx; (case kkS => assumption); (case kkx => assumption)) | (refine' hp_sqT (Sep.tl ?kkS) ?kkx; (case kkS => assumption); (case kkx => assumption)) | (refine' hp_sqT (Sep.tl (Sep.tl ?kkS)) ?kkx; (case kkS => assumption); (case kkx => assumption)))
local macro_rules | `(tactic| walk_at "k1") => `(tactic| with_reducible first | refine r_ienumT ?_ | refine r_tru ?_ | refine r_itup ?_ | refine r_star ?_ | refine r_par3 ?_ | refine r_parA3 ?_ | refine r_dget ?_ | refine r_din ?_ | refine r_dnotin ?_ | refine r_dput ?_)

local macro_rules | `(tactic| walk_at "k1") => `(tactic| with_reducible first | refine r_kget ?_ | refine r_orT ?_ | refine r_slA ?_ | refine r_m1 ?_ | refine r_isS ?_)

def readS : Stm → List Str
  | .two _ _ u => [u]
  | .one w v => if w = "new" then [] else [v]
  | .call _ _ _ as => setS as
  | .either _ _ => []
  | .loop _ => []
def rdW : List Str := ["set", "keep", "look"]
theorem rd1 : ∀ x ∈ w1S, (x ∈ rdW ↔ x ≠ ("new" : Str)) := by decide +kernel
theorem rd2 : ∀ x ∈ w2S, x ∉ rdW := by decide +kernel
section
variable {P : Program} {w : World} {K : PySem.W.Frag} {mg : Str → Option Value} {base : Heap} {f_NAMES_IN f_MAKING f_COPYING f_SHARING : Addr}
theorem sc_read : FnScope N_read ["statement"] (defScope s_read) := ⟨rfl, rfl, rfl, by decide +kernel, rfl, by decide +kernel, by decide +kernel⟩
def spRead (K : PySem.W.Frag) : Sp := fun vs H Q _ => ∃ (a : Addr) (s : Stm) (pn : Str → Prop) (G : Hp) (R : List SP), vs = [.ref a] ∧ s.Ok pn ∧ s.own.length ≤ 1000 ∧ Dp K G (.ref a) s.enc ∧ Sep (hp G :: R) H ∧
  ∀ p H', Sep (pt p (.lst ((readS s).map V.str)) :: hp G :: R) H' → Q (.ref p) H'
theorem ok_read {f : Addr} (F : Dt K mg "read" s_read ["statement"] f) (T : Tx K mg f_NAMES_IN f_MAKING f_COPYING f_SHARING) (C : KC K w f_NAMES_IN f_MAKING f_COPYING f_SHARING) : Df P w K mg base 1 "read" f ["statement"] (spRead K) := by
  refine F.ok sc_read (fun vs H Q E h => ?_) (fun cdv A outer s H vs Q E hr h => ?_)
  · obtain ⟨a, s, pn, G, R, rfl, _⟩ := h
    rfl
  obtain ⟨a, st, pn, G, R, rfl, ok, hl, hx, S, q⟩ := h
  refine ⟨_, (pss_cons (ps_set (i := 1) sc_read.nd rfl (by first | exact Or.inl rfl | exact Or.inr rfl) (pe_ix (r := rIx K) ix_seq (pv 0) pe_int (fun _ _ => rfl)))
      (pss_cons (ps_if (pt_cmpR (r := rEqA K) (op_eqA hr.units) (pv 1) pe_str (nomark _)) (pss_one (ps_ret (pe_callB (r := rSortB K P w) (cr_sortB rfl hr.units) (by rfl) T.z_sorted (by decide +kernel) (pa_cons (pe_callTy (r := rSetB K P w) (cr_setB rfl) (by rfl) T.z_set (by decide +kernel) (pa_cons (pe_ix (r := rIx K) ix_seq (pv 0) pe_int (fun _ _ => rfl)) pa_nil)) pa_nil)))) pss_nil)
      (pss_cons (ps_if (pt_cmpR (r := rIn K false) op_in_seq (pv 1) (pe_tup (pa_cons pe_str (pa_cons pe_str (pa_cons pe_str pa_nil)))) (by rfl)) (pss_one (ps_ret (pe_lst (pa_cons (pe_ix (r := rIx K) ix_seq (pv 0) pe_int (fun _ _ => rfl)) pa_nil)))) pss_nil)
      (pss_one (ps_ret (pe_ifExp (pt_cmpR (r := rEqA K) (op_eqA hr.units) (pe_kget (pe_glob (v := .ref f_NAMES_IN) rfl T.g_NAMES_IN rfl) (pv 1) ⟨rfl, rfl, rfl, rfl⟩) pe_int (nomark _)) (pe_lst (pa_cons (pe_ix (r := rIx K) ix_seq (pv 0) pe_int (fun _ _ => rfl)) pa_nil)) (pe_lst pa_nil))))))), ?_⟩
  obtain ⟨a', xs, e, hs, hm⟩ := stm_sq hx
  cases e
  have hG := hs
  have hs := hp_sqT S hs
  walk_at "go"
  refine q_ixT hs (atI_nat (j := 0) rfl) ?_
  walk_at "go"
  refine r_eqS ?_
  walk_at "go"
  cases st with
  | call v f t as =>
    refine iteT ?_
    obtain ⟨y, rfl, hy⟩ := hm
    obtain ⟨ya, ys, rfl, hys, hda⟩ := dp_sqInv hy
    rw [dpall_strsInv hda] at hys
    walk_at "go"
    refine .inr (r_setX S (sq_le (hp_le S) hys) (by simp [Stm.own] at hl; omega) fun sp ks H nd hm hk S => ?_)
    walk_at "go"
    refine .inr (r_sortSetX S S.hd_at (by simp [Stm.own] at hl; omega) fun p H S => ?_)
    rw [set_eq nd hm] at S
    exact q p H (S.s2 (A := pt p (.lst ((setS as).map V.str))) (B := hp G) (by walk_at "sel"))
  | either t bs =>
    refine iteF ?_
    walk_at "go"
    have S : Sep (pt p (.tup (rdW.map V.str)) :: hp G :: R) H := S
    refine r_in_strs (.inr (by walk_at "st")) ?_
    walk_at "go"
    refine iteDN (show ("either" : Str) ∉ rdW by decide) ?_
    walk_at "go"
    refine ⟨⟨_, rfl, KHas.d (C.n1 "new" (by decide))⟩, ?_⟩
    walk_at "go"
    refine ⟨_, _, rfl, rfl, .inr ⟨C.n0 "either" (by decide), ?_⟩⟩
    refine .inl ⟨rfl, ?_⟩
    walk_at "go"
    refine iteDN (fun h => nomatch h) ?_
    walk_at "go"
    exact q _ H (S.s2 (A := pt p (.lst [])) (B := hp G) (by walk_at "sel"))
  | loop b =>
    refine iteF ?_
    walk_at "go"
    have S : Sep (pt p (.tup (rdW.map V.str)) :: hp G :: R) H := S
    refine r_in_strs (.inr (by walk_at "st")) ?_
    walk_at "go"
    refine iteDN (show ("loop" : Str) ∉ rdW by decide) ?_
    walk_at "go"
    refine ⟨⟨_, rfl, KHas.d (C.n1 "new" (by decide))⟩, ?_⟩
    walk_at "go"
    refine ⟨_, _, rfl, rfl, .inr ⟨C.n0 "loop" (by decide), ?_⟩⟩
    refine .inl ⟨rfl, ?_⟩
    walk_at "go"
    refine iteDN (fun h => nomatch h) ?_
    walk_at "go"
    exact q _ H (S.s2 (A := pt p (.lst [])) (B := hp G) (by walk_at "sel"))
  | two wd v u =>
    subst hm
    rw [Stm.Ok] at ok
    refine iteDN (w2_ne _ ok.1).2.2.1 ?_
    walk_at "go"
    have S : Sep (pt p (.tup (rdW.map V.str)) :: hp G :: R) H := S
    refine r_in_strs (.inr (by walk_at "st")) ?_
    walk_at "go"
    refine iteDN (rd2 _ ok.1) ?_
    walk_at "go"
    refine ⟨⟨_, rfl, KHas.d (C.n1 "new" (by decide))⟩, ?_⟩
    walk_at "go"
    refine ⟨_, _, rfl, rfl, .inl ⟨_, C.n2 _ ok.1, ?_⟩⟩
    walk_at "go"
    refine iteD rfl ?_
    have hs2 := hp_sqT (S.s1 (A := hp G) (by walk_at "sel")) hG
    walk_at "go"
    exact q _ H (S.s2 (A := pt p (.lst [.str u])) (B := hp G) (by walk_at "sel"))
  | one wd v =>
    subst hm
    rw [Stm.Ok] at ok
    refine iteDN (w1_ne _ ok.1).2.2.1 ?_
    walk_at "go"
    have S : Sep (pt p (.tup (rdW.map V.str)) :: hp G :: R) H := S
    refine r_in_strs (.inr (by walk_at "st")) ?_
    walk_at "go"
    have hs2 := hp_sqT (S.s1 (A := hp G) (by walk_at "sel")) hG
    rw [readS] at q
    by_cases e : wd = "new"
    · rw [if_pos e] at q
      refine iteDN (fun z => (rd1 _ ok.1).mp z e) ?_
      walk_at "go"
      refine ⟨⟨_, rfl, KHas.d (C.n1 "new" (by decide))⟩, ?_⟩
      walk_at "go"
      refine ⟨_, _, rfl, rfl, .inl ⟨_, C.n1 _ ok.1, ?_⟩⟩
      walk_at "go"
      refine iteDN (by decide) ?_
      walk_at "go"
      exact q _ H (S.s2 (A := pt p (.lst [])) (B := hp G) (by walk_at "sel"))
    · rw [if_neg e] at q
      refine iteD ((rd1 _ ok.1).mpr e) ?_
      walk_at "go"
      exact q _ H (S.s2 (A := pt p (.lst [.str v])) (B := hp G) (by walk_at "sel"))
theorem sc_named : FnScope N_named ["statement"] (defScope s_named) := ⟨rfl, rfl, rfl, by decide +kernel, rfl, by decide +kernel, by decide +kernel⟩
def spNamed (K : PySem.W.Frag) : Sp := fun vs H Q _ => ∃ (a : Addr) (s : Stm) (pn : Str → Prop) (G : Hp) (R : List SP), vs = [.ref a] ∧ s.Ok pn ∧ s.names.length ≤ 1000 ∧ s.size ≤ 1000 ∧ Dp K G (.ref a) s.enc ∧ Sep (hp G :: R) H ∧
  ∀ p H', Sep (pt p (.lst ((setS s.names).map V.str)) :: hp G :: R) H' → Q (.ref p) H'
theorem ok_named {f f1 f2 : Addr} (F : Dt K mg "named" s_named ["statement"] f) (T : Tx K mg f_NAMES_IN f_MAKING f_COPYING f_SHARING) (D_own_names : Df P w K mg base 1 "own_names" f1 ["statement"] (spOwn K)) (D_inner_bodies : Df P w K mg base 1 "inner_bodies" f2 ["statement"] (spInner K)) : Df P w K mg base 2 "named" f ["statement"] (spNamed K) := by
  refine F.ok sc_named (fun vs H Q E h => ?_) (fun cdv A outer s H vs Q E hr h => ?_)
  · obtain ⟨a, s, pn, G, R, rfl, _⟩ := h
    rfl
  obtain ⟨a, st, pn, G, R, rfl, ok, hl, hsz, hx, S, q⟩ := h
  refine ⟨_, (pss_cons (ps_set (i := 1) sc_named.nd rfl (by first | exact Or.inl rfl | exact Or.inr rfl) (pe_lst pa_nil))
      (pss_cons (ps_set (i := 2) sc_named.nd rfl (by first | exact Or.inl rfl | exact Or.inr rfl) (pe_lst (pa_cons (pv 0) pa_nil)))
      (pss_cons (ps_while PassesOwn.never (pt_truK K (pv 2)) (pss_cons (ps_set (i := 3) sc_named.nd rfl (by first | exact Or.inl rfl | exact Or.inr rfl) (pe_bm0K K PySem.F.plainAttrs_list PySem.F.slot_list_pop PySem.F.type_list_pop mt_pop (pv 2)))
      (pss_cons (ps_expr (pe_bmK K PySem.F.plainAttrs_list PySem.F.slot_list_extend PySem.F.type_list_extend (mt_extendAK K) (pv 1) (pa_cons (pe_df D_own_names (hr.mono (by first | decide | omega)) (pa_cons (pv 3) pa_nil)) pa_nil)))
      (pss_one (ps_for PassesOwn.never rfl (pi_listK K (pe_df D_inner_bodies (hr.mono (by first | decide | omega)) (pa_cons (pv 3) pa_nil))) (pg_name (i := 4) sc_named.nd rfl (by first | exact Or.inl rfl | exact Or.inr rfl)) (pss_one (ps_expr (pe_bmK K PySem.F.plainAttrs_list PySem.F.slot_list_extend PySem.F.type_list_extend (mt_extendAK K) (pv 2) (pa_cons (pv 4) pa_nil)))))))))
      (pss_one (ps_ret (pe_callB (r := rSortB K P w) (cr_sortB rfl hr.units) (by rfl) T.z_sorted (by decide +kernel) (pa_cons (pe_callTy (r := rSetB K P w) (cr_setB rfl) (by rfl) T.z_set (by decide +kernel) (pa_cons (pv 1) pa_nil)) pa_nil))))))), ?_⟩
  walk_at "go"
  rename_i Fd _ _
  obtain ⟨W, rfl⟩ : ∃ z, z = p := ⟨p, rfl⟩
  have S : Sep (pt W (.lst [.ref a]) :: pt Fd (.lst (([] : List Str).map V.str)) :: hp G :: R) H := S
  refine r_while (fun m σ Ps => ∃ (fs : List Str) (ws : List Stm) (xs : List V) (u3 u4 : Option V), σ = [some (.ref a), some (.ref Fd), some (.ref W), u3, u4] ∧ m = sizeSs ws ∧ sizeSs ws ≤ 1000 ∧ (∀ s ∈ ws, s.Ok pn) ∧ DpAll K G xs (ws.map Stm.enc) ∧ fs.length + (namesSs ws).length = st.names.length ∧ (∀ x, x ∈ fs ∨ x ∈ namesSs ws ↔ x ∈ st.names) ∧
    Ps = pt W (.lst xs) :: pt Fd (.lst (fs.map V.str)) :: hp G :: R) (sizeSs [st]) S ⟨[], [st], [.ref a], _, _, rfl, rfl, by rw [sizeSs, sizeSs]; omega, by simpa using ok, .cons hx .nil, by rw [namesSs, namesSs]; simp, fun x => by rw [namesSs, namesSs]; simp, rfl⟩ ?_
  clear S
  rintro m σ Ps H ⟨fs, ws, xs, u3, u4, rfl, rfl, hz, hok, hda, hn, hm, rfl⟩ S
  walk_at "go"
  refine r_truL (by walk_at "sq") ?_
  rcases List.eq_nil_or_concat ws with rfl | ⟨ws, item, rfl⟩
  · cases hda
    refine iteF ?_
    walk_at "go"
    rw [namesSs, List.length_nil] at hn
    have hm : ∀ x, x ∈ fs ↔ x ∈ st.names := fun x => by
      have := hm x
      rw [namesSs] at this
      simpa using this
    refine .inr (r_setX S (.inl (by walk_at "sq")) (by omega) fun sp ks H nd hm2 hk S => ?_)
    walk_at "go"
    refine .inr (r_sortSetX S S.hd_at (by omega) fun p H S => ?_)
    rw [set_eq nd fun x => (hm2 x).trans (hm x)] at S
    exact q p H (S.s2 (A := pt p (.lst ((setS st.names).map V.str))) (B := hp G) (by walk_at "sel"))
  · rw [List.concat_eq_append] at hz hok hda hn hm
    rw [List.map_append] at hda
    obtain ⟨xs, y, rfl, hdw, hit⟩ := dpall_snocInv hda
    have oki := hok item (by simp)
    rw [sizeSs_app] at hz
    rw [namesSs_app] at hn
    have h1 : namesSs [item] = item.names := by rw [namesSs, namesSs, List.append_nil]
    have h2 : sizeSs [item] = item.size := by rw [sizeSs, sizeSs, Nat.add_zero]
    rw [h1] at hn
    rw [h2] at hz
    rw [List.concat_eq_append, sizeSs_app, h2]
    have hns := stm_names item
    have hss := stm_size item
    have hil := inner_len oki
    rw [List.length_append] at hn
    have hnl : item.names.length = item.own.length + (namesSs (item.inner.flatMap Bdy.list)).length := by rw [hns, List.length_append]
    obtain ⟨ia, ixs, rfl, _⟩ := stm_sq hit
    refine iteB (by simp) ?_
    refine wh_go ?_
    walk_at "go"
    refine r_pop S fun H S => ?_
    walk_at "go"
    refine ⟨ia, item, pn, G, _, rfl, oki, by omega, hit, S.s3 (A := hp G) (B := pt W (.lst xs)) (C := pt Fd (.lst (fs.map V.str))) (by walk_at "sel"), fun p H S => ?_⟩
    walk_at "go"
    refine r_extA (K := K) (a := Fd) (b := p) (xs := fs.map V.str) (zs := item.own.map V.str) S (by walk_at "rep") (.inl (by walk_at "sq")) (by rw [List.length_map, List.length_map]; omega) fun H S => ?_
    rw [← List.map_append] at S
    walk_at "go"
    refine ⟨ia, item, pn, G, pt W (.lst xs) :: pt Fd (.lst ((fs ++ item.own).map V.str)) :: R, rfl, oki, by omega, hit, S.s3 (A := hp G) (B := pt W (.lst xs)) (C := pt Fd (.lst ((fs ++ item.own).map V.str))) (by walk_at "sel"), fun p2 ys H hys S => ?_⟩
    have hyl : ys.length = item.inner.length := by rw [dpall_len hys, List.length_map]
    refine r_for_list (xs := ys) (fun i σ Ps => ∃ (zs : List V) (u4 : Option V), σ = [some (.ref a), some (.ref Fd), some (.ref W), some (.ref ia), u4] ∧ DpAll K G zs (((item.inner.take i).flatMap Bdy.list).map Stm.enc) ∧ Ps = pt p2 (.lst ys) :: hp G :: pt W (.lst (xs ++ zs)) :: pt Fd (.lst ((fs ++ item.own).map V.str)) :: R) (by rw [List.append_nil]; exact S) ⟨[], _, rfl, .nil, rfl⟩ (fun i σ Ps H hi ⟨_, _, _, _, e⟩ S => by subst e; walk_at "sq") ?_ ?_
    · rintro i x σ Ps H hi ⟨zs, u4, rfl, hzs, rfl⟩ S
      obtain ⟨d, hd, hxd⟩ := dpall_at hys hi
      rw [List.getElem?_map] at hd
      cases eb : item.inner[i]? with
      | none => rw [eb] at hd; cases hd
      | some b =>
      rw [eb] at hd
      cases hd
      obtain ⟨tb, etb⟩ := bdy_enc b
      rw [etb] at hxd
      obtain ⟨ba, bys, rfl, hbs, hbd⟩ := dp_sqInv hxd
      have st1 : (item.inner.take (i + 1)).flatMap Bdy.list = (item.inner.take i).flatMap Bdy.list ++ b.list := by
        rw [List.take_add_one, eb, List.flatMap_append]
        simp
      have hcap : (xs ++ zs).length + bys.length ≤ 100000 := by
        have c1 := size_len ws
        have c2 := size_len ((item.inner.take (i + 1)).flatMap Bdy.list)
        have c3 := size_pre item.inner (i + 1)
        have c4 := dpall_len hdw
        have c5 := dpall_len hzs
        have c6 := dpall_len hbd
        rw [st1, List.length_append, ← st1] at c2
        rw [List.length_map] at c4 c5 c6
        rw [List.length_append]
        omega
      walk_at "go"
      refine r_extA (K := K) (a := W) (b := ba) (xs := xs ++ zs) (zs := bys) S (by walk_at "rep") (sq_le (hp_le S.tl) hbs) hcap fun H S => ?_
      walk_at "go"
      refine ⟨_, ⟨zs ++ bys, _, rfl, ?_, rfl⟩, by rw [← List.append_assoc]; exact S⟩
      rw [st1, List.map_append]
      exact dpall_app hzs hbd
    · rintro σ Ps H ⟨zs, u4, rfl, hzs, rfl⟩ S
      rw [hyl, List.take_length] at hzs
      walk_at "go"
      refine wh_in (m' := sizeSs (ws ++ item.inner.flatMap Bdy.list)) (by rw [sizeSs_app]; omega) (S.s3 (A := pt W (.lst (xs ++ zs))) (B := pt Fd (.lst ((fs ++ item.own).map V.str))) (C := hp G) (by walk_at "sel")) ⟨fs ++ item.own, ws ++ item.inner.flatMap Bdy.list, xs ++ zs, _, _, rfl, rfl, by rw [sizeSs_app]; omega, fun s m => ?_, ?_, ?_, fun x => ?_, rfl⟩
      · rcases List.mem_append.mp m with m | m
        · exact hok s (List.mem_append_left _ m)
        · obtain ⟨b, mb, ms⟩ := List.mem_flatMap.mp m
          exact list_ok (inner_ok oki b mb) s ms
      · rw [List.map_append]
        exact dpall_app hdw hzs
      · rw [namesSs_app, List.length_append, List.length_append]
        omega
      · rw [← hm x, namesSs_app, namesSs_app, h1, hns]
        simp only [List.mem_append]
        constructor
        · rintro ((h | h) | h | h) <;> simp [h]
        · rintro (h | h | h | h) <;> simp [h]
end
end Pf

set_option Elab.async false
set_option linter.all false
set_option maxRecDepth 100000
set_option maxHeartbeats 8000000
namespace Pf
open PySem L2 Kt
set_option hygiene false
local macro_rules | `(tactic| walk_at "mem") => `(tactic| (with_reducible (repeat (first | exact Pick.hd | apply Pick.tl)); done))
local macro_rules | `(tactic| walk_at "rep") => `(tactic| (with_reducible (repeat (first | exact Repl.hd | apply Repl.tl)); done))
local macro_rules | `(tactic| walk_at "sel") => `(tactic| ((repeat (with_reducible apply Sel.cons; (focus walk_at "mem"))); (with_reducible apply Sel.nil); (with_reducible (repeat (first | exact Dr.all | apply Dr.skip)); done)))
local macro_rules | `(tactic| walk_at "at") => `(tactic| (refine' Sep.at_ (by assumption) ?kkpk; (case kkpk => walk_at "mem")))
local macro_rules | `(tactic| walk_at "sq") => `(tactic| first | assumption | (refine' Sep.sq (by assumption) ?kkpk; (case kkpk => walk_at "mem")))
local macro_rules | `(tactic| walk_at "st") => `(tactic| first | assumption | (refine' Sep.st (by assumption) ?kkpk; (case kkpk => walk_at "mem")))
local macro_rules | `(tactic| walk_at "lk") => `(tactic| (repeat (first | (with_reducible exact lk_eq) | exact rfl | refine (lk_ne (by decide +kernel)).trans ?_)))
local macro_rules | `(tactic| walk_at "pf") => `(tactic| (repeat (first | (with_reducible exact pf_nil) | (with_reducible exact pf_eq) | (apply pf_ne; (focus decide +kernel)))))
local macro_rules | `(tactic| walk_at "ty") => `(tactic| first | exact ty_int | (refine' ty_lst ?kkh; (case kkh => walk_at "at")))
local macro_rules | `(tactic| walk_at "k1") => `(tactic| with_reducible first
  | refine q_seq ?_ | refine q_set ?_ | refine q_asg ?_ | refine q_ret ?_ | refine q_drop ?_ | refine q_next ?_ | refine q_c ?_ | refine q_op ?_ | refine q_un ?_ | refine q_nil ?_ | refine q_cons ?_ | refine q_cb ?_
  | refine q_call ?_ | refine q_ifs ?_ | refine q_if ?_ | refine q_test ?_ | refine q_tb ?_ | refine q_bl ?_ | refine q_notT ?_ | refine q_andT ?_ | refine q_orT ?_ | refine q_andV ?_ | refine q_orV ?_ | refine q_notV ?_
  | refine q_addA ?_ | refine q_subI ?_ | refine q_ltI ?_ | refine q_leI ?_ | refine q_gtI ?_ | refine q_geI ?_ | refine q_eqI ?_ | refine q_neI ?_ | refine q_abs ?_ | refine q_int ?_ | refine q_intB ?_ | refine q_max ?_ | refine q_min ?_
  | refine q_ipAdd ?_ | refine q_ipSub ?_ | refine q_gsub ?_ | refine q_augs ?_ | refine q_lst ?_ | refine q_tup ?_ | refine q_blI ?_ | refine iteT ?_ | refine iteF ?_ | refine iteNT ?_ | refine iteNF ?_
  | refine r_prop ?_ | refine r_fld ?_ | refine r_sfld ?_ | refine r_meth ?_ | refine r_make ?_ | refine r_sl ?_ | refine r_nopart ?_ | refine r_part ?_ | refine r_parti ?_ | refine r_gsl ?_ | refine r_bm ?_ | refine r_bm0 ?_ | refine r_for ?_ | refine r_ilist ?_ | refine r_irng ?_
  | refine r_gname ?_ | refine r_gcons ?_ | refine r_gnil ?_ | refine r_par ?_ | refine r_parA ?_ | refine r_chain ?_ | refine r_isN ?_ | refine r_tlc ?_ | refine r_yes ?_ | refine r_makek ?_ | refine r_neg ?_)
local macro_rules | `(tactic| walk_at "k2") => `(tactic| first
  | ((with_reducible refine' q_var ?kke ?_); (case kke => rfl))
  | ((with_reducible refine' q_aug ?kke ?_); (case kke => rfl))
  | ((with_reducible refine' q_ixL ?kks ?kke ?_); (case kks => walk_at "sq"); (case kke => first | rfl | assumption))
  | ((with_reducible refine' q_ixT ?kks ?kke ?_); (case kks => walk_at "st"); (case kke => first | rfl | assumption))
  | ((with_reducible refine' q_ixLL ?kks ?kke ?_); (case kks => walk_at "sq"); (case kke => first | rfl | assumption))
  | ((with_reducible refine' q_lenL ?kks ?_); (case kks => walk_at "sq"))
  | ((with_reducible refine' q_mulI ?kkc ?_); (case kkc => first | exact .inl (by omega) | exact .inr (by omega)))
  | ((with_reducible refine' q_modI ?kkc ?_); (case kkc => omega))
  | ((with_reducible refine' q_divI ?kkc ?_); (case kkc => exact ⟨by omega, by omega⟩))
  | ((with_reducible refine' q_powI ?kkc ?_); (case kkc => exact ⟨by decide, by decide, by decide⟩))
  | ((with_reducible refine' r_kfld ?kkS ?kkp ?kkc ?kkn ?kkl ?_); (case kkS => assumption); (case kkp => walk_at "mem"); (case kkc => walk_at "cls"); (case kkn => walk_at "na"); (case kkl => walk_at "lk"))
  | ((with_reducible refine' r_kprop ?kkS ?kkp ?_); (case kkS => assumption); (case kkp => walk_at "mem"))
  | ((with_reducible refine' r_kmeth ?kkS ?kkp ?kkl ?_); (case kkS => assumption); (case kkp => walk_at "mem"); (case kkl => walk_at "lk"))
  | ((with_reducible refine' r_calll ?kks ?_); (case kks => rfl))
  | ((with_reducible refine' r_tyl ?kks ?_); (case kks => walk_at "sq"))
  | ((with_reducible refine' r_isi (k := true) ?kkt ?kke ?_); (case kkt => walk_at "ty"); (case kke => decide +kernel))
  | ((with_reducible refine' r_isi (k := false) ?kkt ?kke ?_); (case kkt => walk_at "ty"); (case kke => decide +kernel)))
local macro_rules | `(tactic| walk_at "k3") => `(tactic| first
  | ((with_reducible refine' q_setS ?kkS ?kkr ?kke ?_); (case kkS => assumption); (case kkr => walk_at "rep"); (case kke => rfl); intro H S)
  | ((with_reducible refine' r_kset ?kkS ?kkr ?kkc ?kkn ?kkl ?kke ?_); (case kkS => assumption); (case kkr => walk_at "rep"); (case kkc => walk_at "cls"); (case kkn => walk_at "na"); (case kkl => first | exact Nat.le_of_ble_eq_true rfl | assumption | omega | (simp; done) | (simp; omega)); (case kke => walk_at "pf"); intro H S)
  | ((with_reducible refine' q_new ?kkS ?kkl ?_); (case kkS => assumption); (case kkl => first | exact Nat.le_of_ble_eq_true rfl | assumption | omega | (simp; done) | (simp; omega)); intro p H S)
  | ((with_reducible refine' q_newT ?kkS ?kkl ?_); (case kkS => assumption); (case kkl => first | exact Nat.le_of_ble_eq_true rfl | assumption | omega | (simp; done) | (simp; omega)); intro p H S)
  | ((with_reducible refine' r_knew ?kkS ?_); (case kkS => assumption); intro x dx H S)
  | ((with_reducible refine' r_knewk ?kkS ?kkl1 ?kkl2 ?_); (case kkS => assumption); (case kkl1 => rfl); (case kkl2 => rfl); intro x dx H S)
  | ((with_reducible refine' r_ksl ?kkS ?kks ?_); (case kkS => assumption); (case kks => walk_at "sq"); intro p H S)
  | ((with_reducible refine' r_list ?kkS ?kks ?_); (case kkS => assumption); (case kks => walk_at "sq"); intro p H S)
  | ((with_reducible refine' r_cat ?kkS ?kks1 ?kks2 ?kkz ?_); (case kkS => assumption); (case kks1 => walk_at "at"); (case kks2 => walk_at "at"); (case kkz => first | omega | (simp; omega)); intro p H S)
  | ((with_reducible refine' r_append ?kkS ?kkr ?kkz ?_); (case kkS => assumption); (case kkr => walk_at "rep"); (case kkz => first | omega | (simp; omega)); intro H S)
  | ((with_reducible refine' r_reverse ?kkS ?kkr ?_); (case kkS => assumption); (case kkr => walk_at "rep"); intro H S)
  | ((with_reducible refine' r_clear ?kkS ?kkr ?_); (case kkS => assumption); (case kkr => walk_at "rep"); intro H S))
local macro_rules | `(tactic| walk_at "gn") => `(tactic| repeat (first | walk_at "k1" | walk_at "k2"))
local macro_rules | `(tactic| walk_at "go") => `(tactic| repeat (first | walk_at "k1" | walk_at "k2" | walk_at "k3"))

local macro_rules | `(tactic| walk_at "sq") => `(tactic| first | assumption | (refine' Sep.sq ?kkS ?kkpk; (case kkS => assumption); (case kkpk => walk_at "mem")) | (refine' hp_sqL ?kkS ?kkx; (case kkS => assumption); (case kkx => assumption)) | (refine' hp_sqL (Sep.tl ?kkS) ?kkx; (case kkS => assumption); (case kkx => assumption)) | (refine' hp_sqL (Sep.tl (Sep.tl ?kkS)) ?kkx; (case kkS => assumption); (case kkx => assumption)))
local macro_rules | `(tactic| walk_at "st") => `(tactic| first | assumption | (refine' Sep.st ?kkS ?kkpk; (case kkS => assumption); (case kkpk => walk_at "mem")) | (refine' hp_sqT ?kkS ?kkx; (case kkS => assumption); (case kkx => assumption)) | (refine' hp_sqT (Sep.tl ?kkS) ?kkx; (case kkS => assumption); (case kkx => assumption)) | (refine' hp_sqT (Sep.tl (Sep.tl ?kkS)) ?kkx; (case kkS => assumption); (case kkx => assumption)))
local macro_rules | `(tactic| walk_at "k1") => `(tactic| with_reducible first | refine r_ienumT ?_ | refine r_tru ?_ | refine r_itup ?_ | refine r_star ?_ | refine r_par3 ?_ | refine r_parA3 ?_ | refine r_dget ?_ | refine r_din ?_ | refine r_dnotin ?_ | refine r_dput ?_)

local macro_rules | `(tactic| walk_at "k1") => `(tactic| with_reducible first | refine r_kget ?_ | refine r_orT ?_ | refine r_slA ?_ | refine r_m1 ?_ | refine r_isS ?_)

/-- the drawing bag at b -/
def bag (b : Addr) : SP := fun G => ∃ (x y z : Int) (c : Addr) (ns : List Int), 0 ≤ z ∧ Sep [pt b (.lst [.int x, .int y, .int z, .ref c]), pt c (.lst (ns.map V.int))] G
def spTake : Sp := fun vs H Q _ => ∃ (b : Addr) (n : Int) (R : List SP), vs = [.ref b, .int n] ∧ 0 < n ∧ n < 1073741824 ∧ Sep (bag b :: R) H ∧ ∀ v H', 0 ≤ v → v < n → Sep (bag b :: R) H' → Q (.int v) H'
def spBag (K : PySem.W.Frag) : Sp := fun vs H Q _ => ∃ (a : Addr) (ns : List Int) (R : List SP), vs = [.ref a] ∧ SqL K H a (ns.map V.int) ∧ ns.length ≤ 63 ∧ Sep R H ∧ ∀ b H', Sep (bag b :: R) H' → Q (.ref b) H'
theorem bag_open {b : Addr} {R : List SP} {H : Hp} (S : Sep (bag b :: R) H) : ∃ (x y z : Int) (c : Addr) (ns : List Int), 0 ≤ z ∧ Sep (pt b (.lst [.int x, .int y, .int z, .ref c]) :: pt c (.lst (ns.map V.int)) :: R) H := by
  obtain ⟨x, S⟩ := S.ex
  obtain ⟨y, S⟩ := S.ex
  obtain ⟨z, S⟩ := S.ex
  obtain ⟨c, S⟩ := S.ex
  obtain ⟨ns, S⟩ := S.ex
  obtain ⟨hz, S⟩ := S.pure
  exact ⟨x, y, z, c, ns, hz, S.flat⟩
theorem bag_shut {b : Addr} {R : List SP} {H : Hp} {x y z : Int} {c : Addr} {ns : List Int} (hz : 0 ≤ z) (S : Sep (pt b (.lst [.int x, .int y, .int z, .ref c]) :: pt c (.lst (ns.map V.int)) :: R) H) : Sep (bag b :: R) H :=
  Sep.ex_in x (Sep.ex_in y (Sep.ex_in z (Sep.ex_in c (Sep.ex_in ns (Sep.pure_in hz (Sep.unflat (As := [_, _]) S))))))
section
variable {P : Program} {w : World} {K : PySem.W.Frag} {mg : Str → Option Value} {base : Heap}
theorem sc_l_take : FnScope N_l_take ["_law_bag_here", "_law_many"] (defScope s_l_take) := ⟨rfl, rfl, rfl, by decide +kernel, rfl, by decide +kernel, by decide +kernel⟩
theorem ok_l_take {f_NAMES_IN f_MAKING f_COPYING f_SHARING : Addr} {f : Addr} (F : Dt K mg "_law_take" s_l_take ["_law_bag_here", "_law_many"] f) (T : Tx K mg f_NAMES_IN f_MAKING f_COPYING f_SHARING) : Df P w K mg base 1 "_law_take" f ["_law_bag_here", "_law_many"] spTake := by
  refine F.ok sc_l_take (fun vs H Q E h => ?_) (fun cdv A outer s H vs Q E hr h => ?_)
  · obtain ⟨b, n, R, rfl, _⟩ := h
    rfl
  obtain ⟨b, n, R, rfl, h0, h1, S, q⟩ := h
  refine ⟨_, (C8.pss_cut (ps_if (pt_cmpR (r := rEqA K) (op_eqA hr.units) (pe_ix (r := rIx K) ix_seq (pv 0) pe_int (fun _ _ => rfl)) pe_int (nomark _)) (pss_cons (ps_set (i := 2) sc_l_take.nd rfl (by first | exact Or.inl rfl | exact Or.inr rfl) pe_int)
      (C8.pss_cut (ps_if (pt_cmpR (r := rLtI) op_lt (pe_ix (r := rIx K) ix_seq (pv 0) pe_int (fun _ _ => rfl)) (pe_callB (r := cOr (cLenQ K) cLenS) call_lenA (by rfl) T.z_len (by decide +kernel) (pa_cons (pe_ix (r := rIx K) ix_seq (pv 0) pe_int (fun _ _ => rfl)) pa_nil)) (nomark _)) (pss_one (ps_set (i := 2) sc_l_take.nd rfl (by first | exact Or.inl rfl | exact Or.inr rfl) (pe_ix (r := rIx K) ix_seq (pe_ix (r := rIx K) ix_seq (pv 0) pe_int (fun _ _ => rfl)) (pe_ix (r := rIx K) ix_seq (pv 0) pe_int (fun _ _ => rfl)) (fun _ _ => rfl)))) pss_nil)
      (pss_cons (ps_augS (tget := rIxL K) (pv 0) pe_int get_list pe_int ip_add set_list)
      (C8.pss_cut (ps_if (pt_cmpR (r := rGeI) op_ge (pv 2) pe_int (nomark _)) (pss_one (ps_asg (pv 2) (pg_sub (pv 0) pe_int set_list))) pss_nil)
      (pss_cons (ps_set (i := 3) sc_l_take.nd rfl (by first | exact Or.inl rfl | exact Or.inr rfl) (pe_op (r := rAddA) op_addA (pe_op (r := rAddA) op_addA (pe_op (r := rMulA) op_mulA (pe_ix (r := rIx K) ix_seq (pv 0) pe_int (fun _ _ => rfl)) pe_int) (pe_op (r := rModI) op_mod (pe_callTy (r := cInt) call_int1 (by rfl) T.z_int (by decide +kernel) (pa_cons (pv 2) pa_nil)) pe_int)) (pe_op (r := rMulA) op_mulA pe_int (pe_ix (r := rIx K) ix_seq (pv 0) pe_int (fun _ _ => rfl)))))
      (pss_one (ps_asg (pe_op (r := rModI) op_mod (pe_callTy (r := cInt) call_int1 (by rfl) T.z_int (by decide +kernel) (pa_cons (pv 3) pa_nil)) pe_int) (pg_sub (pv 0) pe_int set_list)))))))) pss_nil)
      (pss_cons (ps_if (pt_cmpR (r := rGtI) op_gt (pe_ix (r := rIx K) ix_seq (pv 0) pe_int (fun _ _ => rfl)) pe_int (nomark _)) (pss_cons (ps_set (i := 4) sc_l_take.nd rfl (by first | exact Or.inl rfl | exact Or.inr rfl) (pe_op (r := rModI) op_mod (pe_callTy (r := cInt) call_int1 (by rfl) T.z_int (by decide +kernel) (pa_cons (pe_ix (r := rIx K) ix_seq (pv 0) pe_int (fun _ _ => rfl)) pa_nil)) (pv 1)))
      (pss_cons (ps_asg (pe_op (r := rDivI) op_fdiv (pe_ix (r := rIx K) ix_seq (pv 0) pe_int (fun _ _ => rfl)) (pv 1)) (pg_sub (pv 0) pe_int set_list))
      (pss_one (ps_ret (pv 4))))) pss_nil)
      (pss_cons (ps_set (i := 5) sc_l_take.nd rfl (by first | exact Or.inl rfl | exact Or.inr rfl) (pe_op (r := rModI) op_mod (pe_callTy (r := cInt) call_int1 (by rfl) T.z_int (by decide +kernel) (pa_cons (pe_op (r := rMulA) op_mulA (pe_op (r := rAddA) op_addA (pe_ix (r := rIx K) ix_seq (pv 0) pe_int (fun _ _ => rfl)) pe_int) pe_int) pa_nil)) pe_int))
      (pss_cons (ps_set (i := 6) sc_l_take.nd rfl (by first | exact Or.inl rfl | exact Or.inr rfl) (pe_op (r := rModI) op_mod (pe_callTy (r := cInt) call_int1 (by rfl) T.z_int (by decide +kernel) (pa_cons (pe_op (r := rMulA) op_mulA (pe_op (r := rModI) op_mod (pe_callTy (r := cInt) call_int1 (by rfl) T.z_int (by decide +kernel) (pa_cons (pe_op (r := rMulA) op_mulA (pv 5) (pv 5)) pa_nil)) pe_int) pe_int) pa_nil)) pe_int))
      (pss_cons (ps_if (pt_cmpR (r := rGtI) op_gt (pv 1) pe_int (nomark _)) (pss_one (ps_ret (pe_op (r := rModI) op_mod (pe_callTy (r := cInt) call_int1 (by rfl) T.z_int (by decide +kernel) (pa_cons (pe_op (r := rAddA) op_addA (pe_op (r := rMulA) op_mulA (pv 6) pe_int) (pv 5)) pa_nil)) (pv 1)))) pss_nil)
      (pss_one (ps_ret (pe_op (r := rModI) op_mod (pe_callTy (r := cInt) call_int1 (by rfl) T.z_int (by decide +kernel) (pa_cons (pe_op (r := rDivI) op_fdiv (pv 6) pe_int) pa_nil)) (pv 1))))))))), ?_⟩
  obtain ⟨x, y, z, c, ns, hz, S⟩ := bag_open S
  refine q_cut (Mid := fun σ H => ∃ u2 u3, σ = [some (.ref b), some (.int n), u2, u3, none, none, none] ∧ ∃ (x y z : Int) (c : Addr) (ns : List Int), 0 ≤ z ∧ Sep (pt b (.lst [.int x, .int y, .int z, .ref c]) :: pt c (.lst (ns.map V.int)) :: R) H) ?_ ?_
  · walk_at "go"
    refine q_ite (fun hx => ?_) (fun hx => ?_)
    · walk_at "go"
      refine q_cut (Mid := fun σ H => ∃ u, σ = [some (.ref b), some (.int n), some (.int u), none, none, none, none] ∧ Sep (pt b (.lst [.int x, .int y, .int z, .ref c]) :: pt c (.lst (ns.map V.int)) :: R) H) ?_ ?_
      · walk_at "go"
        refine q_ite (fun hl => ?_) (fun hl => ?_)
        · walk_at "go"
          rw [List.length_map] at hl
          obtain ⟨j, rfl⟩ := Int.eq_ofNat_of_zero_le hz
          refine q_ixL (by walk_at "sq") (atI_nat (v := V.int (ns[j]'(by omega))) (by simp)) ?_
          exact ⟨_, rfl, S⟩
        · exact ⟨_, rfl, S⟩
      rintro σ H ⟨u, rfl, S⟩
      walk_at "go"
      refine q_cut (Mid := fun σ H => σ = [some (.ref b), some (.int n), some (.int u), none, none, none, none] ∧ ∃ x', Sep (pt b (.lst [.int x', .int y, .int (z + 1), .ref c]) :: pt c (.lst (ns.map V.int)) :: R) H) ?_ ?_
      · walk_at "go"
        refine q_ite (fun hu => ?_) (fun hu => ?_)
        · walk_at "go"
          exact ⟨rfl, _, S⟩
        · exact ⟨rfl, _, S⟩
      rintro σ H ⟨rfl, x', S⟩
      walk_at "go"
      exact ⟨_, _, rfl, _, _, _, _, _, by omega, S⟩
    · exact ⟨_, _, rfl, _, _, _, _, _, hz, S⟩
  rintro σ H ⟨u2, u3, rfl, x, y, z, c, ns, hz, S⟩
  walk_at "go"
  refine q_ite (fun hx => ?_) (fun hx => ?_)
  · walk_at "go"
    exact q _ _ (Int.emod_nonneg _ (by omega)) (Int.emod_lt_of_pos _ h0) (bag_shut hz S)
  · walk_at "go"
    refine q_ite (fun hm => ?_) (fun hm => ?_)
    · walk_at "go"
      exact q _ _ (Int.emod_nonneg _ (by omega)) (Int.emod_lt_of_pos _ h0) (bag_shut hz S)
    · walk_at "go"
      exact q _ _ (Int.emod_nonneg _ (by omega)) (Int.emod_lt_of_pos _ h0) (bag_shut hz S)
theorem sc_l_bag : FnScope N_l_bag ["_law_script"] (defScope s_l_bag) := ⟨rfl, rfl, rfl, by decide +kernel, rfl, by decide +kernel, by decide +kernel⟩
theorem ok_l_bag {f_NAMES_IN f_MAKING f_COPYING f_SHARING : Addr} {f : Addr} (F : Dt K mg "_law_bag" s_l_bag ["_law_script"] f) (T : Tx K mg f_NAMES_IN f_MAKING f_COPYING f_SHARING) : Df P w K mg base 1 "_law_bag" f ["_law_script"] (spBag K) := by
  refine F.ok sc_l_bag (fun vs H Q E h => ?_) (fun cdv A outer s H vs Q E hr h => ?_)
  · obtain ⟨a, ns, R, rfl, _⟩ := h
    rfl
  obtain ⟨a, ns, R, rfl, hq, hl, S, q⟩ := h
  refine ⟨_, (pss_one (ps_ret (pe_lst (pa_cons pe_int (pa_cons pe_int (pa_cons pe_int (pa_cons (pe_lc (own := [("_law_cell", 1)]) rfl sc_l_bag.nd (pi_listK K (pe_slice (r := rSlL K) sl_list (pv 0) po_none (po_some pe_int))) (blkOk_by (own := [("_law_cell", 1)]) (N := N_l_bag) (sc := defScope s_l_bag) (by decide +kernel)) (fun _ _ _ _ _ => (pg_name (i := 1) sc_l_bag.nd rfl (by first | exact Or.inl rfl | exact Or.inr rfl))) (fun _ _ _ _ _ => pts_nil) (fun _ _ _ _ _ => (pe_callB (r := cAbs) call_abs (by rfl) T.z_abs (by decide +kernel) (pa_cons (pv 1) pa_nil)))) pa_nil))))))), ?_⟩
  walk_at "go"
  have ec : cutV (ns.map V.int) none (some (63 : Int)) = (ns.take 63).map V.int := by
    have := cut_pre (xs := ns.map V.int) (n := 63)
    rw [List.map_take]
    exact this
  rw [ec] at S
  have hm : (ns.take 63).length ≤ 63 := by simp; omega
  generalize ns.take 63 = ms at S hm
  refine r_lc_list (xs := ms.map V.int) (fun i acc Ps => ∃ zs : List Int, acc = zs.map V.int ∧ zs.length = i ∧ Ps = pt p (.lst (ms.map V.int)) :: R) S ⟨[], rfl, rfl, rfl⟩ (fun D i acc Ps H hi ⟨_, _, _, e⟩ S => by subst e; walk_at "sq") (by walk_at "sq") ?_ ?_
  · rintro D i x acc Ps H hi ⟨zs, rfl, ez, rfl⟩ S
    obtain ⟨z, hz, rfl⟩ : ∃ z, ms[i]? = some z ∧ V.int z = x := by
      rw [List.getElem?_map] at hi
      cases e : ms[i]? with
      | none => rw [e] at hi; cases hi
      | some z => rw [e] at hi; exact ⟨z, rfl, Option.some.inj hi⟩
    walk_at "go"
    refine ⟨rfl, ?_⟩
    walk_at "go"
    have hi' := (List.getElem?_eq_some_iff.mp hz).1
    refine cn_in S (by rw [List.length_map]; omega) ⟨zs ++ [if z < 0 then -z else z], by simp, by simp [ez], rfl⟩
  · rintro D acc Ps H ⟨zs, rfl, ez, rfl⟩ S
    walk_at "go"
    exact q _ _ (bag_shut (x := 0) (y := 1234567891) (z := 0) (c := D) (ns := zs) (by decide) (S.s2 (by walk_at "sel")))
end

def wordsText : Str := "new take cut put set copy copycut copyput keep look either loop call main exact spare end s t"
def wordsL : List Str := ["new", "take", "cut", "put", "set", "copy", "copycut", "copyput", "keep", "look", "either", "loop", "call", "main", "exact", "spare", "end", "s", "t"]
theorem words_split : Txt.split wordsText " " = wordsL := by decide +kernel
theorem words_nd : wordsL.Nodup := by decide +kernel
theorem words_nm : ∀ x ∈ wordsL, NmOk x := fun x m => nm_by ((show ∀ y ∈ wordsL, (decide (1 ≤ y.length) && decide (y.length ≤ 8) && y.cps.toList.all fun c => decide (97 ≤ c) && decide (c ≤ 122)) = true by decide +kernel) x m)
section
variable {P : Program} {w : World} {K : PySem.W.Frag} {mg : Str → Option Value} {base : Heap} {f_NAMES_IN f_MAKING f_COPYING f_SHARING : Addr}
theorem str_at {ps : List Str} {i : Nat} {x : V} (h : (ps.map V.str)[i]? = some x) : ∃ z, ps[i]? = some z ∧ V.str z = x := by
  rw [List.getElem?_map] at h
  cases e : ps[i]? with
  | none => rw [e] at h; cases h
  | some z => rw [e] at h; exact ⟨z, rfl, Option.some.inj h⟩
theorem int_at {ps : List Int} {i : Nat} {x : V} (h : (ps.map V.int)[i]? = some x) : ∃ z, ps[i]? = some z ∧ V.int z = x := by
  rw [List.getElem?_map] at h
  cases e : ps[i]? with
  | none => rw [e] at h; cases h
  | some z => rw [e] at h; exact ⟨z, rfl, Option.some.inj h⟩
theorem ins_perm {α : Type} {l m : List α} {z : α} (k : Nat) (h : l.Perm m) : (l.take k ++ z :: l.drop k).Perm (m ++ [z]) := by
  have h1 : (l.take k ++ z :: l.drop k).Perm (z :: (l.take k ++ l.drop k)) := List.perm_middle
  rw [List.take_append_drop] at h1
  exact h1.trans ((h.cons z).trans (List.perm_append_singleton z m).symm)
theorem sc_l_mixed : FnScope N_l_mixed ["_law_bag_here", "_law_things"] (defScope s_l_mixed) := ⟨rfl, rfl, rfl, by decide +kernel, rfl, by decide +kernel, by decide +kernel⟩
def spMixed (K : PySem.W.Frag) : Sp := fun vs H Q _ => ∃ (b a : Addr) (ps : List Str) (G : Hp) (R : List SP), vs = [.ref b, .ref a] ∧ ps.length ≤ 100 ∧ Dp K G (.ref a) (dNs ps) ∧ Sep (hp G :: bag b :: R) H ∧
  ∀ (t : Addr) (qs : List Str) (G' H' : Hp), qs.Perm ps → Le G G' → LD K G' t (qs.map PyData.str) → Sep (hp G' :: bag b :: R) H' → Q (.ref t) H'
theorem ok_l_mixed {f f1 : Addr} (F : Dt K mg "_law_mixed" s_l_mixed ["_law_bag_here", "_law_things"] f) (T : Tx K mg f_NAMES_IN f_MAKING f_COPYING f_SHARING) (D_l_take : Df P w K mg base 1 "_law_take" f1 ["_law_bag_here", "_law_many"] spTake) : Df P w K mg base 2 "_law_mixed" f ["_law_bag_here", "_law_things"] (spMixed K) := by
  refine F.ok sc_l_mixed (fun vs H Q E h => ?_) (fun cdv A outer s H vs Q E hr h => ?_)
  · obtain ⟨b, a, ps, G, R, rfl, _⟩ := h
    rfl
  obtain ⟨b, a, ps, G, R, rfl, hl, hx, S, q⟩ := h
  refine ⟨_, (pss_cons (ps_set (i := 2) sc_l_mixed.nd rfl (by first | exact Or.inl rfl | exact Or.inr rfl) (pe_lst pa_nil))
      (pss_cons (ps_for PassesOwn.never rfl (pi_listK K (pv 1)) (pg_name (i := 3) sc_l_mixed.nd rfl (by first | exact Or.inl rfl | exact Or.inr rfl)) (pss_one (ps_expr (pe_bmK K PySem.F.plainAttrs_list PySem.F.slot_list_insert PySem.F.type_list_insert mt_insertK (pv 2) (pa_cons (pe_df D_l_take (hr.mono (by first | decide | omega)) (pa_cons (pv 0) (pa_cons (pe_op (r := rAddA) op_addA (pe_callB (r := cOr (cLenQ K) cLenS) call_lenA (by rfl) T.z_len (by decide +kernel) (pa_cons (pv 2) pa_nil)) pe_int) pa_nil))) (pa_cons (pv 3) pa_nil))))))
      (pss_one (ps_ret (pv 2))))), ?_⟩
  have sq := dns_sq hx
  walk_at "go"
  refine r_for_list (xs := ps.map V.str) (fun i σ Ps => ∃ (u : Option V) (qs : List Str), σ = [some (.ref b), some (.ref a), some (.ref p), u] ∧ qs.Perm (ps.take i) ∧ Ps = pt p (.lst (qs.map V.str)) :: hp G :: bag b :: R) S ⟨_, [], rfl, by simp, rfl⟩ (fun i σ Ps H hi ⟨_, _, _, _, e⟩ S => by subst e; exact hp_sqL S.tl sq) ?_ ?_
  · rintro i x σ Ps H hi ⟨u, qs, rfl, hpm, rfl⟩ S
    obtain ⟨z, hz, rfl⟩ := str_at hi
    have hi' := (List.getElem?_eq_some_iff.mp hz).1
    have hlen : qs.length = i := by rw [hpm.length_eq, List.length_take]; omega
    walk_at "go"
    refine ⟨b, _, _, rfl, by rw [List.length_map]; omega, by rw [List.length_map]; omega, S.s1 (A := bag b) (by walk_at "sel"), fun v H hv0 hv1 S => ?_⟩
    rw [List.length_map] at hv1
    walk_at "go"
    refine r_ins (S.s1 (A := pt p (.lst (qs.map V.str))) (by walk_at "sel")) hv0 (by omega) (by rw [List.length_map]; omega) fun H S => ?_
    have e : (qs.map V.str).take v.toNat ++ .str z :: (qs.map V.str).drop v.toNat = (qs.take v.toNat ++ z :: qs.drop v.toNat).map V.str := by simp
    rw [e] at S
    walk_at "go"
    refine ⟨_, ⟨_, _, rfl, ?_, rfl⟩, S.s3 (A := pt p (.lst ((qs.take v.toNat ++ z :: qs.drop v.toNat).map V.str))) (B := hp G) (C := bag b) (by walk_at "sel")⟩
    rw [List.take_add_one, hz]
    exact ins_perm _ hpm
  · rintro σ Ps H ⟨u, qs, rfl, hpm, rfl⟩ S
    rw [List.length_map, List.take_length] at hpm
    obtain ⟨G', le, hd, S⟩ := hp_LD (K := K) S (dpall_strs qs)
    walk_at "go"
    exact q p qs G' H hpm le hd S
theorem sc_l_draw_names : FnScope N_l_draw_names ["_law_bag_here", "_law_many"] (defScope s_l_draw_names) := ⟨rfl, rfl, rfl, by decide +kernel, rfl, by decide +kernel, by decide +kernel⟩
structure NmsOk (l : List Str) (n : Nat) : Prop where
  ln : l.length = n
  nd : l.Nodup
  nm : ∀ x ∈ l, NmOk x
def spNames : Sp := fun vs H Q _ => ∃ (b : Addr) (n : Nat) (R : List SP), vs = [.ref b, .int n] ∧ n ≤ 8 ∧ Sep (bag b :: R) H ∧ ∀ p l H', NmsOk l n → Sep (pt p (.lst (l.map V.str)) :: bag b :: R) H' → Q (.ref p) H'
theorem ok_l_draw_names {f f1 : Addr} (F : Dt K mg "_law_draw_names" s_l_draw_names ["_law_bag_here", "_law_many"] f) (T : Tx K mg f_NAMES_IN f_MAKING f_COPYING f_SHARING) (D_l_take : Df P w K mg base 1 "_law_take" f1 ["_law_bag_here", "_law_many"] spTake) : Df P w K mg base 2 "_law_draw_names" f ["_law_bag_here", "_law_many"] spNames := by
  refine F.ok sc_l_draw_names (fun vs H Q E h => ?_) (fun cdv A outer s H vs Q E hr h => ?_)
  · obtain ⟨b, n, R, rfl, _⟩ := h
    rfl
  obtain ⟨b, n, R, rfl, hn, S, q⟩ := h
  refine ⟨_, (pss_cons (ps_set (i := 2) sc_l_draw_names.nd rfl (by first | exact Or.inl rfl | exact Or.inr rfl) pe_str)
      (pss_cons (ps_set (i := 3) sc_l_draw_names.nd rfl (by first | exact Or.inl rfl | exact Or.inr rfl) pe_str)
      (pss_cons (ps_asg (pe_tup (pa_cons (pe_df D_l_take (hr.mono (by first | decide | omega)) (pa_cons (pv 0) (pa_cons pe_int pa_nil))) (pa_cons (pe_df D_l_take (hr.mono (by first | decide | omega)) (pa_cons (pv 0) (pa_cons pe_int pa_nil))) (pa_cons (pe_splitK (pv 3) pe_str) pa_nil)))) (pg_tupK K rfl (pgs_cons (pg_name (i := 4) sc_l_draw_names.nd rfl (by first | exact Or.inl rfl | exact Or.inr rfl)) (pgs_cons (pg_name (i := 5) sc_l_draw_names.nd rfl (by first | exact Or.inl rfl | exact Or.inr rfl)) (pgs_cons (pg_name (i := 3) sc_l_draw_names.nd rfl (by first | exact Or.inl rfl | exact Or.inr rfl)) pgs_nil)))))
      (pss_cons (ps_set (i := 6) sc_l_draw_names.nd rfl (by first | exact Or.inl rfl | exact Or.inr rfl) (pe_joinK K pe_str (pe_lc (own := [("_law_k", 7)]) rfl sc_l_draw_names.nd (pi_range1 rfl T.z_range (pa_cons (pe_df D_l_take (hr.mono (by first | decide | omega)) (pa_cons (pv 0) (pa_cons pe_int pa_nil))) pa_nil)) (blkOk_by (own := [("_law_k", 7)]) (N := N_l_draw_names) (sc := defScope s_l_draw_names) (by decide +kernel)) (fun _ _ _ _ _ => (pg_name (i := 7) sc_l_draw_names.nd rfl (by first | exact Or.inl rfl | exact Or.inr rfl))) (fun _ _ _ _ _ => pts_nil) (fun _ _ _ _ _ => (pe_ix (r := rIx K) ix_seq (pv 2) (pe_df D_l_take (hr.mono (by first | decide | omega)) (pa_cons (pv 0) (pa_cons pe_int pa_nil))) (fun _ _ => rfl))))))
      (pss_cons (ps_if (pt_cmpR (r := rEqA K) (op_eqA hr.units) (pv 4) pe_int (nomark _)) (pss_one (ps_ret (pe_slice (r := rSlL K) sl_list (pe_op (r := rAddA) op_addA (pe_slice (r := rSlL K) sl_list (pv 3) (po_some (pv 5)) po_none) (pe_slice (r := rSlL K) sl_list (pv 3) po_none (po_some (pv 5)))) po_none (po_some (pv 1))))) pss_nil)
      (pss_one (ps_ret (pe_lc (own := [("_law_k", 7)]) rfl sc_l_draw_names.nd (pi_range1 rfl T.z_range (pa_cons (pv 1) pa_nil)) (blkOk_by (own := [("_law_k", 7)]) (N := N_l_draw_names) (sc := defScope s_l_draw_names) (by decide +kernel)) (fun _ _ _ _ _ => (pg_name (i := 7) sc_l_draw_names.nd rfl (by first | exact Or.inl rfl | exact Or.inr rfl))) (fun _ _ _ _ _ => pts_nil) (fun _ _ _ _ _ => (pe_op (r := rAddA) op_addA (pv 6) (pe_ix (r := rIx K) ix_seq (pv 2) (pe_op (r := rModI) op_mod (pe_callTy (r := cInt) call_int1 (by rfl) T.z_int (by decide +kernel) (pa_cons (pe_op (r := rAddA) op_addA (pv 5) (pe_op (r := rMulA) op_mulA pe_int (pv 7))) pa_nil)) pe_int) (fun _ _ => rfl)))))))))))), ?_⟩
  walk_at "go"
  refine ⟨b, 3, R, rfl, by decide, by decide, S, fun way H w0 w1 S => ?_⟩
  walk_at "go"
  refine ⟨b, 18, R, rfl, by decide, by decide, S, fun tn H t0 t1 S => ?_⟩
  walk_at "go"
  refine r_split S words_split (by decide +kernel) (by decide +kernel) fun W H S => ?_
  walk_at "go"
  refine r_gtup (xs := [.int way, .int tn, .ref W]) (by walk_at "st") rfl ?_
  walk_at "go"
  have S := S.tl
  refine ⟨b, 8, _, rfl, by decide, by decide, S.s1 (A := bag b) (by walk_at "sel"), fun v H v0 v1 S => ?_⟩
  have S : Sep (pt W (.lst (wordsL.map V.str)) :: bag b :: R) H := S.s2 (A := pt W (.lst (wordsL.map V.str))) (B := bag b) (by walk_at "sel")
  refine r_lc_rng (fun i acc Ps => ∃ cs : List Nat, acc = (cs.map lt1).map V.str ∧ cs.length = i ∧ (∀ c ∈ cs, 97 ≤ c ∧ c ≤ 122) ∧ Ps = pt W (.lst (wordsL.map V.str)) :: bag b :: R) S (by omega) (by omega) ⟨[], rfl, rfl, nofun, rfl⟩ ?_ ?_
  · rintro D i acc Ps H hi ⟨cs, rfl, hc, haz, rfl⟩ S
    walk_at "go"
    refine ⟨rfl, ?_⟩
    walk_at "go"
    refine ⟨b, 26, _, rfl, by decide, by decide, S.s1 (A := bag b) (by walk_at "sel"), fun u H u0 u1 S => ?_⟩
    refine r_letter u0 u1 ?_
    refine cn_in (S.s3 (A := pt D (.lst ((cs.map lt1).map V.str))) (B := pt W (.lst (wordsL.map V.str))) (C := bag b) (by walk_at "sel")) (by rw [List.length_map, List.length_map]; omega) ⟨cs ++ [97 + u.toNat], by simp, by rw [List.length_append, hc]; rfl, fun c m => ?_, rfl⟩
    rcases List.mem_append.mp m with m | m
    · exact haz c m
    · rw [List.mem_singleton] at m
      omega
  · rintro D acc Ps H ⟨cs, rfl, hc, haz, rfl⟩ S
    refine r_join0 (by walk_at "sq") (by omega) fun z hz => ?_
    have hzl : z.length ≤ 7 := by
      show z.cps.size ≤ 7
      rw [← Array.length_toList, hz]
      omega
    rw [← hz] at haz
    walk_at "go"
    refine q_ite (fun hw => ?_) (fun hw => ?_)
    · obtain ⟨k, rfl⟩ := Int.eq_ofNat_of_zero_le t0
      walk_at "go"
      rename_i p1 _ _ p2 _ _
      obtain ⟨p3, rfl⟩ : ∃ z, z = p := ⟨p, rfl⟩
      rw [cut_pre, cut_suf, ← List.map_take, ← List.map_drop] at S
      refine r_cat S (S.at_ (.tl .hd)) S.hd_at (by simp; have : wordsL.length = 19 := rfl; omega) fun p4 H S => ?_
      rw [← List.map_append] at S
      walk_at "go"
      rw [cut_pre, ← List.map_take] at S
      have pm : (wordsL.drop k ++ wordsL.take k).Perm wordsL := List.perm_append_comm.trans (by rw [List.take_append_drop])
      refine q p ((wordsL.drop k ++ wordsL.take k).take n) H ⟨?_, (pm.nodup_iff.mpr words_nd).sublist (List.take_sublist ..), fun x m => words_nm x (pm.mem_iff.mp (List.mem_of_mem_take m))⟩ (S.s2 (A := pt p (.lst (((wordsL.drop k ++ wordsL.take k).take n).map V.str))) (B := bag b) (by walk_at "sel"))
      rw [List.length_take, pm.length_eq]
      show min n 19 = n
      omega
    · walk_at "go"
      have S : Sep (bag b :: R) H := S.s1 (by walk_at "sel")
      have hk : ∀ k : Nat, k < 8 → 97 ≤ 97 + ((tn + 3 * (k : Int)) % 26).toNat ∧ 97 + ((tn + 3 * (k : Int)) % 26).toNat ≤ 122 := fun k hk => by omega
      refine r_lc_rng (fun i acc Ps => acc = ((List.range i).map fun k : Nat => z ++ lt1 (97 + ((tn + 3 * (k : Int)) % 26).toNat)).map V.str ∧ Ps = bag b :: R) S (by omega) (by omega) ⟨rfl, rfl⟩ ?_ ?_
      · rintro D i acc Ps H hi ⟨rfl, rfl⟩ S
        have hi : i < 8 := by omega
        walk_at "go"
        refine ⟨rfl, ?_⟩
        walk_at "go"
        refine r_letter (by omega) (by omega) ?_
        refine r_addS (by show _ + 1 ≤ _; omega) ?_
        refine cn_in S (by rw [List.length_map, List.length_map, List.length_range]; omega) ⟨?_, rfl⟩
        rw [List.range_succ, List.map_append, List.map_append]
        rfl
      · rintro D acc Ps H ⟨rfl, rfl⟩ S
        rw [Int.toNat_natCast] at S
        walk_at "go"
        refine q D _ H ⟨by rw [List.length_map, List.length_range], ?_, fun x m => ?_⟩ S
        · rw [List.Nodup, List.pairwise_map]
          refine List.Pairwise.imp_of_mem (fun {i j} mi mj hij e => ?_) List.pairwise_lt_range
          have := add_lt_inj e
          have := List.mem_range.mp mi
          have := List.mem_range.mp mj
          omega
        · obtain ⟨k, mk, rfl⟩ := List.mem_map.mp m
          have := List.mem_range.mp mk
          exact add_lt_ok haz hzl (hk k (by omega))
end
end Pf

set_option Elab.async false
set_option linter.all false
set_option maxRecDepth 100000
set_option maxHeartbeats 8000000
namespace Pf
open PySem L2 Kt
set_option hygiene false
local macro_rules | `(tactic| walk_at "mem") => `(tactic| (with_reducible (repeat (first | exact Pick.hd | apply Pick.tl)); done))
local macro_rules | `(tactic| walk_at "rep") => `(tactic| (with_reducible (repeat (first | exact Repl.hd | apply Repl.tl)); done))
local macro_rules | `(tactic| walk_at "sel") => `(tactic| ((repeat (with_reducible apply Sel.cons; (focus walk_at "mem"))); (with_reducible apply Sel.nil); (with_reducible (repeat (first | exact Dr.all | apply Dr.skip)); done)))
local macro_rules | `(tactic| walk_at "at") => `(tactic| (refine' Sep.at_ (by assumption) ?kkpk; (case kkpk => walk_at "mem")))
local macro_rules | `(tactic| walk_at "sq") => `(tactic| first | assumption | (refine' Sep.sq (by assumption) ?kkpk; (case kkpk => walk_at "mem")))
local macro_rules | `(tactic| walk_at "st") => `(tactic| first | assumption | (refine' Sep.st (by assumption) ?kkpk; (case kkpk => walk_at "mem")))
local macro_rules | `(tactic| walk_at "lk") => `(tactic| (repeat (first | (with_reducible exact lk_eq) | exact rfl | refine (lk_ne (by decide +kernel)).trans ?_)))
local macro_rules | `(tactic| walk_at "pf") => `(tactic| (repeat (first | (with_reducible exact pf_nil) | (with_reducible exact pf_eq) | (apply pf_ne; (focus decide +kernel)))))
local macro_rules | `(tactic| walk_at "ty") => `(tactic| first | exact ty_int | (refine' ty_lst ?kkh; (case kkh => walk_at "at")))
local macro_rules | `(tactic| walk_at "k1") => `(tactic| with_reducible first
  | refine q_seq ?_ | refine q_set ?_ | refine q_asg ?_ | refine q_ret ?_ | refine q_drop ?_ | refine q_next ?_ | refine q_c ?_ | refine q_op ?_ | refine q_un ?_ | refine q_nil ?_ | refine q_cons ?_ | refine q_cb ?_
  | refine q_call ?_ | refine q_ifs ?_ | refine q_if ?_ | refine q_test ?_ | refine q_tb ?_ | refine q_bl ?_ | refine q_notT ?_ | refine q_andT ?_ | refine q_orT ?_ | refine q_andV ?_ | refine q_orV ?_ | refine q_notV ?_
  | refine q_addA ?_ | refine q_subI ?_ | refine q_ltI ?_ | refine q_leI ?_ | refine q_gtI ?_ | refine q_geI ?_ | refine q_eqI ?_ | refine q_neI ?_ | refine q_abs ?_ | refine q_int ?_ | refine q_intB ?_ | refine q_max ?_ | refine q_min ?_
  | refine q_ipAdd ?_ | refine q_ipSub ?_ | refine q_gsub ?_ | refine q_augs ?_ | refine q_lst ?_ | refine q_tup ?_ | refine q_blI ?_ | refine iteT ?_ | refine iteF ?_ | refine iteNT ?_ | refine iteNF ?_
  | refine r_prop ?_ | refine r_fld ?_ | refine r_sfld ?_ | refine r_meth ?_ | refine r_make ?_ | refine r_sl ?_ | refine r_nopart ?_ | refine r_part ?_ | refine r_parti ?_ | refine r_gsl ?_ | refine r_bm ?_ | refine r_bm0 ?_ | refine r_for ?_ | refine r_ilist ?_ | refine r_irng ?_
  | refine r_gname ?_ | refine r_gcons ?_ | refine r_gnil ?_ | refine r_par ?_ | refine r_parA ?_ | refine r_chain ?_ | refine r_isN ?_ | refine r_tlc ?_ | refine r_yes ?_ | refine r_makek ?_ | refine r_neg ?_)
local macro_rules | `(tactic| walk_at "k2") => `(tactic| first
  | ((with_reducible refine' q_var ?kke ?_); (case kke => rfl))
  | ((with_reducible refine' q_aug ?kke ?_); (case kke => rfl))
  | ((with_reducible refine' q_ixL ?kks ?kke ?_); (case kks => walk_at "sq"); (case kke => first | rfl | assumption))
  | ((with_reducible refine' q_ixT ?kks ?kke ?_); (case kks => walk_at "st"); (case kke => first | rfl | assumption))
  | ((with_reducible refine' q_ixLL ?kks ?kke ?_); (case kks => walk_at "sq"); (case kke => first | rfl | assumption))
  | ((with_reducible refine' q_lenL ?kks ?_); (case kks => walk_at "sq"))
  | ((with_reducible refine' q_mulI ?kkc ?_); (case kkc => first | exact .inl (by omega) | exact .inr (by omega)))
  | ((with_reducible refine' q_modI ?kkc ?_); (case kkc => omega))
  | ((with_reducible refine' q_divI ?kkc ?_); (case kkc => exact ⟨by omega, by omega⟩))
  | ((with_reducible refine' q_powI ?kkc ?_); (case kkc => exact ⟨by decide, by decide, by decide⟩))
  | ((with_reducible refine' r_kfld ?kkS ?kkp ?kkc ?kkn ?kkl ?_); (case kkS => assumption); (case kkp => walk_at "mem"); (case kkc => walk_at "cls"); (case kkn => walk_at "na"); (case kkl => walk_at "lk"))
  | ((with_reducible refine' r_kprop ?kkS ?kkp ?_); (case kkS => assumption); (case kkp => walk_at "mem"))
  | ((with_reducible refine' r_kmeth ?kkS ?kkp ?kkl ?_); (case kkS => assumption); (case kkp => walk_at "mem"); (case kkl => walk_at "lk"))
  | ((with_reducible refine' r_calll ?kks ?_); (case kks => rfl))
  | ((with_reducible refine' r_tyl ?kks ?_); (case kks => walk_at "sq"))
  | ((with_reducible refine' r_isi (k := true) ?kkt ?kke ?_); (case kkt => walk_at "ty"); (case kke => decide +kernel))
  | ((with_reducible refine' r_isi (k := false) ?kkt ?kke ?_); (case kkt => walk_at "ty"); (case kke => decide +kernel)))
local macro_rules | `(tactic| walk_at "k3") => `(tactic| first
  | ((with_reducible refine' q_setS ?kkS ?kkr ?kke ?_); (case kkS => assumption); (case kkr => walk_at "rep"); (case kke => rfl); intro H S)
  | ((with_reducible refine' r_kset ?kkS ?kkr ?kkc ?kkn ?kkl ?kke ?_); (case kkS => assumption); (case kkr => walk_at "rep"); (case kkc => walk_at "cls"); (case kkn => walk_at "na"); (case kkl => first | exact Nat.le_of_ble_eq_true rfl | assumption | omega | (simp; done) | (simp; omega)); (case kke => walk_at "pf"); intro H S)
  | ((with_reducible refine' q_new ?kkS ?kkl ?_); (case kkS => assumption); (case kkl => first | exact Nat.le_of_ble_eq_true rfl | assumption | omega | (simp; done) | (simp; omega)); intro p H S)
  | ((with_reducible refine' q_newT ?kkS ?kkl ?_); (case kkS => assumption); (case kkl => first | exact Nat.le_of_ble_eq_true rfl | assumption | omega | (simp; done) | (simp; omega)); intro p H S)
  | ((with_reducible refine' r_knew ?kkS ?_); (case kkS => assumption); intro x dx H S)
  | ((with_reducible refine' r_knewk ?kkS ?kkl1 ?kkl2 ?_); (case kkS => assumption); (case kkl1 => rfl); (case kkl2 => rfl); intro x dx H S)
  | ((with_reducible refine' r_ksl ?kkS ?kks ?_); (case kkS => assumption); (case kks => walk_at "sq"); intro p H S)
  | ((with_reducible refine' r_list ?kkS ?kks ?_); (case kkS => assumption); (case kks => walk_at "sq"); intro p H S)
  | ((with_reducible refine' r_cat ?kkS ?kks1 ?kks2 ?kkz ?_); (case kkS => assumption); (case kks1 => walk_at "at"); (case kks2 => walk_at "at"); (case kkz => first | omega | (simp; omega)); intro p H S)
  | ((with_reducible refine' r_append ?kkS ?kkr ?kkz ?_); (case kkS => assumption); (case kkr => walk_at "rep"); (case kkz => first | omega | (simp; omega)); intro H S)
  | ((with_reducible refine' r_reverse ?kkS ?kkr ?_); (case kkS => assumption); (case kkr => walk_at "rep"); intro H S)
  | ((with_reducible refine' r_clear ?kkS ?kkr ?_); (case kkS => assumption); (case kkr => walk_at "rep"); intro H S))
local macro_rules | `(tactic| walk_at "gn") => `(tactic| repeat (first | walk_at "k1" | walk_at "k2"))
local macro_rules | `(tactic| walk_at "go") => `(tactic| repeat (first | walk_at "k1" | walk_at "k2" | walk_at "k3"))

local macro_rules | `(tactic| walk_at "sq") => `(tactic| first | assumption | (refine' Sep.sq ?kkS ?kkpk; (case kkS => assumption); (case kkpk => walk_at "mem")) | (refine' hp_sqL ?kkS ?kkx; (case kkS => assumption); (case kkx => assumption)) | (refine' hp_sqL (Sep.tl ?kkS) ?kkx; (case kkS => assumption); (case kkx => assumption)) | (refine' hp_sqL (Sep.tl (Sep.tl ?kkS)) ?kkx; (case kkS => assumption); (case kkx => assumption)))
local macro_rules | `(tactic| walk_at "st") => `(tactic| first | assumption | (refine' Sep.st ?kkS ?kkpk; (case kkS => assumption); (case kkpk => walk_at "mem")) | (refine' hp_sqT ?kkS ?kkx; (case kkS => assumption); (case kkx => assumption)) | (refine' hp_sqT (Sep.tl ?kkS) ?kkx; (case kkS => assumption); (case kkx => assumption)) | (refine' hp_sqT (Sep.tl (Sep.tl ?kkS)) ?kkx; (case kkS => assumption); (case kkx => assumption)))
local macro_rules | `(tactic| walk_at "k1") => `(tactic| with_reducible first | refine r_ienumT ?_ | refine r_tru ?_ | refine r_itup ?_ | refine r_star ?_ | refine r_par3 ?_ | refine r_parA3 ?_ | refine r_dget ?_ | refine r_din ?_ | refine r_dnotin ?_ | refine r_dput ?_)

local macro_rules | `(tactic| walk_at "k1") => `(tactic| with_reducible first | refine r_kget ?_ | refine r_orT ?_ | refine r_slA ?_ | refine r_m1 ?_ | refine r_isS ?_)

section
variable {P : Program} {w : World} {K : PySem.W.Frag} {mg : Str → Option Value} {base : Heap} {f_NAMES_IN f_MAKING f_COPYING f_SHARING : Addr}
theorem sc_l_draw_heads : FnScope N_l_draw_heads ["_law_bag_here", "_law_many", "_law_most"] (defScope s_l_draw_heads) := ⟨rfl, rfl, rfl, by decide +kernel, rfl, by decide +kernel, by decide +kernel⟩
def spHeads (K : PySem.W.Frag) : Sp := fun vs H Q _ => ∃ (b : Addr) (many most : Nat) (G : Hp) (R : List SP), vs = [.ref b, .int many, .int most] ∧ many ≤ 4 ∧ 1 ≤ most ∧ most ≤ 7 ∧ Sep (hp G :: bag b :: R) H ∧
  ∀ d kvs hs G' H', HdsOk hs → hs.length ≤ many + 1 → Le G G' → HdsAt K G' kvs hs → Sep (pt d (.dK kvs) :: hp G' :: bag b :: R) H' → Q (.ref d) H'
theorem ok_l_draw_heads {f f1 f2 f3 : Addr} (F : Dt K mg "_law_draw_heads" s_l_draw_heads ["_law_bag_here", "_law_many", "_law_most"] f) (T : Tx K mg f_NAMES_IN f_MAKING f_COPYING f_SHARING) (D_l_take : Df P w K mg base 1 "_law_take" f1 ["_law_bag_here", "_law_many"] spTake)
    (D_l_draw_names : Df P w K mg base 2 "_law_draw_names" f2 ["_law_bag_here", "_law_many"] spNames) (D_l_mixed : Df P w K mg base 2 "_law_mixed" f3 ["_law_bag_here", "_law_things"] (spMixed K)) : Df P w K mg base 3 "_law_draw_heads" f ["_law_bag_here", "_law_many", "_law_most"] (spHeads K) := by
  refine F.ok sc_l_draw_heads (fun vs H Q E h => ?_) (fun cdv A outer s H vs Q E hr h => ?_)
  · obtain ⟨b, many, most, G, R, rfl, _⟩ := h
    rfl
  obtain ⟨b, many, most, G, R, rfl, hm, h1, h7, S, q⟩ := h
  refine ⟨_, (pss_cons (ps_set (i := 3) sc_l_draw_heads.nd rfl (by first | exact Or.inl rfl | exact Or.inr rfl) (pe_slice (r := rSlL K) sl_list (pe_lc (own := [("_law_name", 8)]) rfl sc_l_draw_heads.nd (pi_listK K (pe_df D_l_draw_names (hr.mono (by first | decide | omega)) (pa_cons (pv 0) (pa_cons (pe_op (r := rAddA) op_addA (pv 1) pe_int) pa_nil)))) (blkOk_by (own := [("_law_name", 8)]) (N := N_l_draw_heads) (sc := defScope s_l_draw_heads) (by decide +kernel)) (fun _ _ _ _ _ => (pg_name (i := 8) sc_l_draw_heads.nd rfl (by first | exact Or.inl rfl | exact Or.inr rfl))) (fun _ _ _ _ _ => (pts_one (pt_cmpR (r := rNeA K) (op_neA hr.units) (pv 8) pe_str (nomark _)))) (fun _ _ _ _ _ => (pv 8))) po_none (po_some (pe_df D_l_take (hr.mono (by first | decide | omega)) (pa_cons (pv 0) (pa_cons (pe_op (r := rAddA) op_addA (pv 1) pe_int) pa_nil))))))
      (pss_cons (ps_set (i := 4) sc_l_draw_heads.nd rfl (by first | exact Or.inl rfl | exact Or.inr rfl) pe_dnewK)
      (pss_cons (ps_for PassesOwn.never rfl (pi_listK K (pe_op (r := rAddA) op_addA (pe_lst (pa_cons pe_str pa_nil)) (pv 3))) (pg_name (i := 5) sc_l_draw_heads.nd rfl (by first | exact Or.inl rfl | exact Or.inr rfl)) (pss_cons (ps_set (i := 6) sc_l_draw_heads.nd rfl (by first | exact Or.inl rfl | exact Or.inr rfl) (pe_df D_l_draw_names (hr.mono (by first | decide | omega)) (pa_cons (pv 0) (pa_cons (pe_op (r := rAddA) op_addA pe_int (pe_df D_l_take (hr.mono (by first | decide | omega)) (pa_cons (pv 0) (pa_cons (pv 2) pa_nil)))) pa_nil))))
      (pss_cons (ps_set (i := 7) sc_l_draw_heads.nd rfl (by first | exact Or.inl rfl | exact Or.inr rfl) (pe_slice (r := rSlL K) sl_list (pe_df D_l_mixed (hr.mono (by first | decide | omega)) (pa_cons (pv 0) (pa_cons (pv 6) pa_nil))) po_none (po_some (pe_df D_l_take (hr.mono (by first | decide | omega)) (pa_cons (pv 0) (pa_cons pe_int pa_nil))))))
      (pss_one (ps_dput (Nat.lt_of_le_of_lt (Nat.add_le_add_left (by decide) _) hr.units) (pv 4) (pv 5) (pe_disp (pps_cons pe_str (pv 6) (pps_cons pe_str (pv 7) (pps_cons pe_str (pe_ix (r := rIx K) ix_seq (pv 6) (pe_df D_l_take (hr.mono (by first | decide | omega)) (pa_cons (pv 0) (pa_cons (pe_callB (r := cOr (cLenQ K) cLenS) call_lenA (by rfl) T.z_len (by decide +kernel) (pa_cons (pv 6) pa_nil)) pa_nil))) (fun _ _ => rfl)) pps_nil))) rfl rfl (by simp) (by decide)) rfl)))))
      (pss_one (ps_ret (pv 4)))))), ?_⟩
  walk_at "go"
  refine ⟨b, many + 1, _, rfl, by omega, S.s1 (A := bag b) (by walk_at "sel"), fun P0 l H hl S => ?_⟩
  have S : Sep (hp G :: pt P0 (.lst (l.map V.str)) :: bag b :: R) H := S.s3 (A := hp G) (B := pt P0 (.lst (l.map V.str))) (C := bag b) (by walk_at "sel")
  refine r_lc_list (xs := l.map V.str) (fun i acc Ps => acc = ((l.take i).filter fun x => decide (x ≠ ("main" : Str))).map V.str ∧ Ps = hp G :: pt P0 (.lst (l.map V.str)) :: bag b :: R) S ⟨rfl, rfl⟩ (fun D i acc Ps H hi ⟨_, e⟩ S => by subst e; walk_at "sq") (by walk_at "sq") ?_ ?_
  · rintro D i x acc Ps H hi ⟨rfl, rfl⟩ S
    obtain ⟨z, hz, rfl⟩ := str_at hi
    have hi' := (List.getElem?_eq_some_iff.mp hz).1
    have hln := hl.ln
    walk_at "go"
    refine ⟨rfl, ?_⟩
    walk_at "go"
    refine .inl ⟨rfl, ?_⟩
    walk_at "go"
    have e : decide (V.str z = V.str "main") = decide (z = "main") := decide_eq_decide.mpr ⟨fun q => V.str.inj q, fun q => congrArg _ q⟩
    rw [e]
    have hcap := List.length_filter_le (fun x => decide (x ≠ ("main" : Str))) (l.take i)
    rw [List.length_take] at hcap
    refine q_iteN (fun h => ?_) (fun h => ?_)
    · walk_at "go"
      refine cn_in S (by rw [List.length_map]; omega) ⟨?_, rfl⟩
      rw [List.take_add_one, hz, List.filter_append]
      simp [h]
    · refine cn_out S ⟨?_, rfl⟩
      rw [List.take_add_one, hz, List.filter_append]
      simp [h]
  rintro D acc Ps H ⟨rfl, rfl⟩ S
  rw [List.length_map, List.take_length] at S
  have flen := List.length_filter_le (fun x => decide (x ≠ ("main" : Str))) l
  have fnd := hl.nd.filter fun x => decide (x ≠ ("main" : Str))
  have fmem : ∀ x ∈ l.filter (fun x => decide (x ≠ ("main" : Str))), x ≠ "main" ∧ NmOk x := fun x m => ⟨of_decide_eq_true (List.mem_filter.mp m).2, hl.nm x (List.mem_filter.mp m).1⟩
  rw [hl.ln] at flen
  generalize l.filter (fun x => decide (x ≠ ("main" : Str))) = fl at S flen fnd fmem
  clear hl
  walk_at "go"
  refine ⟨b, many + 1, _, rfl, by omega, by omega, S.s1 (A := bag b) (by walk_at "sel"), fun v H v0 v1 S => ?_⟩
  obtain ⟨k, rfl⟩ := Int.eq_ofNat_of_zero_le v0
  walk_at "go"
  rw [cut_pre, ← List.map_take] at S
  obtain ⟨Lb, rfl⟩ : ∃ z, z = p := ⟨p, rfl⟩
  have ftl : (fl.take k).length ≤ many := by rw [List.length_take]; omega
  have ftn := fnd.sublist (List.take_sublist k fl)
  have ftm : ∀ x ∈ fl.take k, x ≠ "main" ∧ NmOk x := fun x m => fmem x (List.mem_of_mem_take m)
  generalize fl.take k = labels at S ftl ftn ftm
  have S : Sep (hp G :: pt Lb (.lst (labels.map V.str)) :: bag b :: R) H := S.s3 (A := hp G) (B := pt Lb (.lst (labels.map V.str))) (C := bag b) (by walk_at "sel")
  clear fnd fmem flen
  refine r_dnew S fun d H S => ?_
  have S : Sep (pt d (.dK []) :: hp G :: pt Lb (.lst (labels.map V.str)) :: bag b :: R) H := S
  walk_at "go"
  obtain ⟨Lc, rfl⟩ : ∃ z, z = p := ⟨p, rfl⟩
  have S : Sep (pt d (.dK []) :: hp G :: pt Lc (.lst ((("main" : Str) :: labels).map V.str)) :: bag b :: R) H := by
    have e : [V.str "main"] ++ labels.map V.str = (("main" : Str) :: labels).map V.str := rfl
    rw [e] at S
    exact S.s4 (A := pt d (.dK [])) (B := hp G) (C := pt Lc (.lst ((("main" : Str) :: labels).map V.str))) (D := bag b) (by walk_at "sel")
  have mainN : NmOk "main" := nm_by (by decide +kernel)
  have fnd : (("main" : Str) :: labels).Nodup := List.nodup_cons.mpr ⟨fun m => (ftm _ m).1 rfl, ftn⟩
  have fnm : ∀ x ∈ ("main" : Str) :: labels, NmOk x := fun x m => (List.mem_cons.mp m).elim (fun e => e ▸ mainN) fun m => (ftm x m).2
  have fln : (("main" : Str) :: labels).length ≤ many + 1 := by rw [List.length_cons]; omega
  have fhd : (("main" : Str) :: labels).head? = some "main" := rfl
  generalize ("main" : Str) :: labels = fns at S fnd fnm fln fhd
  clear ftn ftm ftl
  refine r_for_list (xs := fns.map V.str) (fun i σ Ps => ∃ (kvs : List (Key × V)) (hs : List Hd) (Gi : Hp) (u5 u6 u7 u8 : Option V), σ = [some (.ref b), some (.int many), some (.int most), some (.ref Lb), some (.ref d), u5, u6, u7, u8] ∧ Le G Gi ∧ HdsAt K Gi kvs hs ∧ hs.map Hd.fn = fns.take i ∧ (∀ h ∈ hs, HdOk h ∧ NmOk h.fn) ∧ Ps = pt d (.dK kvs) :: hp Gi :: pt Lc (.lst (fns.map V.str)) :: bag b :: R) S ⟨[], [], G, _, _, _, _, rfl, Le.rfl, .nil, rfl, nofun, rfl⟩ (fun i σ Ps H hi ⟨_, _, _, _, _, _, _, _, _, _, _, _, e⟩ S => by subst e; walk_at "sq") ?_ ?_
  · rintro i x σ Ps H hi ⟨kvs, hs, Gi, u5, u6, u7, u8, rfl, le, hat, hfn, hok, rfl⟩ S
    obtain ⟨fn, hf, rfl⟩ := str_at hi
    have hi' := (List.getElem?_eq_some_iff.mp hf).1
    have hkl : kvs.length = hs.length := Paired.length hat
    have hhl : hs.length = i := by
      have := congrArg List.length hfn
      rw [List.length_map, List.length_take] at this
      omega
    walk_at "go"
    refine ⟨b, most, _, rfl, by omega, by omega, S.s1 (A := bag b) (by walk_at "sel"), fun v H v0 v1 S => ?_⟩
    obtain ⟨m, rfl⟩ := Int.eq_ofNat_of_zero_le v0
    walk_at "go"
    refine ⟨b, 1 + m, _, rfl, by omega, S, fun N l H hl S => ?_⟩
    have hll := hl.ln
    obtain ⟨G1, le1, hN, S⟩ := hp_LD (K := K) (S.s5 (A := pt N (.lst (l.map V.str))) (B := hp Gi) (C := pt d (.dK kvs)) (D := pt Lc (.lst (fns.map V.str))) (E := bag b) (by walk_at "sel")) (dpall_strs l)
    walk_at "go"
    refine ⟨b, N, l, G1, _, rfl, by omega, hN.dp, S.s2 (A := hp G1) (B := bag b) (by walk_at "sel"), fun M qs G2 H hpm le2 hM S => ?_⟩
    walk_at "go"
    refine ⟨b, 3, _, rfl, by decide, by decide, S.s1 (A := bag b) (by walk_at "sel"), fun v H v0 v1 S => ?_⟩
    obtain ⟨kk, rfl⟩ := Int.eq_ofNat_of_zero_le v0
    walk_at "go"
    refine r_pre (n := kk) (S.s4 (A := hp G2) (B := pt d (.dK kvs)) (C := pt Lc (.lst (fns.map V.str))) (D := bag b) (by walk_at "sel")) hM.dp fun Pr G3 H le3 hP S => ?_
    rw [← List.map_take] at hP
    have hN3 := hN.le (le2.tr le3)
    walk_at "go"
    refine r_dispP S fun pe H S => ?_
    refine q_pair ?_
    walk_at "go"
    refine q_pair ?_
    walk_at "go"
    refine q_pair ?_
    walk_at "go"
    have S : Sep (hp G3 :: pt pe (.dK []) :: pt d (.dK kvs) :: pt Lc (.lst (fns.map V.str)) :: bag b :: R) H := S.s5 (A := hp G3) (B := pt pe (.dK [])) (C := pt d (.dK kvs)) (D := pt Lc (.lst (fns.map V.str))) (E := bag b) (by walk_at "sel")
    refine q_lenL (hp_sqL S hN3.sq) ?_
    rw [List.length_map]
    walk_at "go"
    refine ⟨b, _, _, rfl, by omega, by omega, S.s1 (A := bag b) (by walk_at "sel"), fun v H v0 v1 S => ?_⟩
    obtain ⟨j, rfl⟩ := Int.eq_ofNat_of_zero_le v0
    have hj : j < l.length := by omega
    have S : Sep (hp G3 :: pt pe (.dK []) :: pt d (.dK kvs) :: pt Lc (.lst (fns.map V.str)) :: bag b :: R) H := S.s5 (A := hp G3) (B := pt pe (.dK [])) (C := pt d (.dK kvs)) (D := pt Lc (.lst (fns.map V.str))) (E := bag b) (by walk_at "sel")
    refine q_ixL (v := .str l[j]) (hp_sqL S hN3.sq) (atI_nat (by rw [List.getElem?_map, List.getElem?_eq_getElem hj]; rfl)) ?_
    refine q_pairN ⟨S.at_ (.tl .hd), [(.inr "names", .ref N), (.inr "parameters", .ref Pr), (.inr "result", .str l[j])], rfl, by simp, ?_⟩
    have mg : mergeK [] [((.inr "names" : Key), V.ref N), (.inr "parameters", .ref Pr), (.inr "result", .str l[j])] = [((.inr "names" : Key), V.ref N), (.inr "parameters", .ref Pr), (.inr "result", .str l[j])] := mergeK_nd (l := []) (show ([.inr "names", .inr "parameters", .inr "result"] : List Key).Nodup by decide +kernel)
    rw [mg]
    have S := S.swap.hd_set (.dK [((.inr "names" : Key), V.ref N), (.inr "parameters", .ref Pr), (.inr "result", .str l[j])])
    obtain ⟨G4, le4, e4, S⟩ := hp_add S
    walk_at "go"
    have hat4 : HdAt K G4 (.ref pe) ⟨fn, l, qs.take kk, l[j]⟩ := ⟨pe, N, Pr, rfl, e4, hN3.le le4, hP.le le4⟩
    have hf2 : fn ∉ fns.take i := fun m => by
      obtain ⟨jj, hjj, e⟩ := List.mem_take_iff_getElem.mp m
      have hjl := hjj
      have e2 := List.getElem?_eq_some_iff.mp hf
      have := (List.getElem_inj (h₀ := by omega) (h₁ := hi') fnd (i := jj) (j := i)).mp (e.trans e2.2.symm)
      omega
    refine r_dputN (S.s4 (A := pt d (.dK kvs)) (B := hp G4) (C := pt Lc (.lst (fns.map V.str))) (D := bag b) (by walk_at "sel")) (fun m => ?_) (by omega) fun H S => ?_
    · rw [hat.keys] at m
      obtain ⟨h, mh, e⟩ := List.mem_map.mp m
      have e : h.fn = fn := Sum.inr.inj e
      exact hf2 (by rw [← hfn, ← e]; exact List.mem_map_of_mem mh)
    · walk_at "go"
      refine ⟨_, ⟨kvs ++ [(kS fn, .ref pe)], hs ++ [⟨fn, l, qs.take kk, l[j]⟩], G4, _, _, _, _, rfl, (((le.tr le1).tr le2).tr le3).tr le4, (hat.le (((le1.tr le2).tr le3).tr le4)).snoc hat4, ?_, fun h mh => ?_, rfl⟩, S⟩
      · rw [List.map_append, hfn, List.take_add_one, hf]
        rfl
      · rcases List.mem_append.mp mh with mh | mh
        · exact hok h mh
        · rw [List.mem_singleton] at mh
          subst mh
          refine ⟨⟨hl.nm, hl.nd, fun e => ?_, by show l.length ≤ 8; omega, fun x m => hpm.mem_iff.mp (List.mem_of_mem_take m), (hpm.nodup_iff.mpr hl.nd).sublist (List.take_sublist ..), ?_, List.getElem_mem hj⟩, fnm fn (List.mem_of_getElem? hf)⟩
          · have e : l = [] := e
            rw [e] at hj
            exact absurd hj (Nat.not_lt_zero _)
          · show (qs.take kk).length ≤ 2
            rw [List.length_take]
            omega
  · rintro σ Ps H ⟨kvs, hs, Gi, u5, u6, u7, u8, rfl, le, hat, hfn, hok, rfl⟩ S
    rw [List.length_map, List.take_length] at hfn
    walk_at "go"
    have hl : hs.length ≤ many + 1 := by
      have := congrArg List.length hfn
      rw [List.length_map] at this
      omega
    exact q d kvs hs Gi H ⟨by omega, hok, by rw [hfn]; exact fnd, by rw [hfn]; exact fhd⟩ hl le hat (S.s3 (A := pt d (.dK kvs)) (B := hp Gi) (C := bag b) (by walk_at "sel"))
end
end Pf

set_option Elab.async false
set_option linter.all false
set_option maxRecDepth 100000
set_option maxHeartbeats 8000000
namespace Pf
open PySem L2 Kt
set_option hygiene false
local macro_rules | `(tactic| walk_at "mem") => `(tactic| (with_reducible (repeat (first | exact Pick.hd | apply Pick.tl)); done))
local macro_rules | `(tactic| walk_at "rep") => `(tactic| (with_reducible (repeat (first | exact Repl.hd | apply Repl.tl)); done))
local macro_rules | `(tactic| walk_at "sel") => `(tactic| ((repeat (with_reducible apply Sel.cons; (focus walk_at "mem"))); (with_reducible apply Sel.nil); (with_reducible (repeat (first | exact Dr.all | apply Dr.skip)); done)))
local macro_rules | `(tactic| walk_at "at") => `(tactic| (refine' Sep.at_ (by assumption) ?kkpk; (case kkpk => walk_at "mem")))
local macro_rules | `(tactic| walk_at "sq") => `(tactic| first | assumption | (refine' Sep.sq (by assumption) ?kkpk; (case kkpk => walk_at "mem")))
local macro_rules | `(tactic| walk_at "st") => `(tactic| first | assumption | (refine' Sep.st (by assumption) ?kkpk; (case kkpk => walk_at "mem")))
local macro_rules | `(tactic| walk_at "lk") => `(tactic| (repeat (first | (with_reducible exact lk_eq) | exact rfl | refine (lk_ne (by decide +kernel)).trans ?_)))
local macro_rules | `(tactic| walk_at "pf") => `(tactic| (repeat (first | (with_reducible exact pf_nil) | (with_reducible exact pf_eq) | (apply pf_ne; (focus decide +kernel)))))
local macro_rules | `(tactic| walk_at "ty") => `(tactic| first | exact ty_int | (refine' ty_lst ?kkh; (case kkh => walk_at "at")))
local macro_rules | `(tactic| walk_at "k1") => `(tactic| with_reducible first
  | refine q_seq ?_ | refine q_set ?_ | refine q_asg ?_ | refine q_ret ?_ | refine q_drop ?_ | refine q_next ?_ | refine q_c ?_ | refine q_op ?_ | refine q_un ?_ | refine q_nil ?_ | refine q_cons ?_ | refine q_cb ?_
  | refine q_call ?_ | refine q_ifs ?_ | refine q_if ?_ | refine q_test ?_ | refine q_tb ?_ | refine q_bl ?_ | refine q_notT ?_ | refine q_andT ?_ | refine q_orT ?_ | refine q_andV ?_ | refine q_orV ?_ | refine q_notV ?_
  | refine q_addA ?_ | refine q_subI ?_ | refine q_ltI ?_ | refine q_leI ?_ | refine q_gtI ?_ | refine q_geI ?_ | refine q_eqI ?_ | refine q_neI ?_ | refine q_abs ?_ | refine q_int ?_ | refine q_intB ?_ | refine q_max ?_ | refine q_min ?_
  | refine q_ipAdd ?_ | refine q_ipSub ?_ | refine q_gsub ?_ | refine q_augs ?_ | refine q_lst ?_ | refine q_tup ?_ | refine q_blI ?_ | refine iteT ?_ | refine iteF ?_ | refine iteNT ?_ | refine iteNF ?_
  | refine r_prop ?_ | refine r_fld ?_ | refine r_sfld ?_ | refine r_meth ?_ | refine r_make ?_ | refine r_sl ?_ | refine r_nopart ?_ | refine r_part ?_ | refine r_parti ?_ | refine r_gsl ?_ | refine r_bm ?_ | refine r_bm0 ?_ | refine r_for ?_ | refine r_ilist ?_ | refine r_irng ?_
  | refine r_gname ?_ | refine r_gcons ?_ | refine r_gnil ?_ | refine r_par ?_ | refine r_parA ?_ | refine r_chain ?_ | refine r_isN ?_ | refine r_tlc ?_ | refine r_yes ?_ | refine r_makek ?_ | refine r_neg ?_)
local macro_rules | `(tactic| walk_at "k2") => `(tactic| first
  | ((with_reducible refine' q_var ?kke ?_); (case kke => rfl))
  | ((with_reducible refine' q_aug ?kke ?_); (case kke => rfl))
  | ((with_reducible refine' q_ixL ?kks ?kke ?_); (case kks => walk_at "sq"); (case kke => first | rfl | assumption))
  | ((with_reducible refine' q_ixT ?kks ?kke ?_); (case kks => walk_at "st"); (case kke => first | rfl | assumption))
  | ((with_reducible refine' q_ixLL ?kks ?kke ?_); (case kks => walk_at "sq"); (case kke => first | rfl | assumption))
  | ((with_reducible refine' q_lenL ?kks ?_); (case kks => walk_at "sq"))
  | ((with_reducible refine' q_mulI ?kkc ?_); (case kkc => first | exact .inl (by omega) | exact .inr (by omega)))
  | ((with_reducible refine' q_modI ?kkc ?_); (case kkc => omega))
  | ((with_reducible refine' q_divI ?kkc ?_); (case kkc => exact ⟨by omega, by omega⟩))
  | ((with_reducible refine' q_powI ?kkc ?_); (case kkc => exact ⟨by decide, by decide, by decide⟩))
  | ((with_reducible refine' r_kfld ?kkS ?kkp ?kkc ?kkn ?kkl ?_); (case kkS => assumption); (case kkp => walk_at "mem"); (case kkc => walk_at "cls"); (case kkn => walk_at "na"); (case kkl => walk_at "lk"))
  | ((with_reducible refine' r_kprop ?kkS ?kkp ?_); (case kkS => assumption); (case kkp => walk_at "mem"))
  | ((with_reducible refine' r_kmeth ?kkS ?kkp ?kkl ?_); (case kkS => assumption); (case kkp => walk_at "mem"); (case kkl => walk_at "lk"))
  | ((with_reducible refine' r_calll ?kks ?_); (case kks => rfl))
  | ((with_reducible refine' r_tyl ?kks ?_); (case kks => walk_at "sq"))
  | ((with_reducible refine' r_isi (k := true) ?kkt ?kke ?_); (case kkt => walk_at "ty"); (case kke => decide +kernel))
  | ((with_reducible refine' r_isi (k := false) ?kkt ?kke ?_); (case kkt => walk_at "ty"); (case kke => decide +kernel)))
local macro_rules | `(tactic| walk_at "k3") => `(tactic| first
  | ((with_reducible refine' q_setS ?kkS ?kkr ?kke ?_); (case kkS => assumption); (case kkr => walk_at "rep"); (case kke => rfl); intro H S)
  | ((with_reducible refine' r_kset ?kkS ?kkr ?kkc ?kkn ?kkl ?kke ?_); (case kkS => assumption); (case kkr => walk_at "rep"); (case kkc => walk_at "cls"); (case kkn => walk_at "na"); (case kkl => first | exact Nat.le_of_ble_eq_true rfl | assumption | omega | (simp; done) | (simp; omega)); (case kke => walk_at "pf"); intro H S)
  | ((with_reducible refine' q_new ?kkS ?kkl ?_); (case kkS => assumption); (case kkl => first | exact Nat.le_of_ble_eq_true rfl | assumption | omega | (simp; done) | (simp; omega)); intro p H S)
  | ((with_reducible refine' q_newT ?kkS ?kkl ?_); (case kkS => assumption); (case kkl => first | exact Nat.le_of_ble_eq_true rfl | assumption | omega | (simp; done) | (simp; omega)); intro p H S)
  | ((with_reducible refine' r_knew ?kkS ?_); (case kkS => assumption); intro x dx H S)
  | ((with_reducible refine' r_knewk ?kkS ?kkl1 ?kkl2 ?_); (case kkS => assumption); (case kkl1 => rfl); (case kkl2 => rfl); intro x dx H S)
  | ((with_reducible refine' r_ksl ?kkS ?kks ?_); (case kkS => assumption); (case kks => walk_at "sq"); intro p H S)
  | ((with_reducible refine' r_list ?kkS ?kks ?_); (case kkS => assumption); (case kks => walk_at "sq"); intro p H S)
  | ((with_reducible refine' r_cat ?kkS ?kks1 ?kks2 ?kkz ?_); (case kkS => assumption); (case kks1 => walk_at "at"); (case kks2 => walk_at "at"); (case kkz => first | omega | (simp; omega)); intro p H S)
  | ((with_reducible refine' r_append ?kkS ?kkr ?kkz ?_); (case kkS => assumption); (case kkr => walk_at "rep"); (case kkz => first | omega | (simp; omega)); intro H S)
  | ((with_reducible refine' r_reverse ?kkS ?kkr ?_); (case kkS => assumption); (case kkr => walk_at "rep"); intro H S)
  | ((with_reducible refine' r_clear ?kkS ?kkr ?_); (case kkS => assumption); (case kkr => walk_at "rep"); intro H S))
local macro_rules | `(tactic| walk_at "gn") => `(tactic| repeat (first | walk_at "k1" | walk_at "k2"))
local macro_rules | `(tactic| walk_at "go") => `(tactic| repeat (first | walk_at "k1" | walk_at "k2" | walk_at "k3"))

local macro_rules | `(tactic| walk_at "sq") => `(tactic| first | assumption | (refine' Sep.sq ?kkS ?kkpk; (case kkS => assumption); (case kkpk => walk_at "mem")) | (refine' hp_sqL ?kkS ?kkx; (case kkS => assumption); (case kkx => assumption)) | (refine' hp_sqL (Sep.tl ?kkS) ?kkx; (case kkS => assumption); (case kkx => assumption)) | (refine' hp_sqL (Sep.tl (Sep.tl ?kkS)) ?kkx; (case kkS => assumption); (case kkx => assumption)))
local macro_rules | `(tactic| walk_at "st") => `(tactic| first | assumption | (refine' Sep.st ?kkS ?kkpk; (case kkS => assumption); (case kkpk => walk_at "mem")) | (refine' hp_sqT ?kkS ?kkx; (case kkS => assumption); (case kkx => assumption)) | (refine' hp_sqT (Sep.tl ?kkS) ?kkx; (case kkS => assumption); (case kkx => assumption)) | (refine' hp_sqT (Sep.tl (Sep.tl ?kkS)) ?kkx; (case kkS => assumption); (case kkx => assumption)))
local macro_rules | `(tactic| walk_at "k1") => `(tactic| with_reducible first | refine r_ienumT ?_ | refine r_tru ?_ | refine r_itup ?_ | refine r_star ?_ | refine r_par3 ?_ | refine r_parA3 ?_ | refine r_dget ?_ | refine r_din ?_ | refine r_dnotin ?_ | refine r_dput ?_)

local macro_rules | `(tactic| walk_at "k1") => `(tactic| with_reducible first | refine r_kget ?_ | refine r_orT ?_ | refine r_slA ?_ | refine r_m1 ?_ | refine r_isS ?_)

/-- what a call in a body of hh may be: to a later head, or in a loop to any but the first -/
def CallC (hs : List Hd) (hh : Hd) : Bool → Str → Nat → Prop := fun fr f n => ∃ (j : Nat) (c : Hd), hs[j]? = some c ∧ 0 < j ∧ f = c.fn ∧ n = c.pars.length ∧ (fr = true ∨ ∃ i, i < j ∧ hs[i]? = some hh)
section
variable {P : Program} {w : World} {K : PySem.W.Frag} {mg : Str → Option Value} {base : Heap} {f_NAMES_IN f_MAKING f_COPYING f_SHARING : Addr}
theorem hds_get {G : Hp} {kvs : List (Key × V)} {hs : List Hd} (h : HdsAt K G kvs hs) (nd : (hs.map Hd.fn).Nodup) {hh : Hd} (m : hh ∈ hs) : ∃ a ni pi, valV kvs (kS hh.fn) = some (.ref a) ∧ G a = some (.dK [(.inr "names", .ref ni), (.inr "parameters", .ref pi), (.inr "result", .str hh.res)]) ∧ LD K G ni (hh.names.map PyData.str) ∧ LD K G pi (hh.pars.map PyData.str) := by
  have hk : (kvs.map Prod.fst).Nodup := by
    rw [h.keys]
    have e : (hs.map fun h => kS h.fn) = (hs.map Hd.fn).map kS := by rw [List.map_map]; rfl
    rw [e]
    exact List.pairwise_map.mpr (nd.imp fun h e => h (Sum.inr.inj e))
  obtain ⟨v, mv, a, ni, pi, rfl, e, d1, d2⟩ : ∃ v, (kS hh.fn, v) ∈ kvs ∧ HdAt K G v hh := by
    clear hk nd
    induction h with
    | nil => cases m
    | @cons kv x ks xs z _ ih =>
      rcases List.mem_cons.mp m with rfl | m
      · obtain ⟨k, v⟩ := kv
        have : k = kS hh.fn := z.1
        subst this
        exact ⟨v, List.mem_cons_self, z.2⟩
      · obtain ⟨v, mv, hv⟩ := ih m
        exact ⟨v, List.mem_cons_of_mem _ mv, hv⟩
  exact ⟨a, ni, pi, valV_at hk mv, e, d1, d2⟩
theorem v_names {n p r : V} : valV [((.inr "names" : Key), n), (.inr "parameters", p), (.inr "result", r)] (kS "names") = some n := by
  unfold valV
  rfl
theorem v_pars {n p r : V} : valV [((.inr "names" : Key), n), (.inr "parameters", p), (.inr "result", r)] (kS "parameters") = some p := by
  unfold valV
  rfl
theorem sc_l_draw_call : FnScope N_l_draw_call ["_law_bag_here", "_law_heads", "_law_function", "_law_is_free"] (defScope s_l_draw_call) := ⟨rfl, rfl, rfl, by decide +kernel, rfl, by decide +kernel, by decide +kernel⟩
def spCall (K : PySem.W.Frag) : Sp := fun vs H Q _ => ∃ (b d : Addr) (Dd : SP) (kvs : List (Key × V)) (hs : List Hd) (hh : Hd) (fr : Bool) (G : Hp) (R : List SP), vs = [.ref b, .ref d, .str hh.fn, .bl fr] ∧ HdsOk hs ∧ hh ∈ hs ∧ HdsAt K G kvs hs ∧ (∀ g, Dd g → Rd g d (.dK kvs)) ∧ Sep (Dd :: hp G :: bag b :: R) H ∧
  (∀ H', Sep (Dd :: hp G :: bag b :: R) H' → Q .non H') ∧
  ∀ v nm f as G' H', nm ∈ hh.names → (∀ a ∈ as, a ∈ hh.names) → CallC hs hh fr f as.length → Le G G' → Dp K G' v (Stm.call nm f true as).enc → Sep (Dd :: hp G' :: bag b :: R) H' → Q v H'
theorem ok_l_draw_call {f f1 : Addr} (F : Dt K mg "_law_draw_call" s_l_draw_call ["_law_bag_here", "_law_heads", "_law_function", "_law_is_free"] f) (T : Tx K mg f_NAMES_IN f_MAKING f_COPYING f_SHARING) (D_l_take : Df P w K mg base 1 "_law_take" f1 ["_law_bag_here", "_law_many"] spTake) : Df P w K mg base 2 "_law_draw_call" f ["_law_bag_here", "_law_heads", "_law_function", "_law_is_free"] (spCall K) := by
  refine F.ok sc_l_draw_call (fun vs H Q E h => ?_) (fun cdv A outer s H vs Q E hr h => ?_)
  · obtain ⟨b, d, Dd, kvs, hs, hh, fr, G, R, rfl, _⟩ := h
    rfl
  obtain ⟨b, d, Dd, kvs, hs, hh, fr, G, R, rfl, hok, hm, hat, hD, S, q0, q⟩ := h
  refine ⟨_, (pss_cons (ps_asg (pe_tup (pa_cons (pe_callTy (r := rListR) (cr_listR rfl) (by rfl) T.z_list (by decide +kernel) (pa_cons (pv 1) pa_nil)) (pa_cons (pe_dget (Nat.lt_of_le_of_lt (Nat.add_le_add_left (by decide) _) hr.units) (pe_dget (Nat.lt_of_le_of_lt (Nat.add_le_add_left (by decide) _) hr.units) (pv 1) (pv 2) (by first | rfl | trivial | exact fun _ _ => rfl)) pe_str (by first | rfl | trivial | exact fun _ _ => rfl)) pa_nil))) (pg_tupK K rfl (pgs_cons (pg_name (i := 4) sc_l_draw_call.nd rfl (by first | exact Or.inl rfl | exact Or.inr rfl)) (pgs_cons (pg_name (i := 5) sc_l_draw_call.nd rfl (by first | exact Or.inl rfl | exact Or.inr rfl)) pgs_nil))))
      (C8.pss_cut (ps_set (i := 6) sc_l_draw_call.nd rfl (by first | exact Or.inl rfl | exact Or.inr rfl) (pe_ifExp (pt_val (pv 3)) (pe_slice (r := rSlL K) sl_list (pv 4) (po_some pe_int) po_none) (pe_slice (r := rSlL K) sl_list (pv 4) (po_some (pe_op (r := rAddA) op_addA (pe_bmK K PySem.F.plainAttrs_list PySem.F.slot_list_index PySem.F.type_list_index (mt_indexK K) (pv 4) (pa_cons (pv 2) pa_nil)) pe_int)) po_none)))
      (pss_cons (ps_if (pt_cmpR (r := rEqA K) (op_eqA hr.units) (pv 6) (pe_lst pa_nil) (nomark _)) (pss_one (ps_ret pe_non)) pss_nil)
      (pss_cons (ps_set (i := 7) sc_l_draw_call.nd rfl (by first | exact Or.inl rfl | exact Or.inr rfl) (pe_ix (r := rIx K) ix_seq (pv 6) (pe_df D_l_take (hr.mono (by first | decide | omega)) (pa_cons (pv 0) (pa_cons (pe_callB (r := cOr (cLenQ K) cLenS) call_lenA (by rfl) T.z_len (by decide +kernel) (pa_cons (pv 6) pa_nil)) pa_nil))) (fun _ _ => rfl)))
      (pss_cons (ps_setLc (i := 8) (own := [("_law_parameter", 9)]) rfl sc_l_draw_call.nd rfl rfl (sw_true rfl rfl rfl (by decide +kernel)) (pi_listK K (pe_dget (Nat.lt_of_le_of_lt (Nat.add_le_add_left (by decide) _) hr.units) (pe_dget (Nat.lt_of_le_of_lt (Nat.add_le_add_left (by decide) _) hr.units) (pv 1) (pv 7) (by first | rfl | trivial | exact fun _ _ => rfl)) pe_str (by first | rfl | trivial | exact fun _ _ => rfl))) (blkOk_by (own := [("_law_parameter", 9)]) (N := N_l_draw_call) (sc := defScope s_l_draw_call) (by decide +kernel)) (fun _ _ _ _ _ => (pg_name (i := 9) sc_l_draw_call.nd rfl (by first | exact Or.inl rfl | exact Or.inr rfl))) (fun _ _ _ _ _ => pts_nil) (fun _ _ _ _ _ => (pe_ix (r := rIx K) ix_seq (pv 5) (pe_df D_l_take (hr.mono (by first | decide | omega)) (pa_cons (pv 0) (pa_cons (pe_callB (r := cOr (cLenQ K) cLenS) call_lenA (by rfl) T.z_len (by decide +kernel) (pa_cons (pv 5) pa_nil)) pa_nil))) (fun _ _ => rfl))))
      (pss_one (ps_ret (pe_tup (pa_cons pe_str (pa_cons (pe_ix (r := rIx K) ix_seq (pv 5) (pe_df D_l_take (hr.mono (by first | decide | omega)) (pa_cons (pv 0) (pa_cons (pe_callB (r := cOr (cLenQ K) cLenS) call_lenA (by rfl) T.z_len (by decide +kernel) (pa_cons (pv 5) pa_nil)) pa_nil))) (fun _ _ => rfl)) (pa_cons (pv 7) (pa_cons (pe_callTy (r := cTup K) call_tupA (by rfl) T.z_tuple (by decide +kernel) (pa_cons (pv 8) pa_nil)) pa_nil)))))))))))), ?_⟩
  walk_at "go"
  obtain ⟨ha, ni, pi, hv, hG, hN, hP⟩ := hds_get hat hok.nd hm
  refine r_listR S (rd_part hD S) fun O H S => ?_
  have ek : (kvs.map fun kv => kV kv.1) = (hs.map Hd.fn).map V.str := by
    have e : (kvs.map fun kv => kV kv.1) = (kvs.map Prod.fst).map kV := by rw [List.map_map]; rfl
    rw [e, hat.keys, List.map_map, List.map_map]
    rfl
  rw [ek] at S
  walk_at "go"
  refine r_dgetV (rd_part hD S.tl) hv ?_
  refine r_dgetV (.inl (hp_le (S.s1 (A := hp G) (by walk_at "sel")) _ _ hG)) v_names ?_
  walk_at "go"
  refine r_gtup (xs := [.ref O, .ref ni]) (by walk_at "st") rfl ?_
  walk_at "go"
  have S : Sep (Dd :: hp G :: pt O (.lst ((hs.map Hd.fn).map V.str)) :: bag b :: R) H := S.s4 (A := Dd) (B := hp G) (C := pt O (.lst ((hs.map Hd.fn).map V.str))) (D := bag b) (by walk_at "sel")
  obtain ⟨i, hi⟩ := List.getElem?_of_mem hm
  have hil := (List.getElem?_eq_some_iff.mp hi).1
  have hln := hok.ln
  have hN0 : hh.names.length ≠ 0 := fun e => (hok.each hh hm).1.n1 (List.length_eq_zero_iff.mp e)
  have hN8 := (hok.each hh hm).1.nl
  refine q_cut (Mid := fun σ H => ∃ (m : Nat) (L : Addr), σ = [some (.ref b), some (.ref d), some (.str hh.fn), some (.bl fr), some (.ref O), some (.ref ni), some (.ref L), none, none, none] ∧ 0 < m ∧ (fr = true ∨ i < m) ∧ Sep (pt L (.lst (((hs.map Hd.fn).drop m).map V.str)) :: Dd :: hp G :: bag b :: R) H) ?_ ?_
  · walk_at "go"
    refine q_iteB (fun h => ?_) (fun h => ?_)
    · walk_at "go"
      have e : cutV ((hs.map Hd.fn).map V.str) (some (1 : Int)) none = ((hs.map Hd.fn).drop 1).map V.str := by
        rw [List.map_drop]
        exact cut_suf (n := 1)
      rw [e] at S
      exact ⟨1, _, rfl, by decide, .inl h, S.s4 (A := pt p (.lst (((hs.map Hd.fn).drop 1).map V.str))) (B := Dd) (C := hp G) (D := bag b) (by walk_at "sel")⟩
    · walk_at "go"
      refine r_index (by walk_at "sq") hok.nd (j := i) (by rw [List.getElem?_map, hi]; rfl) ?_
      walk_at "go"
      have e : cutV ((hs.map Hd.fn).map V.str) (some ((i : Int) + 1)) none = ((hs.map Hd.fn).drop (i + 1)).map V.str := by
        rw [List.map_drop]
        exact cut_suf (n := i + 1)
      rw [e] at S
      exact ⟨i + 1, _, rfl, by omega, .inr (by omega), S.s4 (A := pt p (.lst (((hs.map Hd.fn).drop (i + 1)).map V.str))) (B := Dd) (C := hp G) (D := bag b) (by walk_at "sel")⟩
  rintro σ H ⟨m, L, rfl, hm0, hmi, S⟩
  walk_at "go"
  refine r_eq_nilL (.lst (SqL.of (S.at_ (.tl .hd))) (dpall_strs ((hs.map Hd.fn).drop m))) (okd_ns (fun x mx => ?_)) (by decide) (by walk_at "sq") ?_
  · obtain ⟨c, mc, rfl⟩ := List.mem_map.mp (List.mem_of_mem_drop mx)
    exact nm_str (hok.each c mc).2
  rw [List.isEmpty_map]
  walk_at "go"
  have S := S.tl
  refine q_iteB (fun h => ?_) (fun h => ?_)
  · walk_at "go"
    exact q0 H (S.s3 (A := Dd) (B := hp G) (C := bag b) (by walk_at "sel"))
  have hmh : m < hs.length := by
    rcases Nat.lt_or_ge m hs.length with z | z
    · exact z
    · rw [List.drop_eq_nil_of_le (by rw [List.length_map]; exact z)] at h
      cases h
  walk_at "go"
  refine ⟨b, _, _, rfl, by rw [List.length_map, List.length_drop, List.length_map]; omega, by rw [List.length_map, List.length_drop, List.length_map]; omega, S.s1 (A := bag b) (by walk_at "sel"), fun v H v0 v1 S => ?_⟩
  rw [List.length_map, List.length_drop, List.length_map] at v1
  obtain ⟨j, rfl⟩ := Int.eq_ofNat_of_zero_le v0
  have hjc : m + j < hs.length := by omega
  refine q_ixL (v := .str hs[m + j].fn) (by walk_at "sq") (atI_nat (by rw [List.getElem?_map, List.getElem?_drop, List.getElem?_map, List.getElem?_eq_getElem hjc]; rfl)) ?_
  have hcm : hs[m + j] ∈ hs := List.getElem_mem hjc
  have hcj : hs[m + j]? = some hs[m + j] := List.getElem?_eq_getElem hjc
  generalize hs[m + j] = c at hcm hcj
  obtain ⟨ca, cni, cpi, cv, cG, cN, cP⟩ := hds_get hat hok.nd hcm
  have S : Sep (Dd :: hp G :: bag b :: R) H := S.s3 (A := Dd) (B := hp G) (C := bag b) (by walk_at "sel")
  walk_at "go"
  refine r_dgetV (rd_part hD S) cv ?_
  walk_at "go"
  refine r_dgetV (.inl (hp_le S.tl _ _ cG)) v_pars ?_
  have hcp := (hok.each c hcm).1.pl
  refine r_lc_list (xs := c.pars.map V.str) (fun i acc Ps => ∃ as : List Str, acc = as.map V.str ∧ as.length = i ∧ (∀ a ∈ as, a ∈ hh.names) ∧ Ps = Dd :: hp G :: bag b :: R) S ⟨[], rfl, rfl, nofun, rfl⟩ (fun D i acc Ps H hi ⟨_, _, _, _, e⟩ S => by subst e; exact hp_sqL S.tl.tl cP.sq) (hp_sqL S.tl cP.sq) ?_ ?_
  · rintro D i x acc Ps H hi ⟨as, rfl, hal, haz, rfl⟩ S
    have hi' := (List.getElem?_eq_some_iff.mp hi).1
    rw [List.length_map] at hi'
    walk_at "go"
    refine ⟨rfl, ?_⟩
    walk_at "go"
    refine q_lenL (hp_sqL S.tl.tl hN.sq) ?_
    walk_at "go"
    refine ⟨b, _, _, rfl, by rw [List.length_map]; omega, by rw [List.length_map]; omega, S.s1 (A := bag b) (by walk_at "sel"), fun v H v0 v1 S => ?_⟩
    rw [List.length_map] at v1
    obtain ⟨j, rfl⟩ := Int.eq_ofNat_of_zero_le v0
    have hj : j < hh.names.length := by omega
    have S : Sep (pt D (.lst (as.map V.str)) :: Dd :: hp G :: bag b :: R) H := S.s4 (A := pt D (.lst (as.map V.str))) (B := Dd) (C := hp G) (D := bag b) (by walk_at "sel")
    refine q_ixL (v := .str hh.names[j]) (hp_sqL S.tl.tl hN.sq) (atI_nat (by rw [List.getElem?_map, List.getElem?_eq_getElem hj]; rfl)) ?_
    refine cn_in S (by rw [List.length_map]; omega) ⟨as ++ [hh.names[j]], by simp, by rw [List.length_append, hal]; rfl, fun a ma => ?_, rfl⟩
    rcases List.mem_append.mp ma with ma | ma
    · exact haz a ma
    · rw [List.mem_singleton] at ma
      subst ma
      exact List.getElem_mem hj
  · rintro D acc Ps H ⟨as, rfl, hal, haz, rfl⟩ S
    rw [List.length_map] at hal
    walk_at "go"
    refine q_lenL (hp_sqL S.tl.tl hN.sq) ?_
    walk_at "go"
    refine ⟨b, _, _, rfl, by rw [List.length_map]; omega, by rw [List.length_map]; omega, S.s1 (A := bag b) (by walk_at "sel"), fun v H v0 v1 S => ?_⟩
    rw [List.length_map] at v1
    obtain ⟨j2, rfl⟩ := Int.eq_ofNat_of_zero_le v0
    have hj : j2 < hh.names.length := by omega
    have S : Sep (pt D (.lst (as.map V.str)) :: Dd :: hp G :: bag b :: R) H := S.s4 (A := pt D (.lst (as.map V.str))) (B := Dd) (C := hp G) (D := bag b) (by walk_at "sel")
    refine q_ixL (v := .str hh.names[j2]) (hp_sqL S.tl.tl hN.sq) (atI_nat (by rw [List.getElem?_map, List.getElem?_eq_getElem hj]; rfl)) ?_
    walk_at "go"
    refine r_tupOf S (by walk_at "sq") fun t H S => ?_
    obtain ⟨G2, le2, hd2, S⟩ := hp_tup (K := K) (S.s4 (A := pt t (.tup (as.map V.str))) (B := hp G) (C := Dd) (D := bag b) (by walk_at "sel")) (dpall_strs as)
    walk_at "go"
    obtain ⟨G3, le3, hd3, S⟩ := hp_tup (K := K) S (ds := [.str "call", .str hh.names[j2], .str c.fn, .tuple (as.map PyData.str)]) (.cons (.str _) (.cons (.str _) (.cons (.str _) (.cons hd2 .nil))))
    refine q _ hh.names[j2] c.fn as G3 H (List.getElem_mem hj) haz ⟨m + j, c, hcj, by omega, rfl, hal, hmi.imp id fun z => ⟨i, by omega, hi⟩⟩ (le2.tr le3) ?_ (S.s3 (A := Dd) (B := hp G3) (C := bag b) (by walk_at "sel"))
    rw [Stm.enc]
    exact hd3
end
end Pf

set_option Elab.async false
set_option linter.all false
set_option maxRecDepth 100000
set_option maxHeartbeats 8000000
namespace Pf
open PySem L2 Kt
set_option hygiene false
local macro_rules | `(tactic| walk_at "mem") => `(tactic| (with_reducible (repeat (first | exact Pick.hd | apply Pick.tl)); done))
local macro_rules | `(tactic| walk_at "rep") => `(tactic| (with_reducible (repeat (first | exact Repl.hd | apply Repl.tl)); done))
local macro_rules | `(tactic| walk_at "sel") => `(tactic| ((repeat (with_reducible apply Sel.cons; (focus walk_at "mem"))); (with_reducible apply Sel.nil); (with_reducible (repeat (first | exact Dr.all | apply Dr.skip)); done)))
local macro_rules | `(tactic| walk_at "at") => `(tactic| (refine' Sep.at_ (by assumption) ?kkpk; (case kkpk => walk_at "mem")))
local macro_rules | `(tactic| walk_at "sq") => `(tactic| first | assumption | (refine' Sep.sq (by assumption) ?kkpk; (case kkpk => walk_at "mem")))
local macro_rules | `(tactic| walk_at "st") => `(tactic| first | assumption | (refine' Sep.st (by assumption) ?kkpk; (case kkpk => walk_at "mem")))
local macro_rules | `(tactic| walk_at "lk") => `(tactic| (repeat (first | (with_reducible exact lk_eq) | exact rfl | refine (lk_ne (by decide +kernel)).trans ?_)))
local macro_rules | `(tactic| walk_at "pf") => `(tactic| (repeat (first | (with_reducible exact pf_nil) | (with_reducible exact pf_eq) | (apply pf_ne; (focus decide +kernel)))))
local macro_rules | `(tactic| walk_at "ty") => `(tactic| first | exact ty_int | (refine' ty_lst ?kkh; (case kkh => walk_at "at")))
local macro_rules | `(tactic| walk_at "k1") => `(tactic| with_reducible first
  | refine q_seq ?_ | refine q_set ?_ | refine q_asg ?_ | refine q_ret ?_ | refine q_drop ?_ | refine q_next ?_ | refine q_c ?_ | refine q_op ?_ | refine q_un ?_ | refine q_nil ?_ | refine q_cons ?_ | refine q_cb ?_
  | refine q_call ?_ | refine q_ifs ?_ | refine q_if ?_ | refine q_test ?_ | refine q_tb ?_ | refine q_bl ?_ | refine q_notT ?_ | refine q_andT ?_ | refine q_orT ?_ | refine q_andV ?_ | refine q_orV ?_ | refine q_notV ?_
  | refine q_addA ?_ | refine q_subI ?_ | refine q_ltI ?_ | refine q_leI ?_ | refine q_gtI ?_ | refine q_geI ?_ | refine q_eqI ?_ | refine q_neI ?_ | refine q_abs ?_ | refine q_int ?_ | refine q_intB ?_ | refine q_max ?_ | refine q_min ?_
  | refine q_ipAdd ?_ | refine q_ipSub ?_ | refine q_gsub ?_ | refine q_augs ?_ | refine q_lst ?_ | refine q_tup ?_ | refine q_blI ?_ | refine iteT ?_ | refine iteF ?_ | refine iteNT ?_ | refine iteNF ?_
  | refine r_prop ?_ | refine r_fld ?_ | refine r_sfld ?_ | refine r_meth ?_ | refine r_make ?_ | refine r_sl ?_ | refine r_nopart ?_ | refine r_part ?_ | refine r_parti ?_ | refine r_gsl ?_ | refine r_bm ?_ | refine r_bm0 ?_ | refine r_for ?_ | refine r_ilist ?_ | refine r_irng ?_
  | refine r_gname ?_ | refine r_gcons ?_ | refine r_gnil ?_ | refine r_par ?_ | refine r_parA ?_ | refine r_chain ?_ | refine r_isN ?_ | refine r_tlc ?_ | refine r_yes ?_ | refine r_makek ?_ | refine r_neg ?_)
local macro_rules | `(tactic| walk_at "k2") => `(tactic| first
  | ((with_reducible refine' q_var ?kke ?_); (case kke => rfl))
  | ((with_reducible refine' q_aug ?kke ?_); (case kke => rfl))
  | ((with_reducible refine' q_ixL ?kks ?kke ?_); (case kks => walk_at "sq"); (case kke => first | rfl | assumption))
  | ((with_reducible refine' q_ixT ?kks ?kke ?_); (case kks => walk_at "st"); (case kke => first | rfl | assumption))
  | ((with_reducible refine' q_ixLL ?kks ?kke ?_); (case kks => walk_at "sq"); (case kke => first | rfl | assumption))
  | ((with_reducible refine' q_lenL ?kks ?_); (case kks => walk_at "sq"))
  | ((with_reducible refine' q_mulI ?kkc ?_); (case kkc => first | exact .inl (by omega) | exact .inr (by omega)))
  | ((with_reducible refine' q_modI ?kkc ?_); (case kkc => omega))
  | ((with_reducible refine' q_divI ?kkc ?_); (case kkc => exact ⟨by omega, by omega⟩))
  | ((with_reducible refine' q_powI ?kkc ?_); (case kkc => exact ⟨by decide, by decide, by decide⟩))
  | ((with_reducible refine' r_kfld ?kkS ?kkp ?kkc ?kkn ?kkl ?_); (case kkS => assumption); (case kkp => walk_at "mem"); (case kkc => walk_at "cls"); (case kkn => walk_at "na"); (case kkl => walk_at "lk"))
  | ((with_reducible refine' r_kprop ?kkS ?kkp ?_); (case kkS => assumption); (case kkp => walk_at "mem"))
  | ((with_reducible refine' r_kmeth ?kkS ?kkp ?kkl ?_); (case kkS => assumption); (case kkp => walk_at "mem"); (case kkl => walk_at "lk"))
  | ((with_reducible refine' r_calll ?kks ?_); (case kks => rfl))
  | ((with_reducible refine' r_tyl ?kks ?_); (case kks => walk_at "sq"))
  | ((with_reducible refine' r_isi (k := true) ?kkt ?kke ?_); (case kkt => walk_at "ty"); (case kke => decide +kernel))
  | ((with_reducible refine' r_isi (k := false) ?kkt ?kke ?_); (case kkt => walk_at "ty"); (case kke => decide +kernel)))
local macro_rules | `(tactic| walk_at "k3") => `(tactic| first
  | ((with_reducible refine' q_setS ?kkS ?kkr ?kke ?_); (case kkS => assumption); (case kkr => walk_at "rep"); (case kke => rfl); intro H S)
  | ((with_reducible refine' r_kset ?kkS ?kkr ?kkc ?kkn ?kkl ?kke ?_); (case kkS => assumption); (case kkr => walk_at "rep"); (case kkc => walk_at "cls"); (case kkn => walk_at "na"); (case kkl => first | exact Nat.le_of_ble_eq_true rfl | assumption | omega | (simp; done) | (simp; omega)); (case kke => walk_at "pf"); intro H S)
  | ((with_reducible refine' q_new ?kkS ?kkl ?_); (case kkS => assumption); (case kkl => first | exact Nat.le_of_ble_eq_true rfl | assumption | omega | (simp; done) | (simp; omega)); intro p H S)
  | ((with_reducible refine' q_newT ?kkS ?kkl ?_); (case kkS => assumption); (case kkl => first | exact Nat.le_of_ble_eq_true rfl | assumption | omega | (simp; done) | (simp; omega)); intro p H S)
  | ((with_reducible refine' r_knew ?kkS ?_); (case kkS => assumption); intro x dx H S)
  | ((with_reducible refine' r_knewk ?kkS ?kkl1 ?kkl2 ?_); (case kkS => assumption); (case kkl1 => rfl); (case kkl2 => rfl); intro x dx H S)
  | ((with_reducible refine' r_ksl ?kkS ?kks ?_); (case kkS => assumption); (case kks => walk_at "sq"); intro p H S)
  | ((with_reducible refine' r_list ?kkS ?kks ?_); (case kkS => assumption); (case kks => walk_at "sq"); intro p H S)
  | ((with_reducible refine' r_cat ?kkS ?kks1 ?kks2 ?kkz ?_); (case kkS => assumption); (case kks1 => walk_at "at"); (case kks2 => walk_at "at"); (case kkz => first | omega | (simp; omega)); intro p H S)
  | ((with_reducible refine' r_append ?kkS ?kkr ?kkz ?_); (case kkS => assumption); (case kkr => walk_at "rep"); (case kkz => first | omega | (simp; omega)); intro H S)
  | ((with_reducible refine' r_reverse ?kkS ?kkr ?_); (case kkS => assumption); (case kkr => walk_at "rep"); intro H S)
  | ((with_reducible refine' r_clear ?kkS ?kkr ?_); (case kkS => assumption); (case kkr => walk_at "rep"); intro H S))
local macro_rules | `(tactic| walk_at "gn") => `(tactic| repeat (first | walk_at "k1" | walk_at "k2"))
local macro_rules | `(tactic| walk_at "go") => `(tactic| repeat (first | walk_at "k1" | walk_at "k2" | walk_at "k3"))

local macro_rules | `(tactic| walk_at "sq") => `(tactic| first | assumption | (refine' Sep.sq ?kkS ?kkpk; (case kkS => assumption); (case kkpk => walk_at "mem")) | (refine' hp_sqL ?kkS ?kkx; (case kkS => assumption); (case kkx => assumption)) | (refine' hp_sqL (Sep.tl ?kkS) ?kkx; (case kkS => assumption); (case kkx => assumption)) | (refine' hp_sqL (Sep.tl (Sep.tl ?kkS)) ?kkx; (case kkS => assumption); (case kkx => assumption)))
local macro_rules | `(tactic| walk_at "st") => `(tactic| first | assumption | (refine' Sep.st ?kkS ?kkpk; (case kkS => assumption); (case kkpk => walk_at "mem")) | (refine' hp_sqT ?kkS ?kkx; (case kkS => assumption); (case kkx => assumption)) | (refine' hp_sqT (Sep.tl ?kkS) ?kkx; (case kkS => assumption); (case kkx => assumption)) | (refine' hp_sqT (Sep.tl (Sep.tl ?kkS)) ?kkx; (case kkS => assumption); (case kkx => assumption)))
local macro_rules | `(tactic| walk_at "k1") => `(tactic| with_reducible first | refine r_ienumT ?_ | refine r_tru ?_ | refine r_itup ?_ | refine r_star ?_ | refine r_par3 ?_ | refine r_parA3 ?_ | refine r_dget ?_ | refine r_din ?_ | refine r_dnotin ?_ | refine r_dput ?_)

local macro_rules | `(tactic| walk_at "k1") => `(tactic| with_reducible first | refine r_kget ?_ | refine r_orT ?_ | refine r_slA ?_ | refine r_m1 ?_ | refine r_isS ?_)

section
variable {P : Program} {w : World} {K : PySem.W.Frag} {mg : Str → Option Value} {base : Heap} {f_NAMES_IN f_MAKING f_COPYING f_SHARING : Addr}
theorem sc_l_draw_statement : FnScope N_l_draw_statement ["_law_bag_here", "_law_heads", "_law_function", "_law_depth", "_law_is_free"] (defScope s_l_draw_statement) := ⟨rfl, rfl, rfl, by decide +kernel, rfl, by decide +kernel, by decide +kernel⟩
theorem sc_l_draw_body : FnScope N_l_draw_body ["_law_bag_here", "_law_heads", "_law_function", "_law_many", "_law_depth", "_law_is_free"] (defScope s_l_draw_body) := ⟨rfl, rfl, rfl, by decide +kernel, rfl, by decide +kernel, by decide +kernel⟩
def spStmt (K : PySem.W.Frag) (n : Nat) : Sp := fun vs H Q _ => ∃ (b d : Addr) (Dd : SP) (kvs : List (Key × V)) (hs : List Hd) (hh : Hd) (dep : Nat) (fr : Bool) (G : Hp) (R : List SP), vs = [.ref b, .ref d, .str hh.fn, .int dep, .bl fr] ∧ dep ≤ n ∧ dep ≤ 10 ∧ HdsOk hs ∧ hh ∈ hs ∧ HdsAt K G kvs hs ∧ (∀ g, Dd g → Rd g d (.dK kvs)) ∧ Sep (Dd :: hp G :: bag b :: R) H ∧
  ∀ v s G' H', Stm.Wf hh.names (CallC hs hh) fr s → s.dep ≤ dep → Le G G' → Dp K G' v s.enc → Sep (Dd :: hp G' :: bag b :: R) H' → Q v H'
def spBody (K : PySem.W.Frag) (n : Nat) : Sp := fun vs H Q _ => ∃ (b d : Addr) (Dd : SP) (kvs : List (Key × V)) (hs : List Hd) (hh : Hd) (many dep : Nat) (fr : Bool) (G : Hp) (R : List SP), vs = [.ref b, .ref d, .str hh.fn, .int many, .int dep, .bl fr] ∧ many ≤ 20 ∧ dep ≤ n ∧ dep ≤ 10 ∧ HdsOk hs ∧ hh ∈ hs ∧ HdsAt K G kvs hs ∧ (∀ g, Dd g → Rd g d (.dK kvs)) ∧ Sep (Dd :: hp G :: bag b :: R) H ∧
  ∀ v l G' H', wfSs hh.names (CallC hs hh) fr l → l.length ≤ many → depSs l ≤ dep → Le G G' → Dp K G' v (.list (l.map Stm.enc)) → Sep (Dd :: hp G' :: bag b :: R) H' → Q v H'
def spNever : Sp := fun _ _ _ _ => False
def spBodyN (K : PySem.W.Frag) : Nat → Sp
  | 0 => spNever
  | n + 1 => spBody K n
theorem ok_never {f : Addr} {k : Nat} (F : Dt K mg "_law_draw_body" s_l_draw_body ["_law_bag_here", "_law_heads", "_law_function", "_law_many", "_law_depth", "_law_is_free"] f) : Df P w K mg base (k + 1) "_law_draw_body" f ["_law_bag_here", "_law_heads", "_law_function", "_law_many", "_law_depth", "_law_is_free"] spNever :=
  F.ok sc_l_draw_body (fun vs H Q E h => h.elim) (fun cdv A outer s H vs Q E hr h => h.elim)
theorem ok_l_draw_body {n : Nat} {f f1 f2 : Addr} (F : Dt K mg "_law_draw_body" s_l_draw_body ["_law_bag_here", "_law_heads", "_law_function", "_law_many", "_law_depth", "_law_is_free"] f) (T : Tx K mg f_NAMES_IN f_MAKING f_COPYING f_SHARING) (D_l_take : Df P w K mg base 1 "_law_take" f1 ["_law_bag_here", "_law_many"] spTake)
    (D_l_draw_statement : Df P w K mg base (2 * n + 3) "_law_draw_statement" f2 ["_law_bag_here", "_law_heads", "_law_function", "_law_depth", "_law_is_free"] (spStmt K n)) : Df P w K mg base (2 * n + 4) "_law_draw_body" f ["_law_bag_here", "_law_heads", "_law_function", "_law_many", "_law_depth", "_law_is_free"] (spBody K n) := by
  refine F.ok sc_l_draw_body (fun vs H Q E h => ?_) (fun cdv A outer s H vs Q E hr h => ?_)
  · obtain ⟨b, d, Dd, kvs, hs, hh, many, dep, fr, G, R, rfl, _⟩ := h
    rfl
  obtain ⟨b, d, Dd, kvs, hs, hh, many, dep, fr, G, R, rfl, hmy, hdp, hd10, hok, hm, hat, hD, S, q⟩ := h
  refine ⟨_, (pss_one (ps_ret (pe_lc (own := [("_law_k", 6)]) rfl sc_l_draw_body.nd (pi_range1 rfl T.z_range (pa_cons (pe_df D_l_take (hr.mono (by first | decide | omega)) (pa_cons (pv 0) (pa_cons (pe_op (r := rAddA) op_addA (pv 3) pe_int) pa_nil))) pa_nil)) (blkOk_by (own := [("_law_k", 6)]) (N := N_l_draw_body) (sc := defScope s_l_draw_body) (by decide +kernel)) (fun _ _ _ _ _ => (pg_name (i := 6) sc_l_draw_body.nd rfl (by first | exact Or.inl rfl | exact Or.inr rfl))) (fun _ _ _ _ _ => pts_nil) (fun _ _ _ _ _ => (pe_df D_l_draw_statement (hr.mono (by first | decide | omega)) (pa_cons (pv 0) (pa_cons (pv 1) (pa_cons (pv 2) (pa_cons (pv 4) (pa_cons (pv 5) pa_nil)))))))))), ?_⟩
  walk_at "go"
  refine ⟨b, (many + 1 : Nat), _, rfl, by omega, by omega, S.s1 (A := bag b) (by walk_at "sel"), fun v H v0 v1 S => ?_⟩
  obtain ⟨k, rfl⟩ := Int.eq_ofNat_of_zero_le v0
  have S : Sep (Dd :: hp G :: bag b :: R) H := S.s3 (A := Dd) (B := hp G) (C := bag b) (by walk_at "sel")
  refine r_lc_rng (fun i acc Ps => ∃ (l : List Stm) (Gi : Hp), l.length = i ∧ acc.length = i ∧ Le G Gi ∧ (∀ s ∈ l, Stm.Wf hh.names (CallC hs hh) fr s ∧ s.dep ≤ dep) ∧ DpAll K Gi acc (l.map Stm.enc) ∧ Ps = Dd :: hp Gi :: bag b :: R) S (by omega) (by omega) ⟨[], G, rfl, rfl, Le.rfl, nofun, .nil, rfl⟩ ?_ ?_
  · rintro D i acc Ps H hi ⟨l, Gi, hl, ha, le, hwf, hd, rfl⟩ S
    walk_at "go"
    refine ⟨rfl, ?_⟩
    walk_at "go"
    refine ⟨b, d, Dd, kvs, hs, hh, dep, fr, Gi, _, rfl, hdp, hd10, hok, hm, hat.le le, hD, S.s3 (A := Dd) (B := hp Gi) (C := bag b) (by walk_at "sel"), fun v s G' H hw hde le2 hv S => ?_⟩
    refine cn_in (Ps := Dd :: hp G' :: bag b :: R) (S.s4 (A := pt D (.lst acc)) (B := Dd) (C := hp G') (D := bag b) (by walk_at "sel")) (by omega) ⟨l ++ [s], G', by rw [List.length_append, hl]; rfl, by rw [List.length_append, ha]; rfl, le.tr le2, fun x mx => ?_, ?_, rfl⟩
    · rcases List.mem_append.mp mx with mx | mx
      · exact hwf x mx
      · rw [List.mem_singleton] at mx
        subst mx
        exact ⟨hw, hde⟩
    · rw [List.map_append]
      exact dpall_snoc (DpAll.le le2 _ _ hd) hv
  · rintro D acc Ps H ⟨l, Gi, hl, ha, le, hwf, hd, rfl⟩ S
    rw [Int.toNat_natCast] at hl
    obtain ⟨G2, le2, hd2, S⟩ := hp_lst (K := K) (S.s4 (A := pt D (.lst acc)) (B := hp Gi) (C := Dd) (D := bag b) (by walk_at "sel")) hd
    walk_at "go"
    exact q _ l G2 H (wfSs_iff.mpr fun s m => (hwf s m).1) (by omega) (depSs_le.mpr fun s m => (hwf s m).2) (le.tr le2) hd2 S.swap
theorem ok_l_draw_statement {n : Nat} {f f1 f2 f3 : Addr} (F : Dt K mg "_law_draw_statement" s_l_draw_statement ["_law_bag_here", "_law_heads", "_law_function", "_law_depth", "_law_is_free"] f) (T : Tx K mg f_NAMES_IN f_MAKING f_COPYING f_SHARING) (D_l_take : Df P w K mg base 1 "_law_take" f1 ["_law_bag_here", "_law_many"] spTake)
    (D_l_draw_call : Df P w K mg base 2 "_law_draw_call" f2 ["_law_bag_here", "_law_heads", "_law_function", "_law_is_free"] (spCall K)) (D_l_draw_body : Df P w K mg base (2 * n + 2) "_law_draw_body" f3 ["_law_bag_here", "_law_heads", "_law_function", "_law_many", "_law_depth", "_law_is_free"] (spBodyN K n)) :
    Df P w K mg base (2 * n + 3) "_law_draw_statement" f ["_law_bag_here", "_law_heads", "_law_function", "_law_depth", "_law_is_free"] (spStmt K n) := by
  refine F.ok sc_l_draw_statement (fun vs H Q E h => ?_) (fun cdv A outer s H vs Q E hr h => ?_)
  · obtain ⟨b, d, Dd, kvs, hs, hh, dep, fr, G, R, rfl, _⟩ := h
    rfl
  obtain ⟨b, d, Dd, kvs, hs, hh, dep, fr, G, R, rfl, hdp, hd10, hok, hm, hat, hD, S, q⟩ := h
  refine ⟨_, (pss_cons (ps_par (i := 5) (j := 6) rfl sc_l_draw_statement.nd rfl rfl (by decide) rfl rfl (pa_cons (pe_dget (Nat.lt_of_le_of_lt (Nat.add_le_add_left (by decide) _) hr.units) (pe_dget (Nat.lt_of_le_of_lt (Nat.add_le_add_left (by decide) _) hr.units) (pv 1) (pv 2) (by first | rfl | trivial | exact fun _ _ => rfl)) pe_str (by first | rfl | trivial | exact fun _ _ => rfl)) (pa_cons (pe_df D_l_take (hr.mono (by first | decide | omega)) (pa_cons (pv 0) (pa_cons pe_int pa_nil))) pa_nil)) rfl)
      (pss_cons (ps_par (i := 7) (j := 8) rfl sc_l_draw_statement.nd rfl rfl (by decide) rfl rfl (pa_cons (pe_ix (r := rIx K) ix_seq (pv 5) (pe_df D_l_take (hr.mono (by first | decide | omega)) (pa_cons (pv 0) (pa_cons (pe_callB (r := cOr (cLenQ K) cLenS) call_lenA (by rfl) T.z_len (by decide +kernel) (pa_cons (pv 5) pa_nil)) pa_nil))) (fun _ _ => rfl)) (pa_cons (pe_ix (r := rIx K) ix_seq (pv 5) (pe_df D_l_take (hr.mono (by first | decide | omega)) (pa_cons (pv 0) (pa_cons (pe_callB (r := cOr (cLenQ K) cLenS) call_lenA (by rfl) T.z_len (by decide +kernel) (pa_cons (pv 5) pa_nil)) pa_nil))) (fun _ _ => rfl)) pa_nil)) rfl)
      (pss_cons (ps_if (pt_cmpR (r := rLtI) op_lt (pv 6) pe_int (nomark _)) (pss_one (ps_ret (pe_tup (pa_cons pe_str (pa_cons (pv 7) (pa_cons (pv 8) pa_nil)))))) pss_nil)
      (pss_cons (ps_if (pt_cmpR (r := rLtI) op_lt (pv 6) pe_int (nomark _)) (pss_one (ps_ret (pe_tup (pa_cons (pe_ix (r := rIx K) ix_seq (pe_lst (pa_cons pe_str (pa_cons pe_str (pa_cons pe_str (pa_cons pe_str pa_nil))))) (pe_op (r := rSubI) op_sub (pv 6) pe_int) (fun _ _ => rfl)) (pa_cons (pv 7) (pa_cons (pv 8) pa_nil)))))) pss_nil)
      (pss_cons (ps_if (pt_cmpR (r := rLtI) op_lt (pv 6) pe_int (nomark _)) (pss_one (ps_ret (pe_tup (pa_cons (pe_ix (r := rIx K) ix_seq (pe_lst (pa_cons pe_str (pa_cons pe_str (pa_cons pe_str pa_nil)))) (pe_op (r := rSubI) op_sub (pv 6) pe_int) (fun _ _ => rfl)) (pa_cons (pv 7) (pa_cons (pv 8) pa_nil)))))) pss_nil)
      (pss_cons (ps_if (pt_cmpR (r := rLtI) op_lt (pv 6) pe_int (nomark _)) (pss_one (ps_ret (pe_tup (pa_cons (pe_ix (r := rIx K) ix_seq (pe_lst (pa_cons pe_str (pa_cons pe_str (pa_cons pe_str (pa_cons pe_str pa_nil))))) (pe_op (r := rSubI) op_sub (pv 6) pe_int) (fun _ _ => rfl)) (pa_cons (pv 7) pa_nil))))) pss_nil)
      (C8.pss_cut (ps_set (i := 9) sc_l_draw_statement.nd rfl (by first | exact Or.inl rfl | exact Or.inr rfl) (pe_ifExp (PW.pt (pw_or (pt_cmpR (r := rEqA K) (op_eqA hr.units) (pv 6) pe_int (nomark _)) (pw_or1 (pt_cmpR (r := rEqA K) (op_eqA hr.units) (pv 3) pe_int (nomark _))))) (pe_df D_l_draw_call (hr.mono (by first | decide | omega)) (pa_cons (pv 0) (pa_cons (pv 1) (pa_cons (pv 2) (pa_cons (pv 4) pa_nil))))) pe_non))
      (pss_cons (ps_if (PW.pt (pw_or (pt_cmpR (r := rNotN) op_notN (pv 9) pe_non (nomark _)) (pw_or1 (pt_cmpR (r := rEqA K) (op_eqA hr.units) (pv 3) pe_int (nomark _))))) (pss_one (ps_ret (pe_orT (pv 9) (pe_one (pe_tup (pa_cons pe_str (pa_cons (pv 7) pa_nil))))))) pss_nil)
      (pss_cons (ps_if (pt_cmpR (r := rEqA K) (op_eqA hr.units) (pv 6) pe_int (nomark _)) (pss_cons (ps_set (i := 10) sc_l_draw_statement.nd rfl (by first | exact Or.inl rfl | exact Or.inr rfl) (pe_op (r := rAddA) op_addA pe_int (pe_df D_l_take (hr.mono (by first | decide | omega)) (pa_cons (pv 0) (pa_cons pe_int pa_nil)))))
      (pss_one (ps_ret (pe_tup (pa_cons pe_str (pa_cons (pe_lc (own := [("_law_k", 11)]) rfl sc_l_draw_statement.nd (pi_range1 rfl T.z_range (pa_cons (pv 10) pa_nil)) (blkOk_by (own := [("_law_k", 11)]) (N := N_l_draw_statement) (sc := defScope s_l_draw_statement) (by decide +kernel)) (fun _ _ _ _ _ => (pg_name (i := 11) sc_l_draw_statement.nd rfl (by first | exact Or.inl rfl | exact Or.inr rfl))) (fun _ _ _ _ _ => pts_nil) (fun _ _ _ _ _ => (pe_df D_l_draw_body (hr.mono (by first | decide | omega)) (pa_cons (pv 0) (pa_cons (pv 1) (pa_cons (pv 2) (pa_cons pe_int (pa_cons (pe_op (r := rSubI) op_sub (pv 3) pe_int) (pa_cons (pv 4) pa_nil))))))))) pa_nil)))))) pss_nil)
      (pss_one (ps_ret (pe_tup (pa_cons pe_str (pa_cons (pe_df D_l_draw_body (hr.mono (by first | decide | omega)) (pa_cons (pv 0) (pa_cons (pv 1) (pa_cons (pv 2) (pa_cons pe_int (pa_cons (pe_op (r := rSubI) op_sub (pv 3) pe_int) (pa_cons pe_bl pa_nil))))))) pa_nil)))))))))))))), ?_⟩
  obtain ⟨ha, ni, pi, hv, hG, hN, hP⟩ := hds_get hat hok.nd hm
  have hN0 : hh.names.length ≠ 0 := fun e => (hok.each hh hm).1.n1 (List.length_eq_zero_iff.mp e)
  have hN8 := (hok.each hh hm).1.nl
  have fin2 : ∀ {wd v u : Str} {p : Addr} {H : Hp}, wd ∈ w2S → v ∈ hh.names → u ∈ hh.names → Sep (pt p (.tup [.str wd, .str v, .str u]) :: hp G :: Dd :: bag b :: R) H → Q (.ref p) H := fun {wd v u p H} h1 h2 h3 S => by
    obtain ⟨G2, le2, hd2, S⟩ := hp_tup (K := K) S (ds := [.str wd, .str v, .str u]) (.cons (.str _) (.cons (.str _) (.cons (.str _) .nil)))
    refine q _ (.two wd v u) G2 H (by rw [Stm.Wf]; exact ⟨h1, h2, h3⟩) (by rw [Stm.dep]; omega) le2 ?_ S.swap
    rw [Stm.enc]
    exact hd2
  have fin1 : ∀ {wd v : Str} {p : Addr} {G1 H : Hp}, Le G G1 → wd ∈ w1S → v ∈ hh.names → Sep (pt p (.tup [.str wd, .str v]) :: hp G1 :: Dd :: bag b :: R) H → Q (.ref p) H := fun {wd v p G1 H} le h1 h2 S => by
    obtain ⟨G2, le2, hd2, S⟩ := hp_tup (K := K) S (ds := [.str wd, .str v]) (.cons (.str _) (.cons (.str _) .nil))
    refine q _ (.one wd v) G2 H (by rw [Stm.Wf]; exact ⟨h1, h2⟩) (by rw [Stm.dep]; omega) (le.tr le2) ?_ S.swap
    rw [Stm.enc]
    exact hd2
  walk_at "go"
  refine r_dgetV (rd_part hD S) hv ?_
  walk_at "go"
  refine r_dgetV (.inl (hp_le S.tl _ _ hG)) v_names ?_
  walk_at "go"
  refine ⟨b, 18, _, rfl, by decide, by decide, S.s1 (A := bag b) (by walk_at "sel"), fun way H w0 w1 S => ?_⟩
  walk_at "go"
  have S : Sep (hp G :: Dd :: bag b :: R) H := S.s3 (A := hp G) (B := Dd) (C := bag b) (by walk_at "sel")
  refine q_lenL (hp_sqL S hN.sq) ?_
  walk_at "go"
  refine ⟨b, _, _, rfl, by rw [List.length_map]; omega, by rw [List.length_map]; omega, S.s1 (A := bag b) (by walk_at "sel"), fun iv H v0 v1 S => ?_⟩
  rw [List.length_map] at v1
  obtain ⟨j1, rfl⟩ := Int.eq_ofNat_of_zero_le v0
  have hj1 : j1 < hh.names.length := by omega
  have S : Sep (hp G :: Dd :: bag b :: R) H := S.s3 (A := hp G) (B := Dd) (C := bag b) (by walk_at "sel")
  refine q_ixL (v := .str hh.names[j1]) (hp_sqL S hN.sq) (atI_nat (by rw [List.getElem?_map, List.getElem?_eq_getElem hj1]; rfl)) ?_
  walk_at "go"
  refine q_lenL (hp_sqL S hN.sq) ?_
  walk_at "go"
  refine ⟨b, _, _, rfl, by rw [List.length_map]; omega, by rw [List.length_map]; omega, S.s1 (A := bag b) (by walk_at "sel"), fun iu H u0 u1 S => ?_⟩
  rw [List.length_map] at u1
  obtain ⟨j2, rfl⟩ := Int.eq_ofNat_of_zero_le u0
  have hj2 : j2 < hh.names.length := by omega
  have S : Sep (hp G :: Dd :: bag b :: R) H := S.s3 (A := hp G) (B := Dd) (C := bag b) (by walk_at "sel")
  refine q_ixL (v := .str hh.names[j2]) (hp_sqL S hN.sq) (atI_nat (by rw [List.getElem?_map, List.getElem?_eq_getElem hj2]; rfl)) ?_
  have mv : hh.names[j1] ∈ hh.names := List.getElem_mem hj1
  have mu : hh.names[j2] ∈ hh.names := List.getElem_mem hj2
  generalize hh.names[j1] = v at mv
  generalize hh.names[j2] = u at mu
  walk_at "go"
  refine q_ite (fun c1 => ?_) (fun c1 => ?_)
  · walk_at "go"
    exact fin2 (by decide) mv mu S
  walk_at "go"
  refine q_ite (fun c2 => ?_) (fun c2 => ?_)
  · walk_at "go"
    obtain ⟨wd, hw, hmem⟩ : ∃ wd, atI [V.str "take", .str "cut", .str "take", .str "cut"] (way - 4) = some (V.str wd) ∧ wd ∈ w2S := by
      rcases (show way = 4 ∨ way = 5 ∨ way = 6 ∨ way = 7 by omega) with rfl | rfl | rfl | rfl <;> exact ⟨_, rfl, by decide⟩
    refine q_ixL (by walk_at "sq") hw ?_
    walk_at "go"
    exact fin2 hmem mv mu (S.s4 (A := pt p (.tup [.str wd, .str v, .str u])) (B := hp G) (C := Dd) (D := bag b) (by walk_at "sel") |>.cons_mono fun _ z => z)
  walk_at "go"
  refine q_ite (fun c3 => ?_) (fun c3 => ?_)
  · walk_at "go"
    obtain ⟨wd, hw, hmem⟩ : ∃ wd, atI [V.str "copy", .str "copycut", .str "copyput"] (way - 8) = some (V.str wd) ∧ wd ∈ w2S := by
      rcases (show way = 8 ∨ way = 9 ∨ way = 10 by omega) with rfl | rfl | rfl <;> exact ⟨_, rfl, by decide⟩
    refine q_ixL (by walk_at "sq") hw ?_
    walk_at "go"
    exact fin2 hmem mv mu (S.s4 (A := pt p (.tup [.str wd, .str v, .str u])) (B := hp G) (C := Dd) (D := bag b) (by walk_at "sel"))
  walk_at "go"
  refine q_ite (fun c4 => ?_) (fun c4 => ?_)
  · walk_at "go"
    obtain ⟨wd, hw, hmem⟩ : ∃ wd, atI [V.str "set", .str "keep", .str "look", .str "new"] (way - 11) = some (V.str wd) ∧ wd ∈ w1S := by
      rcases (show way = 11 ∨ way = 12 ∨ way = 13 ∨ way = 14 by omega) with rfl | rfl | rfl | rfl <;> exact ⟨_, rfl, by decide⟩
    refine q_ixL (by walk_at "sq") hw ?_
    walk_at "go"
    exact fin1 Le.rfl hmem mv (S.s4 (A := pt p (.tup [.str wd, .str v])) (B := hp G) (C := Dd) (D := bag b) (by walk_at "sel"))
  walk_at "go"
  refine q_cut (Mid := fun σ H => ∃ (tv : V) (Gi : Hp), σ = [some (.ref b), some (.ref d), some (.str hh.fn), some (.int dep), some (.bl fr), some (.ref ni), some (.int way), some (.str v), some (.str u), some tv, none, none] ∧ Le G Gi ∧ Sep (Dd :: hp Gi :: bag b :: R) H ∧ (tv = .non ∨ ∃ nm f as, nm ∈ hh.names ∧ (∀ a ∈ as, a ∈ hh.names) ∧ CallC hs hh fr f as.length ∧ Dp K Gi tv (Stm.call nm f true as).enc)) ?_ ?_
  · walk_at "go"
    have call : ∀ {H : Hp} {Z : VK}, Sep (hp G :: Dd :: bag b :: R) H → (∀ tv Gi H', Le G Gi → Sep (Dd :: hp Gi :: bag b :: R) H' → (tv = .non ∨ ∃ nm f as, nm ∈ hh.names ∧ (∀ a ∈ as, a ∈ hh.names) ∧ CallC hs hh fr f as.length ∧ Dp K Gi tv (Stm.call nm f true as).enc) → Z tv H') → spCall K [.ref b, .ref d, .str hh.fn, .bl fr] H Z E0 := fun {H Z} S z =>
      ⟨b, d, Dd, kvs, hs, hh, fr, G, R, rfl, hok, hm, hat, hD, S.swap, fun H' S => z .non G H' Le.rfl S (.inl rfl), fun v nm f as G' H' h1 h2 h3 le hd S => z v G' H' le S (.inr ⟨nm, f, as, h1, h2, h3, hd⟩)⟩
    refine q_ite (fun c5 => ?_) (fun c5 => ?_)
    · walk_at "go"
      refine call S fun tv Gi H le S h => ?_
      exact ⟨tv, Gi, rfl, le, S, h⟩
    · walk_at "go"
      refine q_ite (fun c6 => ?_) (fun c6 => ?_)
      · walk_at "go"
        refine call S fun tv Gi H le S h => ?_
        exact ⟨tv, Gi, rfl, le, S, h⟩
      · walk_at "go"
        exact ⟨.non, G, rfl, Le.rfl, S.swap, .inl rfl⟩
  rintro σ H ⟨tv, Gi, rfl, le, S, ht⟩
  walk_at "go"
  refine r_notN ?_
  walk_at "go"
  rcases ht with rfl | ⟨nm, f, as, h1, h2, h3, hd⟩
  · refine iteNDN rfl ?_
    walk_at "go"
    refine q_ite (fun c6 => ?_) (fun c6 => ?_)
    · walk_at "go"
      refine ⟨false, rfl, ?_⟩
      walk_at "go"
      exact fin1 le (by decide) mv (S.s4 (A := pt p (.tup [.str "look", .str v])) (B := hp Gi) (C := Dd) (D := bag b) (by walk_at "sel"))
    · obtain ⟨dd, rfl⟩ : ∃ dd, dep = dd + 1 := ⟨dep - 1, by omega⟩
      obtain ⟨n', rfl⟩ : ∃ n', n = n' + 1 := ⟨n - 1, by omega⟩
      have e1 : ((dd + 1 : Nat) : Int) - 1 = (dd : Int) := by omega
      walk_at "go"
      refine q_ite (fun c7 => ?_) (fun c7 => ?_)
      · walk_at "go"
        refine ⟨b, 3, _, rfl, by decide, by decide, S.s1 (A := bag b) (by walk_at "sel"), fun iv H v0 v1 S => ?_⟩
        obtain ⟨k, rfl⟩ := Int.eq_ofNat_of_zero_le v0
        have S : Sep (Dd :: hp Gi :: bag b :: R) H := S.s3 (A := Dd) (B := hp Gi) (C := bag b) (by walk_at "sel")
        walk_at "go"
        refine r_lc_rng (fun i acc Ps => ∃ (bs : List Bdy) (Gj : Hp), bs.length = i ∧ acc.length = i ∧ Le G Gj ∧ (∀ x ∈ bs, Bdy.Wf hh.names (CallC hs hh) fr x ∧ x.dep ≤ dd) ∧ DpAll K Gj acc (bs.map Bdy.enc) ∧ Ps = Dd :: hp Gj :: bag b :: R) S (by omega) (by omega) ⟨[], Gi, rfl, rfl, le, nofun, .nil, rfl⟩ ?_ ?_
        · rintro D i acc Ps H hi ⟨bs, Gj, hl, ha, le2, hwf, hd, rfl⟩ S
          walk_at "go"
          refine ⟨rfl, ?_⟩
          walk_at "go"
          rw [e1]
          refine ⟨b, d, Dd, kvs, hs, hh, 2, dd, fr, Gj, _, rfl, by decide, by omega, by omega, hok, hm, hat.le le2, hD, S.s3 (A := Dd) (B := hp Gj) (C := bag b) (by walk_at "sel"), fun x l G' H hw hll hde le3 hv S => ?_⟩
          refine cn_in (Ps := Dd :: hp G' :: bag b :: R) (S.s4 (A := pt D (.lst acc)) (B := Dd) (C := hp G') (D := bag b) (by walk_at "sel")) (by omega) ⟨bs ++ [.mk false l], G', by rw [List.length_append, hl]; rfl, by rw [List.length_append, ha]; rfl, le2.tr le3, fun x mx => ?_, ?_, rfl⟩
          · rcases List.mem_append.mp mx with mx | mx
            · exact hwf x mx
            · rw [List.mem_singleton] at mx
              subst mx
              exact ⟨by rw [Bdy.Wf]; exact ⟨rfl, by omega, hw⟩, by rw [Bdy.dep]; exact hde⟩
          · rw [List.map_append]
            refine dpall_snoc (DpAll.le le3 _ _ hd) ?_
            rw [Bdy.enc, encSs_map]
            exact hv
        · rintro D acc Ps H ⟨bs, Gj, hl, ha, le2, hwf, hd, rfl⟩ S
          obtain ⟨G2, le3, hd2, S⟩ := hp_lst (K := K) (S.s4 (A := pt D (.lst acc)) (B := hp Gj) (C := Dd) (D := bag b) (by walk_at "sel")) hd
          walk_at "go"
          obtain ⟨G3, le4, hd3, S⟩ := hp_tup (K := K) S (ds := [.str "either", .list (bs.map Bdy.enc)]) (.cons (.str _) (.cons hd2 .nil))
          refine q _ (.either false bs) G3 H (by rw [Stm.Wf]; exact ⟨rfl, by omega, by omega, wfBs_iff.mpr fun x m => (hwf x m).1⟩) ?_ ((le2.tr le3).tr le4) ?_ S.swap
          · rw [Stm.dep]
            have := depBs_le.mpr fun x m => (hwf x m).2
            omega
          · rw [Stm.enc, encBs_map]
            exact hd3
      · walk_at "go"
        rw [e1]
        refine ⟨b, d, Dd, kvs, hs, hh, 3, dd, true, Gi, _, rfl, by decide, by omega, by omega, hok, hm, hat.le le, hD, S, fun x l G' H hw hll hde le3 hv S => ?_⟩
        walk_at "go"
        obtain ⟨xa, _, rfl, _, _⟩ := dp_lstInv hv
        obtain ⟨G3, le4, hd3, S⟩ := hp_tup (K := K) (S.s4 (A := pt p (.tup [.str "loop", .ref xa])) (B := hp G') (C := Dd) (D := bag b) (by walk_at "sel")) (ds := [.str "loop", .list (l.map Stm.enc)]) (.cons (.str _) (.cons hv .nil))
        refine q _ (.loop (.mk false l)) G3 H (by rw [Stm.Wf, Bdy.Wf]; exact ⟨rfl, hll, hw⟩) ?_ ((le.tr le3).tr le4) ?_ S.swap
        · rw [Stm.dep, Bdy.dep]
          omega
        · rw [Stm.enc, Bdy.enc, encSs_map]
          exact hd3
  · obtain ⟨ta, txs, rfl, hts, _⟩ := stm_sq hd
    refine iteND (fun h => nomatch h) ?_
    walk_at "go"
    refine ⟨true, .inr (.inl ⟨_, hp_sqT S.tl hts, rfl⟩), ?_⟩
    refine iteT ?_
    exact q _ _ Gi H (by rw [Stm.Wf]; exact ⟨h1, h2, rfl, h3⟩) (by rw [Stm.dep]; omega) le hd S
end
end Pf

set_option Elab.async false
set_option linter.all false
set_option maxRecDepth 100000
set_option maxHeartbeats 8000000
namespace Pf
open PySem L2 Kt
set_option hygiene false
local macro_rules | `(tactic| walk_at "mem") => `(tactic| (with_reducible (repeat (first | exact Pick.hd | apply Pick.tl)); done))
local macro_rules | `(tactic| walk_at "rep") => `(tactic| (with_reducible (repeat (first | exact Repl.hd | apply Repl.tl)); done))
local macro_rules | `(tactic| walk_at "sel") => `(tactic| ((repeat (with_reducible apply Sel.cons; (focus walk_at "mem"))); (with_reducible apply Sel.nil); (with_reducible (repeat (first | exact Dr.all | apply Dr.skip)); done)))
local macro_rules | `(tactic| walk_at "at") => `(tactic| (refine' Sep.at_ (by assumption) ?kkpk; (case kkpk => walk_at "mem")))
local macro_rules | `(tactic| walk_at "sq") => `(tactic| first | assumption | (refine' Sep.sq (by assumption) ?kkpk; (case kkpk => walk_at "mem")))
local macro_rules | `(tactic| walk_at "st") => `(tactic| first | assumption | (refine' Sep.st (by assumption) ?kkpk; (case kkpk => walk_at "mem")))
local macro_rules | `(tactic| walk_at "lk") => `(tactic| (repeat (first | (with_reducible exact lk_eq) | exact rfl | refine (lk_ne (by decide +kernel)).trans ?_)))
local macro_rules | `(tactic| walk_at "pf") => `(tactic| (repeat (first | (with_reducible exact pf_nil) | (with_reducible exact pf_eq) | (apply pf_ne; (focus decide +kernel)))))
local macro_rules | `(tactic| walk_at "ty") => `(tactic| first | exact ty_int | (refine' ty_lst ?kkh; (case kkh => walk_at "at")))
local macro_rules | `(tactic| walk_at "k1") => `(tactic| with_reducible first
  | refine q_seq ?_ | refine q_set ?_ | refine q_asg ?_ | refine q_ret ?_ | refine q_drop ?_ | refine q_next ?_ | refine q_c ?_ | refine q_op ?_ | refine q_un ?_ | refine q_nil ?_ | refine q_cons ?_ | refine q_cb ?_
  | refine q_call ?_ | refine q_ifs ?_ | refine q_if ?_ | refine q_test ?_ | refine q_tb ?_ | refine q_bl ?_ | refine q_notT ?_ | refine q_andT ?_ | refine q_orT ?_ | refine q_andV ?_ | refine q_orV ?_ | refine q_notV ?_
  | refine q_addA ?_ | refine q_subI ?_ | refine q_ltI ?_ | refine q_leI ?_ | refine q_gtI ?_ | refine q_geI ?_ | refine q_eqI ?_ | refine q_neI ?_ | refine q_abs ?_ | refine q_int ?_ | refine q_intB ?_ | refine q_max ?_ | refine q_min ?_
  | refine q_ipAdd ?_ | refine q_ipSub ?_ | refine q_gsub ?_ | refine q_augs ?_ | refine q_lst ?_ | refine q_tup ?_ | refine q_blI ?_ | refine iteT ?_ | refine iteF ?_ | refine iteNT ?_ | refine iteNF ?_
  | refine r_prop ?_ | refine r_fld ?_ | refine r_sfld ?_ | refine r_meth ?_ | refine r_make ?_ | refine r_sl ?_ | refine r_nopart ?_ | refine r_part ?_ | refine r_parti ?_ | refine r_gsl ?_ | refine r_bm ?_ | refine r_bm0 ?_ | refine r_for ?_ | refine r_ilist ?_ | refine r_irng ?_
  | refine r_gname ?_ | refine r_gcons ?_ | refine r_gnil ?_ | refine r_par ?_ | refine r_parA ?_ | refine r_chain ?_ | refine r_isN ?_ | refine r_tlc ?_ | refine r_yes ?_ | refine r_makek ?_ | refine r_neg ?_)
local macro_rules | `(tactic| walk_at "k2") => `(tactic| first
  | ((with_reducible refine' q_var ?kke ?_); (case kke => rfl))
  | ((with_reducible refine' q_aug ?kke ?_); (case kke => rfl))
  | ((with_reducible refine' q_ixL ?kks ?kke ?_); (case kks => walk_at "sq"); (case kke => first | rfl | assumption))
  | ((with_reducible refine' q_ixT ?kks ?kke ?_); (case kks => walk_at "st"); (case kke => first | rfl | assumption))
  | ((with_reducible refine' q_ixLL ?kks ?kke ?_); (case kks => walk_at "sq"); (case kke => first | rfl | assumption))
  | ((with_reducible refine' q_lenL ?kks ?_); (case kks => walk_at "sq"))
  | ((with_reducible refine' q_mulI ?kkc ?_); (case kkc => first | exact .inl (by omega) | exact .inr (by omega)))
  | ((with_reducible refine' q_modI ?kkc ?_); (case kkc => omega))
  | ((with_reducible refine' q_divI ?kkc ?_); (case kkc => exact ⟨by omega, by omega⟩))
  | ((with_reducible refine' q_powI ?kkc ?_); (case kkc => exact ⟨by decide, by decide, by decide⟩))
  | ((with_reducible refine' r_kfld ?kkS ?kkp ?kkc ?kkn ?kkl ?_); (case kkS => assumption); (case kkp => walk_at "mem"); (case kkc => walk_at "cls"); (case kkn => walk_at "na"); (case kkl => walk_at "lk"))
  | ((with_reducible refine' r_kprop ?kkS ?kkp ?_); (case kkS => assumption); (case kkp => walk_at "mem"))
  | ((with_reducible refine' r_kmeth ?kkS ?kkp ?kkl ?_); (case kkS => assumption); (case kkp => walk_at "mem"); (case kkl => walk_at "lk"))
  | ((with_reducible refine' r_calll ?kks ?_); (case kks => rfl))
  | ((with_reducible refine' r_tyl ?kks ?_); (case kks => walk_at "sq"))
  | ((with_reducible refine' r_isi (k := true) ?kkt ?kke ?_); (case kkt => walk_at "ty"); (case kke => decide +kernel))
  | ((with_reducible refine' r_isi (k := false) ?kkt ?kke ?_); (case kkt => walk_at "ty"); (case kke => decide +kernel)))
local macro_rules | `(tactic| walk_at "k3") => `(tactic| first
  | ((with_reducible refine' q_setS ?kkS ?kkr ?kke ?_); (case kkS => assumption); (case kkr => walk_at "rep"); (case kke => rfl); intro H S)
  | ((with_reducible refine' r_kset ?kkS ?kkr ?kkc ?kkn ?kkl ?kke ?_); (case kkS => assumption); (case kkr => walk_at "rep"); (case kkc => walk_at "cls"); (case kkn => walk_at "na"); (case kkl => first | exact Nat.le_of_ble_eq_true rfl | assumption | omega | (simp; done) | (simp; omega)); (case kke => walk_at "pf"); intro H S)
  | ((with_reducible refine' q_new ?kkS ?kkl ?_); (case kkS => assumption); (case kkl => first | exact Nat.le_of_ble_eq_true rfl | assumption | omega | (simp; done) | (simp; omega)); intro p H S)
  | ((with_reducible refine' q_newT ?kkS ?kkl ?_); (case kkS => assumption); (case kkl => first | exact Nat.le_of_ble_eq_true rfl | assumption | omega | (simp; done) | (simp; omega)); intro p H S)
  | ((with_reducible refine' r_knew ?kkS ?_); (case kkS => assumption); intro x dx H S)
  | ((with_reducible refine' r_knewk ?kkS ?kkl1 ?kkl2 ?_); (case kkS => assumption); (case kkl1 => rfl); (case kkl2 => rfl); intro x dx H S)
  | ((with_reducible refine' r_ksl ?kkS ?kks ?_); (case kkS => assumption); (case kks => walk_at "sq"); intro p H S)
  | ((with_reducible refine' r_list ?kkS ?kks ?_); (case kkS => assumption); (case kks => walk_at "sq"); intro p H S)
  | ((with_reducible refine' r_cat ?kkS ?kks1 ?kks2 ?kkz ?_); (case kkS => assumption); (case kks1 => walk_at "at"); (case kks2 => walk_at "at"); (case kkz => first | omega | (simp; omega)); intro p H S)
  | ((with_reducible refine' r_append ?kkS ?kkr ?kkz ?_); (case kkS => assumption); (case kkr => walk_at "rep"); (case kkz => first | omega | (simp; omega)); intro H S)
  | ((with_reducible refine' r_reverse ?kkS ?kkr ?_); (case kkS => assumption); (case kkr => walk_at "rep"); intro H S)
  | ((with_reducible refine' r_clear ?kkS ?kkr ?_); (case kkS => assumption); (case kkr => walk_at "rep"); intro H S))
local macro_rules | `(tactic| walk_at "gn") => `(tactic| repeat (first | walk_at "k1" | walk_at "k2"))
local macro_rules | `(tactic| walk_at "go") => `(tactic| repeat (first | walk_at "k1" | walk_at "k2" | walk_at "k3"))

local macro_rules | `(tactic| walk_at "sq") => `(tactic| first | assumption | (refine' Sep.sq ?kkS ?kkpk; (case kkS => assumption); (case kkpk => walk_at "mem")) | (refine' hp_sqL ?kkS ?kkx; (case kkS => assumption); (case kkx => assumption)) | (refine' hp_sqL (Sep.tl ?kkS) ?kkx; (case kkS => assumption); (case kkx => assumption)) | (refine' hp_sqL (Sep.tl (Sep.tl ?kkS)) ?kkx; (case kkS => assumption); (case kkx => assumption)))
local macro_rules | `(tactic| walk_at "st") => `(tactic| first | assumption | (refine' Sep.st ?kkS ?kkpk; (case kkS => assumption); (case kkpk => walk_at "mem")) | (refine' hp_sqT ?kkS ?kkx; (case kkS => assumption); (case kkx => assumption)) | (refine' hp_sqT (Sep.tl ?kkS) ?kkx; (case kkS => assumption); (case kkx => assumption)) | (refine' hp_sqT (Sep.tl (Sep.tl ?kkS)) ?kkx; (case kkS => assumption); (case kkx => assumption)))
local macro_rules | `(tactic| walk_at "k1") => `(tactic| with_reducible first | refine r_ienumT ?_ | refine r_tru ?_ | refine r_itup ?_ | refine r_star ?_ | refine r_par3 ?_ | refine r_parA3 ?_ | refine r_dget ?_ | refine r_din ?_ | refine r_dnotin ?_ | refine r_dput ?_)

local macro_rules | `(tactic| walk_at "k1") => `(tactic| with_reducible first | refine r_kget ?_ | refine r_orT ?_ | refine r_slA ?_ | refine r_m1 ?_ | refine r_isS ?_)

theorem sizeSs_take {l : List Stm} {i : Nat} {s : Stm} (h : l[i]? = some s) : sizeSs (l.take (i + 1)) = sizeSs (l.take i) + s.size := by
  rw [List.take_add_one, h, sizeSs_app]
  show _ + sizeSs [s] = _
  rw [sizeSs, sizeSs, Nat.add_zero]
theorem sizeBs_sum : ∀ bs : List Bdy, (bs.map fun b => (b.size : Int)).sum = (sizeBs bs : Int)
  | [] => rfl
  | b :: bs => by rw [List.map_cons, List.sum_cons, sizeBs_sum bs, sizeBs]; omega
section
variable {P : Program} {w : World} {K : PySem.W.Frag} {mg : Str → Option Value} {base : Heap} {f_NAMES_IN f_MAKING f_COPYING f_SHARING : Addr}
/-- both drawers, at every depth -/
theorem tower {f f1 f2 f3 : Addr} (FB : Dt K mg "_law_draw_body" s_l_draw_body ["_law_bag_here", "_law_heads", "_law_function", "_law_many", "_law_depth", "_law_is_free"] f) (FS : Dt K mg "_law_draw_statement" s_l_draw_statement ["_law_bag_here", "_law_heads", "_law_function", "_law_depth", "_law_is_free"] f1) (T : Tx K mg f_NAMES_IN f_MAKING f_COPYING f_SHARING) (D_l_take : Df P w K mg base 1 "_law_take" f2 ["_law_bag_here", "_law_many"] spTake)
    (D_l_draw_call : Df P w K mg base 2 "_law_draw_call" f3 ["_law_bag_here", "_law_heads", "_law_function", "_law_is_free"] (spCall K)) : ∀ n, Df P w K mg base (2 * n + 3) "_law_draw_statement" f1 ["_law_bag_here", "_law_heads", "_law_function", "_law_depth", "_law_is_free"] (spStmt K n) ∧ Df P w K mg base (2 * n + 4) "_law_draw_body" f ["_law_bag_here", "_law_heads", "_law_function", "_law_many", "_law_depth", "_law_is_free"] (spBody K n)
  | 0 => by
    have h1 := ok_l_draw_statement (n := 0) FS T D_l_take D_l_draw_call (ok_never FB)
    exact ⟨h1, ok_l_draw_body FB T D_l_take h1⟩
  | n + 1 => by
    obtain ⟨_, h2⟩ := tower FB FS T D_l_take D_l_draw_call n
    have h1 := ok_l_draw_statement (n := n + 1) FS T D_l_take D_l_draw_call h2
    exact ⟨h1, ok_l_draw_body FB T D_l_take h1⟩
theorem sc_l_size : FnScope N_l_size ["_law_body"] (defScope s_l_size) := ⟨rfl, rfl, rfl, by decide +kernel, rfl, by decide +kernel, by decide +kernel⟩
def spSize (K : PySem.W.Frag) (n : Nat) : Sp := fun vs H Q _ => ∃ (a : Addr) (l : List Stm) (nm : List Str) (C : Bool → Str → Nat → Prop) (fr : Bool) (G : Hp) (R : List SP), vs = [.ref a] ∧ wfSs nm C fr l ∧ depSs l ≤ n ∧ l.length ≤ 100 ∧ Dp K G (.ref a) (.list (l.map Stm.enc)) ∧ Sep (hp G :: R) H ∧ ∀ H', Sep (hp G :: R) H' → Q (.int (sizeSs l : Nat)) H'
def spSizeN (K : PySem.W.Frag) : Nat → Sp
  | 0 => spNever
  | n + 1 => spSize K n
theorem ok_size0 {f : Addr} {k : Nat} (F : Dt K mg "_law_size" s_l_size ["_law_body"] f) : Df P w K mg base (k + 1) "_law_size" f ["_law_body"] spNever :=
  F.ok sc_l_size (fun vs H Q E h => h.elim) (fun cdv A outer s H vs Q E hr h => h.elim)
theorem ok_l_size1 {n : Nat} {f : Addr} (F : Dt K mg "_law_size" s_l_size ["_law_body"] f) (T : Tx K mg f_NAMES_IN f_MAKING f_COPYING f_SHARING) (D_l_size : Df P w K mg base (n + 1) "_law_size" f ["_law_body"] (spSizeN K n)) : Df P w K mg base (n + 2) "_law_size" f ["_law_body"] (spSize K n) := by
  refine F.ok sc_l_size (fun vs H Q E h => ?_) (fun cdv A outer s H vs Q E hr h => ?_)
  · obtain ⟨a, l, nm, C, fr, G, R, rfl, _⟩ := h
    rfl
  obtain ⟨a, l, nm, C, fr, G, R, rfl, hw, hde, hln, hx, S, q⟩ := h
  refine ⟨_, (pss_cons (ps_set (i := 1) sc_l_size.nd rfl (by first | exact Or.inl rfl | exact Or.inr rfl) (pe_callB (r := cOr (cLenQ K) cLenS) call_lenA (by rfl) T.z_len (by decide +kernel) (pa_cons (pv 0) pa_nil)))
      (pss_cons (ps_for PassesOwn.never rfl (pi_listK K (pv 0)) (pg_name (i := 2) sc_l_size.nd rfl (by first | exact Or.inl rfl | exact Or.inr rfl)) (pss_one (ps_if (pt_cmpR (r := rEqA K) (op_eqA hr.units) (pe_ix (r := rIx K) ix_seq (pv 2) pe_int (fun _ _ => rfl)) pe_str (nomark _)) (pss_one (ps_aug (i := 1) sc_l_size.nd rfl (by first | exact Or.inl rfl | exact Or.inr rfl) (pe_df D_l_size (hr.mono (by first | decide | omega)) (pa_cons (pe_ix (r := rIx K) ix_seq (pv 2) pe_int (fun _ _ => rfl)) pa_nil)) ip_add)) (pss_one (ps_if (pt_cmpR (r := rEqA K) (op_eqA hr.units) (pe_ix (r := rIx K) ix_seq (pv 2) pe_int (fun _ _ => rfl)) pe_str (nomark _)) (pss_one (ps_aug (i := 1) sc_l_size.nd rfl (by first | exact Or.inl rfl | exact Or.inr rfl) (pe_callB (r := rSum K) (cr_sum rfl) (by rfl) T.z_sum (by decide +kernel) (pa_cons (pe_lc (own := [("_law_inner_here", 3)]) rfl sc_l_size.nd (pi_listK K (pe_ix (r := rIx K) ix_seq (pv 2) pe_int (fun _ _ => rfl))) (blkOk_by (own := [("_law_inner_here", 3)]) (N := N_l_size) (sc := defScope s_l_size) (by decide +kernel)) (fun _ _ _ _ _ => (pg_name (i := 3) sc_l_size.nd rfl (by first | exact Or.inl rfl | exact Or.inr rfl))) (fun _ _ _ _ _ => pts_nil) (fun _ _ _ _ _ => (pe_df D_l_size (hr.mono (by first | decide | omega)) (pa_cons (pv 3) pa_nil)))) pa_nil)) ip_add)) pss_nil)))))
      (pss_one (ps_ret (pv 1))))), ?_⟩
  obtain ⟨a', xs, e, hs, hda⟩ := dp_lstInv hx
  cases e
  have hxl : xs.length = l.length := by rw [dpall_len hda, List.length_map]
  walk_at "go"
  refine r_for_list (xs := xs) (fun i σ Ps => ∃ (u2 u3 : Option V), σ = [some (.ref a), some (.int ((l.length : Int) + (sizeSs (l.take i) : Int) - (i : Int))), u2, u3] ∧ Ps = hp G :: R) S ⟨_, _, by rw [List.take_zero, hxl]; simp [sizeSs]; rfl, rfl⟩ (fun i σ Ps H hi ⟨_, _, _, e⟩ S => by subst e; exact hp_sqL S hs) ?_ ?_
  · rintro i x σ Ps H hi ⟨u2, u3, rfl, rfl⟩ S
    obtain ⟨d, hd, hxd⟩ := dpall_at hda hi
    rw [List.getElem?_map] at hd
    cases es : l[i]? with
    | none => rw [es] at hd; cases hd
    | some s =>
    rw [es] at hd
    cases hd
    have hst := sizeSs_take es
    have hws := wfSs_iff.mp hw s (List.mem_of_getElem? es)
    have hds := depSs_le.mp hde s (List.mem_of_getElem? es)
    obtain ⟨sa, sxs, rfl, hsq, hm⟩ := stm_sq hxd
    have hsq := hp_sqT S hsq
    have done_ : ∀ {z : Int} {H : Hp} {σ : L2.St}, z = (l.length : Int) + (sizeSs (l.take (i + 1)) : Int) - ((i + 1 : Nat) : Int) → (∃ u2 u3, σ = [some (.ref a), some (.int z), u2, u3]) → Sep (hp G :: R) H → Nx (fun i σ Ps => ∃ (u2 u3 : Option V), σ = [some (.ref a), some (.int ((l.length : Int) + (sizeSs (l.take i) : Int) - (i : Int))), u2, u3] ∧ Ps = hp G :: R) (i + 1) σ H := fun {z H σ} e ⟨u2, u3, e2⟩ S => ⟨_, ⟨u2, u3, by rw [e2, e], rfl⟩, S⟩
    walk_at "go"
    refine q_ixT hsq (atI_nat (j := 0) rfl) ?_
    walk_at "go"
    refine r_eqS ?_
    walk_at "go"
    have rest : ¬ s.word = ("loop" : Str) → ¬ s.word = ("either" : Str) → s.size = 1 := by
      intro h1 h2
      cases s with
      | either t bs => exact absurd rfl h2
      | loop b => exact absurd rfl h1
      | two wd v u => rw [Stm.size]
      | one wd v => rw [Stm.size]
      | call v f t as => rw [Stm.size]
    cases n with
    | zero =>
      have hn1 : ¬ s.word = ("loop" : Str) := fun e => by
        cases s with
        | loop b => rw [Stm.dep] at hds; omega
        | two wd v u => rw [Stm.Wf] at hws; exact absurd e (w2_ne _ hws.1).2.1
        | one wd v => rw [Stm.Wf] at hws; exact absurd e (w1_ne _ hws.1).2.1
        | either t bs => exact absurd (show ("either" : Str) = "loop" from e) (by decide)
        | call v f t as => exact absurd (show ("call" : Str) = "loop" from e) (by decide)
      have hn2 : ¬ s.word = ("either" : Str) := fun e => by
        cases s with
        | either t bs => rw [Stm.dep] at hds; omega
        | two wd v u => rw [Stm.Wf] at hws; exact absurd e (w2_ne _ hws.1).1
        | one wd v => rw [Stm.Wf] at hws; exact absurd e (w1_ne _ hws.1).1
        | loop b => exact absurd (show ("loop" : Str) = "either" from e) (by decide)
        | call v f t as => exact absurd (show ("call" : Str) = "either" from e) (by decide)
      have hz := rest hn1 hn2
      refine iteDN hn1 ?_
      walk_at "go"
      refine q_ixT hsq (atI_nat (j := 0) rfl) ?_
      walk_at "go"
      refine r_eqS ?_
      walk_at "go"
      refine iteDN hn2 ?_
      walk_at "go"
      exact done_ (by rw [hst, hz]; omega) ⟨_, _, rfl⟩ S
    | succ m =>
    by_cases e1 : s.word = ("loop" : Str)
    · obtain ⟨b, rfl⟩ : ∃ b, s = .loop b := by
        cases s with
        | loop b => exact ⟨b, rfl⟩
        | two wd v u => rw [Stm.Wf] at hws; exact absurd e1 (w2_ne _ hws.1).2.1
        | one wd v => rw [Stm.Wf] at hws; exact absurd e1 (w1_ne _ hws.1).2.1
        | either t bs => exact absurd (show ("either" : Str) = "loop" from e1) (by decide)
        | call v f t as => exact absurd (show ("call" : Str) = "loop" from e1) (by decide)
      cases b with
      | mk t bl =>
      refine iteT ?_
      obtain ⟨y, rfl, hy⟩ := hm
      rw [Stm.Wf, Bdy.Wf] at hws
      rw [Stm.dep, Bdy.dep] at hds
      rw [Stm.size, Bdy.size] at hst
      obtain ⟨rfl, hb3, hwb⟩ := hws
      rw [Bdy.enc, encSs_map] at hy
      obtain ⟨ya, ys, rfl, _, _⟩ := dp_lstInv (show Dp K G y (.list (bl.map Stm.enc)) from hy)
      walk_at "go"
      refine ⟨ya, bl, nm, C, true, G, R, rfl, hwb, by omega, by omega, hy, S, fun H S => ?_⟩
      walk_at "go"
      exact done_ (by rw [hst]; omega) ⟨_, _, rfl⟩ S
    refine iteDN e1 ?_
    walk_at "go"
    refine q_ixT hsq (atI_nat (j := 0) rfl) ?_
    walk_at "go"
    refine r_eqS ?_
    walk_at "go"
    by_cases e2 : s.word = ("either" : Str)
    · obtain ⟨t, bs, rfl⟩ : ∃ t bs, s = .either t bs := by
        cases s with
        | either t bs => exact ⟨t, bs, rfl⟩
        | two wd v u => rw [Stm.Wf] at hws; exact absurd e2 (w2_ne _ hws.1).1
        | one wd v => rw [Stm.Wf] at hws; exact absurd e2 (w1_ne _ hws.1).1
        | loop b => exact absurd (show ("loop" : Str) = "either" from e2) (by decide)
        | call v f t as => exact absurd (show ("call" : Str) = "either" from e2) (by decide)
      refine iteT ?_
      obtain ⟨y, rfl, hy⟩ := hm
      rw [Stm.Wf] at hws
      rw [Stm.dep] at hds
      rw [Stm.size] at hst
      obtain ⟨rfl, hb1, hb3, hwb⟩ := hws
      obtain ⟨ya, ys, rfl, hys, hda2⟩ := dp_lstInv (show Dp K G y (.list (bs.map Bdy.enc)) from hy)
      have hyl : ys.length = bs.length := by rw [dpall_len hda2, List.length_map]
      walk_at "go"
      refine r_lc_list (xs := ys) (fun i acc Ps => acc = (bs.take i).map (fun b => V.int (b.size : Nat)) ∧ Ps = hp G :: R) S ⟨by rw [List.take_zero]; rfl, rfl⟩ (fun D i acc Ps H hi ⟨_, e⟩ S => by subst e; exact hp_sqL S.tl hys) (hp_sqL S hys) ?_ ?_
      · rintro D i x acc Ps H hi ⟨rfl, rfl⟩ S
        obtain ⟨d, hd, hxd⟩ := dpall_at hda2 hi
        rw [List.getElem?_map] at hd
        cases eb : bs[i]? with
        | none => rw [eb] at hd; cases hd
        | some b =>
        rw [eb] at hd
        cases hd
        have hi2 := (List.getElem?_eq_some_iff.mp eb).1
        cases b with
        | mk t bl =>
        have hwb2 := wfBs_iff.mp hwb _ (List.mem_of_getElem? eb)
        have hds2 := depBs_le.mp (show depBs bs ≤ m by omega) _ (List.mem_of_getElem? eb)
        rw [Bdy.Wf] at hwb2
        rw [Bdy.dep] at hds2
        obtain ⟨rfl, hb3', hwb2⟩ := hwb2
        rw [Bdy.enc, encSs_map] at hxd
        obtain ⟨xa, _, rfl, _, _⟩ := dp_lstInv (show Dp K G x (.list (bl.map Stm.enc)) from hxd)
        walk_at "go"
        refine ⟨rfl, ?_⟩
        walk_at "go"
        refine ⟨xa, bl, nm, C, fr, G, _, rfl, hwb2, by omega, by omega, hxd, S.swap, fun H S => ?_⟩
        refine cn_in S.swap (by rw [List.length_map, List.length_take]; omega) ⟨?_, rfl⟩
        rw [List.take_add_one, eb, List.map_append]
        show _ = _ ++ [V.int (Bdy.size _ : Nat)]
        rw [Bdy.size]
      · rintro D acc Ps H ⟨rfl, rfl⟩ S
        rw [hyl, List.take_length] at S
        walk_at "go"
        have e : bs.map (fun b => V.int (b.size : Nat)) = (bs.map fun b => (b.size : Int)).map V.int := by rw [List.map_map]; rfl
        rw [e] at S
        refine ⟨D, _, rfl, by walk_at "sq", ?_⟩
        walk_at "go"
        rw [sizeBs_sum]
        exact done_ (by rw [hst]; omega) ⟨_, _, rfl⟩ S.tl
    refine iteDN e2 ?_
    have hz := rest e1 e2
    walk_at "go"
    exact done_ (by rw [hst, hz]; omega) ⟨_, _, rfl⟩ S
  · rintro σ Ps H ⟨u2, u3, rfl, rfl⟩ S
    walk_at "go"
    rw [hxl, List.take_length]
    have := q H S
    rw [show (l.length : Int) + (sizeSs l : Int) - (l.length : Int) = (sizeSs l : Int) by omega]
    exact this
end
end Pf

set_option Elab.async false
set_option linter.all false
set_option maxRecDepth 100000
set_option maxHeartbeats 8000000
namespace Pf
open PySem L2 Kt
set_option hygiene false
local macro_rules | `(tactic| walk_at "mem") => `(tactic| (with_reducible (repeat (first | exact Pick.hd | apply Pick.tl)); done))
local macro_rules | `(tactic| walk_at "rep") => `(tactic| (with_reducible (repeat (first | exact Repl.hd | apply Repl.tl)); done))
local macro_rules | `(tactic| walk_at "sel") => `(tactic| ((repeat (with_reducible apply Sel.cons; (focus walk_at "mem"))); (with_reducible apply Sel.nil); (with_reducible (repeat (first | exact Dr.all | apply Dr.skip)); done)))
local macro_rules | `(tactic| walk_at "at") => `(tactic| (refine' Sep.at_ (by assumption) ?kkpk; (case kkpk => walk_at "mem")))
local macro_rules | `(tactic| walk_at "sq") => `(tactic| first | assumption | (refine' Sep.sq (by assumption) ?kkpk; (case kkpk => walk_at "mem")))
local macro_rules | `(tactic| walk_at "st") => `(tactic| first | assumption | (refine' Sep.st (by assumption) ?kkpk; (case kkpk => walk_at "mem")))
local macro_rules | `(tactic| walk_at "lk") => `(tactic| (repeat (first | (with_reducible exact lk_eq) | exact rfl | refine (lk_ne (by decide +kernel)).trans ?_)))
local macro_rules | `(tactic| walk_at "pf") => `(tactic| (repeat (first | (with_reducible exact pf_nil) | (with_reducible exact pf_eq) | (apply pf_ne; (focus decide +kernel)))))
local macro_rules | `(tactic| walk_at "ty") => `(tactic| first | exact ty_int | (refine' ty_lst ?kkh; (case kkh => walk_at "at")))
local macro_rules | `(tactic| walk_at "k1") => `(tactic| with_reducible first
  | refine q_seq ?_ | refine q_set ?_ | refine q_asg ?_ | refine q_ret ?_ | refine q_drop ?_ | refine q_next ?_ | refine q_c ?_ | refine q_op ?_ | refine q_un ?_ | refine q_nil ?_ | refine q_cons ?_ | refine q_cb ?_
  | refine q_call ?_ | refine q_ifs ?_ | refine q_if ?_ | refine q_test ?_ | refine q_tb ?_ | refine q_bl ?_ | refine q_notT ?_ | refine q_andT ?_ | refine q_orT ?_ | refine q_andV ?_ | refine q_orV ?_ | refine q_notV ?_
  | refine q_addA ?_ | refine q_subI ?_ | refine q_ltI ?_ | refine q_leI ?_ | refine q_gtI ?_ | refine q_geI ?_ | refine q_eqI ?_ | refine q_neI ?_ | refine q_abs ?_ | refine q_int ?_ | refine q_intB ?_ | refine q_max ?_ | refine q_min ?_
  | refine q_ipAdd ?_ | refine q_ipSub ?_ | refine q_gsub ?_ | refine q_augs ?_ | refine q_lst ?_ | refine q_tup ?_ | refine q_blI ?_ | refine iteT ?_ | refine iteF ?_ | refine iteNT ?_ | refine iteNF ?_
  | refine r_prop ?_ | refine r_fld ?_ | refine r_sfld ?_ | refine r_meth ?_ | refine r_make ?_ | refine r_sl ?_ | refine r_nopart ?_ | refine r_part ?_ | refine r_parti ?_ | refine r_gsl ?_ | refine r_bm ?_ | refine r_bm0 ?_ | refine r_for ?_ | refine r_ilist ?_ | refine r_irng ?_
  | refine r_gname ?_ | refine r_gcons ?_ | refine r_gnil ?_ | refine r_par ?_ | refine r_parA ?_ | refine r_chain ?_ | refine r_isN ?_ | refine r_tlc ?_ | refine r_yes ?_ | refine r_makek ?_ | refine r_neg ?_)
local macro_rules | `(tactic| walk_at "k2") => `(tactic| first
  | ((with_reducible refine' q_var ?kke ?_); (case kke => rfl))
  | ((with_reducible refine' q_aug ?kke ?_); (case kke => rfl))
  | ((with_reducible refine' q_ixL ?kks ?kke ?_); (case kks => walk_at "sq"); (case kke => first | rfl | assumption))
  | ((with_reducible refine' q_ixT ?kks ?kke ?_); (case kks => walk_at "st"); (case kke => first | rfl | assumption))
  | ((with_reducible refine' q_ixLL ?kks ?kke ?_); (case kks => walk_at "sq"); (case kke => first | rfl | assumption))
  | ((with_reducible refine' q_lenL ?kks ?_); (case kks => walk_at "sq"))
  | ((with_reducible refine' q_mulI ?kkc ?_); (case kkc => first | exact .inl (by omega) | exact .inr (by omega)))
  | ((with_reducible refine' q_modI ?kkc ?_); (case kkc => omega))
  | ((with_reducible refine' q_divI ?kkc ?_); (case kkc => exact ⟨by omega, by omega⟩))
  | ((with_reducible refine' q_powI ?kkc ?_); (case kkc => exact ⟨by decide, by decide, by decide⟩))
  | ((with_reducible refine' r_kfld ?kkS ?kkp ?kkc ?kkn ?kkl ?_); (case kkS => assumption); (case kkp => walk_at "mem"); (case kkc => walk_at "cls"); (case kkn => walk_at "na"); (case kkl => walk_at "lk"))
  | ((with_reducible refine' r_kprop ?kkS ?kkp ?_); (case kkS => assumption); (case kkp => walk_at "mem"))
  | ((with_reducible refine' r_kmeth ?kkS ?kkp ?kkl ?_); (case kkS => assumption); (case kkp => walk_at "mem"); (case kkl => walk_at "lk"))
  | ((with_reducible refine' r_calll ?kks ?_); (case kks => rfl))
  | ((with_reducible refine' r_tyl ?kks ?_); (case kks => walk_at "sq"))
  | ((with_reducible refine' r_isi (k := true) ?kkt ?kke ?_); (case kkt => walk_at "ty"); (case kke => decide +kernel))
  | ((with_reducible refine' r_isi (k := false) ?kkt ?kke ?_); (case kkt => walk_at "ty"); (case kke => decide +kernel)))
local macro_rules | `(tactic| walk_at "k3") => `(tactic| first
  | ((with_reducible refine' q_setS ?kkS ?kkr ?kke ?_); (case kkS => assumption); (case kkr => walk_at "rep"); (case kke => rfl); intro H S)
  | ((with_reducible refine' r_kset ?kkS ?kkr ?kkc ?kkn ?kkl ?kke ?_); (case kkS => assumption); (case kkr => walk_at "rep"); (case kkc => walk_at "cls"); (case kkn => walk_at "na"); (case kkl => first | exact Nat.le_of_ble_eq_true rfl | assumption | omega | (simp; done) | (simp; omega)); (case kke => walk_at "pf"); intro H S)
  | ((with_reducible refine' q_new ?kkS ?kkl ?_); (case kkS => assumption); (case kkl => first | exact Nat.le_of_ble_eq_true rfl | assumption | omega | (simp; done) | (simp; omega)); intro p H S)
  | ((with_reducible refine' q_newT ?kkS ?kkl ?_); (case kkS => assumption); (case kkl => first | exact Nat.le_of_ble_eq_true rfl | assumption | omega | (simp; done) | (simp; omega)); intro p H S)
  | ((with_reducible refine' r_knew ?kkS ?_); (case kkS => assumption); intro x dx H S)
  | ((with_reducible refine' r_knewk ?kkS ?kkl1 ?kkl2 ?_); (case kkS => assumption); (case kkl1 => rfl); (case kkl2 => rfl); intro x dx H S)
  | ((with_reducible refine' r_ksl ?kkS ?kks ?_); (case kkS => assumption); (case kks => walk_at "sq"); intro p H S)
  | ((with_reducible refine' r_list ?kkS ?kks ?_); (case kkS => assumption); (case kks => walk_at "sq"); intro p H S)
  | ((with_reducible refine' r_cat ?kkS ?kks1 ?kks2 ?kkz ?_); (case kkS => assumption); (case kks1 => walk_at "at"); (case kks2 => walk_at "at"); (case kkz => first | omega | (simp; omega)); intro p H S)
  | ((with_reducible refine' r_append ?kkS ?kkr ?kkz ?_); (case kkS => assumption); (case kkr => walk_at "rep"); (case kkz => first | omega | (simp; omega)); intro H S)
  | ((with_reducible refine' r_reverse ?kkS ?kkr ?_); (case kkS => assumption); (case kkr => walk_at "rep"); intro H S)
  | ((with_reducible refine' r_clear ?kkS ?kkr ?_); (case kkS => assumption); (case kkr => walk_at "rep"); intro H S))
local macro_rules | `(tactic| walk_at "gn") => `(tactic| repeat (first | walk_at "k1" | walk_at "k2"))
local macro_rules | `(tactic| walk_at "go") => `(tactic| repeat (first | walk_at "k1" | walk_at "k2" | walk_at "k3"))

local macro_rules | `(tactic| walk_at "sq") => `(tactic| first | assumption | (refine' Sep.sq ?kkS ?kkpk; (case kkS => assumption); (case kkpk => walk_at "mem")) | (refine' hp_sqL ?kkS ?kkx; (case kkS => assumption); (case kkx => assumption)) | (refine' hp_sqL (Sep.tl ?kkS) ?kkx; (case kkS => assumption); (case kkx => assumption)) | (refine' hp_sqL (Sep.tl (Sep.tl ?kkS)) ?kkx; (case kkS => assumption); (case kkx => assumption)))
local macro_rules | `(tactic| walk_at "st") => `(tactic| first | assumption | (refine' Sep.st ?kkS ?kkpk; (case kkS => assumption); (case kkpk => walk_at "mem")) | (refine' hp_sqT ?kkS ?kkx; (case kkS => assumption); (case kkx => assumption)) | (refine' hp_sqT (Sep.tl ?kkS) ?kkx; (case kkS => assumption); (case kkx => assumption)) | (refine' hp_sqT (Sep.tl (Sep.tl ?kkS)) ?kkx; (case kkS => assumption); (case kkx => assumption)))
local macro_rules | `(tactic| walk_at "k1") => `(tactic| with_reducible first | refine r_ienumT ?_ | refine r_tru ?_ | refine r_itup ?_ | refine r_star ?_ | refine r_par3 ?_ | refine r_parA3 ?_ | refine r_dget ?_ | refine r_din ?_ | refine r_dnotin ?_ | refine r_dput ?_)

local macro_rules | `(tactic| walk_at "k1") => `(tactic| with_reducible first | refine r_kget ?_ | refine r_orT ?_ | refine r_slA ?_ | refine r_m1 ?_ | refine r_isS ?_)

def rSortDk : List V → Hp → VK → Prop := fun xs H Q => ∃ (a : Addr) (kvs : List (Key × V)) (ks : List Str), xs = [.ref a] ∧ Rd H a (.dK kvs) ∧ kvs.map (·.1) = ks.map Sum.inr ∧ ks.length < 64 ∧
    ∀ ys p, ys.Perm ks → PyProof.Rows.sortedS ys = true → H p = none → Q (.ref p) (upd H p (.lst (ys.map V.str)))
theorem cr_sortDk {X : Cx} (hc : X.calm = true) : CallR X (.builtin "sorted") rSortDk := call_sortedD hc
structure Fn where
  h : Hd
  body : List Stm
def Fn.enc (f : Fn) : PyData := .tuple [.list (f.h.pars.map PyData.str), .list (f.body.map Stm.enc), .str f.h.res]
def FnsAt (K : PySem.W.Frag) (G : Hp) (kvs : List (Key × V)) (fs : List Fn) : Prop := Paired (fun kv f => kv.1 = kS f.h.fn ∧ Dp K G kv.2 f.enc) kvs fs
theorem FnsAt.le {K : PySem.W.Frag} {G G' : Hp} {kvs : List (Key × V)} {fs : List Fn} (h1 : FnsAt K G kvs fs) (l : Le G G') : FnsAt K G' kvs fs := paired_imp (fun a b z => ⟨z.1, Dp.le l _ _ z.2⟩) h1
theorem FnsAt.keys {K : PySem.W.Frag} {G : Hp} {kvs : List (Key × V)} {fs : List Fn} (h1 : FnsAt K G kvs fs) : kvs.map Prod.fst = fs.map fun f => kS f.h.fn := by
  induction h1 with
  | nil => rfl
  | cons z _ ih => rw [List.map_cons, List.map_cons, z.1, ih]
/-- statements as they are drawn -/
def Dr (s : Stm) : Prop := ∃ nm C fr, s.Wf nm C fr
structure StOk (s : Stm) : Prop where
  wf : Dr s
  ok : s.Ok NmOk
  dp : s.dep ≤ 2
  nl : s.names.length ≤ 3 * s.size
section
variable {nm : List Str} {C : Bool → Str → Nat → Prop}
mutual
theorem wf_names (hC : ∀ fr f n, C fr f n → n ≤ 2) : ∀ (s : Stm) (fr : Bool), s.Wf nm C fr → s.names.length ≤ 3 * s.size
  | .two w v u, fr, _ => by rw [Stm.names, Stm.size]; show 2 ≤ 3; omega
  | .one w v, fr, _ => by rw [Stm.names, Stm.size]; show 1 ≤ 3; omega
  | .call v f t as, fr, h => by
    rw [Stm.Wf] at h
    have := hC _ _ _ h.2.2.2
    rw [Stm.names, Stm.size, List.length_cons]
    omega
  | .either t bs, fr, h => by
    rw [Stm.Wf] at h
    have := wfBs_names hC bs fr h.2.2.2
    rw [Stm.names, Stm.size]
    omega
  | .loop b, fr, h => by
    rw [Stm.Wf] at h
    have := wfB_names hC b true h
    rw [Stm.names, Stm.size]
    omega
theorem wfB_names (hC : ∀ fr f n, C fr f n → n ≤ 2) : ∀ (b : Bdy) (fr : Bool), b.Wf nm C fr → b.names.length ≤ 3 * b.size
  | .mk t l, fr, h => by
    rw [Bdy.Wf] at h
    rw [Bdy.names, Bdy.size]
    exact wfSs_names hC l fr h.2.2
theorem wfBs_names (hC : ∀ fr f n, C fr f n → n ≤ 2) : ∀ (bs : List Bdy) (fr : Bool), wfBs nm C fr bs → (namesBs bs).length ≤ 3 * sizeBs bs
  | [], _, _ => by rw [namesBs]; exact Nat.zero_le _
  | b :: bs, fr, h => by
    rw [wfBs] at h
    rw [namesBs, sizeBs, List.length_append]
    have := wfB_names hC b fr h.1
    have := wfBs_names hC bs fr h.2
    omega
theorem wfSs_names (hC : ∀ fr f n, C fr f n → n ≤ 2) : ∀ (l : List Stm) (fr : Bool), wfSs nm C fr l → (namesSs l).length ≤ 3 * sizeSs l
  | [], _, _ => by rw [namesSs]; exact Nat.zero_le _
  | s :: l, fr, h => by
    rw [wfSs] at h
    rw [namesSs, sizeSs, List.length_append]
    have := wf_names hC s fr h.1
    have := wfSs_names hC l fr h.2
    omega
end
end
theorem cut_init {xs : List V} : cutV xs none (some (-1)) = xs.dropLast := by
  unfold cutV HT.sIx
  simp only [List.drop_zero, Nat.sub_zero]
  rw [if_pos (by omega), List.dropLast_eq_take]
  congr 1
  omega
theorem dropLast_sub {α : Type} {l : List α} {x : α} (h : x ∈ l.dropLast) : x ∈ l := List.dropLast_subset l h
theorem r_for_keys {Ps : List SP} {d : Addr} {od : Obj} {kvs : List (Key × V)} {g : TG} {tb : TS} {D : Ends} {σ : L2.St} {H : Hp} (J : LW) (S : Sep Ps H) (h0 : J 0 σ Ps) (hl : ∀ i σ Ps H, J i σ Ps → Sep Ps H → H d = some (.frz od (.dK kvs)))
    (hs : ∀ i (k : Key) (v : V) σ Ps H, kvs[i]? = some (k, v) → J i σ Ps → Sep Ps H → g (kV k) σ H fun σ2 H2 => tb { D with nx := Nx J (i + 1), ct := Nx J (i + 1), bk := D.nx } σ2 H2) (hd : ∀ σ Ps H, J kvs.length σ Ps → Sep Ps H → D.nx σ H) :
    ForW (Itk d od kvs) g tb D σ H :=
  for_it (walk_keys (d := d) (o := od) (kvs := kvs)) (Nx J) ⟨Ps, h0, S⟩ (fun i σ H hi ⟨Ps, j, S⟩ => hl i σ Ps H j S) (fun i x σ H H' hi ⟨Ps, j, S⟩ y => by obtain ⟨rfl, k, v, e, rfl⟩ := y; exact hs i k v σ Ps _ e j S) fun σ H ⟨Ps, j, S⟩ => hd σ Ps H j S
theorem v_res {n p r : V} : valV [((.inr "names" : Key), n), (.inr "parameters", p), (.inr "result", r)] (kS "result") = some r := by
  unfold valV
  rfl
section
variable {P : Program} {w : World} {K : PySem.W.Frag} {mg : Str → Option Value} {base : Heap} {f_NAMES_IN f_MAKING f_COPYING f_SHARING : Addr}
theorem sc_l_draw_functions : FnScope N_l_draw_functions ["_law_bag_here", "_law_many", "_law_most", "_law_long"] (defScope s_l_draw_functions) := ⟨rfl, rfl, rfl, by decide +kernel, rfl, by decide +kernel, by decide +kernel⟩
def spFuns (K : PySem.W.Frag) : Sp := fun vs H Q _ => ∃ (b : Addr) (many most long : Nat) (G : Hp) (R : List SP), vs = [.ref b, .int many, .int most, .int long] ∧ many ≤ 4 ∧ 1 ≤ most ∧ most ≤ 7 ∧ long ≤ 20 ∧ Sep (hp G :: bag b :: R) H ∧
  ∀ d kvs (fs : List Fn) G' H', Le G G' → fs.length ≤ many + 1 → (∀ f ∈ fs, (∀ s ∈ f.body, StOk s) ∧ sizeSs f.body ≤ 12) → FnsAt K G' kvs fs → Sep (pt d (.dK kvs) :: hp G' :: bag b :: R) H' → Q (.ref d) H'
theorem ok_l_draw_functions {f f1 f2 f3 f4 : Addr} (F : Dt K mg "_law_draw_functions" s_l_draw_functions ["_law_bag_here", "_law_many", "_law_most", "_law_long"] f) (T : Tx K mg f_NAMES_IN f_MAKING f_COPYING f_SHARING) (D_l_draw_heads : Df P w K mg base 3 "_law_draw_heads" f1 ["_law_bag_here", "_law_many", "_law_most"] (spHeads K))
    (D_l_draw_body : Df P w K mg base 8 "_law_draw_body" f2 ["_law_bag_here", "_law_heads", "_law_function", "_law_many", "_law_depth", "_law_is_free"] (spBody K 2)) (D_l_size : Df P w K mg base 4 "_law_size" f3 ["_law_body"] (spSize K 2)) : Df P w K mg base 9 "_law_draw_functions" f ["_law_bag_here", "_law_many", "_law_most", "_law_long"] (spFuns K) := by
  refine F.ok sc_l_draw_functions (fun vs H Q E h => ?_) (fun cdv A outer s H vs Q E hr h => ?_)
  · obtain ⟨b, many, most, long, G, R, rfl, _⟩ := h
    rfl
  obtain ⟨b, many, most, long, G, R, rfl, hm, m1, m7, hl, S, q⟩ := h
  refine ⟨_, (pss_cons (ps_asg (pe_tup (pa_cons (pe_df D_l_draw_heads (hr.mono (by first | decide | omega)) (pa_cons (pv 0) (pa_cons (pv 1) (pa_cons (pv 2) pa_nil)))) (pa_cons pe_dnewK pa_nil))) (pg_tupK K rfl (pgs_cons (pg_name (i := 4) sc_l_draw_functions.nd rfl (by first | exact Or.inl rfl | exact Or.inr rfl)) (pgs_cons (pg_name (i := 5) sc_l_draw_functions.nd rfl (by first | exact Or.inl rfl | exact Or.inr rfl)) pgs_nil))))
      (pss_cons (ps_lock (ps_for PassesOwn.never rfl (pi_keys (pv 4)) (pg_name (i := 6) sc_l_draw_functions.nd rfl (by first | exact Or.inl rfl | exact Or.inr rfl)) (pss_cons (ps_set (i := 7) sc_l_draw_functions.nd rfl (by first | exact Or.inl rfl | exact Or.inr rfl) (pe_df D_l_draw_body (hr.mono (by first | decide | omega)) (pa_cons (pv 0) (pa_cons (pv 4) (pa_cons (pv 6) (pa_cons (pv 3) (pa_cons pe_int (pa_cons pe_bl pa_nil))))))))
      (pss_cons (ps_while PassesOwn.never (pt_cmpR (r := rGtI) op_gt (pe_df D_l_size (hr.mono (by first | decide | omega)) (pa_cons (pv 7) pa_nil)) pe_int (nomark _)) (pss_one (ps_set (i := 7) sc_l_draw_functions.nd rfl (by first | exact Or.inl rfl | exact Or.inr rfl) (pe_slice (r := rSlL K) sl_list (pv 7) po_none (po_some (pe_un un_neg pe_int))))))
      (pss_one (ps_dput (Nat.lt_of_le_of_lt (Nat.add_le_add_left (by decide) _) hr.units) (pv 5) (pv 6) (pe_tup (pa_cons (pe_dget (Nat.lt_of_le_of_lt (Nat.add_le_add_left (by decide) _) hr.units) (pe_dget (Nat.lt_of_le_of_lt (Nat.add_le_add_left (by decide) _) hr.units) (pv 4) (pv 6) (by first | rfl | trivial | exact fun _ _ => rfl)) pe_str (by first | rfl | trivial | exact fun _ _ => rfl)) (pa_cons (pv 7) (pa_cons (pe_dget (Nat.lt_of_le_of_lt (Nat.add_le_add_left (by decide) _) hr.units) (pe_dget (Nat.lt_of_le_of_lt (Nat.add_le_add_left (by decide) _) hr.units) (pv 4) (pv 6) (by first | rfl | trivial | exact fun _ _ => rfl)) pe_str (by first | rfl | trivial | exact fun _ _ => rfl)) pa_nil)))) rfl))))))
      (pss_one (ps_ret (pe_callTy (r := rDictP K) (cr_dictP rfl) (by rfl) T.z_dict (by decide +kernel) (pa_cons (pe_lc (own := [("_law_function", 6)]) rfl sc_l_draw_functions.nd (pi_listK K (pe_callB (r := rSortDk) (cr_sortDk rfl) (by rfl) T.z_sorted (by decide +kernel) (pa_cons (pv 5) pa_nil))) (blkOk_by (own := [("_law_function", 6)]) (N := N_l_draw_functions) (sc := defScope s_l_draw_functions) (by decide +kernel)) (fun _ _ _ _ _ => (pg_name (i := 6) sc_l_draw_functions.nd rfl (by first | exact Or.inl rfl | exact Or.inr rfl))) (fun _ _ _ _ _ => pts_nil) (fun _ _ _ _ _ => (pe_tup (pa_cons (pv 6) (pa_cons (pe_dget (Nat.lt_of_le_of_lt (Nat.add_le_add_left (by decide) _) hr.units) (pv 5) (pv 6) (by first | rfl | trivial | exact fun _ _ => rfl)) pa_nil))))) pa_nil)))))), ?_⟩
  walk_at "go"
  refine ⟨b, many, most, G, R, rfl, by omega, by omega, by omega, S, fun d kvs hs G1 H hok hhl le1 hat S => ?_⟩
  walk_at "go"
  refine r_dnew S fun fd H S => ?_
  have S : Sep (pt fd (.dK []) :: pt d (.dK kvs) :: hp G1 :: bag b :: R) H := S
  walk_at "go"
  refine r_gtup (xs := [.ref d, .ref fd]) (by walk_at "st") rfl ?_
  walk_at "go"
  have S : Sep (pt d (.dK kvs) :: hp G1 :: pt fd (.dK []) :: bag b :: R) H := S.s4 (A := pt d (.dK kvs)) (B := hp G1) (C := pt fd (.dK [])) (D := bag b) (by walk_at "sel")
  refine ⟨d, .dK kvs, S.hd_at, by first | trivial | exact .inr rfl | exact ⟨⟩ | simp [Mut], fun od => ?_⟩
  have S : Sep (pt fd (.dK []) :: pt d (.frz od (.dK kvs)) :: hp G1 :: bag b :: R) (upd H d (.frz od (.dK kvs))) := (S.hd_set (.frz od (.dK kvs))).s4 (A := pt fd (.dK [])) (B := pt d (.frz od (.dK kvs))) (C := hp G1) (D := bag b) (by walk_at "sel")
  have hkl : kvs.length = hs.length := Paired.length hat
  refine r_for (q_var rfl ⟨d, od, rfl, .inl ⟨kvs, S.tl.hd_at, ?_⟩⟩)
  refine r_for_keys (fun i σ Ps => ∃ (fkvs : List (Key × V)) (fs : List Fn) (Gi : Hp) (u6 u7 : Option V), σ = [some (.ref b), some (.int many), some (.int most), some (.int long), some (.ref d), some (.ref fd), u6, u7] ∧ Le G1 Gi ∧ FnsAt K Gi fkvs fs ∧ fs.map (fun f => f.h.fn) = (hs.take i).map Hd.fn ∧ (∀ f ∈ fs, (∀ s ∈ f.body, StOk s) ∧ sizeSs f.body ≤ 12) ∧ Ps = pt fd (.dK fkvs) :: pt d (.frz od (.dK kvs)) :: hp Gi :: bag b :: R) S ⟨[], [], G1, _, _, rfl, Le.rfl, .nil, by rw [List.take_zero]; rfl, nofun, rfl⟩ ?_ ?_ ?_
  · rintro i σ Ps H ⟨_, _, _, _, _, _, _, _, _, _, rfl⟩ S
    exact S.tl.hd_at
  · rintro i k v σ Ps H hi ⟨fkvs, fs, Gi, u6, u7, rfl, le, hfa, hfn, hfo, rfl⟩ S
    obtain ⟨hh, hhi, hk, hha⟩ := paired_get hat hi
    have hm := List.mem_of_getElem? hhi
    have hil := (List.getElem?_eq_some_iff.mp hhi).1
    have hk : k = kS hh.fn := hk
    subst hk
    have hho := (hok.each hh hm).1
    have hfl : fs.length = i := by
      have := congrArg List.length hfn
      rw [List.length_map, List.length_map, List.length_take] at this
      omega
    have hfkl : fkvs.length = fs.length := Paired.length hfa
    show gName 6 (V.str hh.fn) _ _ _
    walk_at "go"
    refine ⟨b, d, pt d (.frz od (.dK kvs)), kvs, hs, hh, long, 2, false, Gi, pt fd (.dK fkvs) :: R, rfl, by omega, by omega, by omega, hok, hm, hat.le le, fun g z => .inr ⟨_, z⟩, S.s4 (A := pt d (.frz od (.dK kvs))) (B := hp Gi) (C := bag b) (D := pt fd (.dK fkvs)) (by walk_at "sel"), fun v l G2 H hw hll hde le2 hdv S => ?_⟩
    walk_at "go"
    have S : Sep (hp G2 :: pt fd (.dK fkvs) :: pt d (.frz od (.dK kvs)) :: bag b :: R) H := S.s4 (A := hp G2) (B := pt fd (.dK fkvs)) (C := pt d (.frz od (.dK kvs))) (D := bag b) (by walk_at "sel")
    refine r_while (fun m σ Ps => ∃ (v : Addr) (l : List Stm) (Gj : Hp), m = l.length ∧ σ = [some (.ref b), some (.int many), some (.int most), some (.int long), some (.ref d), some (.ref fd), some (.str hh.fn), some (.ref v)] ∧ Le Gi Gj ∧ wfSs hh.names (CallC hs hh) false l ∧ depSs l ≤ 2 ∧ l.length ≤ 20 ∧ Dp K Gj (.ref v) (.list (l.map Stm.enc)) ∧ Ps = hp Gj :: pt fd (.dK fkvs) :: pt d (.frz od (.dK kvs)) :: bag b :: R) l.length S ?_ ?_
    · obtain ⟨va, _, rfl, _, _⟩ := dp_lstInv hdv
      exact ⟨va, l, G2, rfl, rfl, le2, hw, hde, by omega, hdv, rfl⟩
    clear S hdv hde hll hw le2 l v
    rintro m σ Ps H ⟨v, l, Gj, rfl, rfl, le2, hw, hde, hll, hdv, rfl⟩ S
    walk_at "go"
    refine ⟨v, l, hh.names, _, false, Gj, _, rfl, hw, hde, by omega, hdv, S, fun H S => ?_⟩
    walk_at "go"
    refine q_ite (fun c => ?_) (fun c => ?_)
    · refine wh_go ?_
      walk_at "go"
      obtain ⟨v', xs, e, hs', hda⟩ := dp_lstInv hdv
      cases e
      refine r_ksl S (hp_sqL S hs') fun p H S => ?_
      rw [cut_init] at S
      have hda2 : DpAll K Gj xs.dropLast (l.dropLast.map Stm.enc) := by
        have := dpall_take (l.length - 1) hda
        rw [← List.map_take] at this
        rw [List.dropLast_eq_take (l := xs), List.dropLast_eq_take (l := l), dpall_len hda, List.length_map]
        exact this
      obtain ⟨G3, le3, hd3, S⟩ := hp_LD (K := K) S hda2
      walk_at "go"
      have l0 : l.length ≠ 0 := fun e => by
        have : l = [] := List.length_eq_zero_iff.mp e
        subst this
        rw [sizeSs] at c
        omega
      refine ⟨l.length - 1, by omega, _, ⟨p, l.dropLast, G3, by rw [List.length_dropLast], rfl, le2.tr le3, wfSs_iff.mpr fun s m => wfSs_iff.mp hw s (dropLast_sub m), depSs_le.mpr fun s m => depSs_le.mp hde s (dropLast_sub m), by rw [List.length_dropLast]; omega, hd3.dp, rfl⟩, S⟩
    · obtain ⟨ha, ni, pi, hv, hG, hN, hP⟩ := hds_get (hat.le (le.tr le2)) hok.nd hm
      walk_at "go"
      refine r_dgetV (.inr ⟨_, S.tl.tl.hd_at⟩) hv ?_
      walk_at "go"
      refine r_dgetV (.inl (hp_le S _ _ hG)) v_pars ?_
      walk_at "go"
      refine r_dgetV (.inr ⟨_, S.tl.tl.hd_at⟩) hv ?_
      walk_at "go"
      refine r_dgetV (.inl (hp_le S _ _ hG)) v_res ?_
      walk_at "go"
      obtain ⟨G3, le3, hd3, S⟩ := hp_tup (K := K) S (ds := [.list (hh.pars.map PyData.str), .list (l.map Stm.enc), .str hh.res]) (.cons hP.dp (.cons hdv (.cons (.str _) .nil)))
      have S : Sep (pt fd (.dK fkvs) :: hp G3 :: pt d (.frz od (.dK kvs)) :: bag b :: R) H := S.s4 (A := pt fd (.dK fkvs)) (B := hp G3) (C := pt d (.frz od (.dK kvs))) (D := bag b) (by walk_at "sel")
      refine r_dputN S (fun m => ?_) (by omega) fun H S => ?_
      · rw [hfa.keys] at m
        obtain ⟨f, mf, e⟩ := List.mem_map.mp m
        have e : f.h.fn = hh.fn := Sum.inr.inj e
        have m2 : hh.fn ∈ (hs.take i).map Hd.fn := by
          rw [← hfn, ← e]
          exact List.mem_map_of_mem (f := fun f : Fn => f.h.fn) mf
        rw [List.map_take] at m2
        obtain ⟨jj, hjj, e2⟩ := List.mem_take_iff_getElem.mp m2
        have hjl := hjj
        rw [List.length_map] at hjl
        have e3 : (hs.map Hd.fn)[i]'(by rw [List.length_map]; omega) = hh.fn := by
          rw [List.getElem_map]
          congr 1
          exact (List.getElem?_eq_some_iff.mp hhi).2
        have := (List.getElem_inj (h₀ := by rw [List.length_map]; omega) (h₁ := by rw [List.length_map]; omega) hok.nd (i := jj) (j := i)).mp (e2.trans e3.symm)
        omega
      · walk_at "go"
        refine ⟨_, ⟨_, fs ++ [⟨hh, l⟩], G3, _, _, rfl, (le.tr le2).tr le3, ?_, ?_, ?_, rfl⟩, S.s4 (A := pt fd (.dK (fkvs ++ [(kS hh.fn, .ref p)]))) (B := pt d (.frz od (.dK kvs))) (C := hp G3) (D := bag b) (by walk_at "sel")⟩
        · exact Paired.snoc (hfa.le (le2.tr le3)) ⟨rfl, hd3⟩
        · rw [List.map_append, hfn, List.take_add_one, hhi, List.map_append]
          rfl
        · intro f mf
          rcases List.mem_append.mp mf with mf | mf
          · exact hfo f mf
          · rw [List.mem_singleton] at mf
            subst mf
            refine ⟨fun s ms => ?_, show sizeSs l ≤ 12 by omega⟩
            have hws := wfSs_iff.mp hw s ms
            refine ⟨⟨_, _, _, hws⟩, wf_ok (fun x m => hho.nm x m) (fun fr f n h => ?_) s _ hws, depSs_le.mp hde s ms, wf_names (fun fr f n h => ?_) s _ hws⟩
            · obtain ⟨j, c, hj, _, rfl, _⟩ := h
              exact (hok.each c (List.mem_of_getElem? hj)).2
            · obtain ⟨j, c, hj, _, _, rfl, _⟩ := h
              exact (hok.each c (List.mem_of_getElem? hj)).1.pl
  · rintro σ Ps H ⟨fkvs, fs, Gi, u6, u7, rfl, le, hfa, hfn, hfo, rfl⟩ S
    rw [hkl, List.take_length] at hfn
    have hfl : fs.length = hs.length := by
      have := congrArg List.length hfn
      rw [List.length_map, List.length_map] at this
      exact this
    have hfkl : fkvs.length = fs.length := Paired.length hfa
    refine ⟨S.tl.hd_at, ?_⟩
    have S : Sep (pt d (.dK kvs) :: pt fd (.dK fkvs) :: hp Gi :: bag b :: R) (upd H d (.dK kvs)) := S.swap.hd_set (.dK kvs)
    have S := S.tl
    walk_at "go"
    refine ⟨fd, fkvs, hs.map Hd.fn, rfl, .inl S.hd_at, ?_, by rw [List.length_map]; have := hok.ln; omega, fun ys sp perm _ np => ?_⟩
    · have e : fkvs.map (·.1) = fkvs.map Prod.fst := rfl
      rw [e, hfa.keys, ← hfn, List.map_map]
      rfl
    have S := S.new (.lst (ys.map V.str)) np
    walk_at "go"
    have hnd : (fkvs.map Prod.fst).Nodup := by
      rw [hfa.keys]
      have e : (fs.map fun f => kS f.h.fn) = (fs.map fun f => f.h.fn).map kS := by rw [List.map_map]; rfl
      rw [e, hfn]
      exact List.pairwise_map.mpr (hok.nd.imp fun h e => h (Sum.inr.inj e))
    have hyl : ys.length ≤ 9 := by rw [perm.length_eq, List.length_map]; exact hok.ln
    refine r_lc_list (xs := ys.map V.str) (fun i acc Ps => ∃ (ps : List Addr) (kv2 : List (Key × V)) (fs2 : List Fn) (Gj : Hp), acc = ps.map V.ref ∧ ps.length = i ∧ Le Gi Gj ∧ Paired (fun p kv => Gj p = some (.tup [kV kv.1, kv.2])) ps kv2 ∧ FnsAt K Gj kv2 fs2 ∧ fs2.map (fun f => f.h.fn) = ys.take i ∧ (∀ f ∈ fs2, f ∈ fs) ∧ Ps = pt sp (.lst (ys.map V.str)) :: pt fd (.dK fkvs) :: hp Gj :: bag b :: R) S ⟨[], [], [], Gi, rfl, rfl, Le.rfl, .nil, .nil, by rw [List.take_zero]; rfl, nofun, rfl⟩ (fun D i acc Ps H hi ⟨_, _, _, _, _, _, _, _, _, _, _, e⟩ S => by subst e; walk_at "sq") (by walk_at "sq") ?_ ?_
    · rintro D i x acc Ps H hi ⟨ps, kv2, fs2, Gj, rfl, hpl, le2, hpp, hf2, hfy, hfs2, rfl⟩ S
      obtain ⟨y, hy, rfl⟩ := str_at hi
      have hil := (List.getElem?_eq_some_iff.mp hy).1
      have hym : y ∈ fs.map fun f => f.h.fn := by
        rw [hfn]
        exact perm.mem_iff.mp (List.mem_of_getElem? hy)
      obtain ⟨fy, mfy, rfl⟩ := List.mem_map.mp hym
      obtain ⟨iy, hiy⟩ := List.getElem?_of_mem mfy
      obtain ⟨v, hv, hvd⟩ : ∃ v, (kS fy.h.fn, v) ∈ fkvs ∧ Dp K Gi v fy.enc := by
        have hlt : iy < fkvs.length := by rw [hfkl]; exact (List.getElem?_eq_some_iff.mp hiy).1
        obtain ⟨f2, hf2', hk2, hd2⟩ := paired_get hfa (List.getElem?_eq_getElem hlt)
        rw [hiy] at hf2'
        cases hf2'
        refine ⟨fkvs[iy].2, ?_, hd2⟩
        rw [← hk2]
        exact List.getElem_mem hlt
      walk_at "go"
      refine ⟨rfl, ?_⟩
      walk_at "go"
      refine r_dgetV (.inl (S.at_ (by walk_at "mem"))) (valV_at hnd hv) ?_
      walk_at "go"
      have S : Sep (pt p (.tup [.str fy.h.fn, v]) :: hp Gj :: pt D (.lst (ps.map V.ref)) :: pt sp (.lst (ys.map V.str)) :: pt fd (.dK fkvs) :: bag b :: R) H := S.s5 (A := pt p (.tup [.str fy.h.fn, v])) (B := hp Gj) (C := pt D (.lst (ps.map V.ref))) (D := pt sp (.lst (ys.map V.str))) (E := pt fd (.dK fkvs)) (by walk_at "sel")
      obtain ⟨Gk, le3, e3, S⟩ := hp_add S
      have S : Sep (pt D (.lst (ps.map V.ref)) :: pt sp (.lst (ys.map V.str)) :: pt fd (.dK fkvs) :: hp Gk :: bag b :: R) H := S.s5 (A := pt D (.lst (ps.map V.ref))) (B := pt sp (.lst (ys.map V.str))) (C := pt fd (.dK fkvs)) (D := hp Gk) (E := bag b) (by walk_at "sel")
      refine cn_in S (by rw [List.length_map]; omega) ⟨ps ++ [p], kv2 ++ [(kS fy.h.fn, v)], fs2 ++ [fy], Gk, by rw [List.map_append]; rfl, by rw [List.length_append, hpl]; rfl, le2.tr le3, Paired.snoc (paired_imp (fun a b z => le3 _ _ z) hpp) e3, Paired.snoc (hf2.le le3) ⟨rfl, Dp.le (le2.tr le3) _ _ hvd⟩, by rw [List.map_append, hfy, List.take_add_one, hy]; rfl, fun f mf => ?_, rfl⟩
      rcases List.mem_append.mp mf with mf | mf
      · exact hfs2 f mf
      · rw [List.mem_singleton] at mf
        rw [mf]
        exact mfy
    · rintro D acc Ps H ⟨ps, kv2, fs2, Gj, rfl, hpl, le2, hpp, hf2, hfy, hfs2, rfl⟩ S
      rw [List.length_map, List.take_length] at hfy
      have hl2 : fs2.length ≤ many + 1 := by
        have := congrArg List.length hfy
        rw [List.length_map] at this
        rw [this, perm.length_eq, List.length_map]
        exact hhl
      have hnd2 : (kv2.map Prod.fst).Nodup := by
        rw [hf2.keys]
        have e : (fs2.map fun f => kS f.h.fn) = (fs2.map fun f => f.h.fn).map kS := by rw [List.map_map]; rfl
        rw [e, hfy]
        exact List.pairwise_map.mpr ((perm.nodup_iff.mpr hok.nd).imp fun h e => h (Sum.inr.inj e))
      walk_at "go"
      refine ⟨D, ps, kv2, rfl, by walk_at "sq", paired_imp (fun a b z => .of (hp_le (S.s1 (A := hp Gj) (by walk_at "sel")) _ _ z)) hpp, fun p np => ?_⟩
      have mg : mergeK [] kv2 = kv2 := mergeK_nd (l := []) hnd2
      rw [mg]
      have S := S.new (.dK kv2) np
      exact q p kv2 fs2 Gj _ ((le1.tr le).tr le2) hl2 (fun f mf => hfo f (hfs2 f mf)) hf2 (S.s3 (A := pt p (.dK kv2)) (B := hp Gj) (C := bag b) (by walk_at "sel"))
end
end Pf

set_option Elab.async false
set_option linter.all false
set_option maxRecDepth 100000
set_option maxHeartbeats 8000000
namespace Pf
open PySem L2 Kt
set_option hygiene false
local macro_rules | `(tactic| walk_at "mem") => `(tactic| (with_reducible (repeat (first | exact Pick.hd | apply Pick.tl)); done))
local macro_rules | `(tactic| walk_at "rep") => `(tactic| (with_reducible (repeat (first | exact Repl.hd | apply Repl.tl)); done))
local macro_rules | `(tactic| walk_at "sel") => `(tactic| ((repeat (with_reducible apply Sel.cons; (focus walk_at "mem"))); (with_reducible apply Sel.nil); (with_reducible (repeat (first | exact Dr.all | apply Dr.skip)); done)))
local macro_rules | `(tactic| walk_at "at") => `(tactic| (refine' Sep.at_ (by assumption) ?kkpk; (case kkpk => walk_at "mem")))
local macro_rules | `(tactic| walk_at "sq") => `(tactic| first | assumption | (refine' Sep.sq (by assumption) ?kkpk; (case kkpk => walk_at "mem")))
local macro_rules | `(tactic| walk_at "st") => `(tactic| first | assumption | (refine' Sep.st (by assumption) ?kkpk; (case kkpk => walk_at "mem")))
local macro_rules | `(tactic| walk_at "lk") => `(tactic| (repeat (first | (with_reducible exact lk_eq) | exact rfl | refine (lk_ne (by decide +kernel)).trans ?_)))
local macro_rules | `(tactic| walk_at "pf") => `(tactic| (repeat (first | (with_reducible exact pf_nil) | (with_reducible exact pf_eq) | (apply pf_ne; (focus decide +kernel)))))
local macro_rules | `(tactic| walk_at "ty") => `(tactic| first | exact ty_int | (refine' ty_lst ?kkh; (case kkh => walk_at "at")))
local macro_rules | `(tactic| walk_at "k1") => `(tactic| with_reducible first
  | refine q_seq ?_ | refine q_set ?_ | refine q_asg ?_ | refine q_ret ?_ | refine q_drop ?_ | refine q_next ?_ | refine q_c ?_ | refine q_op ?_ | refine q_un ?_ | refine q_nil ?_ | refine q_cons ?_ | refine q_cb ?_
  | refine q_call ?_ | refine q_ifs ?_ | refine q_if ?_ | refine q_test ?_ | refine q_tb ?_ | refine q_bl ?_ | refine q_notT ?_ | refine q_andT ?_ | refine q_orT ?_ | refine q_andV ?_ | refine q_orV ?_ | refine q_notV ?_
  | refine q_addA ?_ | refine q_subI ?_ | refine q_ltI ?_ | refine q_leI ?_ | refine q_gtI ?_ | refine q_geI ?_ | refine q_eqI ?_ | refine q_neI ?_ | refine q_abs ?_ | refine q_int ?_ | refine q_intB ?_ | refine q_max ?_ | refine q_min ?_
  | refine q_ipAdd ?_ | refine q_ipSub ?_ | refine q_gsub ?_ | refine q_augs ?_ | refine q_lst ?_ | refine q_tup ?_ | refine q_blI ?_ | refine iteT ?_ | refine iteF ?_ | refine iteNT ?_ | refine iteNF ?_
  | refine r_prop ?_ | refine r_fld ?_ | refine r_sfld ?_ | refine r_meth ?_ | refine r_make ?_ | refine r_sl ?_ | refine r_nopart ?_ | refine r_part ?_ | refine r_parti ?_ | refine r_gsl ?_ | refine r_bm ?_ | refine r_bm0 ?_ | refine r_for ?_ | refine r_ilist ?_ | refine r_irng ?_
  | refine r_gname ?_ | refine r_gcons ?_ | refine r_gnil ?_ | refine r_par ?_ | refine r_parA ?_ | refine r_chain ?_ | refine r_isN ?_ | refine r_tlc ?_ | refine r_yes ?_ | refine r_makek ?_ | refine r_neg ?_)
local macro_rules | `(tactic| walk_at "k2") => `(tactic| first
  | ((with_reducible refine' q_var ?kke ?_); (case kke => rfl))
  | ((with_reducible refine' q_aug ?kke ?_); (case kke => rfl))
  | ((with_reducible refine' q_ixL ?kks ?kke ?_); (case kks => walk_at "sq"); (case kke => first | rfl | assumption))
  | ((with_reducible refine' q_ixT ?kks ?kke ?_); (case kks => walk_at "st"); (case kke => first | rfl | assumption))
  | ((with_reducible refine' q_ixLL ?kks ?kke ?_); (case kks => walk_at "sq"); (case kke => first | rfl | assumption))
  | ((with_reducible refine' q_lenL ?kks ?_); (case kks => walk_at "sq"))
  | ((with_reducible refine' q_mulI ?kkc ?_); (case kkc => first | exact .inl (by omega) | exact .inr (by omega)))
  | ((with_reducible refine' q_modI ?kkc ?_); (case kkc => omega))
  | ((with_reducible refine' q_divI ?kkc ?_); (case kkc => exact ⟨by omega, by omega⟩))
  | ((with_reducible refine' q_powI ?kkc ?_); (case kkc => exact ⟨by decide, by decide, by decide⟩))
  | ((with_reducible refine' r_kfld ?kkS ?kkp ?kkc ?kkn ?kkl ?_); (case kkS => assumption); (case kkp => walk_at "mem"); (case kkc => walk_at "cls"); (case kkn => walk_at "na"); (case kkl => walk_at "lk"))
  | ((with_reducible refine' r_kprop ?kkS ?kkp ?_); (case kkS => assumption); (case kkp => walk_at "mem"))
  | ((with_reducible refine' r_kmeth ?kkS ?kkp ?kkl ?_); (case kkS => assumption); (case kkp => walk_at "mem"); (case kkl => walk_at "lk"))
  | ((with_reducible refine' r_calll ?kks ?_); (case kks => rfl))
  | ((with_reducible refine' r_tyl ?kks ?_); (case kks => walk_at "sq"))
  | ((with_reducible refine' r_isi (k := true) ?kkt ?kke ?_); (case kkt => walk_at "ty"); (case kke => decide +kernel))
  | ((with_reducible refine' r_isi (k := false) ?kkt ?kke ?_); (case kkt => walk_at "ty"); (case kke => decide +kernel)))
local macro_rules | `(tactic| walk_at "k3") => `(tactic| first
  | ((with_reducible refine' q_setS ?kkS ?kkr ?kke ?_); (case kkS => assumption); (case kkr => walk_at "rep"); (case kke => rfl); intro H S)
  | ((with_reducible refine' r_kset ?kkS ?kkr ?kkc ?kkn ?kkl ?kke ?_); (case kkS => assumption); (case kkr => walk_at "rep"); (case kkc => walk_at "cls"); (case kkn => walk_at "na"); (case kkl => first | exact Nat.le_of_ble_eq_true rfl | assumption | omega | (simp; done) | (simp; omega)); (case kke => walk_at "pf"); intro H S)
  | ((with_reducible refine' q_new ?kkS ?kkl ?_); (case kkS => assumption); (case kkl => first | exact Nat.le_of_ble_eq_true rfl | assumption | omega | (simp; done) | (simp; omega)); intro p H S)
  | ((with_reducible refine' q_newT ?kkS ?kkl ?_); (case kkS => assumption); (case kkl => first | exact Nat.le_of_ble_eq_true rfl | assumption | omega | (simp; done) | (simp; omega)); intro p H S)
  | ((with_reducible refine' r_knew ?kkS ?_); (case kkS => assumption); intro x dx H S)
  | ((with_reducible refine' r_knewk ?kkS ?kkl1 ?kkl2 ?_); (case kkS => assumption); (case kkl1 => rfl); (case kkl2 => rfl); intro x dx H S)
  | ((with_reducible refine' r_ksl ?kkS ?kks ?_); (case kkS => assumption); (case kks => walk_at "sq"); intro p H S)
  | ((with_reducible refine' r_list ?kkS ?kks ?_); (case kkS => assumption); (case kks => walk_at "sq"); intro p H S)
  | ((with_reducible refine' r_cat ?kkS ?kks1 ?kks2 ?kkz ?_); (case kkS => assumption); (case kks1 => walk_at "at"); (case kks2 => walk_at "at"); (case kkz => first | omega | (simp; omega)); intro p H S)
  | ((with_reducible refine' r_append ?kkS ?kkr ?kkz ?_); (case kkS => assumption); (case kkr => walk_at "rep"); (case kkz => first | omega | (simp; omega)); intro H S)
  | ((with_reducible refine' r_reverse ?kkS ?kkr ?_); (case kkS => assumption); (case kkr => walk_at "rep"); intro H S)
  | ((with_reducible refine' r_clear ?kkS ?kkr ?_); (case kkS => assumption); (case kkr => walk_at "rep"); intro H S))
local macro_rules | `(tactic| walk_at "gn") => `(tactic| repeat (first | walk_at "k1" | walk_at "k2"))
local macro_rules | `(tactic| walk_at "go") => `(tactic| repeat (first | walk_at "k1" | walk_at "k2" | walk_at "k3"))

local macro_rules | `(tactic| walk_at "sq") => `(tactic| first | assumption | (refine' Sep.sq ?kkS ?kkpk; (case kkS => assumption); (case kkpk => walk_at "mem")) | (refine' hp_sqL ?kkS ?kkx; (case kkS => assumption); (case kkx => assumption)) | (refine' hp_sqL (Sep.tl ?kkS) ?kkx; (case kkS => assumption); (case kkx => assumption)) | (refine' hp_sqL (Sep.tl (Sep.tl ?kkS)) ?kkx; (case kkS => assumption); (case kkx => assumption)))
local macro_rules | `(tactic| walk_at "st") => `(tactic| first | assumption | (refine' Sep.st ?kkS ?kkpk; (case kkS => assumption); (case kkpk => walk_at "mem")) | (refine' hp_sqT ?kkS ?kkx; (case kkS => assumption); (case kkx => assumption)) | (refine' hp_sqT (Sep.tl ?kkS) ?kkx; (case kkS => assumption); (case kkx => assumption)) | (refine' hp_sqT (Sep.tl (Sep.tl ?kkS)) ?kkx; (case kkS => assumption); (case kkx => assumption)))
local macro_rules | `(tactic| walk_at "k1") => `(tactic| with_reducible first | refine r_ienumT ?_ | refine r_tru ?_ | refine r_itup ?_ | refine r_star ?_ | refine r_par3 ?_ | refine r_parA3 ?_ | refine r_dget ?_ | refine r_din ?_ | refine r_dnotin ?_ | refine r_dput ?_)

local macro_rules | `(tactic| walk_at "k1") => `(tactic| with_reducible first | refine r_kget ?_ | refine r_orT ?_ | refine r_slA ?_ | refine r_m1 ?_ | refine r_isS ?_)

/-! ### statements alike but for their containers -/
theorem depSs_app : ∀ a b : List Stm, depSs (a ++ b) = max (depSs a) (depSs b)
  | [], b => by rw [depSs, List.nil_append]; omega
  | s :: a, b => by rw [List.cons_append, depSs, depSs, depSs_app a b]; omega
theorem namesSs_app : ∀ a b : List Stm, namesSs (a ++ b) = namesSs a ++ namesSs b
  | [], b => by rw [namesSs, List.nil_append, List.nil_append]
  | s :: a, b => by rw [List.cons_append, namesSs, namesSs, namesSs_app a b, List.append_assoc]
theorem sizeBs_app : ∀ a b : List Bdy, sizeBs (a ++ b) = sizeBs a + sizeBs b
  | [], b => by rw [sizeBs, List.nil_append]; omega
  | s :: a, b => by rw [List.cons_append, sizeBs, sizeBs, sizeBs_app a b]; omega
theorem depBs_app : ∀ a b : List Bdy, depBs (a ++ b) = max (depBs a) (depBs b)
  | [], b => by rw [depBs, List.nil_append]; omega
  | s :: a, b => by rw [List.cons_append, depBs, depBs, depBs_app a b]; omega
theorem namesBs_app : ∀ a b : List Bdy, namesBs (a ++ b) = namesBs a ++ namesBs b
  | [], b => by rw [namesBs, List.nil_append, List.nil_append]
  | s :: a, b => by rw [List.cons_append, namesBs, namesBs, namesBs_app a b, List.append_assoc]
structure Like (s s' : Stm) : Prop where
  size : s'.size = s.size
  dep : s'.dep = s.dep
  names : s'.names = s.names
  ok : ∀ p, s.Ok p → s'.Ok p
structure LikeL (l l' : List Stm) : Prop where
  len : l'.length = l.length
  size : sizeSs l' = sizeSs l
  dep : depSs l' = depSs l
  names : namesSs l' = namesSs l
  ok : ∀ p, okSs p l → okSs p l'
structure LikeBs (l l' : List Bdy) : Prop where
  len : l'.length = l.length
  size : sizeBs l' = sizeBs l
  dep : depBs l' = depBs l
  names : namesBs l' = namesBs l
  ok : ∀ p, okBs p l → okBs p l'
theorem Like.rfl {s : Stm} : Like s s := ⟨by rfl, by rfl, by rfl, fun _ h => h⟩
theorem LikeL.nil : LikeL [] [] := ⟨rfl, rfl, rfl, rfl, fun _ h => h⟩
theorem LikeBs.nil : LikeBs [] [] := ⟨rfl, rfl, rfl, rfl, fun _ h => h⟩
theorem LikeL.snoc {l l' : List Stm} {s s' : Stm} (h : LikeL l l') (h2 : Like s s') : LikeL (l ++ [s]) (l' ++ [s']) :=
  ⟨by rw [List.length_append, List.length_append, h.len]; rfl, by simp only [sizeSs_app, sizeSs, h.size, h2.size], by simp only [depSs_app, depSs, h.dep, h2.dep], by simp only [namesSs_app, namesSs, h.names, h2.names],
    fun p k => okSs_iff.mpr fun x m => by
      have k := okSs_iff.mp k
      rcases List.mem_append.mp m with m | m
      · exact okSs_iff.mp (h.ok p (okSs_iff.mpr fun y my => k y (List.mem_append_left _ my))) x m
      · rw [List.mem_singleton] at m
        rw [m]
        exact h2.ok p (k s (List.mem_append_right _ (List.mem_singleton.mpr _root_.rfl)))⟩
theorem LikeBs.snoc {l l' : List Bdy} {t t' : Bool} {b b' : List Stm} (h : LikeBs l l') (h2 : LikeL b b') : LikeBs (l ++ [.mk t b]) (l' ++ [.mk t' b']) :=
  ⟨by rw [List.length_append, List.length_append, h.len]; rfl, by simp only [sizeBs_app, sizeBs, Bdy.size, h.size, h2.size], by simp only [depBs_app, depBs, Bdy.dep, h.dep, h2.dep], by simp only [namesBs_app, namesBs, Bdy.names, h.names, h2.names],
    fun p k => okBs_iff.mpr fun x m => by
      have k := okBs_iff.mp k
      rcases List.mem_append.mp m with m | m
      · exact okBs_iff.mp (h.ok p (okBs_iff.mpr fun y my => k y (List.mem_append_left _ my))) x m
      · rw [List.mem_singleton] at m
        rw [m, Bdy.Ok]
        have := k (.mk t b) (List.mem_append_right _ (List.mem_singleton.mpr _root_.rfl))
        rw [Bdy.Ok] at this
        exact h2.ok p this⟩
theorem Like.loop {t t' : Bool} {b b' : List Stm} (h : LikeL b b') : Like (.loop (.mk t b)) (.loop (.mk t' b')) :=
  ⟨by rw [Stm.size, Stm.size, Bdy.size, Bdy.size, h.size], by rw [Stm.dep, Stm.dep, Bdy.dep, Bdy.dep, h.dep], by rw [Stm.names, Stm.names, Bdy.names, Bdy.names, h.names], fun p k => by
    rw [Stm.Ok, Bdy.Ok] at k ⊢
    exact h.ok p k⟩
theorem Like.either {t t' : Bool} {b b' : List Bdy} (h : LikeBs b b') : Like (.either t b) (.either t' b') :=
  ⟨by rw [Stm.size, Stm.size, h.size], by rw [Stm.dep, Stm.dep, h.dep], by rw [Stm.names, Stm.names, h.names], fun p k => by
    rw [Stm.Ok] at k ⊢
    exact ⟨by rw [h.len]; exact k.1, h.ok p k.2⟩⟩
theorem Like.call {v f : Str} {t t' : Bool} {as : List Str} : Like (.call v f t as) (.call v f t' as) :=
  ⟨by rw [Stm.size, Stm.size], by rw [Stm.dep, Stm.dep], by rw [Stm.names, Stm.names], fun p k => by
    rw [Stm.Ok] at k ⊢
    exact k⟩
section
variable {K : PySem.W.Frag} {G H : Hp} {Q : VK} {p D T : Addr} {acc : List V} {ds : List PyData} {R : List SP} {v : Int}
/-- the list, or its tuple -/
theorem r_pick2 (S : Sep (pt p (.lst [.ref D, .ref T]) :: pt T (.tup acc) :: pt D (.lst acc) :: hp G :: R) H) (h : DpAll K G acc ds) (v0 : 0 ≤ v) (v1 : v < (2 : Int)) (q : ∀ x t G', Le G G' → Dp K G' x (sqD t ds) → Sep (hp G' :: R) H → Q x H) : rIx K (.ref p) (.int v) H Q := by
  rcases (show v = 0 ∨ v = 1 by omega) with rfl | rfl
  · refine q_ixL (by walk_at "sq") (atI_nat (j := 0) rfl) ?_
    obtain ⟨G', le, hd, S⟩ := hp_lst (K := K) S.tl.tl h
    exact q _ false G' le hd S
  · refine q_ixL (by walk_at "sq") (atI_nat (j := 1) rfl) ?_
    obtain ⟨G', le, hd, S⟩ := hp_tup (K := K) (S.tl.cons_mono fun _ => Sep.tl) h
    exact q _ true G' le hd S
end
section
variable {P : Program} {w : World} {K : PySem.W.Frag} {mg : Str → Option Value} {base : Heap} {f_NAMES_IN f_MAKING f_COPYING f_SHARING : Addr}
theorem sc_l_handed_body : FnScope N_l_handed_body ["_law_bag_here", "_law_body"] (defScope s_l_handed_body) := ⟨rfl, rfl, rfl, by decide +kernel, rfl, by decide +kernel, by decide +kernel⟩
def spHand (K : PySem.W.Frag) (n : Nat) : Sp := fun vs H Q _ => ∃ (b a : Addr) (l : List Stm) (G : Hp) (R : List SP), vs = [.ref b, .ref a] ∧ (∀ s ∈ l, Dr s) ∧ depSs l ≤ n ∧ l.length ≤ 100 ∧ Dp K G (.ref a) (.list (l.map Stm.enc)) ∧ Sep (hp G :: bag b :: R) H ∧
  ∀ v t l' G' H', LikeL l l' → Le G G' → Dp K G' v (Bdy.mk t l').enc → Sep (hp G' :: bag b :: R) H' → Q v H'
def spHandN (K : PySem.W.Frag) : Nat → Sp
  | 0 => spNever
  | n + 1 => spHand K n
theorem ok_hand0 {f : Addr} {k : Nat} (F : Dt K mg "_law_handed_body" s_l_handed_body ["_law_bag_here", "_law_body"] f) : Df P w K mg base (k + 1) "_law_handed_body" f ["_law_bag_here", "_law_body"] spNever :=
  F.ok sc_l_handed_body (fun vs H Q E h => h.elim) (fun cdv A outer s H vs Q E hr h => h.elim)
theorem ok_hand1 {n : Nat} {f f1 : Addr} (F : Dt K mg "_law_handed_body" s_l_handed_body ["_law_bag_here", "_law_body"] f) (T : Tx K mg f_NAMES_IN f_MAKING f_COPYING f_SHARING) (D_l_take : Df P w K mg base 1 "_law_take" f1 ["_law_bag_here", "_law_many"] spTake)
    (D_l_handed_body : Df P w K mg base (n + 2) "_law_handed_body" f ["_law_bag_here", "_law_body"] (spHandN K n)) : Df P w K mg base (n + 3) "_law_handed_body" f ["_law_bag_here", "_law_body"] (spHand K n) := by
  refine F.ok sc_l_handed_body (fun vs H Q E h => ?_) (fun cdv A outer s H vs Q E hr h => ?_)
  · obtain ⟨b, a, l, G, R, rfl, _⟩ := h
    rfl
  obtain ⟨b, a, l, G, R, rfl, hw, hde, hln, hx, S, q⟩ := h
  refine ⟨_, (pss_cons (ps_set (i := 2) sc_l_handed_body.nd rfl (by first | exact Or.inl rfl | exact Or.inr rfl) (pe_lst pa_nil))
      (pss_cons (ps_for PassesOwn.never rfl (pi_listK K (pv 1)) (pg_name (i := 3) sc_l_handed_body.nd rfl (by first | exact Or.inl rfl | exact Or.inr rfl)) (C8.pss_cut (ps_if (pt_cmpR (r := rEqA K) (op_eqA hr.units) (pe_ix (r := rIx K) ix_seq (pv 3) pe_int (fun _ _ => rfl)) pe_str (nomark _)) (pss_cons (ps_setLc (i := 4) (own := [("_law_inner_here", 5)]) rfl sc_l_handed_body.nd rfl rfl (sw_true rfl rfl rfl (by decide +kernel)) (pi_listK K (pe_ix (r := rIx K) ix_seq (pv 3) pe_int (fun _ _ => rfl))) (blkOk_by (own := [("_law_inner_here", 5)]) (N := N_l_handed_body) (sc := defScope s_l_handed_body) (by decide +kernel)) (fun _ _ _ _ _ => (pg_name (i := 5) sc_l_handed_body.nd rfl (by first | exact Or.inl rfl | exact Or.inr rfl))) (fun _ _ _ _ _ => pts_nil) (fun _ _ _ _ _ => (pe_df D_l_handed_body (hr.mono (by first | decide | omega)) (pa_cons (pv 0) (pa_cons (pv 5) pa_nil)))))
      (pss_one (ps_set (i := 3) sc_l_handed_body.nd rfl (by first | exact Or.inl rfl | exact Or.inr rfl) (pe_tup (pa_cons pe_str (pa_cons (pe_ix (r := rIx K) ix_seq (pe_lst (pa_cons (pv 4) (pa_cons (pe_callTy (r := cTup K) call_tupA (by rfl) T.z_tuple (by decide +kernel) (pa_cons (pv 4) pa_nil)) pa_nil))) (pe_df D_l_take (hr.mono (by first | decide | omega)) (pa_cons (pv 0) (pa_cons pe_int pa_nil))) (fun _ _ => rfl)) pa_nil)))))) (pss_one (ps_if (pt_cmpR (r := rEqA K) (op_eqA hr.units) (pe_ix (r := rIx K) ix_seq (pv 3) pe_int (fun _ _ => rfl)) pe_str (nomark _)) (pss_one (ps_set (i := 3) sc_l_handed_body.nd rfl (by first | exact Or.inl rfl | exact Or.inr rfl) (pe_tup (pa_cons pe_str (pa_cons (pe_df D_l_handed_body (hr.mono (by first | decide | omega)) (pa_cons (pv 0) (pa_cons (pe_ix (r := rIx K) ix_seq (pv 3) pe_int (fun _ _ => rfl)) pa_nil))) pa_nil))))) (pss_one (ps_if (pt_cmpR (r := rEqA K) (op_eqA hr.units) (pe_ix (r := rIx K) ix_seq (pv 3) pe_int (fun _ _ => rfl)) pe_str (nomark _)) (pss_one (ps_set (i := 3) sc_l_handed_body.nd rfl (by first | exact Or.inl rfl | exact Or.inr rfl) (pe_op (r := rCatT K) op_catT (pe_slice (r := rSlA K) sl_tupA (pv 3) po_none (po_some pe_int)) (pe_tup (pa_cons (pe_ix (r := rIx K) ix_seq (pe_lst (pa_cons (pe_ix (r := rIx K) ix_seq (pv 3) pe_int (fun _ _ => rfl)) (pa_cons (pe_callTy (r := cList K) call_list_of (by rfl) T.z_list (by decide +kernel) (pa_cons (pe_ix (r := rIx K) ix_seq (pv 3) pe_int (fun _ _ => rfl)) pa_nil)) pa_nil))) (pe_df D_l_take (hr.mono (by first | decide | omega)) (pa_cons (pv 0) (pa_cons pe_int pa_nil))) (fun _ _ => rfl)) pa_nil))))) pss_nil)))))
      (pss_one (ps_expr (pe_bmK K PySem.F.plainAttrs_list PySem.F.slot_list_append PySem.F.type_list_append mt_append (pv 2) (pa_cons (pv 3) pa_nil))))))
      (pss_one (ps_ret (pe_ix (r := rIx K) ix_seq (pe_lst (pa_cons (pv 2) (pa_cons (pe_callTy (r := cTup K) call_tupA (by rfl) T.z_tuple (by decide +kernel) (pa_cons (pv 2) pa_nil)) pa_nil))) (pe_df D_l_take (hr.mono (by first | decide | omega)) (pa_cons (pv 0) (pa_cons pe_int pa_nil))) (fun _ _ => rfl)))))), ?_⟩
  obtain ⟨a', xs, e, hs, hda⟩ := dp_lstInv hx
  cases e
  have hxl : xs.length = l.length := by rw [dpall_len hda, List.length_map]
  walk_at "go"
  obtain ⟨F0, rfl⟩ : ∃ z, z = p := ⟨p, rfl⟩
  refine r_for_list (xs := xs) (fun i σ Ps => ∃ (acc : List V) (l' : List Stm) (Gi : Hp) (u3 u4 u5 : Option V), σ = [some (.ref b), some (.ref a), some (.ref F0), u3, u4, u5] ∧ acc.length = i ∧ LikeL (l.take i) l' ∧ Le G Gi ∧ DpAll K Gi acc (l'.map Stm.enc) ∧ Ps = pt F0 (.lst acc) :: hp Gi :: bag b :: R) S ⟨[], [], G, _, _, _, rfl, rfl, by rw [List.take_zero]; exact .nil, Le.rfl, .nil, rfl⟩ (fun i σ Ps H hi ⟨_, _, _, _, _, _, _, _, _, le, _, e⟩ S => by subst e; exact hp_sqL S.tl (SqL.le le hs)) ?_ ?_
  · rintro i x σ Ps H hi ⟨acc, l', Gi, u3, u4, u5, rfl, hal, hlk, le, hacc, rfl⟩ S
    obtain ⟨d, hd, hxd⟩ := dpall_at hda hi
    rw [List.getElem?_map] at hd
    cases es : l[i]? with
    | none => rw [es] at hd; cases hd
    | some s =>
    rw [es] at hd
    cases hd
    have hi2 := (List.getElem?_eq_some_iff.mp es).1
    have hws := hw s (List.mem_of_getElem? es)
    have hds := depSs_le.mp hde s (List.mem_of_getElem? es)
    have hxd := Dp.le le _ _ hxd
    obtain ⟨sa, sxs, rfl, hsq, hm⟩ := stm_sq hxd
    have hsqS := hp_sqT S.tl hsq
    walk_at "go"
    refine q_cut (Mid := fun σ H => ∃ (x3 : V) (s' : Stm) (Gj : Hp) (u4 u5 : Option V), σ = [some (.ref b), some (.ref a), some (.ref F0), some x3, u4, u5] ∧ Like s s' ∧ Le Gi Gj ∧ Dp K Gj x3 s'.enc ∧ Sep (pt F0 (.lst acc) :: hp Gj :: bag b :: R) H) ?_ ?_
    · walk_at "go"
      refine q_ixT hsqS (atI_nat (j := 0) rfl) ?_
      walk_at "go"
      refine r_eqS ?_
      walk_at "go"
      obtain ⟨nm, C, fr, hws⟩ := hws
      cases s with
      | either t bs =>
        refine iteT ?_
        obtain ⟨y, rfl, hy⟩ := hm
        rw [Stm.Wf] at hws
        rw [Stm.dep] at hds
        obtain ⟨rfl, hb1, hb3, hwb⟩ := hws
        obtain ⟨m, rfl⟩ : ∃ m, n = m + 1 := ⟨n - 1, by omega⟩
        obtain ⟨ya, ys, rfl, hys, hda2⟩ := dp_lstInv (show Dp K Gi y (.list (bs.map Bdy.enc)) from hy)
        have hyl : ys.length = bs.length := by rw [dpall_len hda2, List.length_map]
        walk_at "go"
        refine r_lc_list (xs := ys) (fun i acc2 Ps => ∃ (bs' : List Bdy) (Gj : Hp), acc2.length = i ∧ LikeBs (bs.take i) bs' ∧ Le Gi Gj ∧ DpAll K Gj acc2 (bs'.map Bdy.enc) ∧ Ps = pt F0 (.lst acc) :: hp Gj :: bag b :: R) S ⟨[], Gi, rfl, by rw [List.take_zero]; exact .nil, Le.rfl, .nil, rfl⟩ (fun D i acc2 Ps H hi ⟨_, _, _, _, le2, _, e⟩ S => by subst e; exact hp_sqL S.tl.tl (SqL.le le2 hys)) (hp_sqL S.tl hys) ?_ ?_
        · rintro D i x acc2 Ps H hi ⟨bs', Gj, ha2, hlb, le2, hd2, rfl⟩ S
          obtain ⟨d, hd, hxd⟩ := dpall_at hda2 hi
          rw [List.getElem?_map] at hd
          cases eb : bs[i]? with
          | none => rw [eb] at hd; cases hd
          | some bd =>
          rw [eb] at hd
          cases hd
          have hi2 := (List.getElem?_eq_some_iff.mp eb).1
          cases bd with
          | mk t bl =>
          have hwb2 := wfBs_iff.mp hwb _ (List.mem_of_getElem? eb)
          have hds2 := depBs_le.mp (show depBs bs ≤ m by omega) _ (List.mem_of_getElem? eb)
          rw [Bdy.Wf] at hwb2
          rw [Bdy.dep] at hds2
          obtain ⟨rfl, hb3', hwb2⟩ := hwb2
          rw [Bdy.enc, encSs_map] at hxd
          have hxd : Dp K Gj x (.list (bl.map Stm.enc)) := Dp.le le2 _ _ hxd
          obtain ⟨xa, _, rfl, _, _⟩ := dp_lstInv hxd
          walk_at "go"
          refine ⟨rfl, ?_⟩
          walk_at "go"
          refine ⟨b, xa, bl, Gj, pt D (.lst acc2) :: pt F0 (.lst acc) :: R, rfl, fun s ms => ⟨_, _, _, wfSs_iff.mp hwb2 s ms⟩, by omega, by omega, hxd, S.s4 (A := hp Gj) (B := bag b) (C := pt D (.lst acc2)) (D := pt F0 (.lst acc)) (by walk_at "sel"), fun v t l' G' H hl le3 hv S => ?_⟩
          refine cn_in (Ps := pt F0 (.lst acc) :: hp G' :: bag b :: R) (S.s4 (A := pt D (.lst acc2)) (B := pt F0 (.lst acc)) (C := hp G') (D := bag b) (by walk_at "sel")) (by omega) ⟨bs' ++ [.mk t l'], G', by rw [List.length_append, ha2]; rfl, ?_, le2.tr le3, ?_, rfl⟩
          · rw [List.take_add_one, eb]
            exact hlb.snoc hl
          · rw [List.map_append]
            exact dpall_snoc (DpAll.le le3 _ _ hd2) hv
        · rintro D acc2 Ps H ⟨bs', Gj, ha2, hlb, le2, hd2, rfl⟩ S
          rw [hyl, List.take_length] at hlb
          walk_at "go"
          refine ⟨D, acc2, rfl, .inl ⟨by walk_at "sq", fun l_1 np => ?_⟩⟩
          have S := S.new (.tup acc2) np
          walk_at "go"
          refine ⟨b, 2, _, rfl, by decide, by decide, S.s1 (A := bag b) (by walk_at "sel"), fun v H v0 v1 S => ?_⟩
          have S : Sep (pt p (.lst [.ref D, .ref l_1]) :: pt l_1 (.tup acc2) :: pt D (.lst acc2) :: hp Gj :: pt F0 (.lst acc) :: bag b :: R) H := S.s5 (A := pt p (.lst [.ref D, .ref l_1])) (B := pt l_1 (.tup acc2)) (C := pt D (.lst acc2)) (D := hp Gj) (E := pt F0 (.lst acc)) (by walk_at "sel")
          refine r_pick2 S hd2 v0 v1 fun x t G' le3 hx3 S => ?_
          walk_at "go"
          obtain ⟨G4, le4, hd4, S⟩ := hp_tup (K := K) (S.s4 (A := pt p (.tup [.str "either", x])) (B := hp G') (C := pt F0 (.lst acc)) (D := bag b) (by walk_at "sel")) (ds := [.str "either", sqD t (bs'.map Bdy.enc)]) (.cons (.str _) (.cons hx3 .nil))
          refine ⟨_, .either t bs', G4, _, _, rfl, .either hlb, (le2.tr le3).tr le4, ?_, S.swap⟩
          rw [Stm.enc, encBs_map]
          exact hd4
      | loop bd =>
        cases bd with
        | mk t bl =>
        refine iteF ?_
        walk_at "go"
        refine q_ixT hsqS (atI_nat (j := 0) rfl) ?_
        walk_at "go"
        refine r_eqS ?_
        walk_at "go"
        refine iteT ?_
        obtain ⟨y, rfl, hy⟩ := hm
        rw [Stm.Wf, Bdy.Wf] at hws
        rw [Stm.dep, Bdy.dep] at hds
        obtain ⟨rfl, hb3, hwb⟩ := hws
        obtain ⟨m, rfl⟩ : ∃ m, n = m + 1 := ⟨n - 1, by omega⟩
        rw [Bdy.enc, encSs_map] at hy
        have hy : Dp K Gi y (.list (bl.map Stm.enc)) := hy
        obtain ⟨ya, ys, rfl, _, _⟩ := dp_lstInv hy
        walk_at "go"
        refine ⟨b, ya, bl, Gi, pt F0 (.lst acc) :: R, rfl, fun s ms => ⟨_, _, _, wfSs_iff.mp hwb s ms⟩, by omega, by omega, hy, S.s3 (A := hp Gi) (B := bag b) (C := pt F0 (.lst acc)) (by walk_at "sel"), fun v t bl' G' H hl le3 hv S => ?_⟩
        walk_at "go"
        obtain ⟨G4, le4, hd4, S⟩ := hp_tup (K := K) (S.s4 (A := pt p (.tup [.str "loop", v])) (B := hp G') (C := pt F0 (.lst acc)) (D := bag b) (by walk_at "sel")) (ds := [.str "loop", (Bdy.mk t bl').enc]) (.cons (.str _) (.cons hv .nil))
        refine ⟨_, .loop (.mk t bl'), G4, _, _, rfl, .loop hl, le3.tr le4, ?_, S.swap⟩
        rw [Stm.enc]
        exact hd4
      | call v f t as =>
        refine iteF ?_
        walk_at "go"
        refine q_ixT hsqS (atI_nat (j := 0) rfl) ?_
        walk_at "go"
        refine r_eqS ?_
        walk_at "go"
        refine iteF ?_
        walk_at "go"
        refine q_ixT hsqS (atI_nat (j := 0) rfl) ?_
        walk_at "go"
        refine r_eqS ?_
        walk_at "go"
        refine iteT ?_
        obtain ⟨y, rfl, hy⟩ := hm
        obtain ⟨ya, ys, rfl, hys, hda2⟩ := dp_sqInv hy
        walk_at "go"
        refine r_preT (n := 3) S hsqS (show 3 < 4 by decide) fun p H S => ?_
        have S : Sep (pt p (.tup [.str "call", .str v, .str f]) :: pt F0 (.lst acc) :: hp Gi :: bag b :: R) H := S
        obtain ⟨Pr, rfl⟩ : ∃ z, z = p := ⟨p, rfl⟩
        walk_at "go"
        refine ⟨ya, ys, rfl, sq_le (hp_le (S.s1 (A := hp Gi) (by walk_at "sel"))) hys, fun Lp np => ?_⟩
        have S := S.new (.lst ys) np
        walk_at "go"
        obtain ⟨Pk, rfl⟩ : ∃ z, z = p := ⟨p, rfl⟩
        refine ⟨b, 2, _, rfl, by decide, by decide, S.s1 (A := bag b) (by walk_at "sel"), fun v2 H v0 v1 S => ?_⟩
        have S : Sep (pt Pk (.lst [.ref ya, .ref Lp]) :: pt Lp (.lst ys) :: hp Gi :: pt Pr (.tup [.str "call", .str v, .str f]) :: pt F0 (.lst acc) :: bag b :: R) H := S.s5 (A := pt Pk (.lst [.ref ya, .ref Lp])) (B := pt Lp (.lst ys)) (C := hp Gi) (D := pt Pr (.tup [.str "call", .str v, .str f])) (E := pt F0 (.lst acc)) (by walk_at "sel")
        have sqP : SqL K H Pk [.ref ya, .ref Lp] := by walk_at "sq"
        obtain ⟨x, t2, G', hix, le3, hx3, S⟩ : ∃ x t2 G', (∀ {Q : VK}, Q x H → rIx K (.ref Pk) (.int v2) H Q) ∧ Le Gi G' ∧ Dp K G' x (dStrs t2 as) ∧ Sep (hp G' :: pt Pr (.tup [.str "call", .str v, .str f]) :: pt F0 (.lst acc) :: bag b :: R) H := by
          rcases (show v2 = 0 ∨ v2 = 1 by omega) with rfl | rfl
          · exact ⟨_, t, Gi, fun {Q} q => q_ixL sqP (atI_nat (j := 0) rfl) q, Le.rfl, hy, S.tl.tl⟩
          · obtain ⟨G', le, hd, S2⟩ := hp_lst (K := K) S.tl hda2
            exact ⟨_, false, G', fun {Q} q => q_ixL sqP (atI_nat (j := 1) rfl) q, le, hd, S2⟩
        refine hix ?_
        walk_at "go"
        refine ⟨Pr, p, [.str "call", .str v, .str f], [x], rfl, rfl, by walk_at "st", by walk_at "st", nofun, show 4 ≤ sizeLine by decide, nofun, fun _ r nr => ?_⟩
        have S := S.new (.tup [.str "call", .str v, .str f, x]) nr
        have S : Sep (pt r (.tup [.str "call", .str v, .str f, x]) :: hp G' :: pt F0 (.lst acc) :: bag b :: R) _ := S.s4 (A := pt r (.tup [.str "call", .str v, .str f, x])) (B := hp G') (C := pt F0 (.lst acc)) (D := bag b) (by walk_at "sel")
        obtain ⟨G4, le4, hd4, S⟩ := hp_tup (K := K) S (ds := [.str "call", .str v, .str f, dStrs t2 as]) (.cons (.str _) (.cons (.str _) (.cons (.str _) (.cons hx3 .nil))))
        walk_at "go"
        refine ⟨_, .call v f t2 as, G4, _, _, rfl, .call, le3.tr le4, ?_, S.swap⟩
        rw [Stm.enc]
        exact hd4
      | two wd v u =>
        rw [Stm.Wf] at hws
        refine iteDN (w2_ne _ hws.1).1 ?_
        walk_at "go"
        refine q_ixT hsqS (atI_nat (j := 0) rfl) ?_
        walk_at "go"
        refine r_eqS ?_
        walk_at "go"
        refine iteDN (w2_ne _ hws.1).2.1 ?_
        walk_at "go"
        refine q_ixT hsqS (atI_nat (j := 0) rfl) ?_
        walk_at "go"
        refine r_eqS ?_
        walk_at "go"
        refine iteDN (w2_ne _ hws.1).2.2.1 ?_
        walk_at "go"
        exact ⟨_, _, Gi, _, _, rfl, .rfl, Le.rfl, hxd, S⟩
      | one wd v =>
        rw [Stm.Wf] at hws
        refine iteDN (w1_ne _ hws.1).1 ?_
        walk_at "go"
        refine q_ixT hsqS (atI_nat (j := 0) rfl) ?_
        walk_at "go"
        refine r_eqS ?_
        walk_at "go"
        refine iteDN (w1_ne _ hws.1).2.1 ?_
        walk_at "go"
        refine q_ixT hsqS (atI_nat (j := 0) rfl) ?_
        walk_at "go"
        refine r_eqS ?_
        walk_at "go"
        refine iteDN (w1_ne _ hws.1).2.2.1 ?_
        walk_at "go"
        exact ⟨_, _, Gi, _, _, rfl, .rfl, Le.rfl, hxd, S⟩
    rintro σ H ⟨x3, s', Gj, u4, u5, rfl, hlk2, le2, hx3, S⟩
    walk_at "go"
    refine ⟨_, ⟨acc ++ [x3], l' ++ [s'], Gj, _, _, _, rfl, by rw [List.length_append, hal]; rfl, ?_, le.tr le2, ?_, rfl⟩, S⟩
    · rw [List.take_add_one, es]
      exact hlk.snoc hlk2
    · rw [List.map_append]
      exact dpall_snoc (DpAll.le le2 _ _ hacc) hx3
  · rintro σ Ps H ⟨acc, l', Gi, u3, u4, u5, rfl, hal, hlk, le, hacc, rfl⟩ S
    rw [hxl, List.take_length] at hlk
    walk_at "go"
    refine ⟨F0, acc, rfl, .inl ⟨by walk_at "sq", fun l1 np => ?_⟩⟩
    have S := S.new (.tup acc) np
    walk_at "go"
    refine ⟨b, 2, _, rfl, by decide, by decide, S.s1 (A := bag b) (by walk_at "sel"), fun v H v0 v1 S => ?_⟩
    have S : Sep (pt p (.lst [.ref F0, .ref l1]) :: pt l1 (.tup acc) :: pt F0 (.lst acc) :: hp Gi :: bag b :: R) H := S.s5 (A := pt p (.lst [.ref F0, .ref l1])) (B := pt l1 (.tup acc)) (C := pt F0 (.lst acc)) (D := hp Gi) (E := bag b) (by walk_at "sel")
    refine r_pick2 S hacc v0 v1 fun x t G' le3 hx3 S => ?_
    walk_at "go"
    refine q x t l' G' H hlk (le.tr le3) ?_ S
    rw [Bdy.enc, encSs_map]
    exact hx3
end
end Pf

set_option Elab.async false
set_option linter.all false
set_option maxRecDepth 100000
set_option maxHeartbeats 8000000
namespace Pf
open PySem L2 Kt
set_option hygiene false
local macro_rules | `(tactic| walk_at "mem") => `(tactic| (with_reducible (repeat (first | exact Pick.hd | apply Pick.tl)); done))
local macro_rules | `(tactic| walk_at "rep") => `(tactic| (with_reducible (repeat (first | exact Repl.hd | apply Repl.tl)); done))
local macro_rules | `(tactic| walk_at "sel") => `(tactic| ((repeat (with_reducible apply Sel.cons; (focus walk_at "mem"))); (with_reducible apply Sel.nil); (with_reducible (repeat (first | exact Dr.all | apply Dr.skip)); done)))
local macro_rules | `(tactic| walk_at "at") => `(tactic| (refine' Sep.at_ (by assumption) ?kkpk; (case kkpk => walk_at "mem")))
local macro_rules | `(tactic| walk_at "sq") => `(tactic| first | assumption | (refine' Sep.sq (by assumption) ?kkpk; (case kkpk => walk_at "mem")))
local macro_rules | `(tactic| walk_at "st") => `(tactic| first | assumption | (refine' Sep.st (by assumption) ?kkpk; (case kkpk => walk_at "mem")))
local macro_rules | `(tactic| walk_at "lk") => `(tactic| (repeat (first | (with_reducible exact lk_eq) | exact rfl | refine (lk_ne (by decide +kernel)).trans ?_)))
local macro_rules | `(tactic| walk_at "pf") => `(tactic| (repeat (first | (with_reducible exact pf_nil) | (with_reducible exact pf_eq) | (apply pf_ne; (focus decide +kernel)))))
local macro_rules | `(tactic| walk_at "ty") => `(tactic| first | exact ty_int | (refine' ty_lst ?kkh; (case kkh => walk_at "at")))
local macro_rules | `(tactic| walk_at "k1") => `(tactic| with_reducible first
  | refine q_seq ?_ | refine q_set ?_ | refine q_asg ?_ | refine q_ret ?_ | refine q_drop ?_ | refine q_next ?_ | refine q_c ?_ | refine q_op ?_ | refine q_un ?_ | refine q_nil ?_ | refine q_cons ?_ | refine q_cb ?_
  | refine q_call ?_ | refine q_ifs ?_ | refine q_if ?_ | refine q_test ?_ | refine q_tb ?_ | refine q_bl ?_ | refine q_notT ?_ | refine q_andT ?_ | refine q_orT ?_ | refine q_andV ?_ | refine q_orV ?_ | refine q_notV ?_
  | refine q_addA ?_ | refine q_subI ?_ | refine q_ltI ?_ | refine q_leI ?_ | refine q_gtI ?_ | refine q_geI ?_ | refine q_eqI ?_ | refine q_neI ?_ | refine q_abs ?_ | refine q_int ?_ | refine q_intB ?_ | refine q_max ?_ | refine q_min ?_
  | refine q_ipAdd ?_ | refine q_ipSub ?_ | refine q_gsub ?_ | refine q_augs ?_ | refine q_lst ?_ | refine q_tup ?_ | refine q_blI ?_ | refine iteT ?_ | refine iteF ?_ | refine iteNT ?_ | refine iteNF ?_
  | refine r_prop ?_ | refine r_fld ?_ | refine r_sfld ?_ | refine r_meth ?_ | refine r_make ?_ | refine r_sl ?_ | refine r_nopart ?_ | refine r_part ?_ | refine r_parti ?_ | refine r_gsl ?_ | refine r_bm ?_ | refine r_bm0 ?_ | refine r_for ?_ | refine r_ilist ?_ | refine r_irng ?_
  | refine r_gname ?_ | refine r_gcons ?_ | refine r_gnil ?_ | refine r_par ?_ | refine r_parA ?_ | refine r_chain ?_ | refine r_isN ?_ | refine r_tlc ?_ | refine r_yes ?_ | refine r_makek ?_ | refine r_neg ?_)
local macro_rules | `(tactic| walk_at "k2") => `(tactic| first
  | ((with_reducible refine' q_var ?kke ?_); (case kke => rfl))
  | ((with_reducible refine' q_aug ?kke ?_); (case kke => rfl))
  | ((with_reducible refine' q_ixL ?kks ?kke ?_); (case kks => walk_at "sq"); (case kke => first | rfl | assumption))
  | ((with_reducible refine' q_ixT ?kks ?kke ?_); (case kks => walk_at "st"); (case kke => first | rfl | assumption))
  | ((with_reducible refine' q_ixLL ?kks ?kke ?_); (case kks => walk_at "sq"); (case kke => first | rfl | assumption))
  | ((with_reducible refine' q_lenL ?kks ?_); (case kks => walk_at "sq"))
  | ((with_reducible refine' q_mulI ?kkc ?_); (case kkc => first | exact .inl (by omega) | exact .inr (by omega)))
  | ((with_reducible refine' q_modI ?kkc ?_); (case kkc => omega))
  | ((with_reducible refine' q_divI ?kkc ?_); (case kkc => exact ⟨by omega, by omega⟩))
  | ((with_reducible refine' q_powI ?kkc ?_); (case kkc => exact ⟨by decide, by decide, by decide⟩))
  | ((with_reducible refine' r_kfld ?kkS ?kkp ?kkc ?kkn ?kkl ?_); (case kkS => assumption); (case kkp => walk_at "mem"); (case kkc => walk_at "cls"); (case kkn => walk_at "na"); (case kkl => walk_at "lk"))
  | ((with_reducible refine' r_kprop ?kkS ?kkp ?_); (case kkS => assumption); (case kkp => walk_at "mem"))
  | ((with_reducible refine' r_kmeth ?kkS ?kkp ?kkl ?_); (case kkS => assumption); (case kkp => walk_at "mem"); (case kkl => walk_at "lk"))
  | ((with_reducible refine' r_calll ?kks ?_); (case kks => rfl))
  | ((with_reducible refine' r_tyl ?kks ?_); (case kks => walk_at "sq"))
  | ((with_reducible refine' r_isi (k := true) ?kkt ?kke ?_); (case kkt => walk_at "ty"); (case kke => decide +kernel))
  | ((with_reducible refine' r_isi (k := false) ?kkt ?kke ?_); (case kkt => walk_at "ty"); (case kke => decide +kernel)))
local macro_rules | `(tactic| walk_at "k3") => `(tactic| first
  | ((with_reducible refine' q_setS ?kkS ?kkr ?kke ?_); (case kkS => assumption); (case kkr => walk_at "rep"); (case kke => rfl); intro H S)
  | ((with_reducible refine' r_kset ?kkS ?kkr ?kkc ?kkn ?kkl ?kke ?_); (case kkS => assumption); (case kkr => walk_at "rep"); (case kkc => walk_at "cls"); (case kkn => walk_at "na"); (case kkl => first | exact Nat.le_of_ble_eq_true rfl | assumption | omega | (simp; done) | (simp; omega)); (case kke => walk_at "pf"); intro H S)
  | ((with_reducible refine' q_new ?kkS ?kkl ?_); (case kkS => assumption); (case kkl => first | exact Nat.le_of_ble_eq_true rfl | assumption | omega | (simp; done) | (simp; omega)); intro p H S)
  | ((with_reducible refine' q_newT ?kkS ?kkl ?_); (case kkS => assumption); (case kkl => first | exact Nat.le_of_ble_eq_true rfl | assumption | omega | (simp; done) | (simp; omega)); intro p H S)
  | ((with_reducible refine' r_knew ?kkS ?_); (case kkS => assumption); intro x dx H S)
  | ((with_reducible refine' r_knewk ?kkS ?kkl1 ?kkl2 ?_); (case kkS => assumption); (case kkl1 => rfl); (case kkl2 => rfl); intro x dx H S)
  | ((with_reducible refine' r_ksl ?kkS ?kks ?_); (case kkS => assumption); (case kks => walk_at "sq"); intro p H S)
  | ((with_reducible refine' r_list ?kkS ?kks ?_); (case kkS => assumption); (case kks => walk_at "sq"); intro p H S)
  | ((with_reducible refine' r_cat ?kkS ?kks1 ?kks2 ?kkz ?_); (case kkS => assumption); (case kks1 => walk_at "at"); (case kks2 => walk_at "at"); (case kkz => first | omega | (simp; omega)); intro p H S)
  | ((with_reducible refine' r_append ?kkS ?kkr ?kkz ?_); (case kkS => assumption); (case kkr => walk_at "rep"); (case kkz => first | omega | (simp; omega)); intro H S)
  | ((with_reducible refine' r_reverse ?kkS ?kkr ?_); (case kkS => assumption); (case kkr => walk_at "rep"); intro H S)
  | ((with_reducible refine' r_clear ?kkS ?kkr ?_); (case kkS => assumption); (case kkr => walk_at "rep"); intro H S))
local macro_rules | `(tactic| walk_at "gn") => `(tactic| repeat (first | walk_at "k1" | walk_at "k2"))
local macro_rules | `(tactic| walk_at "go") => `(tactic| repeat (first | walk_at "k1" | walk_at "k2" | walk_at "k3"))

local macro_rules | `(tactic| walk_at "sq") => `(tactic| first | assumption | (refine' Sep.sq ?kkS ?kkpk; (case kkS => assumption); (case kkpk => walk_at "mem")) | (refine' hp_sqL ?kkS ?kkx; (case kkS => assumption); (case kkx => assumption)) | (refine' hp_sqL (Sep.tl ?kkS) ?kkx; (case kkS => assumption); (case kkx => assumption)) | (refine' hp_sqL (Sep.tl (Sep.tl ?kkS)) ?kkx; (case kkS => assumption); (case kkx => assumption)))
local macro_rules | `(tactic| walk_at "st") => `(tactic| first | assumption | (refine' Sep.st ?kkS ?kkpk; (case kkS => assumption); (case kkpk => walk_at "mem")) | (refine' hp_sqT ?kkS ?kkx; (case kkS => assumption); (case kkx => assumption)) | (refine' hp_sqT (Sep.tl ?kkS) ?kkx; (case kkS => assumption); (case kkx => assumption)) | (refine' hp_sqT (Sep.tl (Sep.tl ?kkS)) ?kkx; (case kkS => assumption); (case kkx => assumption)))
local macro_rules | `(tactic| walk_at "k1") => `(tactic| with_reducible first | refine r_ienumT ?_ | refine r_tru ?_ | refine r_itup ?_ | refine r_star ?_ | refine r_par3 ?_ | refine r_parA3 ?_ | refine r_dget ?_ | refine r_din ?_ | refine r_dnotin ?_ | refine r_dput ?_)

local macro_rules | `(tactic| walk_at "k1") => `(tactic| with_reducible first | refine r_kget ?_ | refine r_orT ?_ | refine r_slA ?_ | refine r_m1 ?_ | refine r_isS ?_)
local macro_rules | `(tactic| walk_at "k1") => `(tactic| with_reducible refine r_iany ?_)

theorem namesSs_take {l : List Stm} {i : Nat} {s : Stm} (h : l[i]? = some s) : namesSs (l.take (i + 1)) = namesSs (l.take i) ++ s.names := by
  rw [List.take_add_one, h, namesSs_app]
  show _ ++ namesSs [s] = _
  rw [namesSs, namesSs, List.append_nil]
theorem namesSs_pre (l : List Stm) (i : Nat) : (namesSs (l.take i)).length ≤ (namesSs l).length := by
  have e : namesSs l = namesSs (l.take i) ++ namesSs (l.drop i) := by rw [← namesSs_app, List.take_append_drop]
  rw [e, List.length_append]
  exact Nat.le_add_right _ _
theorem namesBs_flat : ∀ bs : List Bdy, namesBs bs = (bs.map fun b => b.names).flatten
  | [] => by rw [namesBs]; rfl
  | b :: bs => by rw [namesBs, namesBs_flat bs]; rfl
theorem namesBs_mem {bs : List Bdy} {b : Bdy} (h : b ∈ bs) : b.names.length ≤ (namesBs bs).length := by
  obtain ⟨l1, l2, rfl⟩ := List.append_of_mem h
  rw [namesBs_app, namesBs, List.length_append, List.length_append]
  omega
section
variable {P : Program} {w : World} {K : PySem.W.Frag} {mg : Str → Option Value} {base : Heap} {f_NAMES_IN f_MAKING f_COPYING f_SHARING : Addr}
theorem sc_l_names_in : FnScope N_l_names_in ["_law_body"] (defScope s_l_names_in) := ⟨rfl, rfl, rfl, by decide +kernel, rfl, by decide +kernel, by decide +kernel⟩
def spNin (K : PySem.W.Frag) (n : Nat) : Sp := fun vs H Q _ => ∃ (a : Addr) (t : Bool) (l : List Stm) (G : Hp) (R : List SP), vs = [.ref a] ∧ (∀ s ∈ l, s.Ok NmOk) ∧ depSs l ≤ n ∧ (namesSs l).length ≤ 1000 ∧ Dp K G (.ref a) (sqD t (l.map Stm.enc)) ∧ Sep (hp G :: R) H ∧
  ∀ D G' H', Le G G' → Sep (pt D (.lst ((namesSs l).map V.str)) :: hp G' :: R) H' → Q (.ref D) H'
def spNinN (K : PySem.W.Frag) : Nat → Sp
  | 0 => spNever
  | n + 1 => spNin K n
theorem ok_nin0 {f : Addr} {k : Nat} (F : Dt K mg "_law_names_in" s_l_names_in ["_law_body"] f) : Df P w K mg base (k + 1) "_law_names_in" f ["_law_body"] spNever :=
  F.ok sc_l_names_in (fun vs H Q E h => h.elim) (fun cdv A outer s H vs Q E hr h => h.elim)
theorem ok_nin1 {n : Nat} {f : Addr} (F : Dt K mg "_law_names_in" s_l_names_in ["_law_body"] f) (T : Tx K mg f_NAMES_IN f_MAKING f_COPYING f_SHARING) (D_l_names_in : Df P w K mg base (n + 1) "_law_names_in" f ["_law_body"] (spNinN K n)) : Df P w K mg base (n + 2) "_law_names_in" f ["_law_body"] (spNin K n) := by
  refine F.ok sc_l_names_in (fun vs H Q E h => ?_) (fun cdv A outer s H vs Q E hr h => ?_)
  · obtain ⟨a, t, l, G, R, rfl, _⟩ := h
    rfl
  obtain ⟨a, t, l, G, R, rfl, hok, hde, hnl, hx, S, q⟩ := h
  refine ⟨_, (pss_cons (ps_set (i := 1) sc_l_names_in.nd rfl (by first | exact Or.inl rfl | exact Or.inr rfl) (pe_lst pa_nil))
      (pss_cons (ps_for PassesOwn.never rfl (pi_anyK K (pv 0)) (pg_name (i := 2) sc_l_names_in.nd rfl (by first | exact Or.inl rfl | exact Or.inr rfl)) (pss_one (ps_if (pt_cmpR (r := rEqA K) (op_eqA hr.units) (pe_ix (r := rIx K) ix_seq (pv 2) pe_int (fun _ _ => rfl)) pe_str (nomark _)) (pss_one (ps_expr (pe_bmK K PySem.F.plainAttrs_list PySem.F.slot_list_extend PySem.F.type_list_extend (mt_extendAK K) (pv 1) (pa_cons (pe_callB (r := rSumL K) (cr_sumL rfl) (by rfl) T.z_sum (by decide +kernel) (pa_cons (pe_lc (own := [("_law_inner_here", 3)]) rfl sc_l_names_in.nd (pi_anyK K (pe_ix (r := rIx K) ix_seq (pv 2) pe_int (fun _ _ => rfl))) (blkOk_by (own := [("_law_inner_here", 3)]) (N := N_l_names_in) (sc := defScope s_l_names_in) (by decide +kernel)) (fun _ _ _ _ _ => (pg_name (i := 3) sc_l_names_in.nd rfl (by first | exact Or.inl rfl | exact Or.inr rfl))) (fun _ _ _ _ _ => pts_nil) (fun _ _ _ _ _ => (pe_df D_l_names_in (hr.mono (by first | decide | omega)) (pa_cons (pv 3) pa_nil)))) (pa_cons (pe_lst pa_nil) pa_nil))) pa_nil)))) (pss_one (ps_if (pt_cmpR (r := rEqA K) (op_eqA hr.units) (pe_ix (r := rIx K) ix_seq (pv 2) pe_int (fun _ _ => rfl)) pe_str (nomark _)) (pss_one (ps_expr (pe_bmK K PySem.F.plainAttrs_list PySem.F.slot_list_extend PySem.F.type_list_extend (mt_extendAK K) (pv 1) (pa_cons (pe_df D_l_names_in (hr.mono (by first | decide | omega)) (pa_cons (pe_ix (r := rIx K) ix_seq (pv 2) pe_int (fun _ _ => rfl)) pa_nil)) pa_nil)))) (pss_one (ps_if (pt_cmpR (r := rEqA K) (op_eqA hr.units) (pe_ix (r := rIx K) ix_seq (pv 2) pe_int (fun _ _ => rfl)) pe_str (nomark _)) (pss_one (ps_expr (pe_bmK K PySem.F.plainAttrs_list PySem.F.slot_list_extend PySem.F.type_list_extend (mt_extendAK K) (pv 1) (pa_cons (pe_op (r := rAddA) op_addA (pe_lst (pa_cons (pe_ix (r := rIx K) ix_seq (pv 2) pe_int (fun _ _ => rfl)) pa_nil)) (pe_callTy (r := cList K) call_list_of (by rfl) T.z_list (by decide +kernel) (pa_cons (pe_ix (r := rIx K) ix_seq (pv 2) pe_int (fun _ _ => rfl)) pa_nil))) pa_nil)))) (pss_one (ps_expr (pe_bmK K PySem.F.plainAttrs_list PySem.F.slot_list_extend PySem.F.type_list_extend (mt_extendAK K) (pv 1) (pa_cons (pe_callTy (r := cList K) call_list_of (by rfl) T.z_list (by decide +kernel) (pa_cons (pe_slice (r := rSlA K) sl_tupA (pv 2) (po_some pe_int) po_none) pa_nil)) pa_nil)))))))))))
      (pss_one (ps_ret (pv 1))))), ?_⟩
  obtain ⟨a', xs, e, hs, hda⟩ := dp_sqInv hx
  cases e
  have hxl : xs.length = l.length := by rw [dpall_len hda, List.length_map]
  walk_at "go"
  obtain ⟨F0, rfl⟩ : ∃ z, z = p := ⟨p, rfl⟩
  refine r_for_any (G := G) (xs := xs) (fun i σ Ps => ∃ (Gi : Hp) (u2 u3 : Option V), σ = [some (.ref a), some (.ref F0), u2, u3] ∧ Le G Gi ∧ Ps = pt F0 (.lst ((namesSs (l.take i)).map V.str)) :: hp Gi :: R) hs S ⟨G, _, _, rfl, Le.rfl, by rw [List.take_zero, namesSs]; rfl⟩ (fun i σ Ps H hi ⟨Gi, _, _, _, le, e⟩ S => by subst e; exact le.tr (hp_le S.tl)) ?_ ?_
  · rintro i x σ Ps H hi ⟨Gi, u2, u3, rfl, le, rfl⟩ S
    obtain ⟨d, hd, hxd⟩ := dpall_at hda hi
    rw [List.getElem?_map] at hd
    cases es : l[i]? with
    | none => rw [es] at hd; cases hd
    | some s =>
    rw [es] at hd
    cases hd
    have hi2 := (List.getElem?_eq_some_iff.mp es).1
    have hoks := hok s (List.mem_of_getElem? es)
    have hds := depSs_le.mp hde s (List.mem_of_getElem? es)
    have hnt := namesSs_take es
    have hnp := namesSs_pre l (i + 1)
    rw [hnt, List.length_append] at hnp
    have hxd := Dp.le le _ _ hxd
    obtain ⟨sa, sxs, rfl, hsq, hm⟩ := stm_sq hxd
    have hsqS := hp_sqT S.tl hsq
    have done_ : ∀ {G2 : Hp} {H : Hp} {u3 : Option V}, Le Gi G2 → Sep (pt F0 (.lst ((namesSs (l.take i)).map V.str ++ s.names.map V.str)) :: hp G2 :: R) H → Nx (fun i σ Ps => ∃ (Gi : Hp) (u2 u3 : Option V), σ = [some (.ref a), some (.ref F0), u2, u3] ∧ Le G Gi ∧ Ps = pt F0 (.lst ((namesSs (l.take i)).map V.str)) :: hp Gi :: R) (i + 1) [some (.ref a), some (.ref F0), some (.ref sa), u3] H := fun {G2 H u3} le2 S => ⟨_, ⟨G2, _, _, rfl, le.tr le2, rfl⟩, by rw [hnt, List.map_append]; exact S⟩
    walk_at "go"
    refine q_ixT hsqS (atI_nat (j := 0) rfl) ?_
    walk_at "go"
    refine r_eqS ?_
    walk_at "go"
    cases s with
    | either t bs =>
      refine iteT ?_
      obtain ⟨y, rfl, hy⟩ := hm
      rw [Stm.Ok] at hoks
      rw [Stm.dep] at hds
      rw [Stm.names] at hnp done_
      obtain ⟨m, rfl⟩ : ∃ m, n = m + 1 := ⟨n - 1, by omega⟩
      obtain ⟨ya, ys, rfl, hys, hda2⟩ := dp_sqInv hy
      have hyl : ys.length = bs.length := by rw [dpall_len hda2, List.length_map]
      walk_at "go"
      refine r_lc_any (G := Gi) (xs := ys) (fun i2 acc Ps => ∃ (ps : List Addr) (Gj : Hp), acc = ps.map V.ref ∧ ps.length = i2 ∧ Le Gi Gj ∧ Paired (fun p xs => Gj p = some (.lst xs)) ps ((bs.take i2).map fun b => b.names.map V.str) ∧ Ps = pt F0 (.lst ((namesSs (l.take i)).map V.str)) :: hp Gj :: R) hys S ⟨[], Gi, rfl, rfl, Le.rfl, by rw [List.take_zero]; exact .nil, rfl⟩ (fun D i acc2 Ps H hi ⟨_, _, _, _, le2, _, e⟩ S => by subst e; exact le2.tr (hp_le S.tl.tl)) (hp_le S.tl) ?_ ?_
      · rintro D i2 x acc Ps H hi ⟨ps, Gj, rfl, hpl, le2, hpp, rfl⟩ S
        obtain ⟨d, hd, hxd⟩ := dpall_at hda2 hi
        rw [List.getElem?_map] at hd
        cases eb : bs[i2]? with
        | none => rw [eb] at hd; cases hd
        | some bd =>
        rw [eb] at hd
        cases hd
        have hi3 := (List.getElem?_eq_some_iff.mp eb).1
        have hbm := List.mem_of_getElem? eb
        have hbn := namesBs_mem hbm
        cases bd with
        | mk t2 bl =>
        have hb2 := okBs_iff.mp hoks.2 _ hbm
        have hds2 := depBs_le.mp (show depBs bs ≤ m by omega) _ hbm
        rw [Bdy.Ok] at hb2
        rw [Bdy.dep] at hds2
        rw [Bdy.names] at hbn
        rw [Bdy.enc, encSs_map] at hxd
        have hxd := Dp.le le2 _ _ hxd
        obtain ⟨xa, _, rfl, _, _⟩ := dp_sqInv hxd
        walk_at "go"
        refine ⟨rfl, ?_⟩
        walk_at "go"
        refine ⟨xa, t2, bl, Gj, pt D (.lst (ps.map V.ref)) :: pt F0 (.lst ((namesSs (l.take i)).map V.str)) :: R, rfl, okSs_iff.mp hb2, by omega, by omega, hxd, S.s3 (A := hp Gj) (B := pt D (.lst (ps.map V.ref))) (C := pt F0 (.lst ((namesSs (l.take i)).map V.str))) (by walk_at "sel"), fun N G' H le3 S => ?_⟩
        obtain ⟨G4, le4, e4, S⟩ := hp_add S
        refine cn_in (Ps := pt F0 (.lst ((namesSs (l.take i)).map V.str)) :: hp G4 :: R) (S.s3 (A := pt D (.lst (ps.map V.ref))) (B := pt F0 (.lst ((namesSs (l.take i)).map V.str))) (C := hp G4) (by walk_at "sel")) (by rw [List.length_map]; omega) ⟨ps ++ [N], G4, by rw [List.map_append]; rfl, by rw [List.length_append, hpl]; rfl, (le2.tr le3).tr le4, ?_, rfl⟩
        rw [List.take_add_one, eb, List.map_append]
        refine Paired.snoc (paired_imp (fun a b z => (le3.tr le4) _ _ z) hpp) ?_
        show G4 N = some (.lst ((Bdy.mk t2 bl).names.map V.str))
        rw [Bdy.names]
        exact e4
      · rintro D acc Ps H ⟨ps, Gj, rfl, hpl, le2, hpp, rfl⟩ S
        rw [hyl, List.take_length] at hpp
        have hflat : (bs.map fun b => b.names.map V.str).flatten = (namesBs bs).map V.str := by rw [namesBs_flat, List.map_flatten, List.map_map]; rfl
        walk_at "go"
        refine ⟨D, p, ps, _, [], rfl, by walk_at "sq", S.hd_at, paired_imp (fun a b z => hp_le (S.s1 (A := hp Gj) (by walk_at "sel")) _ _ z) hpp, ?_, ?_, ?_⟩
        · rw [hflat, List.nil_append, List.length_map]
          exact Nat.le_trans (show _ ≤ 1000 by omega) (by decide)
        · intro e
          subst e
          have eb : bs = [] := by
            have := Paired.length hpp
            rw [List.length_map] at this
            exact List.length_eq_zero_iff.mp this.symm
          subst eb
          rw [namesBs] at done_
          walk_at "go"
          refine r_extA (K := K) (a := F0) (b := p) (xs := (namesSs (l.take i)).map V.str) (zs := []) S (by walk_at "rep") (.inl (by walk_at "sq")) (by rw [List.length_map]; show _ + 0 ≤ _; omega) fun H S => ?_
          walk_at "go"
          exact done_ le2 (S.s2 (A := pt F0 (.lst ((namesSs (l.take i)).map V.str ++ []))) (B := hp Gj) (by walk_at "sel"))
        · intro r nr
          rw [hflat, List.nil_append]
          have S := S.new (.lst ((namesBs bs).map V.str)) nr
          walk_at "go"
          refine r_extA (K := K) (a := F0) (b := r) (xs := (namesSs (l.take i)).map V.str) (zs := (namesBs bs).map V.str) S (by walk_at "rep") (.inl (by walk_at "sq")) (by rw [List.length_map, List.length_map]; omega) fun H S => ?_
          walk_at "go"
          exact done_ le2 (S.s2 (A := pt F0 (.lst ((namesSs (l.take i)).map V.str ++ (namesBs bs).map V.str))) (B := hp Gj) (by walk_at "sel"))
    | loop bd =>
      cases bd with
      | mk t2 bl =>
      refine iteF ?_
      walk_at "go"
      refine q_ixT hsqS (atI_nat (j := 0) rfl) ?_
      walk_at "go"
      refine r_eqS ?_
      walk_at "go"
      refine iteT ?_
      obtain ⟨y, rfl, hy⟩ := hm
      rw [Stm.Ok, Bdy.Ok] at hoks
      rw [Stm.dep, Bdy.dep] at hds
      rw [Stm.names, Bdy.names] at hnp done_
      obtain ⟨m, rfl⟩ : ∃ m, n = m + 1 := ⟨n - 1, by omega⟩
      rw [Bdy.enc, encSs_map] at hy
      obtain ⟨ya, _, rfl, _, _⟩ := dp_sqInv hy
      walk_at "go"
      refine ⟨ya, t2, bl, Gi, pt F0 (.lst ((namesSs (l.take i)).map V.str)) :: R, rfl, okSs_iff.mp hoks, by omega, by omega, hy, S.swap, fun N G' H le3 S => ?_⟩
      walk_at "go"
      refine r_extA (K := K) (a := F0) (b := N) (xs := (namesSs (l.take i)).map V.str) (zs := (namesSs bl).map V.str) S (by walk_at "rep") (.inl (by walk_at "sq")) (by rw [List.length_map, List.length_map]; omega) fun H S => ?_
      walk_at "go"
      exact done_ le3 (S.s2 (A := pt F0 (.lst ((namesSs (l.take i)).map V.str ++ (namesSs bl).map V.str))) (B := hp G') (by walk_at "sel"))
    | call v f t as =>
      refine iteF ?_
      walk_at "go"
      refine q_ixT hsqS (atI_nat (j := 0) rfl) ?_
      walk_at "go"
      refine r_eqS ?_
      walk_at "go"
      refine iteF ?_
      walk_at "go"
      refine q_ixT hsqS (atI_nat (j := 0) rfl) ?_
      walk_at "go"
      refine r_eqS ?_
      walk_at "go"
      refine iteT ?_
      obtain ⟨y, rfl, hy⟩ := hm
      obtain ⟨ya, ys, rfl, hys, hda2⟩ := dp_sqInv hy
      rw [dpall_strsInv hda2] at hys
      rw [Stm.names] at hnp done_
      rw [List.length_cons] at hnp
      walk_at "go"
      obtain ⟨P1, rfl⟩ : ∃ z, z = p := ⟨p, rfl⟩
      refine ⟨ya, _, rfl, sq_le (hp_le (S.s1 (A := hp Gi) (by walk_at "sel"))) hys, fun Lp np => ?_⟩
      have S := S.new (.lst (as.map V.str)) np
      walk_at "go"
      refine r_extA (K := K) (a := F0) (b := p) (xs := (namesSs (l.take i)).map V.str) (zs := [.str v] ++ as.map V.str) S (by walk_at "rep") (.inl (by walk_at "sq")) (by rw [List.length_map, List.length_append, List.length_map]; show _ + (1 + _) ≤ _; omega) fun H S => ?_
      walk_at "go"
      exact done_ Le.rfl (S.s2 (A := pt F0 (.lst ((namesSs (l.take i)).map V.str ++ ([.str v] ++ as.map V.str)))) (B := hp Gi) (by walk_at "sel"))
    | two wd v u =>
      rw [Stm.Ok] at hoks
      subst hm
      rw [Stm.names] at hnp done_
      refine iteDN (w2_ne _ hoks.1).1 ?_
      walk_at "go"
      refine r_eqS ?_
      walk_at "go"
      refine iteDN (w2_ne _ hoks.1).2.1 ?_
      walk_at "go"
      refine r_eqS ?_
      walk_at "go"
      refine iteDN (w2_ne _ hoks.1).2.2.1 ?_
      walk_at "go"
      refine r_sufT (n := 1) S hsqS (by decide) (by simp) fun p H S => ?_
      have S : Sep (pt p (.tup [.str v, .str u]) :: pt F0 (.lst ((namesSs (l.take i)).map V.str)) :: hp Gi :: R) H := S
      refine ⟨p, [.str v, .str u], rfl, .inr (by walk_at "st"), fun p2 np => ?_⟩
      have S := S.new (.lst [.str v, .str u]) np
      walk_at "go"
      refine r_extA (K := K) (a := F0) (b := p2) (xs := (namesSs (l.take i)).map V.str) (zs := [.str v, .str u]) S (by walk_at "rep") (.inl (by walk_at "sq")) (by rw [List.length_map]; show _ + 2 ≤ _; omega) fun H S => ?_
      walk_at "go"
      exact done_ Le.rfl (S.s2 (A := pt F0 (.lst ((namesSs (l.take i)).map V.str ++ [.str v, .str u]))) (B := hp Gi) (by walk_at "sel"))
    | one wd v =>
      rw [Stm.Ok] at hoks
      subst hm
      rw [Stm.names] at hnp done_
      refine iteDN (w1_ne _ hoks.1).1 ?_
      walk_at "go"
      refine r_eqS ?_
      walk_at "go"
      refine iteDN (w1_ne _ hoks.1).2.1 ?_
      walk_at "go"
      refine r_eqS ?_
      walk_at "go"
      refine iteDN (w1_ne _ hoks.1).2.2.1 ?_
      walk_at "go"
      refine r_sufT (n := 1) S hsqS (by decide) (by simp) fun p H S => ?_
      have S : Sep (pt p (.tup [.str v]) :: pt F0 (.lst ((namesSs (l.take i)).map V.str)) :: hp Gi :: R) H := S
      refine ⟨p, [.str v], rfl, .inr (by walk_at "st"), fun p2 np => ?_⟩
      have S := S.new (.lst [.str v]) np
      walk_at "go"
      refine r_extA (K := K) (a := F0) (b := p2) (xs := (namesSs (l.take i)).map V.str) (zs := [.str v]) S (by walk_at "rep") (.inl (by walk_at "sq")) (by rw [List.length_map]; show _ + 1 ≤ _; omega) fun H S => ?_
      walk_at "go"
      exact done_ Le.rfl (S.s2 (A := pt F0 (.lst ((namesSs (l.take i)).map V.str ++ [.str v]))) (B := hp Gi) (by walk_at "sel"))
  · rintro σ Ps H ⟨Gi, u2, u3, rfl, le, rfl⟩ S
    rw [hxl, List.take_length] at S
    walk_at "go"
    exact q F0 Gi H le S
end
end Pf

set_option Elab.async false
set_option linter.all false
set_option maxRecDepth 100000
set_option maxHeartbeats 8000000
namespace Pf
open PySem L2 Kt
set_option hygiene false
local macro_rules | `(tactic| walk_at "mem") => `(tactic| (with_reducible (repeat (first | exact Pick.hd | apply Pick.tl)); done))
local macro_rules | `(tactic| walk_at "rep") => `(tactic| (with_reducible (repeat (first | exact Repl.hd | apply Repl.tl)); done))
local macro_rules | `(tactic| walk_at "sel") => `(tactic| ((repeat (with_reducible apply Sel.cons; (focus walk_at "mem"))); (with_reducible apply Sel.nil); (with_reducible (repeat (first | exact Dr.all | apply Dr.skip)); done)))
local macro_rules | `(tactic| walk_at "at") => `(tactic| (refine' Sep.at_ (by assumption) ?kkpk; (case kkpk => walk_at "mem")))
local macro_rules | `(tactic| walk_at "sq") => `(tactic| first | assumption | (refine' Sep.sq (by assumption) ?kkpk; (case kkpk => walk_at "mem")))
local macro_rules | `(tactic| walk_at "st") => `(tactic| first | assumption | (refine' Sep.st (by assumption) ?kkpk; (case kkpk => walk_at "mem")))
local macro_rules | `(tactic| walk_at "lk") => `(tactic| (repeat (first | (with_reducible exact lk_eq) | exact rfl | refine (lk_ne (by decide +kernel)).trans ?_)))
local macro_rules | `(tactic| walk_at "pf") => `(tactic| (repeat (first | (with_reducible exact pf_nil) | (with_reducible exact pf_eq) | (apply pf_ne; (focus decide +kernel)))))
local macro_rules | `(tactic| walk_at "ty") => `(tactic| first | exact ty_int | (refine' ty_lst ?kkh; (case kkh => walk_at "at")))
local macro_rules | `(tactic| walk_at "k1") => `(tactic| with_reducible first
  | refine q_seq ?_ | refine q_set ?_ | refine q_asg ?_ | refine q_ret ?_ | refine q_drop ?_ | refine q_next ?_ | refine q_c ?_ | refine q_op ?_ | refine q_un ?_ | refine q_nil ?_ | refine q_cons ?_ | refine q_cb ?_
  | refine q_call ?_ | refine q_ifs ?_ | refine q_if ?_ | refine q_test ?_ | refine q_tb ?_ | refine q_bl ?_ | refine q_notT ?_ | refine q_andT ?_ | refine q_orT ?_ | refine q_andV ?_ | refine q_orV ?_ | refine q_notV ?_
  | refine q_addA ?_ | refine q_subI ?_ | refine q_ltI ?_ | refine q_leI ?_ | refine q_gtI ?_ | refine q_geI ?_ | refine q_eqI ?_ | refine q_neI ?_ | refine q_abs ?_ | refine q_int ?_ | refine q_intB ?_ | refine q_max ?_ | refine q_min ?_
  | refine q_ipAdd ?_ | refine q_ipSub ?_ | refine q_gsub ?_ | refine q_augs ?_ | refine q_lst ?_ | refine q_tup ?_ | refine q_blI ?_ | refine iteT ?_ | refine iteF ?_ | refine iteNT ?_ | refine iteNF ?_
  | refine r_prop ?_ | refine r_fld ?_ | refine r_sfld ?_ | refine r_meth ?_ | refine r_make ?_ | refine r_sl ?_ | refine r_nopart ?_ | refine r_part ?_ | refine r_parti ?_ | refine r_gsl ?_ | refine r_bm ?_ | refine r_bm0 ?_ | refine r_for ?_ | refine r_ilist ?_ | refine r_irng ?_
  | refine r_gname ?_ | refine r_gcons ?_ | refine r_gnil ?_ | refine r_par ?_ | refine r_parA ?_ | refine r_chain ?_ | refine r_isN ?_ | refine r_tlc ?_ | refine r_yes ?_ | refine r_makek ?_ | refine r_neg ?_)
local macro_rules | `(tactic| walk_at "k2") => `(tactic| first
  | ((with_reducible refine' q_var ?kke ?_); (case kke => rfl))
  | ((with_reducible refine' q_aug ?kke ?_); (case kke => rfl))
  | ((with_reducible refine' q_ixL ?kks ?kke ?_); (case kks => walk_at "sq"); (case kke => first | rfl | assumption))
  | ((with_reducible refine' q_ixT ?kks ?kke ?_); (case kks => walk_at "st"); (case kke => first | rfl | assumption))
  | ((with_reducible refine' q_ixLL ?kks ?kke ?_); (case kks => walk_at "sq"); (case kke => first | rfl | assumption))
  | ((with_reducible refine' q_lenL ?kks ?_); (case kks => walk_at "sq"))
  | ((with_reducible refine' q_mulI ?kkc ?_); (case kkc => first | exact .inl (by omega) | exact .inr (by omega)))
  | ((with_reducible refine' q_modI ?kkc ?_); (case kkc => omega))
  | ((with_reducible refine' q_divI ?kkc ?_); (case kkc => exact ⟨by omega, by omega⟩))
  | ((with_reducible refine' q_powI ?kkc ?_); (case kkc => exact ⟨by decide, by decide, by decide⟩))
  | ((with_reducible refine' r_kfld ?kkS ?kkp ?kkc ?kkn ?kkl ?_); (case kkS => assumption); (case kkp => walk_at "mem"); (case kkc => walk_at "cls"); (case kkn => walk_at "na"); (case kkl => walk_at "lk"))
  | ((with_reducible refine' r_kprop ?kkS ?kkp ?_); (case kkS => assumption); (case kkp => walk_at "mem"))
  | ((with_reducible refine' r_kmeth ?kkS ?kkp ?kkl ?_); (case kkS => assumption); (case kkp => walk_at "mem"); (case kkl => walk_at "lk"))
  | ((with_reducible refine' r_calll ?kks ?_); (case kks => rfl))
  | ((with_reducible refine' r_tyl ?kks ?_); (case kks => walk_at "sq"))
  | ((with_reducible refine' r_isi (k := true) ?kkt ?kke ?_); (case kkt => walk_at "ty"); (case kke => decide +kernel))
  | ((with_reducible refine' r_isi (k := false) ?kkt ?kke ?_); (case kkt => walk_at "ty"); (case kke => decide +kernel)))
local macro_rules | `(tactic| walk_at "k3") => `(tactic| first
  | ((with_reducible refine' q_setS ?kkS ?kkr ?kke ?_); (case kkS => assumption); (case kkr => walk_at "rep"); (case kke => rfl); intro H S)
  | ((with_reducible refine' r_kset ?kkS ?kkr ?kkc ?kkn ?kkl ?kke ?_); (case kkS => assumption); (case kkr => walk_at "rep"); (case kkc => walk_at "cls"); (case kkn => walk_at "na"); (case kkl => first | exact Nat.le_of_ble_eq_true rfl | assumption | omega | (simp; done) | (simp; omega)); (case kke => walk_at "pf"); intro H S)
  | ((with_reducible refine' q_new ?kkS ?kkl ?_); (case kkS => assumption); (case kkl => first | exact Nat.le_of_ble_eq_true rfl | assumption | omega | (simp; done) | (simp; omega)); intro p H S)
  | ((with_reducible refine' q_newT ?kkS ?kkl ?_); (case kkS => assumption); (case kkl => first | exact Nat.le_of_ble_eq_true rfl | assumption | omega | (simp; done) | (simp; omega)); intro p H S)
  | ((with_reducible refine' r_knew ?kkS ?_); (case kkS => assumption); intro x dx H S)
  | ((with_reducible refine' r_knewk ?kkS ?kkl1 ?kkl2 ?_); (case kkS => assumption); (case kkl1 => rfl); (case kkl2 => rfl); intro x dx H S)
  | ((with_reducible refine' r_ksl ?kkS ?kks ?_); (case kkS => assumption); (case kks => walk_at "sq"); intro p H S)
  | ((with_reducible refine' r_list ?kkS ?kks ?_); (case kkS => assumption); (case kks => walk_at "sq"); intro p H S)
  | ((with_reducible refine' r_cat ?kkS ?kks1 ?kks2 ?kkz ?_); (case kkS => assumption); (case kks1 => walk_at "at"); (case kks2 => walk_at "at"); (case kkz => first | omega | (simp; omega)); intro p H S)
  | ((with_reducible refine' r_append ?kkS ?kkr ?kkz ?_); (case kkS => assumption); (case kkr => walk_at "rep"); (case kkz => first | omega | (simp; omega)); intro H S)
  | ((with_reducible refine' r_reverse ?kkS ?kkr ?_); (case kkS => assumption); (case kkr => walk_at "rep"); intro H S)
  | ((with_reducible refine' r_clear ?kkS ?kkr ?_); (case kkS => assumption); (case kkr => walk_at "rep"); intro H S))
local macro_rules | `(tactic| walk_at "gn") => `(tactic| repeat (first | walk_at "k1" | walk_at "k2"))
local macro_rules | `(tactic| walk_at "go") => `(tactic| repeat (first | walk_at "k1" | walk_at "k2" | walk_at "k3"))

local macro_rules | `(tactic| walk_at "sq") => `(tactic| first | assumption | (refine' Sep.sq ?kkS ?kkpk; (case kkS => assumption); (case kkpk => walk_at "mem")) | (refine' hp_sqL ?kkS ?kkx; (case kkS => assumption); (case kkx => assumption)) | (refine' hp_sqL (Sep.tl ?kkS) ?kkx; (case kkS => assumption); (case kkx => assumption)) | (refine' hp_sqL (Sep.tl (Sep.tl ?kkS)) ?kkx; (case kkS => assumption); (case kkx => assumption)))
local macro_rules | `(tactic| walk_at "st") => `(tactic| first | assumption | (refine' Sep.st ?kkS ?kkpk; (case kkS => assumption); (case kkpk => walk_at "mem")) | (refine' hp_sqT ?kkS ?kkx; (case kkS => assumption); (case kkx => assumption)) | (refine' hp_sqT (Sep.tl ?kkS) ?kkx; (case kkS => assumption); (case kkx => assumption)) | (refine' hp_sqT (Sep.tl (Sep.tl ?kkS)) ?kkx; (case kkS => assumption); (case kkx => assumption)))
local macro_rules | `(tactic| walk_at "k1") => `(tactic| with_reducible first | refine r_ienumT ?_ | refine r_tru ?_ | refine r_itup ?_ | refine r_star ?_ | refine r_par3 ?_ | refine r_parA3 ?_ | refine r_dget ?_ | refine r_din ?_ | refine r_dnotin ?_ | refine r_dput ?_)

local macro_rules | `(tactic| walk_at "k1") => `(tactic| with_reducible first | refine r_kget ?_ | refine r_orT ?_ | refine r_slA ?_ | refine r_m1 ?_ | refine r_isS ?_)
local macro_rules | `(tactic| walk_at "k1") => `(tactic| with_reducible refine r_iany ?_)

section
variable {P : Program} {w : World} {K : PySem.W.Frag} {mg : Str → Option Value} {base : Heap} {f_NAMES_IN f_MAKING f_COPYING f_SHARING : Addr}
theorem lists_dp {G : Hp} : ∀ {ls : List Addr} {xss : List (List V)} {bs : List Bdy}, Paired (fun l xs => G l = some (.lst xs)) ls xss → Paired (fun xs (b : Bdy) => DpAll K G xs (b.list.map Stm.enc)) xss bs → DpAll K G (ls.map V.ref) (bs.map fun b => .list (b.list.map Stm.enc))
  | _, _, _, .nil, .nil => .nil
  | _, _, _, .cons z t, .cons z2 t2 => .cons (.lst (SqL.of z) z2) (lists_dp t t2)
/-- new lists of the bodies -/
def Bl (K : PySem.W.Frag) (G : Hp) (bl : List (Addr × List V)) (bs : List Bdy) : Prop := Paired (fun e b => DpAll K G e.2 (b.list.map Stm.enc)) bl bs
theorem Bl.le {G G' : Hp} {bl : List (Addr × List V)} {bs : List Bdy} (h : Bl K G bl bs) (l : Le G G') : Bl K G' bl bs := paired_imp (fun a b z => DpAll.le l _ _ z) h
theorem sc_bodies : FnScope N_bodies ["statement"] (defScope s_bodies) := ⟨rfl, rfl, rfl, by decide +kernel, rfl, by decide +kernel, by decide +kernel⟩
def spBodies (K : PySem.W.Frag) : Sp := fun vs H Q _ => ∃ (a : Addr) (s : Stm) (pn : Str → Prop) (G : Hp) (R : List SP), vs = [.ref a] ∧ s.Ok pn ∧ s.inner.length ≤ 1000 ∧ Dp K G (.ref a) s.enc ∧ Sep (hp G :: R) H ∧
  ∀ p bl H', Bl K G bl s.inner → Sep (pt p (.lst (bl.map fun e => .ref e.1)) :: big bl :: hp G :: R) H' → Q (.ref p) H'
theorem ok_bodies {f f1 : Addr} (F : Dt K mg "bodies" s_bodies ["statement"] f) (T : Tx K mg f_NAMES_IN f_MAKING f_COPYING f_SHARING) (D_inner_bodies : Df P w K mg base 1 "inner_bodies" f1 ["statement"] (spInner K)) : Df P w K mg base 2 "bodies" f ["statement"] (spBodies K) := by
  refine F.ok sc_bodies (fun vs H Q E h => ?_) (fun cdv A outer s H vs Q E hr h => ?_)
  · obtain ⟨a, s, pn, G, R, rfl, _⟩ := h
    rfl
  obtain ⟨a, st, pn, G, R, rfl, ok, hil, hx, S, q⟩ := h
  refine ⟨_, (pss_one (ps_ret (pe_lc (own := [("body", 1)]) rfl sc_bodies.nd (pi_listK K (pe_df D_inner_bodies (hr.mono (by first | decide | omega)) (pa_cons (pv 0) pa_nil))) (blkOk_by (own := [("body", 1)]) (N := N_bodies) (sc := defScope s_bodies) (by decide +kernel)) (fun _ _ _ _ _ => (pg_name (i := 1) sc_bodies.nd rfl (by first | exact Or.inl rfl | exact Or.inr rfl))) (fun _ _ _ _ _ => pts_nil) (fun _ _ _ _ _ => (pe_callTy (r := cList K) call_list_of (by rfl) T.z_list (by decide +kernel) (pa_cons (pv 1) pa_nil)))))), ?_⟩
  walk_at "go"
  refine ⟨a, st, pn, G, R, rfl, ok, hil, hx, S, fun p xs H hxs S => ?_⟩
  obtain ⟨P0, rfl⟩ : ∃ z, z = p := ⟨p, rfl⟩
  have hxl : xs.length = st.inner.length := by rw [dpall_len hxs, List.length_map]
  refine r_lc_list (xs := xs) (fun i acc Ps => ∃ bl : List (Addr × List V), acc = bl.map (fun e => .ref e.1) ∧ bl.length = i ∧ Bl K G bl (st.inner.take i) ∧ Ps = pt P0 (.lst xs) :: big bl :: hp G :: R) (S.cons_mono fun _ => big_nil) ⟨[], rfl, rfl, by rw [List.take_zero]; exact .nil, rfl⟩ (fun D i acc Ps H hi ⟨_, _, _, _, e⟩ S => by subst e; walk_at "sq") (.of S.hd_at) ?_ ?_
  · rintro D i x acc Ps H hi ⟨bl, rfl, hbl, hbb, rfl⟩ S
    obtain ⟨d, hd, hxd⟩ := dpall_at hxs hi
    rw [List.getElem?_map] at hd
    cases eb : st.inner[i]? with
    | none => rw [eb] at hd; cases hd
    | some bd =>
    rw [eb] at hd
    cases hd
    have hi2 := (List.getElem?_eq_some_iff.mp eb).1
    obtain ⟨t, et⟩ := bdy_enc bd
    rw [et] at hxd
    obtain ⟨xa, ys, rfl, hys, hda⟩ := dp_sqInv hxd
    walk_at "go"
    refine ⟨rfl, ?_⟩
    walk_at "go"
    refine ⟨xa, ys, rfl, sq_le (hp_le (S.s1 (A := hp G) (by walk_at "sel"))) hys, fun N np => ?_⟩
    have S := S.new (.lst ys) np
    have S : Sep (big (bl ++ [(N, ys)]) :: pt D (.lst (bl.map fun e => .ref e.1)) :: pt P0 (.lst xs) :: hp G :: R) _ := big_add (S.s5 (A := pt N (.lst ys)) (B := big bl) (C := pt D (.lst (bl.map fun e => .ref e.1))) (D := pt P0 (.lst xs)) (E := hp G) (by walk_at "sel"))
    refine cn_in (Ps := pt P0 (.lst xs) :: big (bl ++ [(N, ys)]) :: hp G :: R) (S.s4 (A := pt D (.lst (bl.map fun e => .ref e.1))) (B := pt P0 (.lst xs)) (C := big (bl ++ [(N, ys)])) (D := hp G) (by walk_at "sel")) (by rw [List.length_map]; omega) ⟨bl ++ [(N, ys)], by rw [List.map_append]; rfl, by rw [List.length_append, hbl]; rfl, ?_, rfl⟩
    rw [List.take_add_one, eb]
    exact Paired.snoc hbb hda
  · rintro D acc Ps H ⟨bl, rfl, hbl, hbb, rfl⟩ S
    rw [hxl, List.take_length] at hbb
    walk_at "go"
    exact q D bl H hbb (S.s3 (A := pt D (.lst (bl.map fun e => .ref e.1))) (B := big bl) (C := hp G) (by walk_at "sel"))
theorem sc_l_inner : FnScope N_l_inner ["_law_statement"] (defScope s_l_inner) := ⟨rfl, rfl, rfl, by decide +kernel, rfl, by decide +kernel, by decide +kernel⟩
def innerD (s : Stm) : PyData := .list (s.inner.map fun b => .list (b.list.map Stm.enc))
def spLinner (K : PySem.W.Frag) : Sp := fun vs H Q _ => ∃ (a : Addr) (s : Stm) (pn : Str → Prop) (G : Hp) (R : List SP), vs = [.ref a] ∧ s.Ok pn ∧ s.inner.length ≤ 1000 ∧ Dp K G (.ref a) s.enc ∧ Sep (hp G :: R) H ∧
  ∀ p (ls : List Addr) xss G' H', Le G G' → G' p = some (.lst (ls.map V.ref)) → Paired (fun l xs => G' l = some (.lst xs)) ls xss → Paired (fun xs (b : Bdy) => DpAll K G' xs (b.list.map Stm.enc)) xss s.inner → Dp K G' (.ref p) (innerD s) → Sep (hp G' :: R) H' → Q (.ref p) H'
theorem ok_l_inner {f : Addr} (F : Dt K mg "_law_inner" s_l_inner ["_law_statement"] f) (T : Tx K mg f_NAMES_IN f_MAKING f_COPYING f_SHARING) : Df P w K mg base 1 "_law_inner" f ["_law_statement"] (spLinner K) := by
  refine F.ok sc_l_inner (fun vs H Q E h => ?_) (fun cdv A outer s H vs Q E hr h => ?_)
  · obtain ⟨a, s, pn, G, R, rfl, _⟩ := h
    rfl
  obtain ⟨a, st, pn, G, R, rfl, ok, hil, hx, S, q⟩ := h
  refine ⟨_, (pss_cons (ps_if (pt_cmpR (r := rEqA K) (op_eqA hr.units) (pe_ix (r := rIx K) ix_seq (pv 0) pe_int (fun _ _ => rfl)) pe_str (nomark _)) (pss_one (ps_ret (pe_lc (own := [("_law_body", 1)]) rfl sc_l_inner.nd (pi_anyK K (pe_ix (r := rIx K) ix_seq (pv 0) pe_int (fun _ _ => rfl))) (blkOk_by (own := [("_law_body", 1)]) (N := N_l_inner) (sc := defScope s_l_inner) (by decide +kernel)) (fun _ _ _ _ _ => (pg_name (i := 1) sc_l_inner.nd rfl (by first | exact Or.inl rfl | exact Or.inr rfl))) (fun _ _ _ _ _ => pts_nil) (fun _ _ _ _ _ => (pe_callTy (r := cList K) call_list_of (by rfl) T.z_list (by decide +kernel) (pa_cons (pv 1) pa_nil)))))) pss_nil)
      (pss_one (ps_ret (pe_ifExp (pt_cmpR (r := rEqA K) (op_eqA hr.units) (pe_ix (r := rIx K) ix_seq (pv 0) pe_int (fun _ _ => rfl)) pe_str (nomark _)) (pe_lst (pa_cons (pe_callTy (r := cList K) call_list_of (by rfl) T.z_list (by decide +kernel) (pa_cons (pe_ix (r := rIx K) ix_seq (pv 0) pe_int (fun _ _ => rfl)) pa_nil)) pa_nil)) (pe_lst pa_nil))))), ?_⟩
  obtain ⟨a', xs, e, hs, hm⟩ := stm_sq hx
  cases e
  have hs := hp_sqT S hs
  have fin : ∀ {p : Addr} {ls : List Addr} {xss : List (List V)} {G1 H : Hp}, Le G G1 → Paired (fun l xs => G1 l = some (.lst xs)) ls xss → Paired (fun xs (b : Bdy) => DpAll K G1 xs (b.list.map Stm.enc)) xss st.inner → Sep (pt p (.lst (ls.map V.ref)) :: hp G1 :: R) H → Q (.ref p) H := fun {p ls xss G1 H} le1 h1 h2 S => by
    obtain ⟨G2, le2, e2, S⟩ := hp_add S
    have h1 := paired_imp (fun a b z => le2 _ _ z) h1
    have h2 := paired_imp (fun a b z => DpAll.le le2 _ _ z) h2
    refine q p ls xss G2 H (le1.tr le2) e2 h1 h2 (.lst (SqL.of e2) ?_) S
    exact lists_dp h1 h2
  walk_at "go"
  refine q_ixT hs (atI_nat (j := 0) rfl) ?_
  walk_at "go"
  refine r_eqS ?_
  walk_at "go"
  by_cases e1 : st.word = ("either" : Str)
  · obtain ⟨t, bs, rfl⟩ : ∃ t bs, st = .either t bs := by
      cases st with
      | either t bs => exact ⟨t, bs, rfl⟩
      | two wd v u => rw [Stm.Ok] at ok; exact absurd e1 (w2_ne _ ok.1).1
      | one wd v => rw [Stm.Ok] at ok; exact absurd e1 (w1_ne _ ok.1).1
      | loop b => exact absurd (show ("loop" : Str) = "either" from e1) (by decide)
      | call v f t as => exact absurd (show ("call" : Str) = "either" from e1) (by decide)
    refine iteT ?_
    obtain ⟨y, rfl, hy⟩ := hm
    obtain ⟨ya, ys, rfl, hys, hda⟩ := dp_sqInv hy
    have hyl : ys.length = bs.length := by rw [dpall_len hda, List.length_map]
    rw [Stm.inner] at hil fin
    walk_at "go"
    refine r_lc_any (G := G) (xs := ys) (fun i acc Ps => ∃ (ls : List Addr) (xss : List (List V)) (Gj : Hp), acc = ls.map V.ref ∧ ls.length = i ∧ Le G Gj ∧ Paired (fun l xs => Gj l = some (.lst xs)) ls xss ∧ Paired (fun xs (b : Bdy) => DpAll K Gj xs (b.list.map Stm.enc)) xss (bs.take i) ∧ Ps = hp Gj :: R) hys S ⟨[], [], G, rfl, rfl, Le.rfl, .nil, by rw [List.take_zero]; exact .nil, rfl⟩ (fun D i acc2 Ps H hi ⟨_, _, _, _, _, le2, _, _, e⟩ S => by subst e; exact le2.tr (hp_le S.tl)) (hp_le S) ?_ ?_
    · rintro D i x acc Ps H hi ⟨ls, xss, Gj, rfl, hll, le2, h1, h2, rfl⟩ S
      obtain ⟨d, hd, hxd⟩ := dpall_at hda hi
      rw [List.getElem?_map] at hd
      cases eb : bs[i]? with
      | none => rw [eb] at hd; cases hd
      | some bd =>
      rw [eb] at hd
      cases hd
      have hi2 := (List.getElem?_eq_some_iff.mp eb).1
      obtain ⟨t2, et⟩ := bdy_enc bd
      rw [et] at hxd
      obtain ⟨xa, zs, rfl, hzs, hdz⟩ := dp_sqInv (Dp.le le2 _ _ hxd)
      walk_at "go"
      refine ⟨rfl, ?_⟩
      walk_at "go"
      refine ⟨xa, zs, rfl, sq_le (hp_le (S.s1 (A := hp Gj) (by walk_at "sel"))) hzs, fun N np => ?_⟩
      have S := S.new (.lst zs) np
      obtain ⟨G4, le4, e4, S⟩ := hp_add (S.s3 (A := pt N (.lst zs)) (B := hp Gj) (C := pt D (.lst (ls.map V.ref))) (by walk_at "sel"))
      refine cn_in (Ps := hp G4 :: R) (S.s2 (A := pt D (.lst (ls.map V.ref))) (B := hp G4) (by walk_at "sel")) (by rw [List.length_map]; omega) ⟨ls ++ [N], xss ++ [zs], G4, by rw [List.map_append]; rfl, by rw [List.length_append, hll]; rfl, le2.tr le4, Paired.snoc (paired_imp (fun a b z => le4 _ _ z) h1) e4, ?_, rfl⟩
      rw [List.take_add_one, eb]
      exact Paired.snoc (paired_imp (fun a b z => DpAll.le le4 _ _ z) h2) (DpAll.le le4 _ _ hdz)
    · rintro D acc Ps H ⟨ls, xss, Gj, rfl, hll, le2, h1, h2, rfl⟩ S
      rw [hyl, List.take_length] at h2
      walk_at "go"
      exact fin le2 h1 h2 S
  refine iteDN e1 ?_
  walk_at "go"
  refine q_ixT hs (atI_nat (j := 0) rfl) ?_
  walk_at "go"
  refine r_eqS ?_
  walk_at "go"
  by_cases e2 : st.word = ("loop" : Str)
  · obtain ⟨b, rfl⟩ : ∃ b, st = .loop b := by
      cases st with
      | loop b => exact ⟨b, rfl⟩
      | two wd v u => rw [Stm.Ok] at ok; exact absurd e2 (w2_ne _ ok.1).2.1
      | one wd v => rw [Stm.Ok] at ok; exact absurd e2 (w1_ne _ ok.1).2.1
      | either t bs => exact absurd (show ("either" : Str) = "loop" from e2) (by decide)
      | call v f t as => exact absurd (show ("call" : Str) = "loop" from e2) (by decide)
    refine iteT ?_
    obtain ⟨y, rfl, hy⟩ := hm
    obtain ⟨t, et⟩ := bdy_enc b
    rw [et] at hy
    obtain ⟨ya, ys, rfl, hys, hda⟩ := dp_sqInv hy
    walk_at "go"
    refine ⟨ya, ys, rfl, sq_le (hp_le S) hys, fun N np => ?_⟩
    have S := S.new (.lst ys) np
    walk_at "go"
    obtain ⟨G4, le4, e4, S⟩ := hp_add (S.s3 (A := pt N (.lst ys)) (B := hp G) (C := pt p (.lst [.ref N])) (by walk_at "sel"))
    exact fin (ls := [N]) (xss := [ys]) le4 (.cons e4 .nil) (.cons (DpAll.le le4 _ _ hda) .nil) (S.s2 (A := pt p (.lst [.ref N])) (B := hp G4) (by walk_at "sel"))
  refine iteDN e2 ?_
  have e3 : st.inner = [] := by
    cases st with
    | either t bs => exact absurd rfl e1
    | loop b => exact absurd rfl e2
    | two wd v u => rfl
    | one wd v => rfl
    | call v f t as => rfl
  rw [e3] at fin
  walk_at "go"
  exact fin (ls := []) (xss := []) Le.rfl .nil .nil S
end
end Pf

set_option Elab.async false
set_option linter.all false
set_option maxRecDepth 100000
set_option maxHeartbeats 8000000
namespace Pf
open PySem L2 Kt
set_option hygiene false
local macro_rules | `(tactic| walk_at "mem") => `(tactic| (with_reducible (repeat (first | exact Pick.hd | apply Pick.tl)); done))
local macro_rules | `(tactic| walk_at "rep") => `(tactic| (with_reducible (repeat (first | exact Repl.hd | apply Repl.tl)); done))
local macro_rules | `(tactic| walk_at "sel") => `(tactic| ((repeat (with_reducible apply Sel.cons; (focus walk_at "mem"))); (with_reducible apply Sel.nil); (with_reducible (repeat (first | exact Dr.all | apply Dr.skip)); done)))
local macro_rules | `(tactic| walk_at "at") => `(tactic| (refine' Sep.at_ (by assumption) ?kkpk; (case kkpk => walk_at "mem")))
local macro_rules | `(tactic| walk_at "sq") => `(tactic| first | assumption | (refine' Sep.sq (by assumption) ?kkpk; (case kkpk => walk_at "mem")))
local macro_rules | `(tactic| walk_at "st") => `(tactic| first | assumption | (refine' Sep.st (by assumption) ?kkpk; (case kkpk => walk_at "mem")))
local macro_rules | `(tactic| walk_at "lk") => `(tactic| (repeat (first | (with_reducible exact lk_eq) | exact rfl | refine (lk_ne (by decide +kernel)).trans ?_)))
local macro_rules | `(tactic| walk_at "pf") => `(tactic| (repeat (first | (with_reducible exact pf_nil) | (with_reducible exact pf_eq) | (apply pf_ne; (focus decide +kernel)))))
local macro_rules | `(tactic| walk_at "ty") => `(tactic| first | exact ty_int | (refine' ty_lst ?kkh; (case kkh => walk_at "at")))
local macro_rules | `(tactic| walk_at "k1") => `(tactic| with_reducible first
  | refine q_seq ?_ | refine q_set ?_ | refine q_asg ?_ | refine q_ret ?_ | refine q_drop ?_ | refine q_next ?_ | refine q_c ?_ | refine q_op ?_ | refine q_un ?_ | refine q_nil ?_ | refine q_cons ?_ | refine q_cb ?_
  | refine q_call ?_ | refine q_ifs ?_ | refine q_if ?_ | refine q_test ?_ | refine q_tb ?_ | refine q_bl ?_ | refine q_notT ?_ | refine q_andT ?_ | refine q_orT ?_ | refine q_andV ?_ | refine q_orV ?_ | refine q_notV ?_
  | refine q_addA ?_ | refine q_subI ?_ | refine q_ltI ?_ | refine q_leI ?_ | refine q_gtI ?_ | refine q_geI ?_ | refine q_eqI ?_ | refine q_neI ?_ | refine q_abs ?_ | refine q_int ?_ | refine q_intB ?_ | refine q_max ?_ | refine q_min ?_
  | refine q_ipAdd ?_ | refine q_ipSub ?_ | refine q_gsub ?_ | refine q_augs ?_ | refine q_lst ?_ | refine q_tup ?_ | refine q_blI ?_ | refine iteT ?_ | refine iteF ?_ | refine iteNT ?_ | refine iteNF ?_
  | refine r_prop ?_ | refine r_fld ?_ | refine r_sfld ?_ | refine r_meth ?_ | refine r_make ?_ | refine r_sl ?_ | refine r_nopart ?_ | refine r_part ?_ | refine r_parti ?_ | refine r_gsl ?_ | refine r_bm ?_ | refine r_bm0 ?_ | refine r_for ?_ | refine r_ilist ?_ | refine r_irng ?_
  | refine r_gname ?_ | refine r_gcons ?_ | refine r_gnil ?_ | refine r_par ?_ | refine r_parA ?_ | refine r_chain ?_ | refine r_isN ?_ | refine r_tlc ?_ | refine r_yes ?_ | refine r_makek ?_ | refine r_neg ?_)
local macro_rules | `(tactic| walk_at "k2") => `(tactic| first
  | ((with_reducible refine' q_var ?kke ?_); (case kke => rfl))
  | ((with_reducible refine' q_aug ?kke ?_); (case kke => rfl))
  | ((with_reducible refine' q_ixL ?kks ?kke ?_); (case kks => walk_at "sq"); (case kke => first | rfl | assumption))
  | ((with_reducible refine' q_ixT ?kks ?kke ?_); (case kks => walk_at "st"); (case kke => first | rfl | assumption))
  | ((with_reducible refine' q_ixLL ?kks ?kke ?_); (case kks => walk_at "sq"); (case kke => first | rfl | assumption))
  | ((with_reducible refine' q_lenL ?kks ?_); (case kks => walk_at "sq"))
  | ((with_reducible refine' q_mulI ?kkc ?_); (case kkc => first | exact .inl (by omega) | exact .inr (by omega)))
  | ((with_reducible refine' q_modI ?kkc ?_); (case kkc => omega))
  | ((with_reducible refine' q_divI ?kkc ?_); (case kkc => exact ⟨by omega, by omega⟩))
  | ((with_reducible refine' q_powI ?kkc ?_); (case kkc => exact ⟨by decide, by decide, by decide⟩))
  | ((with_reducible refine' r_kfld ?kkS ?kkp ?kkc ?kkn ?kkl ?_); (case kkS => assumption); (case kkp => walk_at "mem"); (case kkc => walk_at "cls"); (case kkn => walk_at "na"); (case kkl => walk_at "lk"))
  | ((with_reducible refine' r_kprop ?kkS ?kkp ?_); (case kkS => assumption); (case kkp => walk_at "mem"))
  | ((with_reducible refine' r_kmeth ?kkS ?kkp ?kkl ?_); (case kkS => assumption); (case kkp => walk_at "mem"); (case kkl => walk_at "lk"))
  | ((with_reducible refine' r_calll ?kks ?_); (case kks => rfl))
  | ((with_reducible refine' r_tyl ?kks ?_); (case kks => walk_at "sq"))
  | ((with_reducible refine' r_isi (k := true) ?kkt ?kke ?_); (case kkt => walk_at "ty"); (case kke => decide +kernel))
  | ((with_reducible refine' r_isi (k := false) ?kkt ?kke ?_); (case kkt => walk_at "ty"); (case kke => decide +kernel)))
local macro_rules | `(tactic| walk_at "k3") => `(tactic| first
  | ((with_reducible refine' q_setS ?kkS ?kkr ?kke ?_); (case kkS => assumption); (case kkr => walk_at "rep"); (case kke => rfl); intro H S)
  | ((with_reducible refine' r_kset ?kkS ?kkr ?kkc ?kkn ?kkl ?kke ?_); (case kkS => assumption); (case kkr => walk_at "rep"); (case kkc => walk_at "cls"); (case kkn => walk_at "na"); (case kkl => first | exact Nat.le_of_ble_eq_true rfl | assumption | omega | (simp; done) | (simp; omega)); (case kke => walk_at "pf"); intro H S)
  | ((with_reducible refine' q_new ?kkS ?kkl ?_); (case kkS => assumption); (case kkl => first | exact Nat.le_of_ble_eq_true rfl | assumption | omega | (simp; done) | (simp; omega)); intro p H S)
  | ((with_reducible refine' q_newT ?kkS ?kkl ?_); (case kkS => assumption); (case kkl => first | exact Nat.le_of_ble_eq_true rfl | assumption | omega | (simp; done) | (simp; omega)); intro p H S)
  | ((with_reducible refine' r_knew ?kkS ?_); (case kkS => assumption); intro x dx H S)
  | ((with_reducible refine' r_knewk ?kkS ?kkl1 ?kkl2 ?_); (case kkS => assumption); (case kkl1 => rfl); (case kkl2 => rfl); intro x dx H S)
  | ((with_reducible refine' r_ksl ?kkS ?kks ?_); (case kkS => assumption); (case kks => walk_at "sq"); intro p H S)
  | ((with_reducible refine' r_list ?kkS ?kks ?_); (case kkS => assumption); (case kks => walk_at "sq"); intro p H S)
  | ((with_reducible refine' r_cat ?kkS ?kks1 ?kks2 ?kkz ?_); (case kkS => assumption); (case kks1 => walk_at "at"); (case kks2 => walk_at "at"); (case kkz => first | omega | (simp; omega)); intro p H S)
  | ((with_reducible refine' r_append ?kkS ?kkr ?kkz ?_); (case kkS => assumption); (case kkr => walk_at "rep"); (case kkz => first | omega | (simp; omega)); intro H S)
  | ((with_reducible refine' r_reverse ?kkS ?kkr ?_); (case kkS => assumption); (case kkr => walk_at "rep"); intro H S)
  | ((with_reducible refine' r_clear ?kkS ?kkr ?_); (case kkS => assumption); (case kkr => walk_at "rep"); intro H S))
local macro_rules | `(tactic| walk_at "gn") => `(tactic| repeat (first | walk_at "k1" | walk_at "k2"))
local macro_rules | `(tactic| walk_at "go") => `(tactic| repeat (first | walk_at "k1" | walk_at "k2" | walk_at "k3"))

local macro_rules | `(tactic| walk_at "sq") => `(tactic| first | assumption | (refine' Sep.sq ?kkS ?kkpk; (case kkS => assumption); (case kkpk => walk_at "mem")) | (refine' hp_sqL ?kkS ?kkx; (case kkS => assumption); (case kkx => assumption)) | (refine' hp_sqL (Sep.tl ?kkS) ?kkx; (case kkS => assumption); (case kkx => assumption)) | (refine' hp_sqL (Sep.tl (Sep.tl ?kkS)) ?kkx; (case kkS => assumption); (case kkx => assumption)))
local macro_rules | `(tactic| walk_at "st") => `(tactic| first | assumption | (refine' Sep.st ?kkS ?kkpk; (case kkS => assumption); (case kkpk => walk_at "mem")) | (refine' hp_sqT ?kkS ?kkx; (case kkS => assumption); (case kkx => assumption)) | (refine' hp_sqT (Sep.tl ?kkS) ?kkx; (case kkS => assumption); (case kkx => assumption)) | (refine' hp_sqT (Sep.tl (Sep.tl ?kkS)) ?kkx; (case kkS => assumption); (case kkx => assumption)))
local macro_rules | `(tactic| walk_at "k1") => `(tactic| with_reducible first | refine r_ienumT ?_ | refine r_tru ?_ | refine r_itup ?_ | refine r_star ?_ | refine r_par3 ?_ | refine r_parA3 ?_ | refine r_dget ?_ | refine r_din ?_ | refine r_dnotin ?_ | refine r_dput ?_)

local macro_rules | `(tactic| walk_at "k1") => `(tactic| with_reducible first | refine r_kget ?_ | refine r_orT ?_ | refine r_slA ?_ | refine r_m1 ?_ | refine r_isS ?_)
local macro_rules | `(tactic| walk_at "k1") => `(tactic| with_reducible refine r_iany ?_)

def nmW : List Str := ["set", "keep", "look", "either", "loop"]
def nrW : List Str := ["new", "either", "loop"]
theorem nm1 : ∀ x ∈ w1S, (x ∈ nmW ↔ x ≠ ("new" : Str)) := by decide +kernel
theorem nm2 : ∀ x ∈ w2S, x ∉ nmW := by decide +kernel
theorem nr2 : ∀ x ∈ w2S, x ∉ nrW := by decide +kernel
section
variable {P : Program} {w : World} {K : PySem.W.Frag} {mg : Str → Option Value} {base : Heap} {f_NAMES_IN f_MAKING f_COPYING f_SHARING : Addr}
theorem sc_l_made : FnScope N_l_made ["_law_statement"] (defScope s_l_made) := ⟨rfl, rfl, rfl, by decide +kernel, rfl, by decide +kernel, by decide +kernel⟩
theorem ok_l_made {f : Addr} (F : Dt K mg "_law_made" s_l_made ["_law_statement"] f) (T : Tx K mg f_NAMES_IN f_MAKING f_COPYING f_SHARING) : Df P w K mg base 1 "_law_made" f ["_law_statement"] (spMade K) := by
  refine F.ok sc_l_made (fun vs H Q E h => ?_) (fun cdv A outer s H vs Q E hr h => ?_)
  · obtain ⟨a, s, pn, G, R, rfl, _⟩ := h
    rfl
  obtain ⟨a, st, pn, G, R, rfl, ok, hx, S, q⟩ := h
  refine ⟨_, (pss_one (ps_ret (pe_ifExp (pt_cmpR (r := rIn K true) op_notIn_seq (pe_ix (r := rIx K) ix_seq (pv 0) pe_int (fun _ _ => rfl)) (pe_tup (pa_cons pe_str (pa_cons pe_str (pa_cons pe_str (pa_cons pe_str (pa_cons pe_str pa_nil)))))) (by rfl)) (pe_ix (r := rIx K) ix_seq (pv 0) pe_int (fun _ _ => rfl)) pe_non))), ?_⟩
  obtain ⟨a', xs, e, hs, hm⟩ := stm_sq hx
  cases e
  have hG := hs
  have hs := hp_sqT S hs
  walk_at "go"
  refine q_ixT hs (atI_nat (j := 0) rfl) ?_
  walk_at "go"
  have S : Sep (pt p (.tup (nmW.map V.str)) :: hp G :: R) H := S
  refine r_notin_strs (.inr (by walk_at "st")) ?_
  walk_at "go"
  have hs2 := hp_sqT S.tl hG
  cases st with
  | call v f t as =>
    refine q_iteN (fun _ => ?_) (fun h => absurd (show ("call" : Str) ∈ nmW from h) (by decide))
    obtain ⟨y, rfl, hy⟩ := hm
    walk_at "go"
    exact q H S.tl
  | either t bs =>
    refine q_iteN (fun h => absurd (show ("either" : Str) ∈ nmW by decide) h) (fun _ => ?_)
    walk_at "go"
    exact q H S.tl
  | loop b =>
    refine q_iteN (fun h => absurd (show ("loop" : Str) ∈ nmW by decide) h) (fun _ => ?_)
    walk_at "go"
    exact q H S.tl
  | two wd v u =>
    subst hm
    rw [Stm.Ok] at ok
    refine q_iteN (fun _ => ?_) (fun h => absurd h (nm2 _ ok.1))
    walk_at "go"
    exact q H S.tl
  | one wd v =>
    subst hm
    rw [Stm.Ok] at ok
    rw [madeV] at q
    by_cases e : wd = "new"
    · rw [if_pos e] at q
      refine q_iteN (fun _ => ?_) (fun h => absurd e ((nm1 _ ok.1).mp h))
      walk_at "go"
      exact q H S.tl
    · rw [if_neg e] at q
      refine q_iteN (fun h => absurd ((nm1 _ ok.1).mpr e) h) (fun _ => ?_)
      walk_at "go"
      exact q H S.tl
theorem sc_l_read : FnScope N_l_read ["_law_statement"] (defScope s_l_read) := ⟨rfl, rfl, rfl, by decide +kernel, rfl, by decide +kernel, by decide +kernel⟩
theorem ok_l_read {f : Addr} (F : Dt K mg "_law_read" s_l_read ["_law_statement"] f) (T : Tx K mg f_NAMES_IN f_MAKING f_COPYING f_SHARING) : Df P w K mg base 1 "_law_read" f ["_law_statement"] (spRead K) := by
  refine F.ok sc_l_read (fun vs H Q E h => ?_) (fun cdv A outer s H vs Q E hr h => ?_)
  · obtain ⟨a, s, pn, G, R, rfl, _⟩ := h
    rfl
  obtain ⟨a, st, pn, G, R, rfl, ok, hl, hx, S, q⟩ := h
  refine ⟨_, (pss_cons (ps_set (i := 1) sc_l_read.nd rfl (by first | exact Or.inl rfl | exact Or.inr rfl) (pe_ix (r := rIx K) ix_seq (pv 0) pe_int (fun _ _ => rfl)))
      (pss_cons (ps_if (pt_cmpR (r := rIn K false) op_in_seq (pv 1) (pe_tup (pa_cons pe_str (pa_cons pe_str (pa_cons pe_str pa_nil)))) (by rfl)) (pss_one (ps_ret (pe_lst (pa_cons (pe_ix (r := rIx K) ix_seq (pv 0) pe_int (fun _ _ => rfl)) pa_nil)))) pss_nil)
      (pss_cons (ps_if (pt_cmpR (r := rEqA K) (op_eqA hr.units) (pv 1) pe_str (nomark _)) (pss_one (ps_ret (pe_callB (r := rSortB K P w) (cr_sortB rfl hr.units) (by rfl) T.z_sorted (by decide +kernel) (pa_cons (pe_callTy (r := rSetB K P w) (cr_setB rfl) (by rfl) T.z_set (by decide +kernel) (pa_cons (pe_ix (r := rIx K) ix_seq (pv 0) pe_int (fun _ _ => rfl)) pa_nil)) pa_nil)))) pss_nil)
      (pss_one (ps_ret (pe_ifExp (pt_cmpR (r := rIn K false) op_in_seq (pv 1) (pe_tup (pa_cons pe_str (pa_cons pe_str (pa_cons pe_str pa_nil)))) (by rfl)) (pe_lst pa_nil) (pe_lst (pa_cons (pe_ix (r := rIx K) ix_seq (pv 0) pe_int (fun _ _ => rfl)) pa_nil)))))))), ?_⟩
  obtain ⟨a', xs, e, hs, hm⟩ := stm_sq hx
  cases e
  have hG := hs
  have hs := hp_sqT S hs
  walk_at "go"
  refine q_ixT hs (atI_nat (j := 0) rfl) ?_
  walk_at "go"
  have S : Sep (pt p (.tup (rdW.map V.str)) :: hp G :: R) H := S
  refine r_in_strs (.inr (by walk_at "st")) ?_
  walk_at "go"
  have S := S.tl
  have hs := hp_sqT S hG
  cases st with
  | call v f t as =>
    refine iteDN (show ("call" : Str) ∉ rdW by decide) ?_
    walk_at "go"
    refine r_eqS ?_
    walk_at "go"
    refine iteT ?_
    obtain ⟨y, rfl, hy⟩ := hm
    obtain ⟨ya, ys, rfl, hys, hda⟩ := dp_sqInv hy
    rw [dpall_strsInv hda] at hys
    walk_at "go"
    refine .inr (r_setX S (sq_le (hp_le S) hys) (by simp [Stm.own] at hl; omega) fun sp ks H nd hm hk S => ?_)
    walk_at "go"
    refine .inr (r_sortSetX S S.hd_at (by simp [Stm.own] at hl; omega) fun p H S => ?_)
    rw [set_eq nd hm] at S
    exact q p H (S.s2 (A := pt p (.lst ((setS as).map V.str))) (B := hp G) (by walk_at "sel"))
  | either t bs =>
    refine iteDN (show ("either" : Str) ∉ rdW by decide) ?_
    walk_at "go"
    refine r_eqS ?_
    walk_at "go"
    refine iteF ?_
    walk_at "go"
    have S : Sep (pt p (.tup (nrW.map V.str)) :: hp G :: R) H := S
    refine r_in_strs (.inr (by walk_at "st")) ?_
    walk_at "go"
    refine iteD (show ("either" : Str) ∈ nrW by decide) ?_
    walk_at "go"
    exact q _ H (S.s2 (A := pt p (.lst [])) (B := hp G) (by walk_at "sel"))
  | loop b =>
    refine iteDN (show ("loop" : Str) ∉ rdW by decide) ?_
    walk_at "go"
    refine r_eqS ?_
    walk_at "go"
    refine iteF ?_
    walk_at "go"
    have S : Sep (pt p (.tup (nrW.map V.str)) :: hp G :: R) H := S
    refine r_in_strs (.inr (by walk_at "st")) ?_
    walk_at "go"
    refine iteD (show ("loop" : Str) ∈ nrW by decide) ?_
    walk_at "go"
    exact q _ H (S.s2 (A := pt p (.lst [])) (B := hp G) (by walk_at "sel"))
  | two wd v u =>
    subst hm
    rw [Stm.Ok] at ok
    refine iteDN (rd2 _ ok.1) ?_
    walk_at "go"
    refine r_eqS ?_
    walk_at "go"
    refine iteDN (w2_ne _ ok.1).2.2.1 ?_
    walk_at "go"
    have S : Sep (pt p (.tup (nrW.map V.str)) :: hp G :: R) H := S
    refine r_in_strs (.inr (by walk_at "st")) ?_
    walk_at "go"
    refine iteDN (nr2 _ ok.1) ?_
    have S := S.tl
    have hs2 := hp_sqT S hG
    walk_at "go"
    exact q _ H (S.s2 (A := pt p (.lst [.str u])) (B := hp G) (by walk_at "sel"))
  | one wd v =>
    subst hm
    rw [Stm.Ok] at ok
    rw [readS] at q
    by_cases e : wd = "new"
    · rw [if_pos e] at q
      subst e
      refine iteDN (fun z => (rd1 _ ok.1).mp z rfl) ?_
      walk_at "go"
      refine r_eqS ?_
      walk_at "go"
      refine iteDN (w1_ne _ ok.1).2.2.1 ?_
      walk_at "go"
      have S : Sep (pt p (.tup (nrW.map V.str)) :: hp G :: R) H := S
      refine r_in_strs (.inr (by walk_at "st")) ?_
      walk_at "go"
      refine iteD (show ("new" : Str) ∈ nrW by decide) ?_
      walk_at "go"
      exact q _ H (S.s2 (A := pt p (.lst [])) (B := hp G) (by walk_at "sel"))
    · rw [if_neg e] at q
      refine iteD ((rd1 _ ok.1).mpr e) ?_
      walk_at "go"
      exact q _ H (S.s2 (A := pt p (.lst [.str v])) (B := hp G) (by walk_at "sel"))
theorem sc_l_turned : FnScope N_l_turned ["_law_statement", "_law_words", "_law_others"] (defScope s_l_turned) := ⟨rfl, rfl, rfl, by decide +kernel, rfl, by decide +kernel, by decide +kernel⟩
structure Turns (ws os : List Str) (g : Str → Option Str) : Prop where
  nd : ws.Nodup
  sub : ∀ x ∈ ws, x ∈ w2S
  at_ : ∀ x ∈ ws, ∃ (j : Nat) (y : Str), ws[j]? = some x ∧ os[j]? = some y ∧ g x = some y
  no : ∀ x ∈ w2S, x ∉ ws → g x = none
def spTurned (K : PySem.W.Frag) : Sp := fun vs H Q _ => ∃ (a wa oa : Addr) (ws os : List Str) (g : Str → Option Str) (s : Stm) (pn : Str → Prop) (G : Hp) (R : List SP), vs = [.ref a, .ref wa, .ref oa] ∧ s.Ok pn ∧ Turns ws os g ∧ SqL K G wa (ws.map V.str) ∧ SqL K G oa (os.map V.str) ∧ Dp K G (.ref a) s.enc ∧ Sep (hp G :: R) H ∧
  ∀ v G' H', Le G G' → Dp K G' v (dOptS (turnS g s)) → Sep (hp G' :: R) H' → Q v H'
theorem ok_l_turned {f : Addr} (F : Dt K mg "_law_turned" s_l_turned ["_law_statement", "_law_words", "_law_others"] f) (T : Tx K mg f_NAMES_IN f_MAKING f_COPYING f_SHARING) : Df P w K mg base 1 "_law_turned" f ["_law_statement", "_law_words", "_law_others"] (spTurned K) := by
  refine F.ok sc_l_turned (fun vs H Q E h => ?_) (fun cdv A outer s H vs Q E hr h => ?_)
  · obtain ⟨a, wa, oa, ws, os, g, s, pn, G, R, rfl, _⟩ := h
    rfl
  obtain ⟨a, wa, oa, ws, os, g, st, pn, G, R, rfl, ok, tu, hwa, hoa, hx, S, q⟩ := h
  refine ⟨_, (pss_one (ps_ret (pe_ifExp (pt_cmpR (r := rIn K false) op_in_seq (pe_ix (r := rIx K) ix_seq (pv 0) pe_int (fun _ _ => rfl)) (pv 1) (by rfl)) (pe_op (r := rCatT K) op_catT (pe_tup (pa_cons (pe_ix (r := rIx K) ix_seq (pv 2) (pe_bmK K PySem.F.plainAttrs_list PySem.F.slot_list_index PySem.F.type_list_index (mt_indexK K) (pv 1) (pa_cons (pe_ix (r := rIx K) ix_seq (pv 0) pe_int (fun _ _ => rfl)) pa_nil)) (fun _ _ => rfl)) pa_nil)) (pe_slice (r := rSlA K) sl_tupA (pv 0) (po_some pe_int) po_none)) pe_non))), ?_⟩
  obtain ⟨a', xs, e, hs, hm⟩ := stm_sq hx
  cases e
  have hG := hs
  have hs := hp_sqT S hs
  have hwS := hp_sqL S hwa
  have hoS := hp_sqL S hoa
  walk_at "go"
  refine q_ixT hs (atI_nat (j := 0) rfl) ?_
  walk_at "go"
  refine r_in_strs (.inl hwS) ?_
  walk_at "go"
  by_cases e1 : st.word ∈ ws
  · refine iteD e1 ?_
    obtain ⟨wd, v, u, rfl⟩ : ∃ wd v u, st = .two wd v u := by
      have m2 := tu.sub _ e1
      cases st with
      | two wd v u => exact ⟨_, _, _, rfl⟩
      | one wd v => rw [Stm.Ok] at ok; exact absurd m2 (w1_ne _ ok.1).2.2.2
      | call v f t as => exact absurd (show ("call" : Str) ∈ w2S from m2) (by decide)
      | either t bs => exact absurd (show ("either" : Str) ∈ w2S from m2) (by decide)
      | loop b => exact absurd (show ("loop" : Str) ∈ w2S from m2) (by decide)
    subst hm
    obtain ⟨j, y, hj, ho, hg⟩ := tu.at_ _ e1
    have et : turnS g (.two wd v u) = some (.two y v u) := by show ((g wd).map _) = _; rw [show g wd = some y from hg]; rfl
    rw [et] at q
    walk_at "go"
    refine r_index hwS tu.nd hj ?_
    refine q_ixL (v := .str y) hoS (atI_nat (by rw [List.getElem?_map, ho]; rfl)) ?_
    walk_at "go"
    obtain ⟨P1, rfl⟩ : ∃ z, z = p := ⟨p, rfl⟩
    refine r_sufT (n := 1) S (hp_sqT (S.s1 (A := hp G) (by walk_at "sel")) hG) (by decide) (by simp) fun p H S => ?_
    have S : Sep (pt p (.tup [.str v, .str u]) :: pt P1 (.tup [.str y]) :: hp G :: R) H := S
    refine ⟨P1, p, [.str y], [.str v, .str u], rfl, rfl, by walk_at "st", by walk_at "st", nofun, show 3 ≤ sizeLine by decide, nofun, fun _ r nr => ?_⟩
    have S := S.new (.tup [.str y, .str v, .str u]) nr
    obtain ⟨G2, le2, hd, S⟩ := hp_tup (K := K) (R := R) (S.s2 (A := pt r (.tup [.str y, .str v, .str u])) (B := hp G) (by walk_at "sel")) (ds := [.str y, .str v, .str u]) (.cons (.str _) (.cons (.str _) (.cons (.str _) .nil)))
    refine q _ G2 _ le2 ?_ S
    show Dp K G2 _ (Stm.enc _)
    rw [Stm.enc]
    exact hd
  · refine iteDN e1 ?_
    have et : turnS g st = none := by
      cases st with
      | two wd v u => rw [Stm.Ok] at ok; show ((g wd).map _) = none; rw [tu.no wd ok.1 e1]; rfl
      | one wd v => rfl
      | call v f t as => rfl
      | either t bs => rfl
      | loop b => rfl
    rw [et] at q
    walk_at "go"
    exact q .non G H Le.rfl .non S
theorem sc_l_told : FnScope N_l_told ["_law_statement"] (defScope s_l_told) := ⟨rfl, rfl, rfl, by decide +kernel, rfl, by decide +kernel, by decide +kernel⟩
def spTold (K : PySem.W.Frag) : Sp := fun vs H Q _ => ∃ (a : Addr) (s : Stm) (pn : Str → Prop) (G : Hp) (R : List SP), vs = [.ref a] ∧ s.Ok pn ∧ s.inner.length ≤ 1000 ∧ s.own.length ≤ 1000 ∧ s.names.length ≤ 1000 ∧ s.size ≤ 1000 ∧ Dp K G (.ref a) s.enc ∧ Sep (hp G :: R) H ∧
  ∀ p pB pR pN bl v4 v5 G' H', Le G G' → Bl K G' bl s.inner → Dp K G' v4 (dOptS (turnS cpF s)) → Dp K G' v5 (dOptS (turnS shF s)) →
    Sep (pt p (.lst [.ref pB, madeV s, .ref pR, .ref pN, v4, v5]) :: pt pB (.lst (bl.map fun e => .ref e.1)) :: big bl :: pt pR (.lst ((readS s).map V.str)) :: pt pN (.lst ((setS s.names).map V.str)) :: hp G' :: R) H' → Q (.ref p) H'
theorem ok_l_told {f f1 f2 f3 f4 f5 f6 : Addr} (F : Dt K mg "_law_told" s_l_told ["_law_statement"] f) (T : Tx K mg f_NAMES_IN f_MAKING f_COPYING f_SHARING) (D_bodies : Df P w K mg base 2 "bodies" f1 ["statement"] (spBodies K)) (D_made : Df P w K mg base 1 "made" f2 ["statement"] (spMade K)) (D_read : Df P w K mg base 1 "read" f3 ["statement"] (spRead K))
    (D_named : Df P w K mg base 2 "named" f4 ["statement"] (spNamed K)) (D_copying : Df P w K mg base 1 "copying" f5 ["statement"] (spTurn K cpF)) (D_sharing : Df P w K mg base 1 "sharing" f6 ["statement"] (spTurn K shF)) : Df P w K mg base 3 "_law_told" f ["_law_statement"] (spTold K) := by
  refine F.ok sc_l_told (fun vs H Q E h => ?_) (fun cdv A outer s H vs Q E hr h => ?_)
  · obtain ⟨a, s, pn, G, R, rfl, _⟩ := h
    rfl
  obtain ⟨a, st, pn, G, R, rfl, ok, hil, hol, hnl, hsz, hx, S, q⟩ := h
  refine ⟨_, (pss_cons (ps_set (i := 1) sc_l_told.nd rfl (by first | exact Or.inl rfl | exact Or.inr rfl) (pe_lst (pa_cons (pe_df D_bodies (hr.mono (by first | decide | omega)) (pa_cons (pv 0) pa_nil)) (pa_cons (pe_df D_made (hr.mono (by first | decide | omega)) (pa_cons (pv 0) pa_nil)) (pa_cons (pe_df D_read (hr.mono (by first | decide | omega)) (pa_cons (pv 0) pa_nil)) (pa_cons (pe_df D_named (hr.mono (by first | decide | omega)) (pa_cons (pv 0) pa_nil)) pa_nil))))))
      (pss_one (ps_ret (pe_op (r := rAddA) op_addA (pv 1) (pe_lst (pa_cons (pe_df D_copying (hr.mono (by first | decide | omega)) (pa_cons (pv 0) pa_nil)) (pa_cons (pe_df D_sharing (hr.mono (by first | decide | omega)) (pa_cons (pv 0) pa_nil)) pa_nil))))))), ?_⟩
  walk_at "go"
  refine ⟨a, st, pn, G, R, rfl, ok, hil, hx, S, fun pB bl H hbl S => ?_⟩
  walk_at "go"
  refine ⟨a, st, pn, G, pt pB (.lst (bl.map fun e => .ref e.1)) :: big bl :: R, rfl, ok, hx, S.s3 (A := hp G) (B := pt pB (.lst (bl.map fun e => .ref e.1))) (C := big bl) (by walk_at "sel"), fun H S => ?_⟩
  walk_at "go"
  refine ⟨a, st, pn, G, _, rfl, ok, hol, hx, S, fun pR H S => ?_⟩
  walk_at "go"
  refine ⟨a, st, pn, G, pt pR (.lst ((readS st).map V.str)) :: pt pB (.lst (bl.map fun e => .ref e.1)) :: big bl :: R, rfl, ok, hnl, hsz, hx, S.s4 (A := hp G) (B := pt pR (.lst ((readS st).map V.str))) (C := pt pB (.lst (bl.map fun e => .ref e.1))) (D := big bl) (by walk_at "sel"), fun pN H S => ?_⟩
  walk_at "go"
  obtain ⟨p1, rfl⟩ : ∃ z, z = p := ⟨p, rfl⟩
  refine ⟨a, st, pn, G, pt p1 (.lst [.ref pB, madeV st, .ref pR, .ref pN]) :: pt pN (.lst ((setS st.names).map V.str)) :: pt pR (.lst ((readS st).map V.str)) :: pt pB (.lst (bl.map fun e => .ref e.1)) :: big bl :: R, rfl, ok, hx, S.s5 (A := hp G) (B := pt p1 (.lst [.ref pB, madeV st, .ref pR, .ref pN])) (C := pt pN (.lst ((setS st.names).map V.str))) (D := pt pR (.lst ((readS st).map V.str))) (E := pt pB (.lst (bl.map fun e => .ref e.1))) (by walk_at "sel"), fun v4 G2 H le2 h4 S => ?_⟩
  walk_at "go"
  refine ⟨a, st, pn, G2, _, rfl, ok, Dp.le le2 _ _ hx, S, fun v5 G3 H le3 h5 S => ?_⟩
  walk_at "go"
  refine r_cat (xs := [.ref pB, madeV st, .ref pR, .ref pN]) (ys := [v4, v5]) S (S.at_ (by walk_at "mem")) (S.at_ (by walk_at "mem")) (show 6 ≤ 100000 by decide) fun p2 H S => ?_
  have S : Sep (pt p2 (.lst [.ref pB, madeV st, .ref pR, .ref pN, v4, v5]) :: _) H := S
  exact q p2 pB pR pN bl v4 v5 G3 H (le2.tr le3) (hbl.le (le2.tr le3)) (Dp.le le3 _ _ h4) h5 (S.s6 (A := pt p2 (.lst [.ref pB, madeV st, .ref pR, .ref pN, v4, v5])) (B := pt pB (.lst (bl.map fun e => .ref e.1))) (C := big bl) (D := pt pR (.lst ((readS st).map V.str))) (E := pt pN (.lst ((setS st.names).map V.str))) (F := hp G3) (by walk_at "sel"))
end
end Pf

set_option Elab.async false
set_option linter.all false
set_option maxRecDepth 100000
set_option maxHeartbeats 8000000
namespace Pf
open PySem L2 Kt
/-! ### statements can be shown -/
theorem weight_mem {d : PyData} : ∀ {ds : List PyData}, d ∈ ds → d.weight ≤ PyData.weightAll ds
  | e :: ds, h => by
    rw [PyData.weightAll]
    rcases List.mem_cons.mp h with rfl | h
    · omega
    · have := weight_mem h
      omega
theorem sh_own {k W : Nat} {d : PyData} (h : Sh k W d) : Sh k d.weight d := ⟨h.ok, h.sh, h.sm, Nat.le_refl _⟩
theorem sh_all1 {k : Nat} {ds : List PyData} (h : ∀ d ∈ ds, ∃ W, Sh k W d) : ∀ d ∈ ds, Sh k (PyData.weightAll ds) d := fun d m => by
  obtain ⟨W, h⟩ := h d m
  exact ⟨h.ok, h.sh, h.sm, weight_mem m⟩
theorem sh_listW {k : Nat} {ds : List PyData} (h : ∀ d ∈ ds, ∃ W, Sh k W d) : ∃ W, Sh (k + 1) W (.list ds) := ⟨_, sh_list (sh_all1 h)⟩
theorem sh_tupleW {k : Nat} {ds : List PyData} (h : ∀ d ∈ ds, ∃ W, Sh k W d) : ∃ W, Sh (k + 1) W (.tuple ds) := ⟨_, sh_tuple (sh_all1 h)⟩
theorem sh_sqW {k : Nat} {t : Bool} {ds : List PyData} (h : ∀ d ∈ ds, ∃ W, Sh k W d) : ∃ W, Sh (k + 1) W (sqD t ds) := by
  unfold sqD
  split
  · exact sh_tupleW h
  · exact sh_listW h
theorem sh_strsW {k : Nat} {l : List Str} (h : ∀ x ∈ l, NmOk x) : ∀ d ∈ l.map PyData.str, ∃ W, Sh k W d := fun d m => by
  obtain ⟨x, mx, rfl⟩ := List.mem_map.mp m
  exact ⟨_, sh_nm (h x mx)⟩
theorem w2_nm : ∀ x ∈ w2S, NmOk x := by
  intro x m
  have : ∀ x ∈ w2S, (decide (1 ≤ x.length) && decide (x.length ≤ 8) && x.cps.toList.all fun c => decide (97 ≤ c) && decide (c ≤ 122)) = true := by decide +kernel
  exact nm_by (this x m)
theorem w1_nm : ∀ x ∈ w1S, NmOk x := by
  intro x m
  have : ∀ x ∈ w1S, (decide (1 ≤ x.length) && decide (x.length ≤ 8) && x.cps.toList.all fun c => decide (97 ≤ c) && decide (c ≤ 122)) = true := by decide +kernel
  exact nm_by (this x m)
theorem call_nm : NmOk "call" := nm_by (by decide +kernel)
theorem either_nm : NmOk "either" := nm_by (by decide +kernel)
theorem loop_nm : NmOk "loop" := nm_by (by decide +kernel)
mutual
theorem stm_sh : ∀ (s : Stm) (d : Nat), s.Ok NmOk → s.dep ≤ d → ∃ W, Sh (2 + 3 * d) W s.enc
  | .two wd v u, d, h, _ => by
    rw [Stm.Ok] at h
    rw [Stm.enc]
    obtain ⟨W, q⟩ := sh_tupleW (k := 1) (ds := [.str wd, .str v, .str u]) (sh_strsW (l := [wd, v, u]) (by
      intro x m
      simp only [List.mem_cons, List.not_mem_nil, or_false] at m
      rcases m with rfl | rfl | rfl
      · exact w2_nm _ h.1
      · exact h.2.1
      · exact h.2.2))
    exact ⟨W, q.up (by omega) (Nat.le_refl _)⟩
  | .one wd v, d, h, _ => by
    rw [Stm.Ok] at h
    rw [Stm.enc]
    obtain ⟨W, q⟩ := sh_tupleW (k := 1) (ds := [.str wd, .str v]) (sh_strsW (l := [wd, v]) (by
      intro x m
      simp only [List.mem_cons, List.not_mem_nil, or_false] at m
      rcases m with rfl | rfl
      · exact w1_nm _ h.1
      · exact h.2))
    exact ⟨W, q.up (by omega) (Nat.le_refl _)⟩
  | .call v f t as, d, h, _ => by
    rw [Stm.Ok] at h
    rw [Stm.enc]
    obtain ⟨W, q⟩ := sh_tupleW (k := 1) (ds := [.str "call", .str v, .str f, dStrs t as]) (by
      intro x m
      simp only [List.mem_cons, List.not_mem_nil, or_false] at m
      rcases m with rfl | rfl | rfl | rfl
      · exact ⟨_, sh_nm call_nm⟩
      · exact ⟨_, sh_nm h.1⟩
      · exact ⟨_, sh_nm h.2.1⟩
      · exact sh_sqW (sh_strsW h.2.2))
    exact ⟨W, q.up (by omega) (Nat.le_refl _)⟩
  | .either t bs, d, h, hd => by
    rw [Stm.Ok] at h
    rw [Stm.dep] at hd
    rw [Stm.enc, encBs_map]
    obtain ⟨e, rfl⟩ : ∃ e, d = e + 1 := ⟨d - 1, by omega⟩
    obtain ⟨W, q⟩ := sh_tupleW (k := 2 + 3 * e + 2) (ds := [.str "either", sqD t (bs.map Bdy.enc)]) (by
      intro x m
      simp only [List.mem_cons, List.not_mem_nil, or_false] at m
      rcases m with rfl | rfl
      · exact ⟨_, sh_nm either_nm⟩
      · exact sh_sqW fun y my => by
          obtain ⟨b, mb, rfl⟩ := List.mem_map.mp my
          exact bdys_sh bs e h.2 (by omega) b mb)
    exact ⟨W, q.up (by omega) (Nat.le_refl _)⟩
  | .loop b, d, h, hd => by
    rw [Stm.Ok] at h
    rw [Stm.dep] at hd
    rw [Stm.enc]
    obtain ⟨e, rfl⟩ : ∃ e, d = e + 1 := ⟨d - 1, by omega⟩
    obtain ⟨W, q⟩ := sh_tupleW (k := 2 + 3 * e + 1) (ds := [.str "loop", b.enc]) (by
      intro x m
      simp only [List.mem_cons, List.not_mem_nil, or_false] at m
      rcases m with rfl | rfl
      · exact ⟨_, sh_nm loop_nm⟩
      · exact bdy_sh b e h (by omega))
    exact ⟨W, q.up (by omega) (Nat.le_refl _)⟩
theorem bdy_sh : ∀ (b : Bdy) (d : Nat), b.Ok NmOk → b.dep ≤ d → ∃ W, Sh (2 + 3 * d + 1) W b.enc
  | .mk t l, d, h, hd => by
    rw [Bdy.Ok] at h
    rw [Bdy.dep] at hd
    rw [Bdy.enc, encSs_map]
    exact sh_sqW fun y my => by
      obtain ⟨s, ms, rfl⟩ := List.mem_map.mp my
      exact stms_sh l d h hd s ms
theorem bdys_sh : ∀ (bs : List Bdy) (d : Nat), okBs NmOk bs → depBs bs ≤ d → ∀ b ∈ bs, ∃ W, Sh (2 + 3 * d + 1) W b.enc
  | [], _, _, _, _, m => by cases m
  | b :: bs, d, h, hd, x, m => by
    rw [okBs] at h
    rw [depBs] at hd
    have h1 := bdy_sh b d h.1 (by omega)
    have h2 := bdys_sh bs d h.2 (by omega)
    rcases List.mem_cons.mp m with rfl | m
    · exact h1
    · exact h2 x m
theorem stms_sh : ∀ (l : List Stm) (d : Nat), okSs NmOk l → depSs l ≤ d → ∀ s ∈ l, ∃ W, Sh (2 + 3 * d) W s.enc
  | [], _, _, _, _, m => by cases m
  | b :: bs, d, h, hd, x, m => by
    rw [okSs] at h
    rw [depSs] at hd
    have h1 := stm_sh b d h.1 (by omega)
    have h2 := stms_sh bs d h.2 (by omega)
    rcases List.mem_cons.mp m with rfl | m
    · exact h1
    · exact h2 x m
end
theorem wt_str {x : Str} (h : NmOk x) : (PyData.str x).weight ≤ 8 := (sh_nm (k := 0) h).wt
theorem wt_strs : ∀ {l : List Str}, (∀ x ∈ l, NmOk x) → PyData.weightAll (l.map PyData.str) ≤ 9 * l.length
  | [], _ => by rw [List.map_nil, PyData.weightAll]; exact Nat.zero_le _
  | x :: l, h => by
    rw [List.map_cons, PyData.weightAll, List.length_cons]
    have := wt_str (h x List.mem_cons_self)
    have := wt_strs (l := l) fun y m => h y (List.mem_cons_of_mem _ m)
    omega
theorem wt_sq (t : Bool) (ds : List PyData) : (sqD t ds).weight = PyData.weightAll ds := by
  unfold sqD
  split
  · rw [PyData.weight]
  · rw [PyData.weight]
mutual
theorem stm_wt : ∀ (s : Stm), s.Ok NmOk → s.enc.weight + 1 ≤ 140 * s.size + 10 * s.names.length
  | .two wd v u, h => by
    rw [Stm.Ok] at h
    rw [Stm.enc, Stm.size, Stm.names]
    simp only [PyData.weight, PyData.weightAll]
    have h1 := wt_str (w2_nm _ h.1)
    have h2 := wt_str h.2.1
    have h3 := wt_str h.2.2
    simp only [PyData.weight] at h1 h2 h3
    omega
  | .one wd v, h => by
    rw [Stm.Ok] at h
    rw [Stm.enc, Stm.size, Stm.names]
    simp only [PyData.weight, PyData.weightAll]
    have h1 := wt_str (w1_nm _ h.1)
    have h2 := wt_str h.2
    simp only [PyData.weight] at h1 h2
    omega
  | .call v f t as, h => by
    rw [Stm.Ok] at h
    rw [Stm.enc, Stm.size, Stm.names, List.length_cons]
    have h1 := wt_str call_nm
    have h2 := wt_str h.1
    have h3 := wt_str h.2.1
    have h4 := wt_strs h.2.2
    have h5 : (dStrs t as).weight = PyData.weightAll (as.map PyData.str) := wt_sq t _
    rw [PyData.weight]
    simp only [PyData.weightAll]
    omega
  | .either t bs, h => by
    rw [Stm.Ok] at h
    rw [Stm.enc, Stm.size, Stm.names, encBs_map]
    have h1 := wt_str either_nm
    have h2 := bdys_wt bs h.2
    have h3 := wt_sq t (bs.map Bdy.enc)
    rw [PyData.weight]
    simp only [PyData.weightAll]
    omega
  | .loop b, h => by
    rw [Stm.Ok] at h
    rw [Stm.enc, Stm.size, Stm.names]
    have h1 := wt_str loop_nm
    have h2 := bdy_wt b h
    rw [PyData.weight]
    simp only [PyData.weightAll]
    omega
theorem bdy_wt : ∀ (b : Bdy), b.Ok NmOk → b.enc.weight ≤ 140 * b.size + 10 * b.names.length
  | .mk t l, h => by
    rw [Bdy.Ok] at h
    rw [Bdy.enc, encSs_map, wt_sq, Bdy.size, Bdy.names]
    exact stms_wt l h
theorem bdys_wt : ∀ (bs : List Bdy), okBs NmOk bs → PyData.weightAll (bs.map Bdy.enc) ≤ 140 * sizeBs bs + 10 * (namesBs bs).length + bs.length
  | [], _ => by rw [List.map_nil, PyData.weightAll]; exact Nat.zero_le _
  | b :: bs, h => by
    rw [okBs] at h
    rw [List.map_cons, PyData.weightAll, sizeBs, namesBs, List.length_append, List.length_cons]
    have := bdy_wt b h.1
    have := bdys_wt bs h.2
    omega
theorem stms_wt : ∀ (l : List Stm), okSs NmOk l → PyData.weightAll (l.map Stm.enc) ≤ 140 * sizeSs l + 10 * (namesSs l).length
  | [], _ => by rw [List.map_nil, PyData.weightAll]; exact Nat.zero_le _
  | s :: l, h => by
    rw [okSs] at h
    rw [List.map_cons, PyData.weightAll, sizeSs, namesSs, List.length_append]
    have := stm_wt s h.1
    have := stms_wt l h.2
    omega
end
/-- as the law tries them -/
structure Sm (s : Stm) : Prop where
  ok : s.Ok NmOk
  size : s.size ≤ 50
  dep : s.dep ≤ 4
  nl : s.names.length ≤ 150
theorem Sm.sh {s : Stm} (h : Sm s) : Sh 14 10000 s.enc := by
  obtain ⟨W, q⟩ := stm_sh s 4 h.ok h.dep
  have := stm_wt s h.ok
  have := h.size
  have := h.nl
  exact ⟨q.ok, q.sh, q.sm, by omega⟩
def madeD : Stm → PyData
  | .two _ v _ => .str v
  | .one w v => if w = "new" then .str v else .none
  | .call v _ _ _ => .str v
  | .either _ _ => .none
  | .loop _ => .none
theorem made_dp {K : PySem.W.Frag} {G : Hp} : ∀ s : Stm, Dp K G (madeV s) (madeD s)
  | .two _ v _ => .str _
  | .one w v => by
    rw [madeV, madeD]
    split
    · exact .str _
    · exact .non
  | .call v _ _ _ => .str _
  | .either _ _ => .non
  | .loop _ => .non
theorem made_sh {k : Nat} : ∀ {s : Stm}, s.Ok NmOk → Sh k 8 (madeD s)
  | .two _ v _, h => by rw [Stm.Ok] at h; exact sh_nm h.2.1
  | .one w v, h => by
    rw [Stm.Ok] at h
    rw [madeD]
    split
    · exact sh_nm h.2
    · exact sh_non.up (Nat.le_refl _) (by omega)
  | .call v _ _ _, h => by rw [Stm.Ok] at h; exact sh_nm h.1
  | .either _ _, _ => sh_non.up (Nat.le_refl _) (by omega)
  | .loop _, _ => sh_non.up (Nat.le_refl _) (by omega)
mutual
theorem stm_nm : ∀ (s : Stm), s.Ok NmOk → ∀ x ∈ s.names, NmOk x
  | .two wd v u, h, x, m => by
    rw [Stm.Ok] at h
    rw [Stm.names] at m
    simp only [List.mem_cons, List.not_mem_nil, or_false] at m
    rcases m with rfl | rfl
    · exact h.2.1
    · exact h.2.2
  | .one wd v, h, x, m => by
    rw [Stm.Ok] at h
    rw [Stm.names] at m
    simp only [List.mem_cons, List.not_mem_nil, or_false] at m
    rw [m]
    exact h.2
  | .call v f t as, h, x, m => by
    rw [Stm.Ok] at h
    rw [Stm.names] at m
    rcases List.mem_cons.mp m with rfl | m
    · exact h.1
    · exact h.2.2 x m
  | .either t bs, h, x, m => by
    rw [Stm.Ok] at h
    rw [Stm.names] at m
    exact bdys_nm bs h.2 x m
  | .loop b, h, x, m => by
    rw [Stm.Ok] at h
    rw [Stm.names] at m
    exact bdy_nm b h x m
theorem bdy_nm : ∀ (b : Bdy), b.Ok NmOk → ∀ x ∈ b.names, NmOk x
  | .mk t l, h, x, m => by
    rw [Bdy.Ok] at h
    rw [Bdy.names] at m
    exact stms_nm l h x m
theorem bdys_nm : ∀ (bs : List Bdy), okBs NmOk bs → ∀ x ∈ namesBs bs, NmOk x
  | [], _, x, m => by rw [namesBs] at m; cases m
  | b :: bs, h, x, m => by
    rw [okBs] at h
    rw [namesBs] at m
    rcases List.mem_append.mp m with m | m
    · exact bdy_nm b h.1 x m
    · exact bdys_nm bs h.2 x m
theorem stms_nm : ∀ (l : List Stm), okSs NmOk l → ∀ x ∈ namesSs l, NmOk x
  | [], _, x, m => by rw [namesSs] at m; cases m
  | s :: l, h, x, m => by
    rw [okSs] at h
    rw [namesSs] at m
    rcases List.mem_append.mp m with m | m
    · exact stm_nm s h.1 x m
    · exact stms_nm l h.2 x m
end
theorem own_names {s : Stm} : s.own.length ≤ s.names.length := by
  cases s with
  | two w v u => rw [Stm.names]; exact Nat.le_refl _
  | one w v => rw [Stm.names]; exact Nat.le_refl _
  | call v f t as => rw [Stm.names]; exact Nat.le_refl _
  | either t bs => exact Nat.zero_le _
  | loop b => exact Nat.zero_le _
theorem read_names {s : Stm} : (∀ x ∈ readS s, x ∈ s.names) ∧ (readS s).length ≤ s.names.length := by
  cases s with
  | two w v u => rw [Stm.names, readS]; exact ⟨fun x m => List.mem_cons_of_mem _ m, by show 1 ≤ 2; omega⟩
  | one w v =>
    rw [Stm.names, readS]
    split
    · exact ⟨nofun, Nat.zero_le _⟩
    · exact ⟨fun x m => m, Nat.le_refl _⟩
  | call v f t as =>
    rw [Stm.names, readS]
    exact ⟨fun x m => List.mem_cons_of_mem _ (mem_set.mp m), Nat.le_succ_of_le (set_len as)⟩
  | either t bs => exact ⟨nofun, Nat.zero_le _⟩
  | loop b => exact ⟨nofun, Nat.zero_le _⟩
theorem cp_w2 : ∀ x ∈ w2S, ∀ y, cpF x = some y → y ∈ w2S := by
  intro x m y h
  have : ∀ x ∈ w2S, (match cpF x with | some y => decide (y ∈ w2S) | none => true) = true := by decide +kernel
  have := this x m
  rw [h] at this
  exact of_decide_eq_true this
theorem sf_w2 : ∀ x ∈ w2S, ∀ y, shF x = some y → y ∈ w2S := by
  intro x m y h
  have : ∀ x ∈ w2S, (match shF x with | some y => decide (y ∈ w2S) | none => true) = true := by decide +kernel
  have := this x m
  rw [h] at this
  exact of_decide_eq_true this
theorem turn_ok {g : Str → Option Str} (hg : ∀ x ∈ w2S, ∀ y, g x = some y → y ∈ w2S) {s s2 : Stm} (h : Sm s) (e : turnS g s = some s2) : Sm s2 := by
  cases s with
  | two w v u =>
    have ok := h.ok
    rw [Stm.Ok] at ok
    have e : (g w).map (fun x => Stm.two x v u) = some s2 := e
    cases q : g w with
    | none => rw [q] at e; cases e
    | some y =>
      rw [q] at e
      cases e
      exact ⟨by rw [Stm.Ok]; exact ⟨hg w ok.1 y q, ok.2.1, ok.2.2⟩, by rw [Stm.size]; omega, by rw [Stm.dep]; omega, by rw [Stm.names]; show 2 ≤ 150; omega⟩
  | one w v => cases e
  | call v f t as => cases e
  | either t bs => cases e
  | loop b => cases e
theorem turn_sh {g : Str → Option Str} (hg : ∀ x ∈ w2S, ∀ y, g x = some y → y ∈ w2S) {s : Stm} (h : Sm s) : Sh 14 10000 (dOptS (turnS g s)) := by
  cases e : turnS g s with
  | none => exact sh_non.up (Nat.zero_le _) (Nat.zero_le _)
  | some s2 => exact (turn_ok hg h e).sh
def dueD (s : Stm) : PyData := .list [innerD s, madeD s, .list ((readS s).map PyData.str), .list ((setS s.names).map PyData.str), dOptS (turnS cpF s), dOptS (turnS shF s)]
theorem inner_facts {s : Stm} (h : Sm s) : okBs NmOk s.inner ∧ depBs s.inner ≤ 4 ∧ sizeBs s.inner ≤ 50 ∧ (namesBs s.inner).length ≤ 150 ∧ s.inner.length ≤ 100 := by
  have h1 := h.ok
  have h2 := h.dep
  have h3 := h.size
  have h4 := h.nl
  cases s with
  | either t bs =>
    rw [Stm.Ok] at h1
    rw [Stm.dep] at h2
    rw [Stm.size] at h3
    rw [Stm.names] at h4
    exact ⟨h1.2, show depBs bs ≤ 4 by omega, show sizeBs bs ≤ 50 by omega, h4, h1.1⟩
  | loop b =>
    rw [Stm.Ok] at h1
    rw [Stm.dep] at h2
    rw [Stm.size] at h3
    rw [Stm.names] at h4
    rw [Stm.inner, okBs, okBs, depBs, depBs, sizeBs, sizeBs, namesBs, namesBs, List.append_nil]
    exact ⟨⟨h1, trivial⟩, by omega, by omega, h4, by show 1 ≤ 100; omega⟩
  | two w v u => exact ⟨by rw [Stm.inner, okBs]; trivial, by rw [Stm.inner, depBs]; omega, by rw [Stm.inner, sizeBs]; omega, by rw [Stm.inner, namesBs]; exact Nat.zero_le _, Nat.zero_le _⟩
  | one w v => exact ⟨by rw [Stm.inner, okBs]; trivial, by rw [Stm.inner, depBs]; omega, by rw [Stm.inner, sizeBs]; omega, by rw [Stm.inner, namesBs]; exact Nat.zero_le _, Nat.zero_le _⟩
  | call v f t as => exact ⟨by rw [Stm.inner, okBs]; trivial, by rw [Stm.inner, depBs]; omega, by rw [Stm.inner, sizeBs]; omega, by rw [Stm.inner, namesBs]; exact Nat.zero_le _, Nat.zero_le _⟩
theorem wt_lists : ∀ {bs : List Bdy}, okBs NmOk bs → PyData.weightAll (bs.map fun b => .list (b.list.map Stm.enc)) ≤ 140 * sizeBs bs + 10 * (namesBs bs).length + bs.length
  | [], _ => by rw [List.map_nil, PyData.weightAll]; exact Nat.zero_le _
  | .mk t l :: bs, h => by
    rw [okBs, Bdy.Ok] at h
    rw [List.map_cons, PyData.weightAll, sizeBs, namesBs, List.length_append, List.length_cons, PyData.weight]
    have := stms_wt l h.1
    have := wt_lists h.2
    rw [Bdy.size, Bdy.names]
    show PyData.weightAll (l.map Stm.enc) + 1 + _ ≤ _
    omega
theorem inner_sh {s : Stm} (h : Sm s) : Sh 16 10000 (innerD s) := by
  obtain ⟨h1, h2, h3, h4, h5⟩ := inner_facts h
  obtain ⟨W, q⟩ := sh_listW (k := 15) (ds := s.inner.map fun b => .list (b.list.map Stm.enc)) (fun d m => by
    obtain ⟨b, mb, rfl⟩ := List.mem_map.mp m
    refine sh_listW (k := 14) fun d m => ?_
    obtain ⟨x, mx, rfl⟩ := List.mem_map.mp m
    have ok := list_ok (okBs_iff.mp h1 b mb) x mx
    have hd := depBs_le.mp h2 b mb
    cases b with
    | mk t l =>
      rw [Bdy.dep] at hd
      exact stm_sh x 4 ok (depSs_le.mp hd x mx))
  have := wt_lists h1
  refine ⟨q.ok, q.sh, q.sm, ?_⟩
  show (PyData.list _).weight ≤ _
  rw [PyData.weight]
  omega
theorem strs_sh {l : List Str} (h : ∀ x ∈ l, NmOk x) (hl : l.length ≤ 150) : Sh 16 10000 (.list (l.map PyData.str)) := by
  obtain ⟨W, q⟩ := sh_listW (k := 15) (sh_strsW h)
  have := wt_strs h
  exact ⟨q.ok, q.sh, q.sm, by rw [PyData.weight]; omega⟩
theorem due_sh {s : Stm} (h : Sm s) : Sh 17 60006 (dueD s) := by
  have rn := read_names (s := s)
  have nm := stm_nm s h.ok
  have := sh_list (k := 16) (W := 10000) (ds := [innerD s, madeD s, .list ((readS s).map PyData.str), .list ((setS s.names).map PyData.str), dOptS (turnS cpF s), dOptS (turnS shF s)]) (by
    intro d m
    simp only [List.mem_cons, List.not_mem_nil, or_false] at m
    have nl := h.nl
    rcases m with rfl | rfl | rfl | rfl | rfl | rfl
    · exact inner_sh h
    · exact (made_sh h.ok).up (Nat.le_refl _) (by omega)
    · exact strs_sh (fun x m => nm x (rn.1 x m)) (by omega)
    · exact strs_sh (fun x m => nm x (mem_set.mp m)) (by have := set_len s.names; omega)
    · exact (turn_sh cp_w2 h).up (by omega) (Nat.le_refl _)
    · exact (turn_sh sf_w2 h).up (by omega) (Nat.le_refl _))
  exact this.up (Nat.le_refl _) (show 6 * (10000 + 1) ≤ 60006 by decide)
end Pf

set_option Elab.async false
set_option linter.all false
set_option maxRecDepth 100000
set_option maxHeartbeats 16000000
namespace Pf
open PySem L2 Kt
set_option hygiene false
local macro_rules | `(tactic| walk_at "mem") => `(tactic| (with_reducible (repeat (first | exact Pick.hd | apply Pick.tl)); done))
local macro_rules | `(tactic| walk_at "rep") => `(tactic| (with_reducible (repeat (first | exact Repl.hd | apply Repl.tl)); done))
local macro_rules | `(tactic| walk_at "sel") => `(tactic| ((repeat (with_reducible apply Sel.cons; (focus walk_at "mem"))); (with_reducible apply Sel.nil); (with_reducible (repeat (first | exact Dr.all | apply Dr.skip)); done)))
local macro_rules | `(tactic| walk_at "at") => `(tactic| (refine' Sep.at_ (by assumption) ?kkpk; (case kkpk => walk_at "mem")))
local macro_rules | `(tactic| walk_at "sq") => `(tactic| first | assumption | (refine' Sep.sq (by assumption) ?kkpk; (case kkpk => walk_at "mem")))
local macro_rules | `(tactic| walk_at "st") => `(tactic| first | assumption | (refine' Sep.st (by assumption) ?kkpk; (case kkpk => walk_at "mem")))
local macro_rules | `(tactic| walk_at "lk") => `(tactic| (repeat (first | (with_reducible exact lk_eq) | exact rfl | refine (lk_ne (by decide +kernel)).trans ?_)))
local macro_rules | `(tactic| walk_at "pf") => `(tactic| (repeat (first | (with_reducible exact pf_nil) | (with_reducible exact pf_eq) | (apply pf_ne; (focus decide +kernel)))))
local macro_rules | `(tactic| walk_at "ty") => `(tactic| first | exact ty_int | (refine' ty_lst ?kkh; (case kkh => walk_at "at")))
local macro_rules | `(tactic| walk_at "k1") => `(tactic| with_reducible first
  | refine q_seq ?_ | refine q_set ?_ | refine q_asg ?_ | refine q_ret ?_ | refine q_drop ?_ | refine q_next ?_ | refine q_c ?_ | refine q_op ?_ | refine q_un ?_ | refine q_nil ?_ | refine q_cons ?_ | refine q_cb ?_
  | refine q_call ?_ | refine q_ifs ?_ | refine q_if ?_ | refine q_test ?_ | refine q_tb ?_ | refine q_bl ?_ | refine q_notT ?_ | refine q_andT ?_ | refine q_orT ?_ | refine q_andV ?_ | refine q_orV ?_ | refine q_notV ?_
  | refine q_addA ?_ | refine q_subI ?_ | refine q_ltI ?_ | refine q_leI ?_ | refine q_gtI ?_ | refine q_geI ?_ | refine q_eqI ?_ | refine q_neI ?_ | refine q_abs ?_ | refine q_int ?_ | refine q_intB ?_ | refine q_max ?_ | refine q_min ?_
  | refine q_ipAdd ?_ | refine q_ipSub ?_ | refine q_gsub ?_ | refine q_augs ?_ | refine q_lst ?_ | refine q_tup ?_ | refine q_blI ?_ | refine iteT ?_ | refine iteF ?_ | refine iteNT ?_ | refine iteNF ?_
  | refine r_prop ?_ | refine r_fld ?_ | refine r_sfld ?_ | refine r_meth ?_ | refine r_make ?_ | refine r_sl ?_ | refine r_nopart ?_ | refine r_part ?_ | refine r_parti ?_ | refine r_gsl ?_ | refine r_bm ?_ | refine r_bm0 ?_ | refine r_for ?_ | refine r_ilist ?_ | refine r_irng ?_
  | refine r_gname ?_ | refine r_gcons ?_ | refine r_gnil ?_ | refine r_par ?_ | refine r_parA ?_ | refine r_chain ?_ | refine r_isN ?_ | refine r_tlc ?_ | refine r_yes ?_ | refine r_makek ?_ | refine r_neg ?_)
local macro_rules | `(tactic| walk_at "k2") => `(tactic| first
  | ((with_reducible refine' q_var ?kke ?_); (case kke => rfl))
  | ((with_reducible refine' q_aug ?kke ?_); (case kke => rfl))
  | ((with_reducible refine' q_ixL ?kks ?kke ?_); (case kks => walk_at "sq"); (case kke => first | rfl | assumption))
  | ((with_reducible refine' q_ixT ?kks ?kke ?_); (case kks => walk_at "st"); (case kke => first | rfl | assumption))
  | ((with_reducible refine' q_ixLL ?kks ?kke ?_); (case kks => walk_at "sq"); (case kke => first | rfl | assumption))
  | ((with_reducible refine' q_lenL ?kks ?_); (case kks => walk_at "sq"))
  | ((with_reducible refine' q_mulI ?kkc ?_); (case kkc => first | exact .inl (by omega) | exact .inr (by omega)))
  | ((with_reducible refine' q_modI ?kkc ?_); (case kkc => omega))
  | ((with_reducible refine' q_divI ?kkc ?_); (case kkc => exact ⟨by omega, by omega⟩))
  | ((with_reducible refine' q_powI ?kkc ?_); (case kkc => exact ⟨by decide, by decide, by decide⟩))
  | ((with_reducible refine' r_kfld ?kkS ?kkp ?kkc ?kkn ?kkl ?_); (case kkS => assumption); (case kkp => walk_at "mem"); (case kkc => walk_at "cls"); (case kkn => walk_at "na"); (case kkl => walk_at "lk"))
  | ((with_reducible refine' r_kprop ?kkS ?kkp ?_); (case kkS => assumption); (case kkp => walk_at "mem"))
  | ((with_reducible refine' r_kmeth ?kkS ?kkp ?kkl ?_); (case kkS => assumption); (case kkp => walk_at "mem"); (case kkl => walk_at "lk"))
  | ((with_reducible refine' r_calll ?kks ?_); (case kks => rfl))
  | ((with_reducible refine' r_tyl ?kks ?_); (case kks => walk_at "sq"))
  | ((with_reducible refine' r_isi (k := true) ?kkt ?kke ?_); (case kkt => walk_at "ty"); (case kke => decide +kernel))
  | ((with_reducible refine' r_isi (k := false) ?kkt ?kke ?_); (case kkt => walk_at "ty"); (case kke => decide +kernel)))
local macro_rules | `(tactic| walk_at "k3") => `(tactic| first
  | ((with_reducible refine' q_setS ?kkS ?kkr ?kke ?_); (case kkS => assumption); (case kkr => walk_at "rep"); (case kke => rfl); intro H S)
  | ((with_reducible refine' r_kset ?kkS ?kkr ?kkc ?kkn ?kkl ?kke ?_); (case kkS => assumption); (case kkr => walk_at "rep"); (case kkc => walk_at "cls"); (case kkn => walk_at "na"); (case kkl => first | exact Nat.le_of_ble_eq_true rfl | assumption | omega | (simp; done) | (simp; omega)); (case kke => walk_at "pf"); intro H S)
  | ((with_reducible refine' q_new ?kkS ?kkl ?_); (case kkS => assumption); (case kkl => first | exact Nat.le_of_ble_eq_true rfl | assumption | omega | (simp; done) | (simp; omega)); intro p H S)
  | ((with_reducible refine' q_newT ?kkS ?kkl ?_); (case kkS => assumption); (case kkl => first | exact Nat.le_of_ble_eq_true rfl | assumption | omega | (simp; done) | (simp; omega)); intro p H S)
  | ((with_reducible refine' r_knew ?kkS ?_); (case kkS => assumption); intro x dx H S)
  | ((with_reducible refine' r_knewk ?kkS ?kkl1 ?kkl2 ?_); (case kkS => assumption); (case kkl1 => rfl); (case kkl2 => rfl); intro x dx H S)
  | ((with_reducible refine' r_ksl ?kkS ?kks ?_); (case kkS => assumption); (case kks => walk_at "sq"); intro p H S)
  | ((with_reducible refine' r_list ?kkS ?kks ?_); (case kkS => assumption); (case kks => walk_at "sq"); intro p H S)
  | ((with_reducible refine' r_cat ?kkS ?kks1 ?kks2 ?kkz ?_); (case kkS => assumption); (case kks1 => walk_at "at"); (case kks2 => walk_at "at"); (case kkz => first | omega | (simp; omega)); intro p H S)
  | ((with_reducible refine' r_append ?kkS ?kkr ?kkz ?_); (case kkS => assumption); (case kkr => walk_at "rep"); (case kkz => first | omega | (simp; omega)); intro H S)
  | ((with_reducible refine' r_reverse ?kkS ?kkr ?_); (case kkS => assumption); (case kkr => walk_at "rep"); intro H S)
  | ((with_reducible refine' r_clear ?kkS ?kkr ?_); (case kkS => assumption); (case kkr => walk_at "rep"); intro H S))
local macro_rules | `(tactic| walk_at "gn") => `(tactic| repeat (first | walk_at "k1" | walk_at "k2"))
local macro_rules | `(tactic| walk_at "go") => `(tactic| repeat (first | walk_at "k1" | walk_at "k2" | walk_at "k3"))

local macro_rules | `(tactic| walk_at "sq") => `(tactic| first | assumption | (refine' Sep.sq ?kkS ?kkpk; (case kkS => assumption); (case kkpk => walk_at "mem")) | (refine' hp_sqL ?kkS ?kkx; (case kkS => assumption); (case kkx => assumption)) | (refine' hp_sqL (Sep.tl ?kkS) ?kkx; (case kkS => assumption); (case kkx => assumption)) | (refine' hp_sqL (Sep.tl (Sep.tl ?kkS)) ?kkx; (case kkS => assumption); (case kkx => assumption)))
local macro_rules | `(tactic| walk_at "st") => `(tactic| first | assumption | (refine' Sep.st ?kkS ?kkpk; (case kkS => assumption); (case kkpk => walk_at "mem")) | (refine' hp_sqT ?kkS ?kkx; (case kkS => assumption); (case kkx => assumption)) | (refine' hp_sqT (Sep.tl ?kkS) ?kkx; (case kkS => assumption); (case kkx => assumption)) | (refine' hp_sqT (Sep.tl (Sep.tl ?kkS)) ?kkx; (case kkS => assumption); (case kkx => assumption)))
local macro_rules | `(tactic| walk_at "k1") => `(tactic| with_reducible first | refine r_ienumT ?_ | refine r_tru ?_ | refine r_itup ?_ | refine r_star ?_ | refine r_par3 ?_ | refine r_parA3 ?_ | refine r_dget ?_ | refine r_din ?_ | refine r_dnotin ?_ | refine r_dput ?_)

local macro_rules | `(tactic| walk_at "k1") => `(tactic| with_reducible first | refine r_kget ?_ | refine r_orT ?_ | refine r_slA ?_ | refine r_m1 ?_ | refine r_isS ?_)
local macro_rules | `(tactic| walk_at "k1") => `(tactic| with_reducible first | refine r_iany ?_ | refine r_ienum ?_ | refine r_lrg ?_)

section
variable {P : Program} {w : World} {K : PySem.W.Frag} {mg : Str → Option Value} {base : Heap} {f_NAMES_IN f_MAKING f_COPYING f_SHARING : Addr}
/-! ### two things that are equal, and shown alike -/
def spAlike (K : PySem.W.Frag) : Sp := fun vs H Q _ => ∃ (a b : Addr) (d : PyData), vs = [.ref a, .ref b] ∧ Dp K H (.ref a) d ∧ Dp K H (.ref b) d ∧ Okd 60 d ∧ d.showable = true ∧ d.hasDict = false ∧ d.shown.length ≤ sizeLine ∧ Q (.bl true) H
theorem sc_l_alike : FnScope N_l_alike ["_law_found", "_law_due"] (defScope s_l_alike) := ⟨rfl, rfl, rfl, by decide +kernel, rfl, by decide +kernel, by decide +kernel⟩
theorem ok_l_alike {f : Addr} (F : Dt K mg "_law_alike" s_l_alike ["_law_found", "_law_due"] f) (T : Tx K mg f_NAMES_IN f_MAKING f_COPYING f_SHARING) : Dg P w K mg base 1 "_law_alike" f ["_law_found", "_law_due"] (spAlike K) := by
  refine F.okG sc_l_alike (fun vs H Q E h => ?_) (fun cdv A outer s H vs Q E hg hr h => ?_)
  · obtain ⟨a, b, d, rfl, _⟩ := h
    rfl
  obtain ⟨a, b, d, rfl, h1, h2, ok, hs, hn, hz, q⟩ := h
  refine ⟨_, (pss_one (ps_ret (pe_and (pe_cmpR (r := rEqA K) (op_eqA hr.units) (pv 0) (pv 1) (nomark _)) (pe_one (pe_cmpR (r := rEqA K) (op_eqA hr.units) (pe_callB (r := cRepr K) (call_reprA hg hr.units) (by rfl) T.z_repr (by decide +kernel) (pa_cons (pv 0) pa_nil)) (pe_callB (r := cRepr K) (call_reprA hg hr.units) (by rfl) T.z_repr (by decide +kernel) (pa_cons (pv 1) pa_nil)) (nomark _)))))), ?_⟩
  walk_at "go"
  refine r_eq_same h1 h2 ok (by decide) ?_
  walk_at "go"
  refine ⟨a, d, rfl, h1, hs, hn, ok.2, hz, ?_⟩
  walk_at "go"
  refine ⟨b, d, rfl, h2, hs, hn, ok.2, hz, ?_⟩
  refine .inl ⟨rfl, ?_⟩
  rw [decide_eq_true (rfl : V.str d.shown = V.str d.shown)]
  exact q

theorem bl_dp {G H : Hp} (l : Le G H) : ∀ {bl : List (Addr × List V)} {bs : List Bdy}, Bl K G bl bs → (∀ e ∈ bl, H e.1 = some (.lst e.2)) → DpAll K H (bl.map fun e => .ref e.1) (bs.map fun b => .list (b.list.map Stm.enc))
  | _, _, .nil, _ => .nil
  | _, _, .cons z t, h => .cons (.lst (SqL.of (h _ List.mem_cons_self)) (DpAll.le l _ _ z)) (bl_dp l t fun e m => h e (List.mem_cons_of_mem _ m))
theorem big_out {l1 l2 : List (Addr × List V)} {p : Addr} {xs : List V} {R : List SP} {H : Hp} (S : Sep (big (l1 ++ (p, xs) :: l2) :: R) H) : Sep (pt p (.lst xs) :: big (l1 ++ l2) :: R) H := by
  have S := S.flat
  rw [List.map_append, List.map_cons, List.append_assoc, List.cons_append] at S
  have S : Sep (pt p (.lst xs) :: ((l1.map fun p : Addr × List V => pt p.1 (.lst p.2)) ++ ((l2.map fun p : Addr × List V => pt p.1 (.lst p.2)) ++ R))) H := (pick_mid _).go S
  refine Sep.cons_mono (fun _ S => Sep.unflat (As := (l1 ++ l2).map fun p : Addr × List V => pt p.1 (.lst p.2)) ?_) S
  rw [List.map_append, List.append_assoc]
  exact S
theorem big_back {l1 l2 : List (Addr × List V)} {p : Addr} {xs : List V} {R : List SP} {H : Hp} (S : Sep (pt p (.lst xs) :: big (l1 ++ l2) :: R) H) : Sep (big (l1 ++ (p, xs) :: l2) :: R) H := by
  have S : Sep (pt p (.lst xs) :: ((l1.map fun p : Addr × List V => pt p.1 (.lst p.2)) ++ ((l2.map fun p : Addr × List V => pt p.1 (.lst p.2)) ++ R))) H := Sep.cons_mono (fun _ S => by
    have S := S.flat
    rw [List.map_append, List.append_assoc] at S
    exact S) S
  have S := (pick_mid _).back S
  refine Sep.unflat (As := (l1 ++ (p, xs) :: l2).map fun p : Addr × List V => pt p.1 (.lst p.2)) ?_
  rw [List.map_append, List.map_cons, List.append_assoc, List.cons_append]
  exact S
theorem sizeBs_mem {bs : List Bdy} {b : Bdy} (h : b ∈ bs) : b.size ≤ sizeBs bs := by
  obtain ⟨l1, l2, rfl⟩ := List.append_of_mem h
  rw [sizeBs_app, sizeBs]
  omega
theorem turn_two {g : Str → Option Str} {s s2 : Stm} (e : turnS g s = some s2) : ∃ y v u, s2 = .two y v u := by
  cases s with
  | two w v u =>
    have e : (g w).map (fun x => Stm.two x v u) = some s2 := e
    cases q : g w with
    | none => rw [q] at e; cases e
    | some y => rw [q] at e; cases e; exact ⟨_, _, _, rfl⟩
  | one w v => cases e
  | call v f t as => cases e
  | either t bs => cases e
  | loop b => cases e
theorem cp_sf : ∀ x ∈ w2S, ∀ y, cpF x = some y → shF y = some x := by
  intro x m y h
  have : ∀ x ∈ w2S, (match cpF x with | some y => decide (shF y = some x) | none => true) = true := by decide +kernel
  have := this x m
  rw [h] at this
  exact of_decide_eq_true this
theorem sf_cp : ∀ x ∈ w2S, ∀ y, shF x = some y → cpF y = some x := by
  intro x m y h
  have : ∀ x ∈ w2S, (match shF x with | some y => decide (cpF y = some x) | none => true) = true := by decide +kernel
  have := this x m
  rw [h] at this
  exact of_decide_eq_true this
theorem turn_back {g g2 : Str → Option Str} (hg : ∀ x ∈ w2S, ∀ y, g x = some y → g2 y = some x) {p : Str → Prop} {s s2 : Stm} (ok : s.Ok p) (e : turnS g s = some s2) : turnS g2 s2 = some s := by
  cases s with
  | two w v u =>
    rw [Stm.Ok] at ok
    have e : (g w).map (fun x => Stm.two x v u) = some s2 := e
    cases q : g w with
    | none => rw [q] at e; cases e
    | some y =>
      rw [q] at e
      cases e
      show (g2 y).map (fun x => Stm.two x v u) = _
      rw [hg w ok.1 y q]
      rfl
  | one w v => cases e
  | call v f t as => cases e
  | either t bs => cases e
  | loop b => cases e
theorem at_last (xs : List V) (y : V) : atI (xs ++ [y]) (-1) = some y := by
  have e : ixN (xs ++ [y]).length (-1) = some xs.length := by
    unfold ixN
    rw [List.length_append, if_neg (by omega), if_pos (by simp; omega)]
    congr 1
    simp
    omega
  unfold atI
  rw [e]
  simp
theorem cpT : Turns ["take", "cut", "put"] ["copy", "copycut", "copyput"] cpF where
  nd := by decide +kernel
  sub := by decide +kernel
  at_ := by
    intro x m
    simp only [List.mem_cons, List.not_mem_nil, or_false] at m
    rcases m with rfl | rfl | rfl
    · exact ⟨0, _, rfl, rfl, by decide +kernel⟩
    · exact ⟨1, _, rfl, rfl, by decide +kernel⟩
    · exact ⟨2, _, rfl, rfl, by decide +kernel⟩
  no := by decide +kernel
theorem shT : Turns ["copy", "copycut", "copyput"] ["take", "cut", "put"] shF where
  nd := by decide +kernel
  sub := by decide +kernel
  at_ := by
    intro x m
    simp only [List.mem_cons, List.not_mem_nil, or_false] at m
    rcases m with rfl | rfl | rfl
    · exact ⟨0, _, rfl, rfl, by decide +kernel⟩
    · exact ⟨1, _, rfl, rfl, by decide +kernel⟩
    · exact ⟨2, _, rfl, rfl, by decide +kernel⟩
  no := by decide +kernel
theorem sc_l_right : FnScope N_l_right ["_law_statement"] (defScope s_l_right) := ⟨rfl, rfl, rfl, by decide +kernel, rfl, by decide +kernel, by decide +kernel⟩
def spRight (K : PySem.W.Frag) : Sp := fun vs H Q _ => ∃ (a : Addr) (s : Stm) (G : Hp) (R : List SP), vs = [.ref a] ∧ Sm s ∧ Dp K G (.ref a) s.enc ∧ Sep (hp G :: R) H ∧ ∀ G' H', Le G G' → Sep (hp G' :: R) H' → Q (.bl true) H'
theorem ok_l_right {f f1 f2 f3 f4 f5 f6 f7 f8 f9 : Addr} (F : Dt K mg "_law_right" s_l_right ["_law_statement"] f) (T : Tx K mg f_NAMES_IN f_MAKING f_COPYING f_SHARING) (D_l_inner : Df P w K mg base 1 "_law_inner" f1 ["_law_statement"] (spLinner K)) (D_l_made : Df P w K mg base 1 "_law_made" f2 ["_law_statement"] (spMade K)) (D_l_read : Df P w K mg base 1 "_law_read" f3 ["_law_statement"] (spRead K))
    (D_l_names_in : Df P w K mg base 6 "_law_names_in" f4 ["_law_body"] (spNin K 4)) (D_l_turned : Df P w K mg base 1 "_law_turned" f5 ["_law_statement", "_law_words", "_law_others"] (spTurned K)) (D_l_told : Df P w K mg base 3 "_law_told" f6 ["_law_statement"] (spTold K)) (D_l_alike : Dg P w K mg base 1 "_law_alike" f7 ["_law_found", "_law_due"] (spAlike K))
    (D_copying : Df P w K mg base 1 "copying" f8 ["statement"] (spTurn K cpF)) (D_sharing : Df P w K mg base 1 "sharing" f9 ["statement"] (spTurn K shF)) : Dg P w K mg base 7 "_law_right" f ["_law_statement"] (spRight K) := by
  refine F.okG sc_l_right (fun vs H Q E h => ?_) (fun cdv A outer s H vs Q E hg hr h => ?_)
  · obtain ⟨a, s, G, R, rfl, _⟩ := h
    rfl
  obtain ⟨a, st, G, R, rfl, sm, hx, S, q⟩ := h
  refine ⟨_, (pss_cons (ps_par (i := 1) (j := 2) rfl sc_l_right.nd rfl rfl (by decide) rfl rfl (pa_cons (pe_lst (pa_cons pe_str (pa_cons pe_str (pa_cons pe_str pa_nil)))) (pa_cons (pe_lst (pa_cons pe_str (pa_cons pe_str (pa_cons pe_str pa_nil)))) pa_nil)) rfl)
      (pss_cons (ps_set (i := 3) sc_l_right.nd rfl (by first | exact Or.inl rfl | exact Or.inr rfl) (pe_lst (pa_cons (pe_df D_l_inner (hr.mono (by first | decide | omega)) (pa_cons (pv 0) pa_nil)) (pa_cons (pe_df D_l_made (hr.mono (by first | decide | omega)) (pa_cons (pv 0) pa_nil)) (pa_cons (pe_df D_l_read (hr.mono (by first | decide | omega)) (pa_cons (pv 0) pa_nil)) (pa_cons (pe_callB (r := rSortB K P w) (cr_sortB rfl hr.units) (by rfl) T.z_sorted (by decide +kernel) (pa_cons (pe_callTy (r := rSetB K P w) (cr_setB rfl) (by rfl) T.z_set (by decide +kernel) (pa_cons (pe_df D_l_names_in (hr.mono (by first | decide | omega)) (pa_cons (pe_lst (pa_cons (pv 0) pa_nil)) pa_nil)) pa_nil)) pa_nil)) pa_nil))))))
      (pss_cons (ps_set (i := 3) sc_l_right.nd rfl (by first | exact Or.inl rfl | exact Or.inr rfl) (pe_op (r := rAddA) op_addA (pv 3) (pe_lst (pa_cons (pe_df D_l_turned (hr.mono (by first | decide | omega)) (pa_cons (pv 0) (pa_cons (pv 1) (pa_cons (pv 2) pa_nil)))) (pa_cons (pe_df D_l_turned (hr.mono (by first | decide | omega)) (pa_cons (pv 0) (pa_cons (pv 2) (pa_cons (pv 1) pa_nil)))) pa_nil)))))
      (pss_cons (ps_set (i := 4) sc_l_right.nd rfl (by first | exact Or.inl rfl | exact Or.inr rfl) (pe_callB (r := cRepr K) (call_reprA hg hr.units) (by rfl) T.z_repr (by decide +kernel) (pa_cons (pv 0) pa_nil)))
      (pss_cons (ps_for PassesOwn.never rfl (pi_range1 rfl T.z_range (pa_cons pe_int pa_nil)) (pg_name (i := 5) sc_l_right.nd rfl (by first | exact Or.inl rfl | exact Or.inr rfl)) (pss_cons (ps_set (i := 6) sc_l_right.nd rfl (by first | exact Or.inl rfl | exact Or.inr rfl) (pe_df D_l_told (hr.mono (by first | decide | omega)) (pa_cons (pv 0) pa_nil)))
      (pss_cons (ps_if (PW.pt (pw_or (pt_not (pt_val (pe_dg D_l_alike hg (hr.mono (by decide)) (pa_cons (pv 6) (pa_cons (pv 3) pa_nil))))) (pw_or1 (pt_cmpR (r := rNeA K) (op_neA hr.units) (pe_callB (r := cRepr K) (call_reprA hg hr.units) (by rfl) T.z_repr (by decide +kernel) (pa_cons (pv 0) pa_nil)) (pv 4) (nomark _))))) (pss_one (ps_ret pe_bl)) pss_nil)
      (pss_cons (ps_for PassesOwn.never rfl (pi_enumK K (by rfl) T.z_enumerate (pa_cons (pe_ix (r := rIx K) ix_seq (pv 6) pe_int (fun _ _ => rfl)) pa_nil)) (pg_tupK K rfl (pgs_cons (pg_name (i := 7) sc_l_right.nd rfl (by first | exact Or.inl rfl | exact Or.inr rfl)) (pgs_cons (pg_name (i := 8) sc_l_right.nd rfl (by first | exact Or.inl rfl | exact Or.inr rfl)) pgs_nil))) (pss_one (ps_expr (pe_bmK K PySem.F.plainAttrs_list PySem.F.slot_list_append PySem.F.type_list_append mt_append (pv 8) (pa_cons (pv 7) pa_nil)))))
      (pss_cons (ps_if (pt_cmpR (r := rNeA K) (op_neA hr.units) (pe_lc (own := [("_law_body", 8)]) rfl sc_l_right.nd (pi_listK K (pe_ix (r := rIx K) ix_seq (pv 6) pe_int (fun _ _ => rfl))) (blkOk_by (own := [("_law_body", 8)]) (N := N_l_right) (sc := defScope s_l_right) (by decide +kernel)) (fun _ _ _ _ _ => (pg_name (i := 8) sc_l_right.nd rfl (by first | exact Or.inl rfl | exact Or.inr rfl))) (fun _ _ _ _ _ => pts_nil) (fun _ _ _ _ _ => (pe_ix (r := rIx K) ix_seq (pv 8) (pe_un un_neg pe_int) (fun _ _ => rfl)))) (pe_listRg rfl (by rfl) T.z_list (prg_1 (by rfl) T.z_range (pe_callB (r := cOr (cLenQ K) cLenS) call_lenA (by rfl) T.z_len (by decide +kernel) (pa_cons (pe_ix (r := rIx K) ix_seq (pv 6) pe_int (fun _ _ => rfl)) pa_nil)))) (nomark _)) (pss_one (ps_ret pe_bl)) pss_nil)
      (pss_cons (ps_expr (pe_bmK K PySem.F.plainAttrs_list PySem.F.slot_list_append PySem.F.type_list_append mt_append (pe_ix (r := rIx K) ix_seq (pv 6) pe_int (fun _ _ => rfl)) (pa_cons pe_non pa_nil)))
      (pss_cons (ps_expr (pe_bmK K PySem.F.plainAttrs_list PySem.F.slot_list_append PySem.F.type_list_append mt_append (pe_ix (r := rIx K) ix_seq (pv 6) pe_int (fun _ _ => rfl)) (pa_cons pe_str pa_nil)))
      (pss_one (ps_expr (pe_bm0K K PySem.F.plainAttrs_list PySem.F.slot_list_clear PySem.F.type_list_clear mt_clear (pe_ix (r := rIx K) ix_seq (pv 6) pe_int (fun _ _ => rfl))))))))))))
      (pss_cons (ps_if (PW.pt (pw_and (pt_cmpR (r := rNotN) op_notN (pe_ix (r := rIx K) ix_seq (pv 3) pe_int (fun _ _ => rfl)) pe_non (nomark _)) (pw_and1 (pt_cmpR (r := rNeA K) (op_neA hr.units) (pe_df D_sharing (hr.mono (by first | decide | omega)) (pa_cons (pe_df D_copying (hr.mono (by first | decide | omega)) (pa_cons (pv 0) pa_nil)) pa_nil)) (pv 0) (nomark _))))) (pss_one (ps_ret pe_bl)) pss_nil)
      (pss_one (ps_ret (pe_or (pe_cmpR (r := rIsN) op_isN (pe_ix (r := rIx K) ix_seq (pv 3) pe_int (fun _ _ => rfl)) pe_non (nomark _)) (pe_one (pe_cmpR (r := rEqA K) (op_eqA hr.units) (pe_df D_copying (hr.mono (by first | decide | omega)) (pa_cons (pe_df D_sharing (hr.mono (by first | decide | omega)) (pa_cons (pv 0) pa_nil)) pa_nil)) (pv 0) (nomark _)))))))))))), ?_⟩
  have hif := inner_facts sm
  have hon := own_names (s := st)
  have hnl := sm.nl
  have hsz := sm.size
  walk_at "go"
  rename_i P1 _ _
  obtain ⟨P2, rfl⟩ : ∃ z, z = p := ⟨p, rfl⟩
  obtain ⟨Ga, lea, ea, S⟩ := hp_add (S.s3 (A := pt P2 (.lst [.str "copy", .str "copycut", .str "copyput"])) (B := hp G) (C := pt P1 (.lst [.str "take", .str "cut", .str "put"])) (by walk_at "sel"))
  obtain ⟨Gb, leb, eb, S⟩ := hp_add S.swap
  have hx := Dp.le (lea.tr leb) _ _ hx
  refine ⟨a, st, NmOk, Gb, R, rfl, sm.ok, by omega, hx, S, fun pI ls xss G2 H le2 eI h1 h2 hI S => ?_⟩
  have hx2 := Dp.le le2 _ _ hx
  walk_at "go"
  refine ⟨a, st, NmOk, G2, R, rfl, sm.ok, hx2, S, fun H S => ?_⟩
  walk_at "go"
  refine ⟨a, st, NmOk, G2, R, rfl, sm.ok, by omega, hx2, S, fun pR H S => ?_⟩
  obtain ⟨G3, le3, hR, S⟩ := hp_LD (K := K) S (dpall_strs (readS st))
  walk_at "go"
  obtain ⟨G4, le4, h4, S⟩ := hp_lst (K := K) S (ds := [st.enc]) (.cons (Dp.le le3 _ _ hx2) .nil)
  refine ⟨p, false, [st], G4, R, rfl, fun s m => by rw [List.mem_singleton] at m; rw [m]; exact sm.ok, ?_, ?_, h4, S, fun D G5 H le5 S => ?_⟩
  · rw [depSs, depSs]
    have := sm.dep
    omega
  · rw [namesSs, namesSs, List.append_nil]
    omega
  rw [namesSs, namesSs, List.append_nil] at S
  walk_at "go"
  refine .inr (r_setX S (.inl (by walk_at "sq")) (by omega) fun sp ks H nd hm hk S => ?_)
  walk_at "go"
  refine .inr (r_sortSetX S S.hd_at (by omega) fun pN H S => ?_)
  rw [set_eq nd hm] at S
  obtain ⟨G6, le6, hN, S⟩ := hp_LD (K := K) (R := R) (S.s2 (A := pt pN (.lst ((setS st.names).map V.str))) (B := hp G5) (by walk_at "sel")) (dpall_strs (setS st.names))
  walk_at "go"
  obtain ⟨Pd, rfl⟩ : ∃ z, z = p := ⟨p, rfl⟩
  have l26 : Le G2 G6 := le3.tr (le4.tr (le5.tr le6))
  have hx6 := Dp.le l26 _ _ hx2
  have lb6 : Le Gb G6 := le2.tr l26
  refine ⟨a, P1, P2, ["take", "cut", "put"], ["copy", "copycut", "copyput"], cpF, st, NmOk, G6, pt Pd (.lst [.ref pI, madeV st, .ref pR, .ref pN]) :: R, rfl, sm.ok, cpT, SqL.of (lb6 _ _ eb), SqL.of ((leb.tr lb6) _ _ ea), hx6, S.swap, fun v4 G7 H le7 hv4 S => ?_⟩
  walk_at "go"
  refine ⟨a, P2, P1, ["copy", "copycut", "copyput"], ["take", "cut", "put"], shF, st, NmOk, G7, pt Pd (.lst [.ref pI, madeV st, .ref pR, .ref pN]) :: R, rfl, sm.ok, shT, SqL.of ((leb.tr (lb6.tr le7)) _ _ ea), SqL.of ((lb6.tr le7) _ _ eb), Dp.le le7 _ _ hx6, S, fun v5 G8 H le8 hv5 S => ?_⟩
  walk_at "go"
  refine r_cat (xs := [.ref pI, madeV st, .ref pR, .ref pN]) (ys := [v4, v5]) S (S.at_ (by walk_at "mem")) (S.at_ (by walk_at "mem")) (show 6 ≤ 100000 by decide) fun Du H S => ?_
  have S : Sep (pt Du (.lst [.ref pI, madeV st, .ref pR, .ref pN, v4, v5]) :: _) H := S
  have l68 : Le G6 G8 := le7.tr le8
  obtain ⟨G9, le9, hdue, S⟩ := hp_lst (K := K) (R := R) (S.s2 (A := pt Du (.lst [.ref pI, madeV st, .ref pR, .ref pN, v4, v5])) (B := hp G8) (by walk_at "sel")) (ds := [innerD st, madeD st, .list ((readS st).map PyData.str), .list ((setS st.names).map PyData.str), dOptS (turnS cpF st), dOptS (turnS shF st)]) (.cons (Dp.le (l26.tr l68) _ _ hI) (.cons (made_dp st) (.cons (hR.le ((le4.tr (le5.tr le6)).tr l68)).dp (.cons (hN.le l68).dp (.cons (Dp.le le8 _ _ hv4) (.cons hv5 .nil))))))
  have hdue : Dp K G9 (.ref Du) (dueD st) := hdue
  have hx9 := Dp.le (l68.tr le9) _ _ hx6
  have lG9 : Le G G9 := (lea.tr leb).tr (lb6.tr (l68.tr le9))
  have hss := sm.sh
  have hds := due_sh sm
  walk_at "go"
  refine ⟨a, st.enc, rfl, hp_dp S hx9, hss.sh, hss.nd, Nat.le_trans hss.ok.2 (by decide), hss.fits (by decide), ?_⟩
  walk_at "go"
  clear hv4 hv5 hI h1 h2 eI hR hN h4
  refine r_for_rng (fun i σ Ps => ∃ (u5 u6 u7 u8 : Option V) (Gi : Hp), σ = [some (.ref a), some (.ref P1), some (.ref P2), some (.ref Du), some (.str st.enc.shown), u5, u6, u7, u8] ∧ Le G9 Gi ∧ Ps = hp Gi :: R) S (by decide) (by decide) ⟨_, _, _, _, G9, rfl, Le.rfl, rfl⟩ ?_ ?_
  · rintro i σ Ps H hi ⟨u5, u6, u7, u8, Gi, rfl, le, rfl⟩ S
    clear hi
    have hxi := Dp.le le _ _ hx9
    walk_at "go"
    refine ⟨a, st, NmOk, Gi, R, rfl, sm.ok, by omega, by omega, by omega, by omega, hxi, S, fun Fo pB pR pN bl v4 v5 Gj H le2 hbl hv4 hv5 S => ?_⟩
    walk_at "go"
    have dpF : Dp K H (.ref Fo) (dueD st) := by
      have lH : Le Gj H := hp_le (S.s1 (A := hp Gj) (by walk_at "sel"))
      refine .lst (SqL.of (S.at_ (by walk_at "mem"))) (.cons (.lst (SqL.of (S.at_ (by walk_at "mem"))) (bl_dp lH hbl fun e me => big_get (S.s1 (A := big bl) (by walk_at "sel")) me)) (.cons (made_dp st) (.cons (.lst (SqL.of (S.at_ (by walk_at "mem"))) (dpall_strs _)) (.cons (.lst (SqL.of (S.at_ (by walk_at "mem"))) (dpall_strs _)) (.cons (Dp.le lH _ _ hv4) (.cons (Dp.le lH _ _ hv5) .nil))))))
    have leJ : Le G9 Gj := le.tr le2
    have lGj : Le Gj H := hp_le (S.s1 (A := hp Gj) (by walk_at "sel"))
    refine ⟨Fo, Du, dueD st, rfl, dpF, Dp.le (leJ.tr lGj) _ _ hdue, ⟨hds.ok.1, Nat.le_trans hds.ok.2 (by decide)⟩, hds.sh, hds.nd, hds.fits (by decide), ?_⟩
    walk_at "go"
    refine ⟨a, st.enc, rfl, Dp.le (leJ.tr lGj) _ _ hx9, hss.sh, hss.nd, Nat.le_trans hss.ok.2 (by decide), hss.fits (by decide), ?_⟩
    walk_at "go"
    refine .inl ⟨rfl, ?_⟩
    rw [decide_eq_true (rfl : V.str st.enc.shown = V.str st.enc.shown)]
    clear dpF
    walk_at "go"
    have hbll : bl.length = st.inner.length := Paired.length hbl
    refine r_for_enum (a := pB) (xs := bl.map fun e => .ref e.1) (fun j σ Ps => ∃ (u7 u8 : Option V) (l1 : List (Addr × List V)), σ = [some (.ref a), some (.ref P1), some (.ref P2), some (.ref Du), some (.str st.enc.shown), some (.int (i : Nat)), some (.ref Fo), u7, u8] ∧ l1.length = j ∧ (l1.map fun e => V.ref e.1) = (bl.take j).map (fun e => V.ref e.1) ∧ (∀ k e, l1[k]? = some e → ∃ xs, e.2 = xs ++ [V.int (k : Nat)]) ∧ Ps = pt Fo (.lst [.ref pB, madeV st, .ref pR, .ref pN, v4, v5]) :: pt pB (.lst (bl.map fun e => .ref e.1)) :: big (l1 ++ bl.drop j) :: pt pR (.lst ((readS st).map V.str)) :: pt pN (.lst ((setS st.names).map V.str)) :: hp Gj :: R) S ⟨_, _, [], rfl, rfl, by rw [List.take_zero], nofun, rfl⟩ (fun j σ Ps H ⟨_, _, _, _, _, _, _, e⟩ S => by subst e; walk_at "sq") ?_ ?_
    · rintro j x T σ Ps H hi ⟨u7, u8, l1, rfl, hl1, hf1, hc1, rfl⟩ S
      rw [List.getElem?_map] at hi
      cases eb : bl[j]? with
      | none => rw [eb] at hi; cases hi
      | some e =>
      rw [eb] at hi
      cases hi
      have hjl := (List.getElem?_eq_some_iff.mp eb).1
      have hdr : bl.drop j = e :: bl.drop (j + 1) := by
        rw [List.drop_eq_getElem_cons hjl, (List.getElem?_eq_some_iff.mp eb).2]
      obtain ⟨ea2, exs⟩ := e
      rw [hdr] at S
      refine r_gtup (xs := [.int (j : Nat), .ref ea2]) (by walk_at "st") rfl ?_
      have S := big_out (S.s6 (A := big (l1 ++ (ea2, exs) :: bl.drop (j + 1))) (B := pt Fo (.lst [.ref pB, madeV st, .ref pR, .ref pN, v4, v5])) (C := pt pB (.lst (bl.map fun e => .ref e.1))) (D := pt pR (.lst ((readS st).map V.str))) (E := pt pN (.lst ((setS st.names).map V.str))) (F := hp Gj) (by walk_at "sel"))
      obtain ⟨bd, hbd, hdd⟩ := paired_get hbl eb
      have hexl : exs.length ≤ 50 := by
        have h1 := dpall_len hdd
        rw [List.length_map] at h1
        have h2 := size_len bd.list
        have h3 := sizeBs_mem (List.mem_of_getElem? hbd)
        rw [bdy_size] at h3
        show exs.length ≤ 50
        have h1 : exs.length = bd.list.length := h1
        omega
      walk_at "go"
      have S : Sep (pt ea2 (.lst (exs ++ [.int (j : Nat)])) :: big (l1 ++ bl.drop (j + 1)) :: pt Fo (.lst [.ref pB, madeV st, .ref pR, .ref pN, v4, v5]) :: pt pB (.lst (bl.map fun e => .ref e.1)) :: pt pR (.lst ((readS st).map V.str)) :: pt pN (.lst ((setS st.names).map V.str)) :: hp Gj :: R) H := S.s7 (A := pt ea2 (.lst (exs ++ [.int (j : Nat)]))) (B := big (l1 ++ bl.drop (j + 1))) (C := pt Fo (.lst [.ref pB, madeV st, .ref pR, .ref pN, v4, v5])) (D := pt pB (.lst (bl.map fun e => .ref e.1))) (E := pt pR (.lst ((readS st).map V.str))) (F := pt pN (.lst ((setS st.names).map V.str))) (G := hp Gj) (by walk_at "sel")
      have S := big_back S
      have el : l1 ++ (ea2, exs ++ [V.int (j : Nat)]) :: bl.drop (j + 1) = (l1 ++ [(ea2, exs ++ [V.int (j : Nat)])]) ++ bl.drop (j + 1) := by simp
      rw [el] at S
      refine ⟨_, ⟨_, _, l1 ++ [(ea2, exs ++ [V.int (j : Nat)])], rfl, by rw [List.length_append, hl1]; rfl, ?_, ?_, rfl⟩, S.s6 (A := pt Fo (.lst [.ref pB, madeV st, .ref pR, .ref pN, v4, v5])) (B := pt pB (.lst (bl.map fun e => .ref e.1))) (C := big ((l1 ++ [(ea2, exs ++ [V.int (j : Nat)])]) ++ bl.drop (j + 1))) (D := pt pR (.lst ((readS st).map V.str))) (E := pt pN (.lst ((setS st.names).map V.str))) (F := hp Gj) (by walk_at "sel")⟩
      · rw [List.map_append, hf1, List.take_add_one, eb, List.map_append]
        rfl
      · intro k e he
        by_cases hk : k < l1.length
        · rw [List.getElem?_append_left hk] at he
          exact hc1 k e he
        · rw [List.getElem?_append_right (by omega)] at he
          have : k - l1.length = 0 := by
            have := (List.getElem?_eq_some_iff.mp he).1
            simp at this
            omega
          rw [this] at he
          cases he
          exact ⟨exs, by rw [show k = j by omega]⟩
    rintro σ Ps H ⟨u7, u8, l1, rfl, hl1, hf1, hc1, rfl⟩ S
    rw [List.length_map] at hl1 hf1 S
    rw [List.take_length] at hf1
    rw [List.drop_length, List.append_nil] at S
    walk_at "go"
    refine r_lc_list (xs := bl.map fun e => .ref e.1) (fun j acc Ps => acc = (List.range j).map (fun j => V.int (j : Nat)) ∧ Ps = pt Fo (.lst [.ref pB, madeV st, .ref pR, .ref pN, v4, v5]) :: pt pB (.lst (bl.map fun e => .ref e.1)) :: big l1 :: pt pR (.lst ((readS st).map V.str)) :: pt pN (.lst ((setS st.names).map V.str)) :: hp Gj :: R) S ⟨rfl, rfl⟩ (fun D j acc Ps H hi ⟨_, e⟩ S => by subst e; walk_at "sq") (by walk_at "sq") ?_ ?_
    · rintro D j x acc Ps H hi ⟨rfl, rfl⟩ S
      have hjl := (List.getElem?_eq_some_iff.mp hi).1
      rw [List.length_map] at hjl
      have hi2 := hi
      rw [← hf1, List.getElem?_map] at hi2
      cases eb : l1[j]? with
      | none => rw [eb] at hi2; cases hi2
      | some e =>
      rw [eb] at hi2
      cases hi2
      obtain ⟨exs, he⟩ := hc1 j e eb
      have hee := big_get (S.s1 (A := big l1) (by walk_at "sel")) (show (e.1, e.2) ∈ l1 from List.mem_of_getElem? eb)
      rw [he] at hee
      walk_at "go"
      refine ⟨rfl, ?_⟩
      walk_at "go"
      refine q_ixL (v := .int (j : Nat)) (SqL.of hee) (at_last _ _) ?_
      refine cn_in S (by rw [List.length_map, List.length_range]; omega) ⟨?_, rfl⟩
      rw [List.range_succ, List.map_append]
      rfl
    rintro D acc Ps H ⟨rfl, rfl⟩ S
    rw [List.length_map] at S
    walk_at "go"
    rw [List.length_map]
    refine r_klrg S (by omega) fun Lr H S => ?_
    refine r_ne_same (d := dInts ((List.range bl.length).map fun j : Nat => (j : Int))) (.lst (SqL.of (S.at_ (by walk_at "mem"))) ?_) (.lst (SqL.of (S.at_ (by walk_at "mem"))) ?_) (okd_ints 1 _) (by decide) ?_
    · have := dpall_ints (K := K) (H := H) ((List.range bl.length).map fun j : Nat => (j : Int))
      rw [List.map_map] at this
      exact this
    · have := dpall_ints (K := K) (H := H) ((List.range bl.length).map fun j : Nat => (j : Int))
      rw [List.map_map] at this
      exact this
    have S : Sep (pt Fo (.lst [.ref pB, madeV st, .ref pR, .ref pN, v4, v5]) :: pt pB (.lst (bl.map fun e => .ref e.1)) :: big l1 :: pt pR (.lst ((readS st).map V.str)) :: pt pN (.lst ((setS st.names).map V.str)) :: hp Gj :: R) H := S.s6 (A := pt Fo (.lst [.ref pB, madeV st, .ref pR, .ref pN, v4, v5])) (B := pt pB (.lst (bl.map fun e => .ref e.1))) (C := big l1) (D := pt pR (.lst ((readS st).map V.str))) (E := pt pN (.lst ((setS st.names).map V.str))) (F := hp Gj) (by walk_at "sel")
    have hrn := (read_names (s := st)).2
    walk_at "go"
    exact ⟨_, ⟨_, _, _, _, Gj, rfl, leJ, rfl⟩, S.s1 (A := hp Gj) (by walk_at "sel")⟩
  · rintro σ Ps H ⟨u5, u6, u7, u8, Gi, rfl, le, rfl⟩ S
    obtain ⟨Du', dxs, e, hsd, hda⟩ := dp_lstInv hdue
    cases e
    cases hda with | cons z1 t1 => cases t1 with | cons z2 t2 => cases t2 with | cons z3 t3 => cases t3 with | cons z4 t4 => cases t4 with | @cons w4 _ _ _ z5 t5 => cases t5 with | @cons w5 _ _ _ z6 t6 =>
    cases t6
    have hxi := Dp.le le _ _ hx9
    have hsD := SqL.le le hsd
    have SqD := hp_sqL S hsD
    walk_at "go"
    refine r_notN ?_
    cases e4 : turnS cpF st with
    | none =>
      rw [e4] at z5
      have z5 : Dp K G9 w4 .none := z5
      cases z5
      walk_at "go"
      refine q_iteN (fun h => absurd rfl h) (fun _ => ?_)
      walk_at "go"
      cases e5 : turnS shF st with
      | none =>
        rw [e5] at z6
        have z6 : Dp K G9 w5 .none := z6
        cases z6
        walk_at "go"
        exact q Gi H (lG9.tr le) S
      | some s5 =>
        rw [e5] at z6
        obtain ⟨y5, v5, u5', rfl⟩ := turn_two e5
        have z6 : Dp K G9 w5 (Stm.enc _) := z6
        rw [Stm.enc] at z6
        obtain ⟨a5, _, rfl, _, _⟩ := dp_tupInv z6
        have hx5 := Dp.le le _ _ hx9
        have ok5 := (turn_ok sf_w2 sm e5).ok
        walk_at "go"
        refine iteDN (fun h => nomatch h) ?_
        walk_at "go"
        refine ⟨a, st, NmOk, Gi, R, rfl, sm.ok, hx5, S, fun v6 Gl H le6 hv6 S => ?_⟩
        rw [e5] at hv6
        have hv6 : Dp K Gl v6 (Stm.enc _) := hv6
        obtain ⟨a6, _, rfl, _, _⟩ := dp_tupInv (by rw [Stm.enc] at hv6; exact hv6)
        walk_at "go"
        refine ⟨a6, .two y5 v5 u5', NmOk, Gl, R, rfl, ok5, hv6, S, fun v7 Gn H le7 hv7 S => ?_⟩
        rw [turn_back sf_cp sm.ok e5] at hv7
        have hv7 : Dp K Gn v7 st.enc := hv7
        walk_at "go"
        refine r_eq_same (hp_dp S hv7) (hp_dp S (Dp.le (le6.tr le7) _ _ hx5)) hss.ok (by decide) ?_
        walk_at "go"
        exact q Gn H (lG9.tr (le.tr (le6.tr le7))) S
    | some s4 =>
      rw [e4] at z5
      obtain ⟨y4, v4, u4, rfl⟩ := turn_two e4
      have z5 : Dp K G9 w4 (Stm.enc _) := z5
      rw [Stm.enc] at z5
      obtain ⟨a4, _, rfl, _, _⟩ := dp_tupInv z5
      have ok4 := (turn_ok cp_w2 sm e4).ok
      walk_at "go"
      refine q_iteN (fun _ => ?_) (fun h => nomatch h)
      walk_at "go"
      refine ⟨a, st, NmOk, Gi, R, rfl, sm.ok, hxi, S, fun v6 Gl H le6 hv6 S => ?_⟩
      rw [e4] at hv6
      have hv6 : Dp K Gl v6 (Stm.enc _) := hv6
      obtain ⟨a6, _, rfl, _, _⟩ := dp_tupInv (by rw [Stm.enc] at hv6; exact hv6)
      walk_at "go"
      refine ⟨a6, .two y4 v4 u4, NmOk, Gl, R, rfl, ok4, hv6, S, fun v7 Gn H le7 hv7 S => ?_⟩
      rw [turn_back cp_sf sm.ok e4] at hv7
      have hv7 : Dp K Gn v7 st.enc := hv7
      walk_at "go"
      refine r_ne_same (hp_dp S hv7) (hp_dp S (Dp.le (le6.tr le7) _ _ hxi)) hss.ok (by decide) ?_
      have leN := le.tr (le6.tr le7)
      have SqD := hp_sqL S (SqL.le leN hsd)
      walk_at "go"
      cases e5 : turnS shF st with
      | none =>
        rw [e5] at z6
        have z6 : Dp K G9 w5 .none := z6
        cases z6
        walk_at "go"
        exact q Gn H (lG9.tr leN) S
      | some s5 =>
        rw [e5] at z6
        obtain ⟨y5, v5, u5', rfl⟩ := turn_two e5
        have z6 : Dp K G9 w5 (Stm.enc _) := z6
        rw [Stm.enc] at z6
        obtain ⟨a5, _, rfl, _, _⟩ := dp_tupInv z6
        have hx5 := Dp.le leN _ _ hx9
        have ok5 := (turn_ok sf_w2 sm e5).ok
        walk_at "go"
        refine iteDN (fun h => nomatch h) ?_
        walk_at "go"
        refine ⟨a, st, NmOk, Gn, R, rfl, sm.ok, hx5, S, fun v6 Gl H le6 hv6 S => ?_⟩
        rw [e5] at hv6
        have hv6 : Dp K Gl v6 (Stm.enc _) := hv6
        obtain ⟨a6, _, rfl, _, _⟩ := dp_tupInv (by rw [Stm.enc] at hv6; exact hv6)
        walk_at "go"
        refine ⟨a6, .two y5 v5 u5', NmOk, Gl, R, rfl, ok5, hv6, S, fun v7 Gn H le7 hv7 S => ?_⟩
        rw [turn_back sf_cp sm.ok e5] at hv7
        have hv7 : Dp K Gn v7 st.enc := hv7
        walk_at "go"
        refine r_eq_same (hp_dp S hv7) (hp_dp S (Dp.le (le6.tr le7) _ _ hx5)) hss.ok (by decide) ?_
        walk_at "go"
        exact q Gn H (lG9.tr (leN.tr (le6.tr le7))) S
end
end Pf

set_option Elab.async false
set_option linter.all false
set_option maxRecDepth 100000
set_option maxHeartbeats 16000000
namespace Pf
open PySem L2 Kt
set_option hygiene false
local macro_rules | `(tactic| walk_at "mem") => `(tactic| (with_reducible (repeat (first | exact Pick.hd | apply Pick.tl)); done))
local macro_rules | `(tactic| walk_at "rep") => `(tactic| (with_reducible (repeat (first | exact Repl.hd | apply Repl.tl)); done))
local macro_rules | `(tactic| walk_at "sel") => `(tactic| ((repeat (with_reducible apply Sel.cons; (focus walk_at "mem"))); (with_reducible apply Sel.nil); (with_reducible (repeat (first | exact Dr.all | apply Dr.skip)); done)))
local macro_rules | `(tactic| walk_at "at") => `(tactic| (refine' Sep.at_ (by assumption) ?kkpk; (case kkpk => walk_at "mem")))
local macro_rules | `(tactic| walk_at "sq") => `(tactic| first | assumption | (refine' Sep.sq (by assumption) ?kkpk; (case kkpk => walk_at "mem")))
local macro_rules | `(tactic| walk_at "st") => `(tactic| first | assumption | (refine' Sep.st (by assumption) ?kkpk; (case kkpk => walk_at "mem")))
local macro_rules | `(tactic| walk_at "lk") => `(tactic| (repeat (first | (with_reducible exact lk_eq) | exact rfl | refine (lk_ne (by decide +kernel)).trans ?_)))
local macro_rules | `(tactic| walk_at "pf") => `(tactic| (repeat (first | (with_reducible exact pf_nil) | (with_reducible exact pf_eq) | (apply pf_ne; (focus decide +kernel)))))
local macro_rules | `(tactic| walk_at "ty") => `(tactic| first | exact ty_int | (refine' ty_lst ?kkh; (case kkh => walk_at "at")))
local macro_rules | `(tactic| walk_at "k1") => `(tactic| with_reducible first
  | refine q_seq ?_ | refine q_set ?_ | refine q_asg ?_ | refine q_ret ?_ | refine q_drop ?_ | refine q_next ?_ | refine q_c ?_ | refine q_op ?_ | refine q_un ?_ | refine q_nil ?_ | refine q_cons ?_ | refine q_cb ?_
  | refine q_call ?_ | refine q_ifs ?_ | refine q_if ?_ | refine q_test ?_ | refine q_tb ?_ | refine q_bl ?_ | refine q_notT ?_ | refine q_andT ?_ | refine q_orT ?_ | refine q_andV ?_ | refine q_orV ?_ | refine q_notV ?_
  | refine q_addA ?_ | refine q_subI ?_ | refine q_ltI ?_ | refine q_leI ?_ | refine q_gtI ?_ | refine q_geI ?_ | refine q_eqI ?_ | refine q_neI ?_ | refine q_abs ?_ | refine q_int ?_ | refine q_intB ?_ | refine q_max ?_ | refine q_min ?_
  | refine q_ipAdd ?_ | refine q_ipSub ?_ | refine q_gsub ?_ | refine q_augs ?_ | refine q_lst ?_ | refine q_tup ?_ | refine q_blI ?_ | refine iteT ?_ | refine iteF ?_ | refine iteNT ?_ | refine iteNF ?_
  | refine r_prop ?_ | refine r_fld ?_ | refine r_sfld ?_ | refine r_meth ?_ | refine r_make ?_ | refine r_sl ?_ | refine r_nopart ?_ | refine r_part ?_ | refine r_parti ?_ | refine r_gsl ?_ | refine r_bm ?_ | refine r_bm0 ?_ | refine r_for ?_ | refine r_ilist ?_ | refine r_irng ?_
  | refine r_gname ?_ | refine r_gcons ?_ | refine r_gnil ?_ | refine r_par ?_ | refine r_parA ?_ | refine r_chain ?_ | refine r_isN ?_ | refine r_tlc ?_ | refine r_yes ?_ | refine r_makek ?_ | refine r_neg ?_)
local macro_rules | `(tactic| walk_at "k2") => `(tactic| first
  | ((with_reducible refine' q_var ?kke ?_); (case kke => rfl))
  | ((with_reducible refine' q_aug ?kke ?_); (case kke => rfl))
  | ((with_reducible refine' q_ixL ?kks ?kke ?_); (case kks => walk_at "sq"); (case kke => first | rfl | assumption))
  | ((with_reducible refine' q_ixT ?kks ?kke ?_); (case kks => walk_at "st"); (case kke => first | rfl | assumption))
  | ((with_reducible refine' q_ixLL ?kks ?kke ?_); (case kks => walk_at "sq"); (case kke => first | rfl | assumption))
  | ((with_reducible refine' q_lenL ?kks ?_); (case kks => walk_at "sq"))
  | ((with_reducible refine' q_mulI ?kkc ?_); (case kkc => first | exact .inl (by omega) | exact .inr (by omega)))
  | ((with_reducible refine' q_modI ?kkc ?_); (case kkc => omega))
  | ((with_reducible refine' q_divI ?kkc ?_); (case kkc => exact ⟨by omega, by omega⟩))
  | ((with_reducible refine' q_powI ?kkc ?_); (case kkc => exact ⟨by decide, by decide, by decide⟩))
  | ((with_reducible refine' r_kfld ?kkS ?kkp ?kkc ?kkn ?kkl ?_); (case kkS => assumption); (case kkp => walk_at "mem"); (case kkc => walk_at "cls"); (case kkn => walk_at "na"); (case kkl => walk_at "lk"))
  | ((with_reducible refine' r_kprop ?kkS ?kkp ?_); (case kkS => assumption); (case kkp => walk_at "mem"))
  | ((with_reducible refine' r_kmeth ?kkS ?kkp ?kkl ?_); (case kkS => assumption); (case kkp => walk_at "mem"); (case kkl => walk_at "lk"))
  | ((with_reducible refine' r_calll ?kks ?_); (case kks => rfl))
  | ((with_reducible refine' r_tyl ?kks ?_); (case kks => walk_at "sq"))
  | ((with_reducible refine' r_isi (k := true) ?kkt ?kke ?_); (case kkt => walk_at "ty"); (case kke => decide +kernel))
  | ((with_reducible refine' r_isi (k := false) ?kkt ?kke ?_); (case kkt => walk_at "ty"); (case kke => decide +kernel)))
local macro_rules | `(tactic| walk_at "k3") => `(tactic| first
  | ((with_reducible refine' q_setS ?kkS ?kkr ?kke ?_); (case kkS => assumption); (case kkr => walk_at "rep"); (case kke => rfl); intro H S)
  | ((with_reducible refine' r_kset ?kkS ?kkr ?kkc ?kkn ?kkl ?kke ?_); (case kkS => assumption); (case kkr => walk_at "rep"); (case kkc => walk_at "cls"); (case kkn => walk_at "na"); (case kkl => first | exact Nat.le_of_ble_eq_true rfl | assumption | omega | (simp; done) | (simp; omega)); (case kke => walk_at "pf"); intro H S)
  | ((with_reducible refine' q_new ?kkS ?kkl ?_); (case kkS => assumption); (case kkl => first | exact Nat.le_of_ble_eq_true rfl | assumption | omega | (simp; done) | (simp; omega)); intro p H S)
  | ((with_reducible refine' q_newT ?kkS ?kkl ?_); (case kkS => assumption); (case kkl => first | exact Nat.le_of_ble_eq_true rfl | assumption | omega | (simp; done) | (simp; omega)); intro p H S)
  | ((with_reducible refine' r_knew ?kkS ?_); (case kkS => assumption); intro x dx H S)
  | ((with_reducible refine' r_knewk ?kkS ?kkl1 ?kkl2 ?_); (case kkS => assumption); (case kkl1 => rfl); (case kkl2 => rfl); intro x dx H S)
  | ((with_reducible refine' r_ksl ?kkS ?kks ?_); (case kkS => assumption); (case kks => walk_at "sq"); intro p H S)
  | ((with_reducible refine' r_list ?kkS ?kks ?_); (case kkS => assumption); (case kks => walk_at "sq"); intro p H S)
  | ((with_reducible refine' r_cat ?kkS ?kks1 ?kks2 ?kkz ?_); (case kkS => assumption); (case kks1 => walk_at "at"); (case kks2 => walk_at "at"); (case kkz => first | omega | (simp; omega)); intro p H S)
  | ((with_reducible refine' r_append ?kkS ?kkr ?kkz ?_); (case kkS => assumption); (case kkr => walk_at "rep"); (case kkz => first | omega | (simp; omega)); intro H S)
  | ((with_reducible refine' r_reverse ?kkS ?kkr ?_); (case kkS => assumption); (case kkr => walk_at "rep"); intro H S)
  | ((with_reducible refine' r_clear ?kkS ?kkr ?_); (case kkS => assumption); (case kkr => walk_at "rep"); intro H S))
local macro_rules | `(tactic| walk_at "gn") => `(tactic| repeat (first | walk_at "k1" | walk_at "k2"))
local macro_rules | `(tactic| walk_at "go") => `(tactic| repeat (first | walk_at "k1" | walk_at "k2" | walk_at "k3"))

local macro_rules | `(tactic| walk_at "sq") => `(tactic| first | assumption | (refine' Sep.sq ?kkS ?kkpk; (case kkS => assumption); (case kkpk => walk_at "mem")) | (refine' hp_sqL ?kkS ?kkx; (case kkS => assumption); (case kkx => assumption)) | (refine' hp_sqL (Sep.tl ?kkS) ?kkx; (case kkS => assumption); (case kkx => assumption)) | (refine' hp_sqL (Sep.tl (Sep.tl ?kkS)) ?kkx; (case kkS => assumption); (case kkx => assumption)))
local macro_rules | `(tactic| walk_at "st") => `(tactic| first | assumption | (refine' Sep.st ?kkS ?kkpk; (case kkS => assumption); (case kkpk => walk_at "mem")) | (refine' hp_sqT ?kkS ?kkx; (case kkS => assumption); (case kkx => assumption)) | (refine' hp_sqT (Sep.tl ?kkS) ?kkx; (case kkS => assumption); (case kkx => assumption)) | (refine' hp_sqT (Sep.tl (Sep.tl ?kkS)) ?kkx; (case kkS => assumption); (case kkx => assumption)))
local macro_rules | `(tactic| walk_at "k1") => `(tactic| with_reducible first | refine r_ienumT ?_ | refine r_tru ?_ | refine r_itup ?_ | refine r_star ?_ | refine r_par3 ?_ | refine r_parA3 ?_ | refine r_dget ?_ | refine r_din ?_ | refine r_dnotin ?_ | refine r_dput ?_)

local macro_rules | `(tactic| walk_at "k1") => `(tactic| with_reducible first | refine r_kget ?_ | refine r_orT ?_ | refine r_slA ?_ | refine r_m1 ?_ | refine r_isS ?_)
local macro_rules | `(tactic| walk_at "k1") => `(tactic| with_reducible first | refine r_iany ?_ | refine r_ienum ?_ | refine r_lrg ?_)

section
variable {P : Program} {w : World} {K : PySem.W.Frag} {mg : Str → Option Value} {base : Heap} {f_NAMES_IN f_MAKING f_COPYING f_SHARING : Addr}
theorem sc_l_wide : FnScope N_l_wide ["_law_bag_here"] (defScope s_l_wide) := ⟨rfl, rfl, rfl, by decide +kernel, rfl, by decide +kernel, by decide +kernel⟩
def lookS : Stm := .one "look" "x"
def WideB (b : Bdy) : Prop := ∃ k, k ≤ 1 ∧ b = .mk false (List.replicate k lookS)
theorem look_ok : lookS.Ok NmOk := by
  rw [lookS, Stm.Ok]
  exact ⟨by decide, nm_by (by decide +kernel)⟩
theorem wide_b {b : Bdy} (h : WideB b) : b.Ok NmOk ∧ b.size ≤ 1 ∧ b.dep = 0 ∧ b.names.length ≤ 1 := by
  obtain ⟨k, hk, rfl⟩ := h
  rcases (show k = 0 ∨ k = 1 by omega) with rfl | rfl
  · refine ⟨?_, ?_, ?_, ?_⟩
    · rw [Bdy.Ok]; exact okSs_iff.mpr nofun
    · rw [Bdy.size]; show sizeSs [] ≤ 1; rw [sizeSs]; omega
    · rw [Bdy.dep]; show depSs [] = 0; rw [depSs]
    · rw [Bdy.names]; show (namesSs []).length ≤ 1; rw [namesSs]; exact Nat.zero_le _
  · refine ⟨?_, ?_, ?_, ?_⟩
    · rw [Bdy.Ok]; exact okSs_iff.mpr fun s m => by
        rw [List.eq_of_mem_replicate m]
        exact look_ok
    · rw [Bdy.size]; show sizeSs [lookS] ≤ 1; rw [sizeSs, sizeSs, lookS, Stm.size]; omega
    · rw [Bdy.dep]; show depSs [lookS] = 0; rw [depSs, depSs, lookS, Stm.dep]; omega
    · rw [Bdy.names]; show (namesSs [lookS]).length ≤ 1; rw [namesSs, namesSs, lookS, Stm.names]; exact Nat.le_refl _
theorem wide_bs : ∀ {bs : List Bdy}, (∀ b ∈ bs, WideB b) → okBs NmOk bs ∧ sizeBs bs ≤ bs.length ∧ depBs bs = 0 ∧ (namesBs bs).length ≤ bs.length
  | [], _ => ⟨by rw [okBs]; trivial, by rw [sizeBs]; exact Nat.zero_le _, by rw [depBs], by rw [namesBs]; exact Nat.zero_le _⟩
  | b :: bs, h => by
    obtain ⟨a1, a2, a3, a4⟩ := wide_b (h b List.mem_cons_self)
    obtain ⟨b1, b2, b3, b4⟩ := wide_bs (bs := bs) fun x m => h x (List.mem_cons_of_mem _ m)
    refine ⟨by rw [okBs]; exact ⟨a1, b1⟩, by rw [sizeBs, List.length_cons]; omega, by rw [depBs]; omega, by rw [namesBs, List.length_append, List.length_cons]; omega⟩
theorem wide_sm {bs : List Bdy} (h : ∀ b ∈ bs, WideB b) (hl : bs.length ≤ 10) : Sm (.either false bs) := by
  obtain ⟨b1, b2, b3, b4⟩ := wide_bs h
  exact ⟨by rw [Stm.Ok]; exact ⟨by omega, b1⟩, by rw [Stm.size]; omega, by rw [Stm.dep]; omega, by rw [Stm.names]; omega⟩
def spWide (K : PySem.W.Frag) : Sp := fun vs H Q _ => ∃ (b : Addr) (G : Hp) (R : List SP), vs = [.ref b] ∧ Sep (hp G :: bag b :: R) H ∧
  ∀ d t e lb pre stv bs G' H', Le G G' → G' d = some (.dK [((.inr "main" : Key), .ref t)]) → G' t = some (.tup [.ref e, .ref lb, .str "s"]) → G' lb = some (.lst (pre ++ [stv])) → Dp K G' stv (Stm.either false bs).enc → (∀ b ∈ bs, WideB b) → bs.length ≤ 10 → Sep (hp G' :: bag b :: R) H' → Q (.ref d) H'
theorem ok_l_wide {f f1 : Addr} (F : Dt K mg "_law_wide" s_l_wide ["_law_bag_here"] f) (T : Tx K mg f_NAMES_IN f_MAKING f_COPYING f_SHARING) (D_l_take : Df P w K mg base 1 "_law_take" f1 ["_law_bag_here", "_law_many"] spTake) : Df P w K mg base 2 "_law_wide" f ["_law_bag_here"] (spWide K) := by
  refine F.ok sc_l_wide (fun vs H Q E h => ?_) (fun cdv A outer s H vs Q E hr h => ?_)
  · obtain ⟨b, G, R, rfl, _⟩ := h
    rfl
  obtain ⟨b, G, R, rfl, S, q⟩ := h
  refine ⟨_, (pss_cons (ps_setLc (i := 1) (own := [("_law_k", 2)]) rfl sc_l_wide.nd rfl rfl (sw_true rfl rfl rfl (by decide +kernel)) (pi_range1 rfl T.z_range (pa_cons (pe_op (r := rAddA) op_addA pe_int (pe_df D_l_take (hr.mono (by first | decide | omega)) (pa_cons (pv 0) (pa_cons pe_int pa_nil)))) pa_nil)) (blkOk_by (own := [("_law_k", 2)]) (N := N_l_wide) (sc := defScope s_l_wide) (by decide +kernel)) (fun _ _ _ _ _ => (pg_name (i := 2) sc_l_wide.nd rfl (by first | exact Or.inl rfl | exact Or.inr rfl))) (fun _ _ _ _ _ => pts_nil) (fun _ _ _ _ _ => (pe_op (r := rMulA) op_mulA (pe_lst (pa_cons (pe_tup (pa_cons pe_str (pa_cons pe_str pa_nil))) pa_nil)) (pe_df D_l_take (hr.mono (by first | decide | omega)) (pa_cons (pv 0) (pa_cons pe_int pa_nil))))))
      (pss_one (ps_ret (pe_disp (pps_cons pe_str (pe_tup (pa_cons (pe_lst pa_nil) (pa_cons (pe_op (r := rAddA) op_addA (pe_op (r := rMulA) op_mulA (pe_lst (pa_cons (pe_tup (pa_cons pe_str (pa_cons pe_str pa_nil))) pa_nil)) (pe_df D_l_take (hr.mono (by first | decide | omega)) (pa_cons (pv 0) (pa_cons pe_int pa_nil)))) (pe_lst (pa_cons (pe_tup (pa_cons pe_str (pa_cons (pv 1) pa_nil))) pa_nil))) (pa_cons pe_str pa_nil)))) pps_nil) rfl rfl (by simp) (by decide))))), ?_⟩
  walk_at "go"
  refine ⟨b, 9, _, rfl, by decide, by decide, S.s1 (A := bag b) (by walk_at "sel"), fun v H v0 v1 S => ?_⟩
  obtain ⟨n, rfl⟩ := Int.eq_ofNat_of_zero_le v0
  walk_at "go"
  have S : Sep (hp G :: bag b :: R) H := S.s2 (A := hp G) (B := bag b) (by walk_at "sel")
  refine r_lc_rng (fun i acc Ps => ∃ (bs : List Bdy) (Gi : Hp), bs.length = i ∧ acc.length = i ∧ (∀ b ∈ bs, WideB b) ∧ Le G Gi ∧ DpAll K Gi acc (bs.map Bdy.enc) ∧ Ps = hp Gi :: bag b :: R) S (by omega) (by omega) ⟨[], G, rfl, rfl, nofun, Le.rfl, .nil, rfl⟩ ?_ ?_
  · rintro D i acc Ps H hi ⟨bs, Gi, hbl, hal, hbw, le, hd, rfl⟩ S
    have hi : i < (1 + (n : Int)).toNat := hi
    walk_at "go"
    refine ⟨rfl, ?_⟩
    walk_at "go"
    rename_i p1 _ _
    obtain ⟨p2, rfl⟩ : ∃ z, z = p := ⟨p, rfl⟩
    refine ⟨b, 2, _, rfl, by decide, by decide, S.s1 (A := bag b) (by walk_at "sel"), fun v H w0 w1 S => ?_⟩
    have S : Sep (pt p1 (.tup [.str "look", .str "x"]) :: hp Gi :: pt p2 (.lst [.ref p1]) :: pt D (.lst acc) :: bag b :: R) H := S.s5 (A := pt p1 (.tup [.str "look", .str "x"])) (B := hp Gi) (C := pt p2 (.lst [.ref p1])) (D := pt D (.lst acc)) (E := bag b) (by walk_at "sel")
    obtain ⟨G2, le2, h2, S⟩ := hp_tup (K := K) S (ds := [.str "look", .str "x"]) (.cons (.str _) (.cons (.str _) .nil))
    refine r_rep2 (n := v) (xs := [.ref p1]) S (S.at_ (by walk_at "mem")) w0 (by omega) (show 1 ≤ 10 by decide) fun p3 H S => ?_
    have hlk : lookS.enc = .tuple [.str "look", .str "x"] := by rw [lookS, Stm.enc]
    have hdp : DpAll K G2 (List.replicate v.toNat [V.ref p1]).flatten ((List.replicate v.toNat lookS).map Stm.enc) := by
      rcases (show v = 0 ∨ v = 1 by omega) with rfl | rfl
      · exact .nil
      · show DpAll K G2 [V.ref p1] [lookS.enc]
        rw [hlk]
        exact .cons h2 .nil
    obtain ⟨G3, le3, h3, S⟩ := hp_lst (K := K) (S.s4 (A := pt p3 (.lst (List.replicate v.toNat [V.ref p1]).flatten)) (B := hp G2) (C := pt D (.lst acc)) (D := bag b) (by walk_at "sel")) hdp
    refine cn_in (Ps := hp G3 :: bag b :: R) (S.s3 (A := pt D (.lst acc)) (B := hp G3) (C := bag b) (by walk_at "sel")) (by omega) ⟨bs ++ [.mk false (List.replicate v.toNat lookS)], G3, by rw [List.length_append, hbl]; rfl, by rw [List.length_append, hal]; rfl, fun x m => ?_, le.tr (le2.tr le3), ?_, rfl⟩
    · rcases List.mem_append.mp m with m | m
      · exact hbw x m
      · rw [List.mem_singleton] at m
        exact ⟨v.toNat, by omega, m⟩
    · rw [List.map_append]
      refine dpall_snoc (DpAll.le (le2.tr le3) _ _ hd) ?_
      show Dp K G3 _ (Bdy.enc _)
      rw [Bdy.enc, encSs_map]
      exact h3
  rintro D acc Ps H ⟨bs, Gi, hbl, hal, hbw, le, hd, rfl⟩ S
  have hbl : bs.length ≤ 10 := by omega
  obtain ⟨G2, le2, hD, S⟩ := hp_lst (K := K) S hd
  walk_at "go"
  refine r_dispP S fun pe H S => ?_
  refine q_pair ?_
  walk_at "go"
  rename_i e _ _ p1 _ _
  obtain ⟨p2, rfl⟩ : ∃ z, z = p := ⟨p, rfl⟩
  refine ⟨b, 2, _, rfl, by decide, by decide, S.s1 (A := bag b) (by walk_at "sel"), fun v H w0 w1 S => ?_⟩
  refine r_rep2 (n := v) (xs := [.ref p1]) S (S.at_ (by walk_at "mem")) w0 (by omega) (show 1 ≤ 10 by decide) fun p3 H S => ?_
  have hrl : (List.replicate v.toNat [V.ref p1]).flatten.length ≤ 1 := by
    rcases (show v = 0 ∨ v = 1 by omega) with rfl | rfl
    · exact Nat.zero_le _
    · exact Nat.le_refl _
  generalize (List.replicate v.toNat [V.ref p1]).flatten = pre at S hrl
  walk_at "go"
  rename_i pE _ _ pK _ _ pL _ _
  refine q_pairN ⟨S.at_ (by walk_at "mem"), [(.inr "main", .ref p)], rfl, by simp, ?_⟩
  have mg : mergeK [] [((.inr "main" : Key), V.ref p)] = [((.inr "main" : Key), V.ref p)] := mergeK_nd (l := []) (show ([.inr "main"] : List Key).Nodup by decide +kernel)
  rw [mg]
  have S := (S.s6 (A := pt pe (.dK [])) (B := hp G2) (C := pt p (.tup [.ref e, .ref pL, .str "s"])) (D := pt pL (.lst (pre ++ [.ref pE]))) (E := pt pE (.tup [.str "either", .ref D])) (F := bag b) (by walk_at "sel")).hd_set (.dK [((.inr "main" : Key), V.ref p)])
  obtain ⟨G3, le3, h3, S⟩ := hp_tup (K := K) (S.s6 (A := pt pE (.tup [.str "either", .ref D])) (B := hp G2) (C := pt pe (.dK [((.inr "main" : Key), V.ref p)])) (D := pt p (.tup [.ref e, .ref pL, .str "s"])) (E := pt pL (.lst (pre ++ [.ref pE]))) (F := bag b) (by walk_at "sel")) (ds := [.str "either", .list (bs.map Bdy.enc)]) (.cons (.str _) (.cons hD .nil))
  obtain ⟨G4, le4, e4, S⟩ := hp_add (S.s5 (A := pt pL (.lst (pre ++ [.ref pE]))) (B := hp G3) (C := pt pe (.dK [((.inr "main" : Key), V.ref p)])) (D := pt p (.tup [.ref e, .ref pL, .str "s"])) (E := bag b) (by walk_at "sel"))
  obtain ⟨G5, le5, e5, S⟩ := hp_add (S.s4 (A := pt p (.tup [.ref e, .ref pL, .str "s"])) (B := hp G4) (C := pt pe (.dK [((.inr "main" : Key), V.ref p)])) (D := bag b) (by walk_at "sel"))
  obtain ⟨G6, le6, e6, S⟩ := hp_add (R := bag b :: R) (S.s3 (A := pt pe (.dK [((.inr "main" : Key), V.ref p)])) (B := hp G5) (C := bag b) (by walk_at "sel"))
  refine q pe p e pL pre (.ref pE) bs G6 _ (le.tr (le2.tr (le3.tr (le4.tr (le5.tr le6))))) e6 (le6 _ _ e5) ((le5.tr le6) _ _ e4) ?_ hbw hbl S
  rw [Stm.enc, encBs_map]
  exact Dp.le (le4.tr (le5.tr le6)) _ _ h3
theorem sc_law : FnScope N_law ["_law_script"] (defScope s_law) := ⟨rfl, rfl, rfl, by decide +kernel, rfl, by decide +kernel, by decide +kernel⟩
def spLaw (K : PySem.W.Frag) : Sp := fun vs H Q _ => ∃ (a : Addr) (ns : List Int), vs = [.ref a] ∧ SqL K H a (ns.map V.int) ∧ ns.length ≤ 63 ∧ ∀ H', Q (.bl true) H'
theorem r_lc_vals {Ps : List SP} {d : Addr} {od : Obj} {kvs : List (Key × V)} {g : TG} {tt : TT} {te : TE} {vs : List Nat} {Q : VK} {σ : L2.St} {H : Hp} (J : CW) (S : Sep Ps H) (h0 : J 0 [] Ps) (hl : ∀ D i acc Ps H, J i acc Ps → Sep (pt D (.lst acc) :: Ps) H → H d = some (.frz od (.dK kvs)))
    (hs : ∀ D i (k : Key) x acc Ps H, kvs[i]? = some (k, x) → J i acc Ps → Sep (pt D (.lst acc) :: Ps) H → g x (wipe σ vs) H fun σ2 H2 => wipe σ2 vs = wipe σ vs ∧ tt σ2 H2 fun b H3 =>
      if b = true then te σ2 H3 fun y H4 => ∃ acc, H4 D = some (.lst acc) ∧ acc.length < sizeLine ∧ CN J D (i + 1) (upd H4 D (.lst (acc ++ [y]))) else CN J D (i + 1) H3)
    (hd : ∀ D acc Ps H, J kvs.length acc Ps → Sep (pt D (.lst acc) :: Ps) H → Q (.ref D) H) : LcW (Itd d od kvs) g tt te vs Q σ H := fun D nD => by
  refine lc_it (walk_values (d := d) (o := od) (kvs := kvs)) (CN J D) ⟨[], Ps, h0, S.new _ nD⟩ (fun i H hi ⟨acc, Ps, j, S⟩ => hl D i acc Ps H j S) (fun i x H H' hi ⟨acc, Ps, j, S⟩ y => ?_) fun H ⟨acc, Ps, j, S⟩ => hd D acc Ps H j S
  obtain ⟨rfl, k, e⟩ := y
  exact hs D i k x acc Ps _ e j S
theorem r_sumL {p D : Addr} {ls : List Addr} {xss : List (List V)} {zs : List V} {Ps : List SP} {H : Hp} {Q : VK} (S : Sep (pt p (.lst zs) :: Ps) H) (hD : SqL K H D (ls.map V.ref)) (hp : Paired (fun l xs => H l = some (.lst xs)) ls xss) (hl : (zs ++ xss.flatten).length ≤ 100000)
    (h : ∀ r H', Sep (pt r (.lst (zs ++ xss.flatten)) :: Ps) H' → Q (.ref r) H') : rSumL K [.ref D, .ref p] H Q := by
  refine ⟨D, p, ls, xss, zs, rfl, hD, S.hd_at, hp, Nat.le_trans hl (by decide), fun e => ?_, fun r nr => h r _ (S.tl.new _ nr)⟩
  subst e
  cases hp
  refine h p H ?_
  rw [List.flatten_nil, List.append_nil]
  exact S
theorem flat_dp {G : Hp} {α : Type} {g : α → List Stm} : ∀ {xss : List (List V)} {fs : List α}, Paired (fun xs f => DpAll K G xs ((g f).map Stm.enc)) xss fs → DpAll K G xss.flatten ((fs.flatMap g).map Stm.enc)
  | _, _, .nil => .nil
  | _, _, .cons z t => by
    rw [List.flatten_cons, List.flatMap_cons, List.map_append]
    exact dpall_app z (flat_dp t)
theorem fs_size : ∀ {fs : List Fn}, (∀ f ∈ fs, (∀ s ∈ f.body, StOk s) ∧ sizeSs f.body ≤ 12) → sizeSs (fs.flatMap Fn.body) ≤ 12 * fs.length ∧ ∀ s ∈ fs.flatMap Fn.body, StOk s
  | [], _ => ⟨by rw [List.flatMap_nil, sizeSs]; exact Nat.zero_le _, nofun⟩
  | f :: fs, h => by
    obtain ⟨h1, h2⟩ := fs_size (fs := fs) fun x m => h x (List.mem_cons_of_mem _ m)
    obtain ⟨h3, h4⟩ := h f List.mem_cons_self
    refine ⟨by rw [List.flatMap_cons, sizeSs_app, List.length_cons]; omega, fun s m => ?_⟩
    rw [List.flatMap_cons] at m
    rcases List.mem_append.mp m with m | m
    · exact h3 s m
    · exact h2 s m
theorem sts_names : ∀ {l : List Stm}, (∀ s ∈ l, StOk s) → (namesSs l).length ≤ 3 * sizeSs l
  | [], _ => by rw [namesSs]; exact Nat.zero_le _
  | s :: l, h => by
    rw [namesSs, sizeSs, List.length_append]
    have := (h s List.mem_cons_self).nl
    have := sts_names (l := l) fun x m => h x (List.mem_cons_of_mem _ m)
    omega
theorem sizeSs_mem {l : List Stm} {s : Stm} (h : s ∈ l) : s.size ≤ sizeSs l := by
  obtain ⟨l1, l2, rfl⟩ := List.append_of_mem h
  rw [sizeSs_app, sizeSs]
  omega
theorem namesSs_mem {l : List Stm} {s : Stm} (h : s ∈ l) : s.names.length ≤ (namesSs l).length := by
  obtain ⟨l1, l2, rfl⟩ := List.append_of_mem h
  rw [namesSs_app, namesSs, List.length_append, List.length_append]
  omega
theorem sm_of {l : List Stm} (ok : okSs NmOk l) (h1 : sizeSs l ≤ 50) (h2 : depSs l ≤ 4) (h3 : (namesSs l).length ≤ 150) : ∀ s ∈ l, Sm s := fun s m =>
  ⟨okSs_iff.mp ok s m, Nat.le_trans (sizeSs_mem m) h1, depSs_le.mp h2 s m, Nat.le_trans (namesSs_mem m) h3⟩
theorem depBs_flat : ∀ bs : List Bdy, depSs (bs.flatMap Bdy.list) = depBs bs
  | [] => by rw [List.flatMap_nil, depSs, depBs]
  | .mk t l :: bs => by rw [List.flatMap_cons, depSs_app, depBs, depBs_flat bs, Bdy.dep, Bdy.list]
theorem namesBs_flat2 : ∀ bs : List Bdy, namesSs (bs.flatMap Bdy.list) = namesBs bs
  | [] => by rw [List.flatMap_nil, namesSs, namesBs]
  | .mk t l :: bs => by rw [List.flatMap_cons, namesSs_app, namesBs, namesBs_flat2 bs, Bdy.names, Bdy.list]
theorem okBs_flat {p : Str → Prop} : ∀ {bs : List Bdy}, okBs p bs → okSs p (bs.flatMap Bdy.list)
  | [], _ => by rw [List.flatMap_nil, okSs]; trivial
  | .mk t l :: bs, h => by
    rw [okBs, Bdy.Ok] at h
    rw [List.flatMap_cons, Bdy.list]
    exact okSs_iff.mpr fun s m => (List.mem_append.mp m).elim (okSs_iff.mp h.1 s) (okSs_iff.mp (okBs_flat h.2) s)
theorem inner_sm {s : Stm} (h : Sm s) : (∀ x ∈ s.inner.flatMap Bdy.list, Sm x) ∧ (s.inner.flatMap Bdy.list).length ≤ 50 := by
  obtain ⟨h1, h2, h3, h4, _⟩ := inner_facts h
  rw [sizeBs_flat] at h3
  exact ⟨sm_of (okBs_flat h1) h3 (by rw [depBs_flat]; exact h2) (by rw [namesBs_flat2]; exact h4), Nat.le_trans (size_len _) h3⟩
theorem ok_law {f f1 f2 f3 f4 f5 f6 : Addr} {fd : FuncData} (F : Fun K "law" "law" s_law f fd) (T : Tx K mg f_NAMES_IN f_MAKING f_COPYING f_SHARING) (D_l_bag : Df P w K mg base 1 "_law_bag" f1 ["_law_script"] (spBag K)) (D_l_draw_functions : Df P w K mg base 9 "_law_draw_functions" f2 ["_law_bag_here", "_law_many", "_law_most", "_law_long"] (spFuns K)) (D_l_handed_body : Df P w K mg base 5 "_law_handed_body" f3 ["_law_bag_here", "_law_body"] (spHand K 2))
    (D_l_wide : Df P w K mg base 2 "_law_wide" f4 ["_law_bag_here"] (spWide K)) (D_l_inner : Df P w K mg base 1 "_law_inner" f5 ["_law_statement"] (spLinner K)) (D_l_right : Dg P w K mg base 7 "_law_right" f6 ["_law_statement"] (spRight K)) : FnG P w K mg base 10 f fd ["_law_script"] (spLaw K) := by
  refine fnG_ok F sc_law (fun vs H Q E h => ?_) (fun cdv A outer s H vs Q E hg hr h => ?_)
  · obtain ⟨a, ns, rfl, _⟩ := h
    rfl
  obtain ⟨a, ns, rfl, hq, hl, q⟩ := h
  refine ⟨_, (pss_cons (ps_set (i := 1) sc_law.nd rfl (by first | exact Or.inl rfl | exact Or.inr rfl) (pe_df D_l_bag (hr.mono (by first | decide | omega)) (pa_cons (pv 0) pa_nil)))
      (pss_cons (ps_for PassesOwn.never rfl (pi_range1 rfl T.z_range (pa_cons pe_int pa_nil)) (pg_name (i := 2) sc_law.nd rfl (by first | exact Or.inl rfl | exact Or.inr rfl)) (pss_cons (ps_set (i := 3) sc_law.nd rfl (by first | exact Or.inl rfl | exact Or.inr rfl) (pe_df D_l_draw_functions (hr.mono (by first | decide | omega)) (pa_cons (pv 1) (pa_cons pe_int (pa_cons pe_int (pa_cons pe_int pa_nil))))))
      (pss_cons (ps_set (i := 4) sc_law.nd rfl (by first | exact Or.inl rfl | exact Or.inr rfl) (pe_callTy (r := cList K) call_list_of (by rfl) T.z_list (by decide +kernel) (pa_cons (pe_df D_l_handed_body (hr.mono (by first | decide | omega)) (pa_cons (pv 1) (pa_cons (pe_callB (r := rSumL K) (cr_sumL rfl) (by rfl) T.z_sum (by decide +kernel) (pa_cons (pe_lock (pe_lc (own := [("_law_told_here", 6)]) rfl sc_law.nd (pi_values (pv 3)) (blkOk_by (own := [("_law_told_here", 6)]) (N := N_law) (sc := defScope s_law) (by decide +kernel)) (fun _ _ _ _ _ => (pg_name (i := 6) sc_law.nd rfl (by first | exact Or.inl rfl | exact Or.inr rfl))) (fun _ _ _ _ _ => pts_nil) (fun _ _ _ _ _ => (pe_callTy (r := cList K) call_list_of (by rfl) T.z_list (by decide +kernel) (pa_cons (pe_ix (r := rIx K) ix_seq (pv 6) pe_int (fun _ _ => rfl)) pa_nil))))) (pa_cons (pe_lst pa_nil) pa_nil))) pa_nil))) pa_nil)))
      (pss_cons (ps_expr (pe_bmK K PySem.F.plainAttrs_list PySem.F.slot_list_append PySem.F.type_list_append mt_append (pv 4) (pa_cons (pe_ix (r := rIx K) ix_seq (pe_ix (r := rIx K) ix_seq (pe_dget (Nat.lt_of_le_of_lt (Nat.add_le_add_left (by decide) _) hr.units) (pe_df D_l_wide (hr.mono (by first | decide | omega)) (pa_cons (pv 1) pa_nil)) pe_str (by first | rfl | trivial | exact fun _ _ => rfl)) pe_int (fun _ _ => rfl)) (pe_un un_neg pe_int) (fun _ _ => rfl)) pa_nil)))
      (pss_cons (ps_for PassesOwn.never rfl (pi_listK K (pe_callTy (r := cList K) call_list_of (by rfl) T.z_list (by decide +kernel) (pa_cons (pv 4) pa_nil))) (pg_name (i := 5) sc_law.nd rfl (by first | exact Or.inl rfl | exact Or.inr rfl)) (pss_one (ps_expr (pe_bmK K PySem.F.plainAttrs_list PySem.F.slot_list_extend PySem.F.type_list_extend (mt_extendAK K) (pv 4) (pa_cons (pe_callB (r := rSumL K) (cr_sumL rfl) (by rfl) T.z_sum (by decide +kernel) (pa_cons (pe_df D_l_inner (hr.mono (by first | decide | omega)) (pa_cons (pv 5) pa_nil)) (pa_cons (pe_lst pa_nil) pa_nil))) pa_nil)))))
      (pss_one (ps_for PassesOwn.never rfl (pi_listK K (pv 4)) (pg_name (i := 5) sc_law.nd rfl (by first | exact Or.inl rfl | exact Or.inr rfl)) (pss_one (ps_if (pt_not (pt_val (pe_dg D_l_right hg (hr.mono (by decide)) (pa_cons (pv 5) pa_nil)))) (pss_one (ps_ret pe_bl)) pss_nil)))))))))
      (pss_one (ps_ret pe_bl)))), ?_⟩
  have S0 : Sep [] H := trivial
  walk_at "go"
  refine ⟨a, ns, [], rfl, hq, hl, S0, fun b H S => ?_⟩
  clear S0
  have S := hp_nil S
  walk_at "go"
  refine r_for_rng (fun i σ Ps => ∃ u2 u3 u4 u5 u6 G R, σ = [some (.ref a), some (.ref b), u2, u3, u4, u5, u6] ∧ Ps = hp G :: bag b :: R) S (by decide) (by decide) ⟨_, _, _, _, _, _, _, rfl, rfl⟩ ?_ ?_
  · rintro i σ Ps H hi ⟨u2, u3, u4, u5, u6, G, R, rfl, rfl⟩ S
    clear hi
    walk_at "go"
    refine ⟨b, 2, 4, 6, G, R, rfl, by decide, by decide, by decide, by decide, S, fun d kvs fs G1 H le1 hfl hfo hfa S => ?_⟩
    have hkl : kvs.length = fs.length := Paired.length hfa
    walk_at "go"
    refine ⟨d, .dK kvs, S.hd_at, by first | trivial | exact .inr rfl | exact ⟨⟩ | simp [Mut], fun od => ?_⟩
    have S : Sep (hp G1 :: pt d (.frz od (.dK kvs)) :: bag b :: R) (upd H d (.frz od (.dK kvs))) := (S.hd_set (.frz od (.dK kvs))).s3 (A := hp G1) (B := pt d (.frz od (.dK kvs))) (C := bag b) (by walk_at "sel")
    refine r_tlc (q_var rfl ⟨d, od, kvs, rfl, S.tl.hd_at, ?_⟩)
    refine r_lc_vals (fun i acc Ps => ∃ (ls : List Addr) (xss : List (List V)) (Gj : Hp), acc = ls.map V.ref ∧ ls.length = i ∧ Le G1 Gj ∧ Paired (fun l xs => Gj l = some (.lst xs)) ls xss ∧ Paired (fun xs (f : Fn) => DpAll K Gj xs (f.body.map Stm.enc)) xss (fs.take i) ∧ Ps = hp Gj :: pt d (.frz od (.dK kvs)) :: bag b :: R) S ⟨[], [], G1, rfl, rfl, Le.rfl, .nil, by rw [List.take_zero]; exact .nil, rfl⟩ (fun D i acc Ps H ⟨_, _, _, _, _, _, _, _, e⟩ S => by subst e; exact S.tl.tl.hd_at) ?_ ?_
    · rintro D j k x acc Ps H hi ⟨ls, xss, Gj, rfl, hll, le2, h1, h2, rfl⟩ S
      obtain ⟨fx, hfx, hk, hxd⟩ := paired_get hfa hi
      have hjl := (List.getElem?_eq_some_iff.mp hfx).1
      have hxd := Dp.le le2 _ _ hxd
      obtain ⟨ta, txs, rfl, htq, hta⟩ := dp_tupInv hxd
      cases hta with | cons z1 t1 => cases t1 with | cons z2 t2 => cases t2 with | cons z3 t3 =>
      cases t3
      obtain ⟨ba, ys, rfl, hys, hda⟩ := dp_lstInv z2
      have htq := hp_sqT (S.s1 (A := hp Gj) (by walk_at "sel")) htq
      walk_at "go"
      refine ⟨rfl, ?_⟩
      walk_at "go"
      obtain ⟨N, rfl⟩ : ∃ z, z = p := ⟨p, rfl⟩
      have S : Sep (pt N (.lst ys) :: hp Gj :: pt D (.lst (ls.map V.ref)) :: pt d (.frz od (.dK kvs)) :: bag b :: R) H := S.s5 (A := pt N (.lst ys)) (B := hp Gj) (C := pt D (.lst (ls.map V.ref))) (D := pt d (.frz od (.dK kvs))) (E := bag b) (by walk_at "sel")
      obtain ⟨G4, le4, e4, S⟩ := hp_add S
      refine cn_in (Ps := hp G4 :: pt d (.frz od (.dK kvs)) :: bag b :: R) S.swap (by rw [List.length_map]; omega) ⟨ls ++ [N], xss ++ [ys], G4, by rw [List.map_append]; rfl, by rw [List.length_append, hll]; rfl, le2.tr le4, Paired.snoc (paired_imp (fun a b z => le4 _ _ z) h1) e4, ?_, rfl⟩
      rw [List.take_add_one, hfx]
      exact Paired.snoc (paired_imp (fun a b z => DpAll.le le4 _ _ z) h2) (DpAll.le le4 _ _ hda)
    rintro D acc Ps H ⟨ls, xss, Gj, rfl, hll, le2, h1, h2, rfl⟩ S
    rw [hkl, List.take_length] at h2
    refine ⟨S.tl.tl.hd_at, ?_⟩
    have S : Sep (pt D (.lst (ls.map V.ref)) :: hp Gj :: bag b :: R) (upd H d (.dK kvs)) := ((S.s4 (A := pt d (.frz od (.dK kvs))) (B := pt D (.lst (ls.map V.ref))) (C := hp Gj) (D := bag b) (by walk_at "sel")).hd_set (.dK kvs)).tl
    have hflat := flat_dp h2
    obtain ⟨hsz, hst⟩ := fs_size hfo
    have hnm := sts_names hst
    have hlen := size_len (fs.flatMap Fn.body)
    have hdep : depSs (fs.flatMap Fn.body) ≤ 2 := depSs_le.mpr fun s m => (hst s m).dp
    have hokS : okSs NmOk (fs.flatMap Fn.body) := okSs_iff.mpr fun s m => (hst s m).ok
    have hdr : ∀ s ∈ fs.flatMap Fn.body, Dr s := fun s m => (hst s m).wf
    have hfl2 : xss.flatten.length = (fs.flatMap Fn.body).length := by rw [dpall_len hflat, List.length_map]
    generalize fs.flatMap Fn.body = all at hflat hsz hst hnm hlen hdep hokS hdr hfl2
    walk_at "go"
    refine r_sumL S (by walk_at "sq") (paired_imp (fun a b z => hp_le (S.s1 (A := hp Gj) (by walk_at "sel")) _ _ z) h1) (by rw [List.nil_append]; omega) fun r H S => ?_
    rw [List.nil_append] at S
    obtain ⟨G2, le3, hall, S⟩ := hp_lst (K := K) (R := bag b :: R) (S.s3 (A := pt r (.lst xss.flatten)) (B := hp Gj) (C := bag b) (by walk_at "sel")) hflat
    walk_at "go"
    refine ⟨b, r, all, G2, R, rfl, hdr, hdep, by omega, hall, S, fun v t l' G3 H lk le4 hv S => ?_⟩
    rw [Bdy.enc, encSs_map] at hv
    obtain ⟨va, vs, rfl, hvs, hvd⟩ := dp_sqInv hv
    have hl' := lk.len
    have hsm : ∀ s ∈ l', Sm s := sm_of (lk.ok _ hokS) (by rw [lk.size]; omega) (by rw [lk.dep]; omega) (by rw [lk.names]; omega)
    walk_at "go"
    refine ⟨va, vs, rfl, sq_le (hp_le (S.s1 (A := hp G3) (by walk_at "sel"))) hvs, fun B np => ?_⟩
    have S := S.new (.lst vs) np
    walk_at "go"
    refine ⟨b, G3, pt B (.lst vs) :: R, rfl, S.s3 (A := hp G3) (B := bag b) (C := pt B (.lst vs)) (by walk_at "sel"), fun wd wt we lb pre stv bs G4 H le5 e1 e2 e3 hstv hbs hbl S => ?_⟩
    have hG4 : Le G4 H := hp_le (S.s1 (A := hp G4) (by walk_at "sel"))
    walk_at "go"
    refine r_dgetV (v := .ref wt) (.inl (hG4 _ _ e1)) (by unfold valV; rfl) ?_
    walk_at "go"
    refine q_ixT (.of (hG4 _ _ e2)) (atI_nat (j := 1) rfl) ?_
    walk_at "go"
    refine q_ixL (SqL.of (hG4 _ _ e3)) (at_last _ _) ?_
    have hvl : vs.length = l'.length := by rw [dpall_len hvd, List.length_map]
    have S : Sep (pt B (.lst vs) :: hp G4 :: bag b :: R) H := S.s3 (A := pt B (.lst vs)) (B := hp G4) (C := bag b) (by walk_at "sel")
    obtain ⟨lsA, hlsA, hsmA, hdA⟩ : ∃ lsA : List Stm, lsA.length ≤ 40 ∧ (∀ s ∈ lsA, Sm s) ∧ DpAll K G4 (vs ++ [stv]) (lsA.map Stm.enc) := by
      refine ⟨l' ++ [.either false bs], by rw [List.length_append]; show _ + 1 ≤ 40; omega, fun s m => ?_, ?_⟩
      · rcases List.mem_append.mp m with m | m
        · exact hsm s m
        · rw [List.mem_singleton] at m
          rw [m]
          exact wide_sm hbs hbl
      · rw [List.map_append]
        exact dpall_snoc (DpAll.le le5 _ _ hvd) hstv
    walk_at "go"
    have hAl : (vs ++ [stv]).length = lsA.length := by rw [dpall_len hdA, List.length_map]
    generalize vs ++ [stv] = cur at S hdA hAl
    obtain ⟨C, rfl⟩ : ∃ z, z = p := ⟨p, rfl⟩
    refine r_for_list (xs := cur) (fun j σ Ps => ∃ (u5 : Option V) (c2 : List V) (l2 : List Stm) (Gi : Hp), σ = [some (.ref a), some (.ref b), some (.int (i : Nat)), some (.ref d), some (.ref B), u5, u6] ∧ l2.length ≤ 40 + 50 * j ∧ (∀ s ∈ l2, Sm s) ∧ Le G4 Gi ∧ DpAll K Gi c2 (l2.map Stm.enc) ∧ Ps = pt C (.lst cur) :: pt B (.lst c2) :: hp Gi :: bag b :: R) S ⟨_, cur, lsA, G4, rfl, by omega, hsmA, Le.rfl, hdA, rfl⟩ (fun j σ Ps H hi ⟨_, _, _, _, _, _, _, _, _, e⟩ S => by subst e; walk_at "sq") ?_ ?_
    · rintro j x σ Ps H hi ⟨u5, c2, l2, Gi, rfl, hl2, hs2, le6, hd2, rfl⟩ S
      obtain ⟨dd, hdd, hxd⟩ := dpall_at hdA hi
      have hjl := (List.getElem?_eq_some_iff.mp hi).1
      rw [List.getElem?_map] at hdd
      cases es : lsA[j]? with
      | none => rw [es] at hdd; cases hdd
      | some st =>
      rw [es] at hdd
      cases hdd
      have sm := hsmA st (List.mem_of_getElem? es)
      have hif := inner_facts sm
      obtain ⟨hin, hinl⟩ := inner_sm sm
      obtain ⟨sa, _, rfl, _, _⟩ := stm_sq hxd
      have hc2 : c2.length = l2.length := by rw [dpall_len hd2, List.length_map]
      walk_at "go"
      refine ⟨sa, st, NmOk, Gi, pt C (.lst cur) :: pt B (.lst c2) :: bag b :: R, rfl, sm.ok, by omega, Dp.le le6 _ _ hxd, S.s4 (A := hp Gi) (B := pt C (.lst cur)) (C := pt B (.lst c2)) (D := bag b) (by walk_at "sel"), fun p ls xss G5 H le7 ep h1 h2 _ S => ?_⟩
      have hfd := flat_dp h2
      have hfl : xss.flatten.length = (st.inner.flatMap Bdy.list).length := by rw [dpall_len hfd, List.length_map]
      obtain ⟨PI, rfl⟩ : ∃ z, z = p := ⟨p, rfl⟩
      have hG5 : Le G5 H := hp_le (S.s1 (A := hp G5) (by walk_at "sel"))
      walk_at "go"
      refine r_sumL S (hp_sqL (S.s1 (A := hp G5) (by walk_at "sel")) (SqL.of ep)) (paired_imp (fun a b z => hp_le (S.s1 (A := hp G5) (by walk_at "sel")) _ _ z) h1) (by rw [List.nil_append]; omega) fun r H S => ?_
      rw [List.nil_append] at S
      walk_at "go"
      refine r_extA (K := K) (a := B) (b := r) (xs := c2) (zs := xss.flatten) S (by walk_at "rep") (.inl (by walk_at "sq")) (by omega) fun H S => ?_
      walk_at "go"
      refine ⟨_, ⟨_, c2 ++ xss.flatten, l2 ++ st.inner.flatMap Bdy.list, G5, rfl, by rw [List.length_append]; omega, fun s m => (List.mem_append.mp m).elim (hs2 s) (hin s), le6.tr le7, ?_, rfl⟩, S.s4 (A := pt C (.lst cur)) (B := pt B (.lst (c2 ++ xss.flatten))) (C := hp G5) (D := bag b) (by walk_at "sel")⟩
      rw [List.map_append]
      exact dpall_app (DpAll.le le7 _ _ hd2) hfd
    rintro σ Ps H ⟨u5, c2, l2, Gi, rfl, hl2, hs2, le6, hd2, rfl⟩ S
    walk_at "go"
    have hc2 : c2.length = l2.length := by rw [dpall_len hd2, List.length_map]
    refine r_for_list (xs := c2) (fun j σ Ps => ∃ (u5 : Option V) (Gj : Hp), σ = [some (.ref a), some (.ref b), some (.int (i : Nat)), some (.ref d), some (.ref B), u5, u6] ∧ Le Gi Gj ∧ Ps = pt B (.lst c2) :: hp Gj :: bag b :: R) S.tl ⟨_, Gi, rfl, Le.rfl, rfl⟩ (fun j σ Ps H hi ⟨_, _, _, _, e⟩ S => by subst e; walk_at "sq") ?_ ?_
    · rintro j x σ Ps H hi ⟨u5, Gj, rfl, le7, rfl⟩ S
      obtain ⟨dd, hdd, hxd⟩ := dpall_at hd2 hi
      rw [List.getElem?_map] at hdd
      cases es : l2[j]? with
      | none => rw [es] at hdd; cases hdd
      | some st =>
      rw [es] at hdd
      cases hdd
      have sm := hs2 st (List.mem_of_getElem? es)
      obtain ⟨sa, _, rfl, _, _⟩ := stm_sq hxd
      walk_at "go"
      refine ⟨sa, st, Gj, pt B (.lst c2) :: bag b :: R, rfl, sm, Dp.le le7 _ _ hxd, S.s3 (A := hp Gj) (B := pt B (.lst c2)) (C := bag b) (by walk_at "sel"), fun G8 H le8 S => ?_⟩
      walk_at "go"
      exact ⟨_, ⟨_, G8, rfl, le7.tr le8, rfl⟩, S.swap⟩
    rintro σ Ps H ⟨u5, Gj, rfl, le7, rfl⟩ S
    walk_at "go"
    exact ⟨_, ⟨_, _, _, _, _, Gj, R, rfl, rfl⟩, S.tl⟩
  · rintro σ Ps H ⟨u2, u3, u4, u5, u6, G, R, rfl, rfl⟩ S
    walk_at "go"
    exact q H
end
end Pf

set_option Elab.async false
set_option linter.all false
set_option maxRecDepth 100000
set_option maxHeartbeats 8000000
namespace Pf
open PySem L2 Kt
theorem kd_has {K : PySem.W.Frag} {w : World} {d : Addr} {x : Str} {v : V} {u : Value} (D : ∃ es n, KDict K w d es n) (h : PySem.W.nsIn K d x = some (some u)) (r : RelV v u) : KHas K w d x v := by
  obtain ⟨es, n, D⟩ := D
  exact ⟨es, n, u, D, h, r⟩
theorem kd_no {K : PySem.W.Frag} {w : World} {d : Addr} {x : Str} (D : ∃ es n, KDict K w d es n) (h : PySem.W.nsIn K d x = some none) : KNo K w d x := by
  obtain ⟨es, n, D⟩ := D
  exact ⟨es, n, D, h⟩
theorem kd_some {K : PySem.W.Frag} {w : World} {d : Addr} {x y : Str} {o : Option Str} {u : Value} (e : o = some y) (D : ∃ es n, KDict K w d es n) (h : PySem.W.nsIn K d x = some (some u)) (r : RelV (.str y) u) : match o with | some y => KHas K w d x (.str y) | none => KNo K w d x := by
  subst e
  exact kd_has D h r
theorem kd_none {K : PySem.W.Frag} {w : World} {d : Addr} {x : Str} {o : Option Str} (e : o = none) (D : ∃ es n, KDict K w d es n) (h : PySem.W.nsIn K d x = some none) : match o with | some y => KHas K w d x (.str y) | none => KNo K w d x := by
  subst e
  exact kd_no D h
theorem vals_app {vs ws : List V} {us zs : List Value} (r1 : Vals vs us) (r2 : Vals ws zs) : Vals (vs ++ ws) (us ++ zs) := by
  induction r1 with
  | nil => exact r2
  | cons h _ ih => exact .cons h ih
theorem all_mk {l : PySem.W.OpenLaw} {w : World} {K : PySem.W.Frag} {h : Heap} {mg : Str → Option Value} {fa : Addr} (X : K.In h) (G : h.Ns mainGlobals mg) (hfa : mg "law" = some (.ref fa))
    {f_inner_bodies f_bodies f_made f_read f_own_names f_named f_copying f_sharing f_l_bag f_l_take f_l_alike f_l_mixed f_l_draw_names f_l_draw_heads f_l_draw_call f_l_draw_statement f_l_draw_body f_l_size f_l_draw_functions f_l_handed_body f_l_names_in f_l_inner f_l_wide f_l_made f_l_read f_l_turned f_l_told f_l_right f_law f_MAKING f_NAMES_IN f_COPYING f_SHARING : Addr} {od1 an1 od2 an2 od3 an3 od4 an4 od5 an5 od6 an6 od7 an7 od8 an8 od9 an9 od10 an10 od11 an11 od12 an12 od13 an13 od14 an14 od15 an15 od16 an16 od17 an17 od18 an18 od19 an19 od20 an20 od21 an21 od22 an22 od23 an23 od24 an24 od25 an25 od26 an26 od27 an27 od28 an28 od29 an29 od_MAKING : Option Addr} {sl1 sl2 sl3 sl4 sl5 sl6 sl7 sl8 sl9 sl10 sl11 sl12 sl13 sl14 sl15 sl16 sl17 sl18 sl19 sl20 sl21 sl22 sl23 sl24 sl25 sl26 sl27 sl28 sl29 sl_MAKING : Array (Option Value)} {oc1 kV1 dc1 pm1 cd1 ct1 oc2 kV2 dc2 pm2 cd2 ct2 oc3 kV3 dc3 pm3 cd3 ct3 oc4 kV4 dc4 pm4 cd4 ct4 oc5 kV5 dc5 pm5 cd5 ct5 oc6 kV6 dc6 pm6 cd6 ct6 oc7 kV7 dc7 pm7 cd7 ct7 oc8 kV8 dc8 pm8 cd8 ct8 oc9 kV9 dc9 pm9 cd9 ct9 oc10 kV10 dc10 pm10 cd10 ct10 oc11 kV11 dc11 pm11 cd11 ct11 oc12 kV12 dc12 pm12 cd12 ct12 oc13 kV13 dc13 pm13 cd13 ct13 oc14 kV14 dc14 pm14 cd14 ct14 oc15 kV15 dc15 pm15 cd15 ct15 oc16 kV16 dc16 pm16 cd16 ct16 oc17 kV17 dc17 pm17 cd17 ct17 oc18 kV18 dc18 pm18 cd18 ct18 oc19 kV19 dc19 pm19 cd19 ct19 oc20 kV20 dc20 pm20 cd20 ct20 oc21 kV21 dc21 pm21 cd21 ct21 oc22 kV22 dc22 pm22 cd22 ct22 oc23 kV23 dc23 pm23 cd23 ct23 oc24 kV24 dc24 pm24 cd24 ct24 oc25 kV25 dc25 pm25 cd25 ct25 oc26 kV26 dc26 pm26 cd26 ct26 oc27 kV27 dc27 pm27 cd27 ct27 oc28 kV28 dc28 pm28 cd28 ct28 oc29 kV29 dc29 pm29 cd29 ct29 : Value}
    {tk_MAKING_0 tk_MAKING_1 tk_MAKING_2 tk_MAKING_3 tk_MAKING_4 tk_MAKING_5 tk_MAKING_6 tk_MAKING_7 nn_MAKING tv_NAMES_IN_new tv_NAMES_IN_set tv_NAMES_IN_keep tv_NAMES_IN_look tv_NAMES_IN_take tv_NAMES_IN_cut tv_NAMES_IN_put tv_NAMES_IN_copy tv_NAMES_IN_copycut tv_NAMES_IN_copyput tv_COPYING_take tv_COPYING_cut tv_COPYING_put tv_SHARING_copy tv_SHARING_copycut tv_SHARING_copyput : Nat}
    (a_inner_bodies : PySem.W.nsIn K mainGlobals "inner_bodies" = some (some (.ref f_inner_bodies)))
    (l1 : K.lookup f_inner_bodies = some ⟨oc1, od1, .func (PySem.W.fnOf "inner_bodies" "inner_bodies" (defArgs s_inner_bodies) (defBody s_inner_bodies) (defScope s_inner_bodies) .none kV1 dc1 pm1 an1 cd1 ct1), sl1⟩)
    (c1 : PySem.W.codeIn K cd1 "inner_bodies" = true)
    (k1 : PySem.W.keepIn K (.ref f_inner_bodies) = true)
    (a_bodies : PySem.W.nsIn K mainGlobals "bodies" = some (some (.ref f_bodies)))
    (l2 : K.lookup f_bodies = some ⟨oc2, od2, .func (PySem.W.fnOf "bodies" "bodies" (defArgs s_bodies) (defBody s_bodies) (defScope s_bodies) .none kV2 dc2 pm2 an2 cd2 ct2), sl2⟩)
    (c2 : PySem.W.codeIn K cd2 "bodies" = true)
    (k2 : PySem.W.keepIn K (.ref f_bodies) = true)
    (a_made : PySem.W.nsIn K mainGlobals "made" = some (some (.ref f_made)))
    (l3 : K.lookup f_made = some ⟨oc3, od3, .func (PySem.W.fnOf "made" "made" (defArgs s_made) (defBody s_made) (defScope s_made) .none kV3 dc3 pm3 an3 cd3 ct3), sl3⟩)
    (c3 : PySem.W.codeIn K cd3 "made" = true)
    (k3 : PySem.W.keepIn K (.ref f_made) = true)
    (a_read : PySem.W.nsIn K mainGlobals "read" = some (some (.ref f_read)))
    (l4 : K.lookup f_read = some ⟨oc4, od4, .func (PySem.W.fnOf "read" "read" (defArgs s_read) (defBody s_read) (defScope s_read) .none kV4 dc4 pm4 an4 cd4 ct4), sl4⟩)
    (c4 : PySem.W.codeIn K cd4 "read" = true)
    (k4 : PySem.W.keepIn K (.ref f_read) = true)
    (a_own_names : PySem.W.nsIn K mainGlobals "own_names" = some (some (.ref f_own_names)))
    (l5 : K.lookup f_own_names = some ⟨oc5, od5, .func (PySem.W.fnOf "own_names" "own_names" (defArgs s_own_names) (defBody s_own_names) (defScope s_own_names) .none kV5 dc5 pm5 an5 cd5 ct5), sl5⟩)
    (c5 : PySem.W.codeIn K cd5 "own_names" = true)
    (k5 : PySem.W.keepIn K (.ref f_own_names) = true)
    (a_named : PySem.W.nsIn K mainGlobals "named" = some (some (.ref f_named)))
    (l6 : K.lookup f_named = some ⟨oc6, od6, .func (PySem.W.fnOf "named" "named" (defArgs s_named) (defBody s_named) (defScope s_named) .none kV6 dc6 pm6 an6 cd6 ct6), sl6⟩)
    (c6 : PySem.W.codeIn K cd6 "named" = true)
    (k6 : PySem.W.keepIn K (.ref f_named) = true)
    (a_copying : PySem.W.nsIn K mainGlobals "copying" = some (some (.ref f_copying)))
    (l7 : K.lookup f_copying = some ⟨oc7, od7, .func (PySem.W.fnOf "copying" "copying" (defArgs s_copying) (defBody s_copying) (defScope s_copying) .none kV7 dc7 pm7 an7 cd7 ct7), sl7⟩)
    (c7 : PySem.W.codeIn K cd7 "copying" = true)
    (k7 : PySem.W.keepIn K (.ref f_copying) = true)
    (a_sharing : PySem.W.nsIn K mainGlobals "sharing" = some (some (.ref f_sharing)))
    (l8 : K.lookup f_sharing = some ⟨oc8, od8, .func (PySem.W.fnOf "sharing" "sharing" (defArgs s_sharing) (defBody s_sharing) (defScope s_sharing) .none kV8 dc8 pm8 an8 cd8 ct8), sl8⟩)
    (c8 : PySem.W.codeIn K cd8 "sharing" = true)
    (k8 : PySem.W.keepIn K (.ref f_sharing) = true)
    (a_l_bag : PySem.W.nsIn K mainGlobals "_law_bag" = some (some (.ref f_l_bag)))
    (l9 : K.lookup f_l_bag = some ⟨oc9, od9, .func (PySem.W.fnOf "_law_bag" "_law_bag" (defArgs s_l_bag) (defBody s_l_bag) (defScope s_l_bag) .none kV9 dc9 pm9 an9 cd9 ct9), sl9⟩)
    (c9 : PySem.W.codeIn K cd9 "_law_bag" = true)
    (k9 : PySem.W.keepIn K (.ref f_l_bag) = true)
    (a_l_take : PySem.W.nsIn K mainGlobals "_law_take" = some (some (.ref f_l_take)))
    (l10 : K.lookup f_l_take = some ⟨oc10, od10, .func (PySem.W.fnOf "_law_take" "_law_take" (defArgs s_l_take) (defBody s_l_take) (defScope s_l_take) .none kV10 dc10 pm10 an10 cd10 ct10), sl10⟩)
    (c10 : PySem.W.codeIn K cd10 "_law_take" = true)
    (k10 : PySem.W.keepIn K (.ref f_l_take) = true)
    (a_l_alike : PySem.W.nsIn K mainGlobals "_law_alike" = some (some (.ref f_l_alike)))
    (l11 : K.lookup f_l_alike = some ⟨oc11, od11, .func (PySem.W.fnOf "_law_alike" "_law_alike" (defArgs s_l_alike) (defBody s_l_alike) (defScope s_l_alike) .none kV11 dc11 pm11 an11 cd11 ct11), sl11⟩)
    (c11 : PySem.W.codeIn K cd11 "_law_alike" = true)
    (k11 : PySem.W.keepIn K (.ref f_l_alike) = true)
    (a_l_mixed : PySem.W.nsIn K mainGlobals "_law_mixed" = some (some (.ref f_l_mixed)))
    (l12 : K.lookup f_l_mixed = some ⟨oc12, od12, .func (PySem.W.fnOf "_law_mixed" "_law_mixed" (defArgs s_l_mixed) (defBody s_l_mixed) (defScope s_l_mixed) .none kV12 dc12 pm12 an12 cd12 ct12), sl12⟩)
    (c12 : PySem.W.codeIn K cd12 "_law_mixed" = true)
    (k12 : PySem.W.keepIn K (.ref f_l_mixed) = true)
    (a_l_draw_names : PySem.W.nsIn K mainGlobals "_law_draw_names" = some (some (.ref f_l_draw_names)))
    (l13 : K.lookup f_l_draw_names = some ⟨oc13, od13, .func (PySem.W.fnOf "_law_draw_names" "_law_draw_names" (defArgs s_l_draw_names) (defBody s_l_draw_names) (defScope s_l_draw_names) .none kV13 dc13 pm13 an13 cd13 ct13), sl13⟩)
    (c13 : PySem.W.codeIn K cd13 "_law_draw_names" = true)
    (k13 : PySem.W.keepIn K (.ref f_l_draw_names) = true)
    (a_l_draw_heads : PySem.W.nsIn K mainGlobals "_law_draw_heads" = some (some (.ref f_l_draw_heads)))
    (l14 : K.lookup f_l_draw_heads = some ⟨oc14, od14, .func (PySem.W.fnOf "_law_draw_heads" "_law_draw_heads" (defArgs s_l_draw_heads) (defBody s_l_draw_heads) (defScope s_l_draw_heads) .none kV14 dc14 pm14 an14 cd14 ct14), sl14⟩)
    (c14 : PySem.W.codeIn K cd14 "_law_draw_heads" = true)
    (k14 : PySem.W.keepIn K (.ref f_l_draw_heads) = true)
    (a_l_draw_call : PySem.W.nsIn K mainGlobals "_law_draw_call" = some (some (.ref f_l_draw_call)))
    (l15 : K.lookup f_l_draw_call = some ⟨oc15, od15, .func (PySem.W.fnOf "_law_draw_call" "_law_draw_call" (defArgs s_l_draw_call) (defBody s_l_draw_call) (defScope s_l_draw_call) .none kV15 dc15 pm15 an15 cd15 ct15), sl15⟩)
    (c15 : PySem.W.codeIn K cd15 "_law_draw_call" = true)
    (k15 : PySem.W.keepIn K (.ref f_l_draw_call) = true)
    (a_l_draw_statement : PySem.W.nsIn K mainGlobals "_law_draw_statement" = some (some (.ref f_l_draw_statement)))
    (l16 : K.lookup f_l_draw_statement = some ⟨oc16, od16, .func (PySem.W.fnOf "_law_draw_statement" "_law_draw_statement" (defArgs s_l_draw_statement) (defBody s_l_draw_statement) (defScope s_l_draw_statement) .none kV16 dc16 pm16 an16 cd16 ct16), sl16⟩)
    (c16 : PySem.W.codeIn K cd16 "_law_draw_statement" = true)
    (k16 : PySem.W.keepIn K (.ref f_l_draw_statement) = true)
    (a_l_draw_body : PySem.W.nsIn K mainGlobals "_law_draw_body" = some (some (.ref f_l_draw_body)))
    (l17 : K.lookup f_l_draw_body = some ⟨oc17, od17, .func (PySem.W.fnOf "_law_draw_body" "_law_draw_body" (defArgs s_l_draw_body) (defBody s_l_draw_body) (defScope s_l_draw_body) .none kV17 dc17 pm17 an17 cd17 ct17), sl17⟩)
    (c17 : PySem.W.codeIn K cd17 "_law_draw_body" = true)
    (k17 : PySem.W.keepIn K (.ref f_l_draw_body) = true)
    (a_l_size : PySem.W.nsIn K mainGlobals "_law_size" = some (some (.ref f_l_size)))
    (l18 : K.lookup f_l_size = some ⟨oc18, od18, .func (PySem.W.fnOf "_law_size" "_law_size" (defArgs s_l_size) (defBody s_l_size) (defScope s_l_size) .none kV18 dc18 pm18 an18 cd18 ct18), sl18⟩)
    (c18 : PySem.W.codeIn K cd18 "_law_size" = true)
    (k18 : PySem.W.keepIn K (.ref f_l_size) = true)
    (a_l_draw_functions : PySem.W.nsIn K mainGlobals "_law_draw_functions" = some (some (.ref f_l_draw_functions)))
    (l19 : K.lookup f_l_draw_functions = some ⟨oc19, od19, .func (PySem.W.fnOf "_law_draw_functions" "_law_draw_functions" (defArgs s_l_draw_functions) (defBody s_l_draw_functions) (defScope s_l_draw_functions) .none kV19 dc19 pm19 an19 cd19 ct19), sl19⟩)
    (c19 : PySem.W.codeIn K cd19 "_law_draw_functions" = true)
    (k19 : PySem.W.keepIn K (.ref f_l_draw_functions) = true)
    (a_l_handed_body : PySem.W.nsIn K mainGlobals "_law_handed_body" = some (some (.ref f_l_handed_body)))
    (l20 : K.lookup f_l_handed_body = some ⟨oc20, od20, .func (PySem.W.fnOf "_law_handed_body" "_law_handed_body" (defArgs s_l_handed_body) (defBody s_l_handed_body) (defScope s_l_handed_body) .none kV20 dc20 pm20 an20 cd20 ct20), sl20⟩)
    (c20 : PySem.W.codeIn K cd20 "_law_handed_body" = true)
    (k20 : PySem.W.keepIn K (.ref f_l_handed_body) = true)
    (a_l_names_in : PySem.W.nsIn K mainGlobals "_law_names_in" = some (some (.ref f_l_names_in)))
    (l21 : K.lookup f_l_names_in = some ⟨oc21, od21, .func (PySem.W.fnOf "_law_names_in" "_law_names_in" (defArgs s_l_names_in) (defBody s_l_names_in) (defScope s_l_names_in) .none kV21 dc21 pm21 an21 cd21 ct21), sl21⟩)
    (c21 : PySem.W.codeIn K cd21 "_law_names_in" = true)
    (k21 : PySem.W.keepIn K (.ref f_l_names_in) = true)
    (a_l_inner : PySem.W.nsIn K mainGlobals "_law_inner" = some (some (.ref f_l_inner)))
    (l22 : K.lookup f_l_inner = some ⟨oc22, od22, .func (PySem.W.fnOf "_law_inner" "_law_inner" (defArgs s_l_inner) (defBody s_l_inner) (defScope s_l_inner) .none kV22 dc22 pm22 an22 cd22 ct22), sl22⟩)
    (c22 : PySem.W.codeIn K cd22 "_law_inner" = true)
    (k22 : PySem.W.keepIn K (.ref f_l_inner) = true)
    (a_l_wide : PySem.W.nsIn K mainGlobals "_law_wide" = some (some (.ref f_l_wide)))
    (l23 : K.lookup f_l_wide = some ⟨oc23, od23, .func (PySem.W.fnOf "_law_wide" "_law_wide" (defArgs s_l_wide) (defBody s_l_wide) (defScope s_l_wide) .none kV23 dc23 pm23 an23 cd23 ct23), sl23⟩)
    (c23 : PySem.W.codeIn K cd23 "_law_wide" = true)
    (k23 : PySem.W.keepIn K (.ref f_l_wide) = true)
    (a_l_made : PySem.W.nsIn K mainGlobals "_law_made" = some (some (.ref f_l_made)))
    (l24 : K.lookup f_l_made = some ⟨oc24, od24, .func (PySem.W.fnOf "_law_made" "_law_made" (defArgs s_l_made) (defBody s_l_made) (defScope s_l_made) .none kV24 dc24 pm24 an24 cd24 ct24), sl24⟩)
    (c24 : PySem.W.codeIn K cd24 "_law_made" = true)
    (k24 : PySem.W.keepIn K (.ref f_l_made) = true)
    (a_l_read : PySem.W.nsIn K mainGlobals "_law_read" = some (some (.ref f_l_read)))
    (l25 : K.lookup f_l_read = some ⟨oc25, od25, .func (PySem.W.fnOf "_law_read" "_law_read" (defArgs s_l_read) (defBody s_l_read) (defScope s_l_read) .none kV25 dc25 pm25 an25 cd25 ct25), sl25⟩)
    (c25 : PySem.W.codeIn K cd25 "_law_read" = true)
    (k25 : PySem.W.keepIn K (.ref f_l_read) = true)
    (a_l_turned : PySem.W.nsIn K mainGlobals "_law_turned" = some (some (.ref f_l_turned)))
    (l26 : K.lookup f_l_turned = some ⟨oc26, od26, .func (PySem.W.fnOf "_law_turned" "_law_turned" (defArgs s_l_turned) (defBody s_l_turned) (defScope s_l_turned) .none kV26 dc26 pm26 an26 cd26 ct26), sl26⟩)
    (c26 : PySem.W.codeIn K cd26 "_law_turned" = true)
    (k26 : PySem.W.keepIn K (.ref f_l_turned) = true)
    (a_l_told : PySem.W.nsIn K mainGlobals "_law_told" = some (some (.ref f_l_told)))
    (l27 : K.lookup f_l_told = some ⟨oc27, od27, .func (PySem.W.fnOf "_law_told" "_law_told" (defArgs s_l_told) (defBody s_l_told) (defScope s_l_told) .none kV27 dc27 pm27 an27 cd27 ct27), sl27⟩)
    (c27 : PySem.W.codeIn K cd27 "_law_told" = true)
    (k27 : PySem.W.keepIn K (.ref f_l_told) = true)
    (a_l_right : PySem.W.nsIn K mainGlobals "_law_right" = some (some (.ref f_l_right)))
    (l28 : K.lookup f_l_right = some ⟨oc28, od28, .func (PySem.W.fnOf "_law_right" "_law_right" (defArgs s_l_right) (defBody s_l_right) (defScope s_l_right) .none kV28 dc28 pm28 an28 cd28 ct28), sl28⟩)
    (c28 : PySem.W.codeIn K cd28 "_law_right" = true)
    (k28 : PySem.W.keepIn K (.ref f_l_right) = true)
    (a_law : PySem.W.nsIn K mainGlobals "law" = some (some (.ref f_law)))
    (l29 : K.lookup f_law = some ⟨oc29, od29, .func (PySem.W.fnOf "law" "law" (defArgs s_law) (defBody s_law) (defScope s_law) .none kV29 dc29 pm29 an29 cd29 ct29), sl29⟩)
    (c29 : PySem.W.codeIn K cd29 "law" = true)
    (k29 : PySem.W.keepIn K (.ref f_law) = true)
    (a_MAKING : PySem.W.nsIn K mainGlobals "MAKING" = some (some (.ref f_MAKING)))
    (lk_MAKING : K.lookup f_MAKING = some ⟨.type "tuple", od_MAKING, .seq #[.str "new" tk_MAKING_0, .str "take" tk_MAKING_1, .str "cut" tk_MAKING_2, .str "put" tk_MAKING_3, .str "copy" tk_MAKING_4, .str "copycut" tk_MAKING_5, .str "copyput" tk_MAKING_6, .str "call" tk_MAKING_7] nn_MAKING, sl_MAKING⟩)
    (a_NAMES_IN : PySem.W.nsIn K mainGlobals "NAMES_IN" = some (some (.ref f_NAMES_IN)))
    (dd_NAMES_IN : He.dicW K f_NAMES_IN = some (He.keysIn w.params ["new", "set", "keep", "look", "take", "cut", "put", "copy", "copycut", "copyput"]))
    (v_NAMES_IN_new : PySem.W.nsIn K f_NAMES_IN "new" = some (some (.int 1 tv_NAMES_IN_new)))
    (v_NAMES_IN_set : PySem.W.nsIn K f_NAMES_IN "set" = some (some (.int 1 tv_NAMES_IN_set)))
    (v_NAMES_IN_keep : PySem.W.nsIn K f_NAMES_IN "keep" = some (some (.int 1 tv_NAMES_IN_keep)))
    (v_NAMES_IN_look : PySem.W.nsIn K f_NAMES_IN "look" = some (some (.int 1 tv_NAMES_IN_look)))
    (v_NAMES_IN_take : PySem.W.nsIn K f_NAMES_IN "take" = some (some (.int 2 tv_NAMES_IN_take)))
    (v_NAMES_IN_cut : PySem.W.nsIn K f_NAMES_IN "cut" = some (some (.int 2 tv_NAMES_IN_cut)))
    (v_NAMES_IN_put : PySem.W.nsIn K f_NAMES_IN "put" = some (some (.int 2 tv_NAMES_IN_put)))
    (v_NAMES_IN_copy : PySem.W.nsIn K f_NAMES_IN "copy" = some (some (.int 2 tv_NAMES_IN_copy)))
    (v_NAMES_IN_copycut : PySem.W.nsIn K f_NAMES_IN "copycut" = some (some (.int 2 tv_NAMES_IN_copycut)))
    (v_NAMES_IN_copyput : PySem.W.nsIn K f_NAMES_IN "copyput" = some (some (.int 2 tv_NAMES_IN_copyput)))
    (v_NAMES_IN_call : PySem.W.nsIn K f_NAMES_IN "call" = some none)
    (v_NAMES_IN_either : PySem.W.nsIn K f_NAMES_IN "either" = some none)
    (v_NAMES_IN_loop : PySem.W.nsIn K f_NAMES_IN "loop" = some none)
    (a_COPYING : PySem.W.nsIn K mainGlobals "COPYING" = some (some (.ref f_COPYING)))
    (dd_COPYING : He.dicW K f_COPYING = some (He.keysIn w.params ["take", "cut", "put"]))
    (v_COPYING_new : PySem.W.nsIn K f_COPYING "new" = some none)
    (v_COPYING_set : PySem.W.nsIn K f_COPYING "set" = some none)
    (v_COPYING_keep : PySem.W.nsIn K f_COPYING "keep" = some none)
    (v_COPYING_look : PySem.W.nsIn K f_COPYING "look" = some none)
    (v_COPYING_take : PySem.W.nsIn K f_COPYING "take" = some (some (.str "copy" tv_COPYING_take)))
    (v_COPYING_cut : PySem.W.nsIn K f_COPYING "cut" = some (some (.str "copycut" tv_COPYING_cut)))
    (v_COPYING_put : PySem.W.nsIn K f_COPYING "put" = some (some (.str "copyput" tv_COPYING_put)))
    (v_COPYING_copy : PySem.W.nsIn K f_COPYING "copy" = some none)
    (v_COPYING_copycut : PySem.W.nsIn K f_COPYING "copycut" = some none)
    (v_COPYING_copyput : PySem.W.nsIn K f_COPYING "copyput" = some none)
    (v_COPYING_call : PySem.W.nsIn K f_COPYING "call" = some none)
    (v_COPYING_either : PySem.W.nsIn K f_COPYING "either" = some none)
    (v_COPYING_loop : PySem.W.nsIn K f_COPYING "loop" = some none)
    (a_SHARING : PySem.W.nsIn K mainGlobals "SHARING" = some (some (.ref f_SHARING)))
    (dd_SHARING : He.dicW K f_SHARING = some (He.keysIn w.params ["copy", "copycut", "copyput"]))
    (v_SHARING_new : PySem.W.nsIn K f_SHARING "new" = some none)
    (v_SHARING_set : PySem.W.nsIn K f_SHARING "set" = some none)
    (v_SHARING_keep : PySem.W.nsIn K f_SHARING "keep" = some none)
    (v_SHARING_look : PySem.W.nsIn K f_SHARING "look" = some none)
    (v_SHARING_take : PySem.W.nsIn K f_SHARING "take" = some none)
    (v_SHARING_cut : PySem.W.nsIn K f_SHARING "cut" = some none)
    (v_SHARING_put : PySem.W.nsIn K f_SHARING "put" = some none)
    (v_SHARING_copy : PySem.W.nsIn K f_SHARING "copy" = some (some (.str "take" tv_SHARING_copy)))
    (v_SHARING_copycut : PySem.W.nsIn K f_SHARING "copycut" = some (some (.str "cut" tv_SHARING_copycut)))
    (v_SHARING_copyput : PySem.W.nsIn K f_SHARING "copyput" = some (some (.str "put" tv_SHARING_copyput)))
    (v_SHARING_call : PySem.W.nsIn K f_SHARING "call" = some none)
    (v_SHARING_either : PySem.W.nsIn K f_SHARING "either" = some none)
    (v_SHARING_loop : PySem.W.nsIn K f_SHARING "loop" = some none)
    (z_enumerate : PySem.W.nsIn K mainGlobals "enumerate" = some none)
    (z_tuple : PySem.W.nsIn K mainGlobals "tuple" = some none)
    (z_sorted : PySem.W.nsIn K mainGlobals "sorted" = some none)
    (z_len : PySem.W.nsIn K mainGlobals "len" = some none)
    (z_int : PySem.W.nsIn K mainGlobals "int" = some none)
    (z_abs : PySem.W.nsIn K mainGlobals "abs" = some none)
    (z_set : PySem.W.nsIn K mainGlobals "set" = some none)
    (z_dict : PySem.W.nsIn K mainGlobals "dict" = some none)
    (z_range : PySem.W.nsIn K mainGlobals "range" = some none)
    (z_repr : PySem.W.nsIn K mainGlobals "repr" = some none)
    (z_list : PySem.W.nsIn K mainGlobals "list" = some none)
    (z_sum : PySem.W.nsIn K mainGlobals "sum" = some none) :
    ∃ fd : FuncData, (∀ (s : Shared) (v : Value), BindsTo s fd ⟨[v], []⟩ [("_law_script", v)]) ∧ ∀ base : Heap, K.In base → base.Ns mainGlobals mg → FnG l.prog w K mg base 10 fa fd ["_law_script"] (spLaw K) := by
    have e := hfa.symm.trans (PySem.W.mg_of X G a_law)
    cases e
    have T : Txt K mg f_NAMES_IN f_MAKING f_COPYING f_SHARING := ⟨PySem.W.mg_none_of X G z_enumerate, PySem.W.mg_none_of X G z_tuple, PySem.W.mg_none_of X G z_sorted, PySem.W.mg_none_of X G z_len, PySem.W.mg_none_of X G z_int, PySem.W.mg_none_of X G z_abs, PySem.W.mg_none_of X G z_set, PySem.W.mg_none_of X G z_dict, PySem.W.mg_none_of X G z_range, PySem.W.mg_none_of X G z_repr, PySem.W.mg_none_of X G z_list, PySem.W.mg_none_of X G z_sum, PySem.W.mg_of X G a_NAMES_IN, PySem.W.mg_of X G a_MAKING, PySem.W.mg_of X G a_COPYING, PySem.W.mg_of X G a_SHARING⟩
    have F1 := fun_mk (st := s_inner_bodies) l1 c1 k1
    have b1 := F1.binds (ps := ["statement"]) fun _ _ _ _ _ _ us hl => match us, hl with | [_], _ => rfl
    have Y_inner_bodies : Dt K mg "inner_bodies" s_inner_bodies ["statement"] f_inner_bodies := ⟨⟨_, F1, b1⟩, PySem.W.mg_of X G a_inner_bodies⟩
    have F2 := fun_mk (st := s_bodies) l2 c2 k2
    have b2 := F2.binds (ps := ["statement"]) fun _ _ _ _ _ _ us hl => match us, hl with | [_], _ => rfl
    have Y_bodies : Dt K mg "bodies" s_bodies ["statement"] f_bodies := ⟨⟨_, F2, b2⟩, PySem.W.mg_of X G a_bodies⟩
    have F3 := fun_mk (st := s_made) l3 c3 k3
    have b3 := F3.binds (ps := ["statement"]) fun _ _ _ _ _ _ us hl => match us, hl with | [_], _ => rfl
    have Y_made : Dt K mg "made" s_made ["statement"] f_made := ⟨⟨_, F3, b3⟩, PySem.W.mg_of X G a_made⟩
    have F4 := fun_mk (st := s_read) l4 c4 k4
    have b4 := F4.binds (ps := ["statement"]) fun _ _ _ _ _ _ us hl => match us, hl with | [_], _ => rfl
    have Y_read : Dt K mg "read" s_read ["statement"] f_read := ⟨⟨_, F4, b4⟩, PySem.W.mg_of X G a_read⟩
    have F5 := fun_mk (st := s_own_names) l5 c5 k5
    have b5 := F5.binds (ps := ["statement"]) fun _ _ _ _ _ _ us hl => match us, hl with | [_], _ => rfl
    have Y_own_names : Dt K mg "own_names" s_own_names ["statement"] f_own_names := ⟨⟨_, F5, b5⟩, PySem.W.mg_of X G a_own_names⟩
    have F6 := fun_mk (st := s_named) l6 c6 k6
    have b6 := F6.binds (ps := ["statement"]) fun _ _ _ _ _ _ us hl => match us, hl with | [_], _ => rfl
    have Y_named : Dt K mg "named" s_named ["statement"] f_named := ⟨⟨_, F6, b6⟩, PySem.W.mg_of X G a_named⟩
    have F7 := fun_mk (st := s_copying) l7 c7 k7
    have b7 := F7.binds (ps := ["statement"]) fun _ _ _ _ _ _ us hl => match us, hl with | [_], _ => rfl
    have Y_copying : Dt K mg "copying" s_copying ["statement"] f_copying := ⟨⟨_, F7, b7⟩, PySem.W.mg_of X G a_copying⟩
    have F8 := fun_mk (st := s_sharing) l8 c8 k8
    have b8 := F8.binds (ps := ["statement"]) fun _ _ _ _ _ _ us hl => match us, hl with | [_], _ => rfl
    have Y_sharing : Dt K mg "sharing" s_sharing ["statement"] f_sharing := ⟨⟨_, F8, b8⟩, PySem.W.mg_of X G a_sharing⟩
    have F9 := fun_mk (st := s_l_bag) l9 c9 k9
    have b9 := F9.binds (ps := ["_law_script"]) fun _ _ _ _ _ _ us hl => match us, hl with | [_], _ => rfl
    have Y_l_bag : Dt K mg "_law_bag" s_l_bag ["_law_script"] f_l_bag := ⟨⟨_, F9, b9⟩, PySem.W.mg_of X G a_l_bag⟩
    have F10 := fun_mk (st := s_l_take) l10 c10 k10
    have b10 := F10.binds (ps := ["_law_bag_here", "_law_many"]) fun _ _ _ _ _ _ us hl => match us, hl with | [_, _], _ => rfl
    have Y_l_take : Dt K mg "_law_take" s_l_take ["_law_bag_here", "_law_many"] f_l_take := ⟨⟨_, F10, b10⟩, PySem.W.mg_of X G a_l_take⟩
    have F11 := fun_mk (st := s_l_alike) l11 c11 k11
    have b11 := F11.binds (ps := ["_law_found", "_law_due"]) fun _ _ _ _ _ _ us hl => match us, hl with | [_, _], _ => rfl
    have Y_l_alike : Dt K mg "_law_alike" s_l_alike ["_law_found", "_law_due"] f_l_alike := ⟨⟨_, F11, b11⟩, PySem.W.mg_of X G a_l_alike⟩
    have F12 := fun_mk (st := s_l_mixed) l12 c12 k12
    have b12 := F12.binds (ps := ["_law_bag_here", "_law_things"]) fun _ _ _ _ _ _ us hl => match us, hl with | [_, _], _ => rfl
    have Y_l_mixed : Dt K mg "_law_mixed" s_l_mixed ["_law_bag_here", "_law_things"] f_l_mixed := ⟨⟨_, F12, b12⟩, PySem.W.mg_of X G a_l_mixed⟩
    have F13 := fun_mk (st := s_l_draw_names) l13 c13 k13
    have b13 := F13.binds (ps := ["_law_bag_here", "_law_many"]) fun _ _ _ _ _ _ us hl => match us, hl with | [_, _], _ => rfl
    have Y_l_draw_names : Dt K mg "_law_draw_names" s_l_draw_names ["_law_bag_here", "_law_many"] f_l_draw_names := ⟨⟨_, F13, b13⟩, PySem.W.mg_of X G a_l_draw_names⟩
    have F14 := fun_mk (st := s_l_draw_heads) l14 c14 k14
    have b14 := F14.binds (ps := ["_law_bag_here", "_law_many", "_law_most"]) fun _ _ _ _ _ _ us hl => match us, hl with | [_, _, _], _ => rfl
    have Y_l_draw_heads : Dt K mg "_law_draw_heads" s_l_draw_heads ["_law_bag_here", "_law_many", "_law_most"] f_l_draw_heads := ⟨⟨_, F14, b14⟩, PySem.W.mg_of X G a_l_draw_heads⟩
    have F15 := fun_mk (st := s_l_draw_call) l15 c15 k15
    have b15 := F15.binds (ps := ["_law_bag_here", "_law_heads", "_law_function", "_law_is_free"]) fun _ _ _ _ _ _ us hl => match us, hl with | [_, _, _, _], _ => rfl
    have Y_l_draw_call : Dt K mg "_law_draw_call" s_l_draw_call ["_law_bag_here", "_law_heads", "_law_function", "_law_is_free"] f_l_draw_call := ⟨⟨_, F15, b15⟩, PySem.W.mg_of X G a_l_draw_call⟩
    have F16 := fun_mk (st := s_l_draw_statement) l16 c16 k16
    have b16 := F16.binds (ps := ["_law_bag_here", "_law_heads", "_law_function", "_law_depth", "_law_is_free"]) fun _ _ _ _ _ _ us hl => match us, hl with | [_, _, _, _, _], _ => rfl
    have Y_l_draw_statement : Dt K mg "_law_draw_statement" s_l_draw_statement ["_law_bag_here", "_law_heads", "_law_function", "_law_depth", "_law_is_free"] f_l_draw_statement := ⟨⟨_, F16, b16⟩, PySem.W.mg_of X G a_l_draw_statement⟩
    have F17 := fun_mk (st := s_l_draw_body) l17 c17 k17
    have b17 := F17.binds (ps := ["_law_bag_here", "_law_heads", "_law_function", "_law_many", "_law_depth", "_law_is_free"]) fun _ _ _ _ _ _ us hl => match us, hl with | [_, _, _, _, _, _], _ => rfl
    have Y_l_draw_body : Dt K mg "_law_draw_body" s_l_draw_body ["_law_bag_here", "_law_heads", "_law_function", "_law_many", "_law_depth", "_law_is_free"] f_l_draw_body := ⟨⟨_, F17, b17⟩, PySem.W.mg_of X G a_l_draw_body⟩
    have F18 := fun_mk (st := s_l_size) l18 c18 k18
    have b18 := F18.binds (ps := ["_law_body"]) fun _ _ _ _ _ _ us hl => match us, hl with | [_], _ => rfl
    have Y_l_size : Dt K mg "_law_size" s_l_size ["_law_body"] f_l_size := ⟨⟨_, F18, b18⟩, PySem.W.mg_of X G a_l_size⟩
    have F19 := fun_mk (st := s_l_draw_functions) l19 c19 k19
    have b19 := F19.binds (ps := ["_law_bag_here", "_law_many", "_law_most", "_law_long"]) fun _ _ _ _ _ _ us hl => match us, hl with | [_, _, _, _], _ => rfl
    have Y_l_draw_functions : Dt K mg "_law_draw_functions" s_l_draw_functions ["_law_bag_here", "_law_many", "_law_most", "_law_long"] f_l_draw_functions := ⟨⟨_, F19, b19⟩, PySem.W.mg_of X G a_l_draw_functions⟩
    have F20 := fun_mk (st := s_l_handed_body) l20 c20 k20
    have b20 := F20.binds (ps := ["_law_bag_here", "_law_body"]) fun _ _ _ _ _ _ us hl => match us, hl with | [_, _], _ => rfl
    have Y_l_handed_body : Dt K mg "_law_handed_body" s_l_handed_body ["_law_bag_here", "_law_body"] f_l_handed_body := ⟨⟨_, F20, b20⟩, PySem.W.mg_of X G a_l_handed_body⟩
    have F21 := fun_mk (st := s_l_names_in) l21 c21 k21
    have b21 := F21.binds (ps := ["_law_body"]) fun _ _ _ _ _ _ us hl => match us, hl with | [_], _ => rfl
    have Y_l_names_in : Dt K mg "_law_names_in" s_l_names_in ["_law_body"] f_l_names_in := ⟨⟨_, F21, b21⟩, PySem.W.mg_of X G a_l_names_in⟩
    have F22 := fun_mk (st := s_l_inner) l22 c22 k22
    have b22 := F22.binds (ps := ["_law_statement"]) fun _ _ _ _ _ _ us hl => match us, hl with | [_], _ => rfl
    have Y_l_inner : Dt K mg "_law_inner" s_l_inner ["_law_statement"] f_l_inner := ⟨⟨_, F22, b22⟩, PySem.W.mg_of X G a_l_inner⟩
    have F23 := fun_mk (st := s_l_wide) l23 c23 k23
    have b23 := F23.binds (ps := ["_law_bag_here"]) fun _ _ _ _ _ _ us hl => match us, hl with | [_], _ => rfl
    have Y_l_wide : Dt K mg "_law_wide" s_l_wide ["_law_bag_here"] f_l_wide := ⟨⟨_, F23, b23⟩, PySem.W.mg_of X G a_l_wide⟩
    have F24 := fun_mk (st := s_l_made) l24 c24 k24
    have b24 := F24.binds (ps := ["_law_statement"]) fun _ _ _ _ _ _ us hl => match us, hl with | [_], _ => rfl
    have Y_l_made : Dt K mg "_law_made" s_l_made ["_law_statement"] f_l_made := ⟨⟨_, F24, b24⟩, PySem.W.mg_of X G a_l_made⟩
    have F25 := fun_mk (st := s_l_read) l25 c25 k25
    have b25 := F25.binds (ps := ["_law_statement"]) fun _ _ _ _ _ _ us hl => match us, hl with | [_], _ => rfl
    have Y_l_read : Dt K mg "_law_read" s_l_read ["_law_statement"] f_l_read := ⟨⟨_, F25, b25⟩, PySem.W.mg_of X G a_l_read⟩
    have F26 := fun_mk (st := s_l_turned) l26 c26 k26
    have b26 := F26.binds (ps := ["_law_statement", "_law_words", "_law_others"]) fun _ _ _ _ _ _ us hl => match us, hl with | [_, _, _], _ => rfl
    have Y_l_turned : Dt K mg "_law_turned" s_l_turned ["_law_statement", "_law_words", "_law_others"] f_l_turned := ⟨⟨_, F26, b26⟩, PySem.W.mg_of X G a_l_turned⟩
    have F27 := fun_mk (st := s_l_told) l27 c27 k27
    have b27 := F27.binds (ps := ["_law_statement"]) fun _ _ _ _ _ _ us hl => match us, hl with | [_], _ => rfl
    have Y_l_told : Dt K mg "_law_told" s_l_told ["_law_statement"] f_l_told := ⟨⟨_, F27, b27⟩, PySem.W.mg_of X G a_l_told⟩
    have F28 := fun_mk (st := s_l_right) l28 c28 k28
    have b28 := F28.binds (ps := ["_law_statement"]) fun _ _ _ _ _ _ us hl => match us, hl with | [_], _ => rfl
    have Y_l_right : Dt K mg "_law_right" s_l_right ["_law_statement"] f_l_right := ⟨⟨_, F28, b28⟩, PySem.W.mg_of X G a_l_right⟩
    have F29 := fun_mk (st := s_law) l29 c29 k29
    have b29 := F29.binds (ps := ["_law_script"]) fun _ _ _ _ _ _ us hl => match us, hl with | [_], _ => rfl
    have hT_MAKING : SqT K (fun _ => none) f_MAKING [.str "new", .str "take", .str "cut", .str "put", .str "copy", .str "copycut", .str "copyput", .str "call"] := .inr ⟨_, _, _, lk_MAKING, rfl, rfl, (by show 8 ≤ sizeLine; decide), .cons ⟨_, rfl⟩ (.cons ⟨_, rfl⟩ (.cons ⟨_, rfl⟩ (.cons ⟨_, rfl⟩ (.cons ⟨_, rfl⟩ (.cons ⟨_, rfl⟩ (.cons ⟨_, rfl⟩ (.cons ⟨_, rfl⟩ (.nil))))))))⟩
    have DD_NAMES_IN := He.dicW_ok dd_NAMES_IN
    have DD_COPYING := He.dicW_ok dd_COPYING
    have DD_SHARING := He.dicW_ok dd_SHARING
    refine ⟨PySem.W.fnOf "law" "law" (defArgs s_law) (defBody s_law) (defScope s_law) .none kV29 dc29 pm29 an29 cd29 ct29, fun s v => .of_eq rfl, fun base _ _ => ?_⟩
    have C : KC K w f_NAMES_IN f_MAKING f_COPYING f_SHARING := by
      refine ⟨fun x m => ?_, fun x m => ?_, fun x m => ?_, hT_MAKING, fun x m => ?_, fun x m => ?_⟩
      · simp only [w1S, List.mem_cons, List.not_mem_nil, or_false] at m
        rcases m with rfl | rfl | rfl | rfl
        · exact kd_has DD_NAMES_IN v_NAMES_IN_new ⟨_, rfl⟩
        · exact kd_has DD_NAMES_IN v_NAMES_IN_set ⟨_, rfl⟩
        · exact kd_has DD_NAMES_IN v_NAMES_IN_keep ⟨_, rfl⟩
        · exact kd_has DD_NAMES_IN v_NAMES_IN_look ⟨_, rfl⟩
      · simp only [w2S, List.mem_cons, List.not_mem_nil, or_false] at m
        rcases m with rfl | rfl | rfl | rfl | rfl | rfl
        · exact kd_has DD_NAMES_IN v_NAMES_IN_take ⟨_, rfl⟩
        · exact kd_has DD_NAMES_IN v_NAMES_IN_cut ⟨_, rfl⟩
        · exact kd_has DD_NAMES_IN v_NAMES_IN_put ⟨_, rfl⟩
        · exact kd_has DD_NAMES_IN v_NAMES_IN_copy ⟨_, rfl⟩
        · exact kd_has DD_NAMES_IN v_NAMES_IN_copycut ⟨_, rfl⟩
        · exact kd_has DD_NAMES_IN v_NAMES_IN_copyput ⟨_, rfl⟩
      · simp only [List.mem_cons, List.not_mem_nil, or_false] at m
        rcases m with rfl | rfl | rfl
        · exact kd_no DD_NAMES_IN v_NAMES_IN_call
        · exact kd_no DD_NAMES_IN v_NAMES_IN_either
        · exact kd_no DD_NAMES_IN v_NAMES_IN_loop
      · simp only [wordsA, w1S, w2S, List.cons_append, List.nil_append, List.mem_cons, List.not_mem_nil, or_false] at m
        rcases m with rfl | rfl | rfl | rfl | rfl | rfl | rfl | rfl | rfl | rfl | rfl | rfl | rfl
        · exact kd_none (o := cpF "new") (by decide +kernel) DD_COPYING v_COPYING_new
        · exact kd_none (o := cpF "set") (by decide +kernel) DD_COPYING v_COPYING_set
        · exact kd_none (o := cpF "keep") (by decide +kernel) DD_COPYING v_COPYING_keep
        · exact kd_none (o := cpF "look") (by decide +kernel) DD_COPYING v_COPYING_look
        · exact kd_some (o := cpF "take") (by decide +kernel) DD_COPYING v_COPYING_take ⟨_, rfl⟩
        · exact kd_some (o := cpF "cut") (by decide +kernel) DD_COPYING v_COPYING_cut ⟨_, rfl⟩
        · exact kd_some (o := cpF "put") (by decide +kernel) DD_COPYING v_COPYING_put ⟨_, rfl⟩
        · exact kd_none (o := cpF "copy") (by decide +kernel) DD_COPYING v_COPYING_copy
        · exact kd_none (o := cpF "copycut") (by decide +kernel) DD_COPYING v_COPYING_copycut
        · exact kd_none (o := cpF "copyput") (by decide +kernel) DD_COPYING v_COPYING_copyput
        · exact kd_none (o := cpF "call") (by decide +kernel) DD_COPYING v_COPYING_call
        · exact kd_none (o := cpF "either") (by decide +kernel) DD_COPYING v_COPYING_either
        · exact kd_none (o := cpF "loop") (by decide +kernel) DD_COPYING v_COPYING_loop
      · simp only [wordsA, w1S, w2S, List.cons_append, List.nil_append, List.mem_cons, List.not_mem_nil, or_false] at m
        rcases m with rfl | rfl | rfl | rfl | rfl | rfl | rfl | rfl | rfl | rfl | rfl | rfl | rfl
        · exact kd_none (o := shF "new") (by decide +kernel) DD_SHARING v_SHARING_new
        · exact kd_none (o := shF "set") (by decide +kernel) DD_SHARING v_SHARING_set
        · exact kd_none (o := shF "keep") (by decide +kernel) DD_SHARING v_SHARING_keep
        · exact kd_none (o := shF "look") (by decide +kernel) DD_SHARING v_SHARING_look
        · exact kd_none (o := shF "take") (by decide +kernel) DD_SHARING v_SHARING_take
        · exact kd_none (o := shF "cut") (by decide +kernel) DD_SHARING v_SHARING_cut
        · exact kd_none (o := shF "put") (by decide +kernel) DD_SHARING v_SHARING_put
        · exact kd_some (o := shF "copy") (by decide +kernel) DD_SHARING v_SHARING_copy ⟨_, rfl⟩
        · exact kd_some (o := shF "copycut") (by decide +kernel) DD_SHARING v_SHARING_copycut ⟨_, rfl⟩
        · exact kd_some (o := shF "copyput") (by decide +kernel) DD_SHARING v_SHARING_copyput ⟨_, rfl⟩
        · exact kd_none (o := shF "call") (by decide +kernel) DD_SHARING v_SHARING_call
        · exact kd_none (o := shF "either") (by decide +kernel) DD_SHARING v_SHARING_either
        · exact kd_none (o := shF "loop") (by decide +kernel) DD_SHARING v_SHARING_loop
    have D_inner_bodies := ok_inner_bodies (P := l.prog) (w := w) (base := base) Y_inner_bodies T
    have D_bodies := ok_bodies Y_bodies T D_inner_bodies
    have D_made := ok_made (P := l.prog) (w := w) (base := base) Y_made T C
    have D_read := ok_read (P := l.prog) (w := w) (base := base) Y_read T C
    have D_own_names := ok_own_names (P := l.prog) (w := w) (base := base) Y_own_names T C
    have D_named := ok_named Y_named T D_own_names D_inner_bodies
    have D_copying := ok_copying (P := l.prog) (w := w) (base := base) Y_copying T C
    have D_sharing := ok_sharing (P := l.prog) (w := w) (base := base) Y_sharing T C
    have D_l_take := ok_l_take (P := l.prog) (w := w) (base := base) Y_l_take T
    have D_l_bag := ok_l_bag (P := l.prog) (w := w) (base := base) Y_l_bag T
    have D_l_alike := ok_l_alike (P := l.prog) (w := w) (base := base) Y_l_alike T
    have D_l_mixed := ok_l_mixed Y_l_mixed T D_l_take
    have D_l_draw_names := ok_l_draw_names Y_l_draw_names T D_l_take
    have D_l_draw_heads := ok_l_draw_heads Y_l_draw_heads T D_l_take D_l_draw_names D_l_mixed
    have D_l_draw_call := ok_l_draw_call Y_l_draw_call T D_l_take
    have TW := tower Y_l_draw_body Y_l_draw_statement T D_l_take D_l_draw_call 2
    have Z0 := ok_size0 (P := l.prog) (w := w) (base := base) (k := 0) Y_l_size
    have Z1 := ok_l_size1 (n := 0) Y_l_size T Z0
    have Z2 := ok_l_size1 (n := 1) Y_l_size T Z1
    have Z3 := ok_l_size1 (n := 2) Y_l_size T Z2
    have D_l_draw_functions := ok_l_draw_functions (f4 := f_l_size) Y_l_draw_functions T D_l_draw_heads TW.2 Z3
    have H0 := ok_hand0 (P := l.prog) (w := w) (base := base) (k := 1) Y_l_handed_body
    have H1 := ok_hand1 (n := 0) Y_l_handed_body T D_l_take H0
    have H2 := ok_hand1 (n := 1) Y_l_handed_body T D_l_take H1
    have H3 := ok_hand1 (n := 2) Y_l_handed_body T D_l_take H2
    have N0 := ok_nin0 (P := l.prog) (w := w) (base := base) (k := 0) Y_l_names_in
    have N1 := ok_nin1 (n := 0) Y_l_names_in T N0
    have N2 := ok_nin1 (n := 1) Y_l_names_in T N1
    have N3 := ok_nin1 (n := 2) Y_l_names_in T N2
    have N4 := ok_nin1 (n := 3) Y_l_names_in T N3
    have N5 := ok_nin1 (n := 4) Y_l_names_in T N4
    have D_l_inner := ok_l_inner (P := l.prog) (w := w) (base := base) Y_l_inner T
    have D_l_made := ok_l_made (P := l.prog) (w := w) (base := base) Y_l_made T
    have D_l_read := ok_l_read (P := l.prog) (w := w) (base := base) Y_l_read T
    have D_l_turned := ok_l_turned (P := l.prog) (w := w) (base := base) Y_l_turned T
    have D_l_told := ok_l_told Y_l_told T D_bodies D_made D_read D_named D_copying D_sharing
    have D_l_right := ok_l_right Y_l_right T D_l_inner D_l_made D_l_read N5 D_l_turned D_l_told D_l_alike D_copying D_sharing
    have D_l_wide := ok_l_wide Y_l_wide T D_l_take
    exact ok_law F29 T D_l_bag D_l_draw_functions H3 D_l_wide D_l_inner D_l_right
theorem walk {l : PySem.W.OpenLaw} {q : Program} {loose : List Str} {XP : (Str → Option Value) → Heap → Prop} {YP : World → Heap → Prop} {d : DefRec} {K : Params → PySem.W.Frag} (hn : l.most = some 63) (hdf : d.params.defaults = [])
    (hY : ∀ (w : World) (h : Heap), YP w h → (K w.params).In h)
    (F : ∀ (w : World) (mg : Str → Option Value) (fa : Addr) (h : Heap), (K w.params).In h → h.Ns mainGlobals mg → mg d.name = some (.ref fa) →
      ∃ fd : FuncData, (∀ (s : Shared) (u : Value), BindsTo s fd ⟨[u], []⟩ [("_law_script", u)]) ∧ ∀ base : Heap, (K w.params).In base → base.Ns mainGlobals mg → FnG l.prog w (K w.params) mg base 10 fa fd ["_law_script"] (spLaw (K w.params))) :
    PySem.W.WalkO q loose XP YP l.row.toRowW d [] (fun f vs => PySem.call f vs) :=
  walk_G (n := 63) (k := 10) (x := "_law_script") (sp := fun w => spLaw (K w.params)) hn (by decide) hdf ⟨rfl, by decide, by decide⟩ hY F (fun _ H a ns hl _ _ hS => ⟨a, ns, rfl, hS, hl, fun _ => rfl⟩)
end Pf

open PySem PySem.W PyProof.Rows in
set_option maxRecDepth 100000 in
set_option maxHeartbeats 0 in
theorem PySem.Challenge.cw_sparetails_k12_parts_of_statements_holds : PySem.Challenge.rw_sparetails_k12_parts_of_statements.Holds := by
  w_on; o_law; k_head; (case hw => w_witness2)
  k_fill
  refine Pf.walk (l := PySem.Challenge.rw_sparetails_k12_parts_of_statements) rfl rfl (fun w h Y => PySem.W.kIn_of Y) ?F
  case F =>
    intro w mg fa h KX G hmg
    refine' Pf.all_mk KX G hmg ?a_inner_bodies ?l1 ?c1 ?k1 ?a_bodies ?l2 ?c2 ?k2 ?a_made ?l3 ?c3 ?k3 ?a_read ?l4 ?c4 ?k4 ?a_own_names ?l5 ?c5 ?k5 ?a_named ?l6 ?c6 ?k6 ?a_copying ?l7 ?c7 ?k7 ?a_sharing ?l8 ?c8 ?k8 ?a_l_bag ?l9 ?c9 ?k9 ?a_l_take ?l10 ?c10 ?k10 ?a_l_alike ?l11 ?c11 ?k11 ?a_l_mixed ?l12 ?c12 ?k12 ?a_l_draw_names ?l13 ?c13 ?k13 ?a_l_draw_heads ?l14 ?c14 ?k14 ?a_l_draw_call ?l15 ?c15 ?k15 ?a_l_draw_statement ?l16 ?c16 ?k16 ?a_l_draw_body ?l17 ?c17 ?k17 ?a_l_size ?l18 ?c18 ?k18 ?a_l_draw_functions ?l19 ?c19 ?k19 ?a_l_handed_body ?l20 ?c20 ?k20 ?a_l_names_in ?l21 ?c21 ?k21 ?a_l_inner ?l22 ?c22 ?k22 ?a_l_wide ?l23 ?c23 ?k23 ?a_l_made ?l24 ?c24 ?k24 ?a_l_read ?l25 ?c25 ?k25 ?a_l_turned ?l26 ?c26 ?k26 ?a_l_told ?l27 ?c27 ?k27 ?a_l_right ?l28 ?c28 ?k28 ?a_law ?l29 ?c29 ?k29 ?a_MAKING ?lk_MAKING ?a_NAMES_IN ?dd_NAMES_IN ?v_NAMES_IN_new ?v_NAMES_IN_set ?v_NAMES_IN_keep ?v_NAMES_IN_look ?v_NAMES_IN_take ?v_NAMES_IN_cut ?v_NAMES_IN_put ?v_NAMES_IN_copy ?v_NAMES_IN_copycut ?v_NAMES_IN_copyput ?v_NAMES_IN_call ?v_NAMES_IN_either ?v_NAMES_IN_loop ?a_COPYING ?dd_COPYING ?v_COPYING_new ?v_COPYING_set ?v_COPYING_keep ?v_COPYING_look ?v_COPYING_take ?v_COPYING_cut ?v_COPYING_put ?v_COPYING_copy ?v_COPYING_copycut ?v_COPYING_copyput ?v_COPYING_call ?v_COPYING_either ?v_COPYING_loop ?a_SHARING ?dd_SHARING ?v_SHARING_new ?v_SHARING_set ?v_SHARING_keep ?v_SHARING_look ?v_SHARING_take ?v_SHARING_cut ?v_SHARING_put ?v_SHARING_copy ?v_SHARING_copycut ?v_SHARING_copyput ?v_SHARING_call ?v_SHARING_either ?v_SHARING_loop ?z_enumerate ?z_tuple ?z_sorted ?z_len ?z_int ?z_abs ?z_set ?z_dict ?z_range ?z_repr ?z_list ?z_sum
    (case a_inner_bodies => k_is)
    (case l1 => k_is)
    (case c1 => k_is)
    (case k1 => k_is)
    (case a_bodies => k_is)
    (case l2 => k_is)
    (case c2 => k_is)
    (case k2 => k_is)
    (case a_made => k_is)
    (case l3 => k_is)
    (case c3 => k_is)
    (case k3 => k_is)
    (case a_read => k_is)
    (case l4 => k_is)
    (case c4 => k_is)
    (case k4 => k_is)
    (case a_own_names => k_is)
    (case l5 => k_is)
    (case c5 => k_is)
    (case k5 => k_is)
    (case a_named => k_is)
    (case l6 => k_is)
    (case c6 => k_is)
    (case k6 => k_is)
    (case a_copying => k_is)
    (case l7 => k_is)
    (case c7 => k_is)
    (case k7 => k_is)
    (case a_sharing => k_is)
    (case l8 => k_is)
    (case c8 => k_is)
    (case k8 => k_is)
    (case a_l_bag => k_is)
    (case l9 => k_is)
    (case c9 => k_is)
    (case k9 => k_is)
    (case a_l_take => k_is)
    (case l10 => k_is)
    (case c10 => k_is)
    (case k10 => k_is)
    (case a_l_alike => k_is)
    (case l11 => k_is)
    (case c11 => k_is)
    (case k11 => k_is)
    (case a_l_mixed => k_is)
    (case l12 => k_is)
    (case c12 => k_is)
    (case k12 => k_is)
    (case a_l_draw_names => k_is)
    (case l13 => k_is)
    (case c13 => k_is)
    (case k13 => k_is)
    (case a_l_draw_heads => k_is)
    (case l14 => k_is)
    (case c14 => k_is)
    (case k14 => k_is)
    (case a_l_draw_call => k_is)
    (case l15 => k_is)
    (case c15 => k_is)
    (case k15 => k_is)
    (case a_l_draw_statement => k_is)
    (case l16 => k_is)
    (case c16 => k_is)
    (case k16 => k_is)
    (case a_l_draw_body => k_is)
    (case l17 => k_is)
    (case c17 => k_is)
    (case k17 => k_is)
    (case a_l_size => k_is)
    (case l18 => k_is)
    (case c18 => k_is)
    (case k18 => k_is)
    (case a_l_draw_functions => k_is)
    (case l19 => k_is)
    (case c19 => k_is)
    (case k19 => k_is)
    (case a_l_handed_body => k_is)
    (case l20 => k_is)
    (case c20 => k_is)
    (case k20 => k_is)
    (case a_l_names_in => k_is)
    (case l21 => k_is)
    (case c21 => k_is)
    (case k21 => k_is)
    (case a_l_inner => k_is)
    (case l22 => k_is)
    (case c22 => k_is)
    (case k22 => k_is)
    (case a_l_wide => k_is)
    (case l23 => k_is)
    (case c23 => k_is)
    (case k23 => k_is)
    (case a_l_made => k_is)
    (case l24 => k_is)
    (case c24 => k_is)
    (case k24 => k_is)
    (case a_l_read => k_is)
    (case l25 => k_is)
    (case c25 => k_is)
    (case k25 => k_is)
    (case a_l_turned => k_is)
    (case l26 => k_is)
    (case c26 => k_is)
    (case k26 => k_is)
    (case a_l_told => k_is)
    (case l27 => k_is)
    (case c27 => k_is)
    (case k27 => k_is)
    (case a_l_right => k_is)
    (case l28 => k_is)
    (case c28 => k_is)
    (case k28 => k_is)
    (case a_law => k_is)
    (case l29 => k_is)
    (case c29 => k_is)
    (case k29 => k_is)
    (case a_MAKING => k_is)
    (case lk_MAKING => k_is)
    (case a_NAMES_IN => k_is)
    (case dd_NAMES_IN => first | kernel_rfl | exact rfl)
    (case v_NAMES_IN_new => k_is)
    (case v_NAMES_IN_set => k_is)
    (case v_NAMES_IN_keep => k_is)
    (case v_NAMES_IN_look => k_is)
    (case v_NAMES_IN_take => k_is)
    (case v_NAMES_IN_cut => k_is)
    (case v_NAMES_IN_put => k_is)
    (case v_NAMES_IN_copy => k_is)
    (case v_NAMES_IN_copycut => k_is)
    (case v_NAMES_IN_copyput => k_is)
    (case v_NAMES_IN_call => k_is)
    (case v_NAMES_IN_either => k_is)
    (case v_NAMES_IN_loop => k_is)
    (case a_COPYING => k_is)
    (case dd_COPYING => first | kernel_rfl | exact rfl)
    (case v_COPYING_new => k_is)
    (case v_COPYING_set => k_is)
    (case v_COPYING_keep => k_is)
    (case v_COPYING_look => k_is)
    (case v_COPYING_take => k_is)
    (case v_COPYING_cut => k_is)
    (case v_COPYING_put => k_is)
    (case v_COPYING_copy => k_is)
    (case v_COPYING_copycut => k_is)
    (case v_COPYING_copyput => k_is)
    (case v_COPYING_call => k_is)
    (case v_COPYING_either => k_is)
    (case v_COPYING_loop => k_is)
    (case a_SHARING => k_is)
    (case dd_SHARING => first | kernel_rfl | exact rfl)
    (case v_SHARING_new => k_is)
    (case v_SHARING_set => k_is)
    (case v_SHARING_keep => k_is)
    (case v_SHARING_look => k_is)
    (case v_SHARING_take => k_is)
    (case v_SHARING_cut => k_is)
    (case v_SHARING_put => k_is)
    (case v_SHARING_copy => k_is)
    (case v_SHARING_copycut => k_is)
    (case v_SHARING_copyput => k_is)
    (case v_SHARING_call => k_is)
    (case v_SHARING_either => k_is)
    (case v_SHARING_loop => k_is)
    (case z_enumerate => k_is)
    (case z_tuple => k_is)
    (case z_sorted => k_is)
    (case z_len => k_is)
    (case z_int => k_is)
    (case z_abs => k_is)
    (case z_set => k_is)
    (case z_dict => k_is)
    (case z_range => k_is)
    (case z_repr => k_is)
    (case z_list => k_is)
    (case z_sum => k_is)


