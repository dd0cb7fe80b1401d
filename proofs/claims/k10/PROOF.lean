import PyProof.Rows.All
import Wide.All
import OpenK.AllK
import Wide.FinOn
import HandS.Base
import HandS.Call
import HandS.List
import HandS.Comp
import HandS.Ends
import HandS.Words
import HandS.ForMost
import HandS.Style
import HandS.NoneIn
import HandS.IsInst
import HandS.Wide
import HandS.More
import HandS.Codes
import HandS.SlotsOwn
import HandS.Property
import HandS.MakeKwOnly
import HandS.CallLocal
import HandS.EndBits
import PyProof.ReprLen
import HandS.OwnEq
import HandS.Zip
import KE.KIsAll
import KE.KExcIs
import HandS.Exc
import HandS.ExcOwn
import HandS.TryOnly
import HandS.WordsExc
import PyProof.Draws
import PyProof.WalksMore
import KE.SortData
import HandS.Star
import HandS.SetFor
import HandS.Strs
import HandS.Deep
import PyProof.EqAt
import PyProof.EqKinds
import HandS.ExcValue
import HandS.ExcInit
import HandS.Iter
import HandS.Walk
import HandS.SetTxt0
import HandS.Flow
import HandS.Text
import HandS.Conv
import HandS.HeadHook3
import HandS.TupAny
import PyProof.SumWalk
import PyProof.ListOps
import HandS.DictComp
import KE.KDictZip
import PyProof.DictUpdate
import PySem.Challenge.RW_sparetails_k10_errors_and_kinds
set_option Elab.async false
set_option linter.all false
set_option maxRecDepth 100000
namespace Kt
open PySem L2
/-! ### what is known of the heap, part by part -/
abbrev SP := Hp → Prop
def Le (G H : Hp) : Prop := ∀ a o, G a = some o → H a = some o
def sub (H G : Hp) : Hp := fun a => if (G a).isSome = true then none else H a
def Sep : List SP → Hp → Prop
  | [], _ => True
  | P :: Ps, H => ∃ G, Le G H ∧ P G ∧ Sep Ps (sub H G)
def pt (a : Addr) (o : HO) : SP := fun G => G a = some o
theorem sub_of {H G : Hp} {a : Addr} (h : G a = none) : sub H G a = H a := by
  unfold sub; rw [h]; rfl
theorem sub_in {H G : Hp} {a : Addr} {o : HO} (h : G a = some o) : sub H G a = none := by
  unfold sub; rw [h]; rfl
theorem sub_some {H G : Hp} {a : Addr} {o : HO} (h : sub H G a = some o) : G a = none ∧ H a = some o := by
  cases e : G a with
  | none => rw [sub_of e] at h; exact ⟨rfl, h⟩
  | some u => rw [sub_in e] at h; cases h
theorem Sep.mono : ∀ {Ps : List SP} {H H' : Hp}, Le H H' → Sep Ps H → Sep Ps H'
  | [], _, _, _, _ => trivial
  | P :: Ps, H, H', l, ⟨G, h1, h2, h3⟩ => ⟨G, fun a o e => l a o (h1 a o e), h2, Sep.mono (fun a o e => by
      obtain ⟨e1, e2⟩ := sub_some e
      rw [sub_of e1]; exact l a o e2) h3⟩
theorem Sep.tl {P : SP} {Ps : List SP} {H : Hp} : Sep (P :: Ps) H → Sep Ps H := fun ⟨G, _, _, h⟩ => h.mono fun a o e => (sub_some e).2
theorem Sep.swap {P Q : SP} {Ps : List SP} {H : Hp} : Sep (P :: Q :: Ps) H → Sep (Q :: P :: Ps) H := fun ⟨G1, l1, p1, G2, l2, p2, h⟩ => by
  have d : ∀ a o, G1 a = some o → G2 a = none := fun a o e => by
    cases e2 : G2 a with
    | none => rfl
    | some u => have := l2 a u e2; rw [sub_in e] at this; cases this
  refine ⟨G2, fun a o e => (sub_some (l2 a o e)).2, p2, G1, fun a o e => ?_, p1, h.mono fun a o e => ?_⟩
  · rw [sub_of (d a o e)]; exact l1 a o e
  · obtain ⟨e1, e2⟩ := sub_some e
    obtain ⟨e3, e4⟩ := sub_some e2
    rw [sub_of e3, sub_of e1]; exact e4
theorem Sep.cons_mono {P : SP} {Ps Qs : List SP} {H : Hp} (f : ∀ H', Sep Ps H' → Sep Qs H') : Sep (P :: Ps) H → Sep (P :: Qs) H := fun ⟨G, h1, h2, h3⟩ => ⟨G, h1, h2, f _ h3⟩
theorem Sep.hd_mono {P Q : SP} {Ps : List SP} {H : Hp} (f : ∀ G, P G → Q G) : Sep (P :: Ps) H → Sep (Q :: Ps) H := fun ⟨G, h1, h2, h3⟩ => ⟨G, h1, f _ h2, h3⟩
/-- one part to the front -/
inductive Pick (A : SP) : List SP → List SP → Prop where
  | hd {Ps : List SP} : Pick A (A :: Ps) Ps
  | tl {P : SP} {Ps Qs : List SP} : Pick A Ps Qs → Pick A (P :: Ps) (P :: Qs)
theorem Pick.go {A : SP} {Ps Qs : List SP} (p : Pick A Ps Qs) : ∀ {H : Hp}, Sep Ps H → Sep (A :: Qs) H := by
  induction p with
  | hd => exact fun h => h
  | tl _ ih => exact fun h => (h.cons_mono fun _ => ih).swap
theorem Pick.back {A : SP} {Ps Qs : List SP} (p : Pick A Ps Qs) : ∀ {H : Hp}, Sep (A :: Qs) H → Sep Ps H := by
  induction p with
  | hd => exact fun h => h
  | tl _ ih => exact fun h => h.swap.cons_mono fun _ => ih
inductive Dr : List SP → List SP → Prop where
  | all {Ps : List SP} : Dr Ps Ps
  | skip {P : SP} {Ps Qs : List SP} : Dr Ps Qs → Dr (P :: Ps) Qs
theorem Dr.go {Ps Qs : List SP} (p : Dr Ps Qs) : ∀ {H : Hp}, Sep Ps H → Sep Qs H := by
  induction p with
  | all => exact fun h => h
  | skip _ ih => exact fun h => ih h.tl
inductive Sel : List SP → List SP → List SP → Prop where
  | nil {Ps Qs : List SP} : Dr Ps Qs → Sel [] Ps Qs
  | cons {A : SP} {As Ps Qs Rs : List SP} : Pick A Ps Qs → Sel As Qs Rs → Sel (A :: As) Ps Rs
theorem Sel.go {As Ps Rs : List SP} (p : Sel As Ps Rs) : ∀ {H : Hp}, Sep Ps H → Sep (As ++ Rs) H := by
  induction p with
  | nil d => exact fun h => d.go h
  | cons p _ ih => exact fun h => (p.go h).cons_mono fun _ => ih
theorem Sep.sel {As Ps Rs : List SP} {H : Hp} (h : Sep Ps H) (p : Sel As Ps Rs) : Sep (As ++ Rs) H := p.go h
theorem Sep.s1 {A : SP} {Ps Rs : List SP} {H : Hp} (h : Sep Ps H) (p : Sel [A] Ps Rs) : Sep (A :: Rs) H := h.sel p
theorem Sep.s2 {A B : SP} {Ps Rs : List SP} {H : Hp} (h : Sep Ps H) (p : Sel [A, B] Ps Rs) : Sep (A :: B :: Rs) H := h.sel p
theorem Sep.s3 {A B C : SP} {Ps Rs : List SP} {H : Hp} (h : Sep Ps H) (p : Sel [A, B, C] Ps Rs) : Sep (A :: B :: C :: Rs) H := h.sel p
theorem Sep.s4 {A B C D : SP} {Ps Rs : List SP} {H : Hp} (h : Sep Ps H) (p : Sel [A, B, C, D] Ps Rs) : Sep (A :: B :: C :: D :: Rs) H := h.sel p
theorem Sep.s5 {A B C D E : SP} {Ps Rs : List SP} {H : Hp} (h : Sep Ps H) (p : Sel [A, B, C, D, E] Ps Rs) : Sep (A :: B :: C :: D :: E :: Rs) H := h.sel p
theorem Sep.s6 {A B C D E F : SP} {Ps Rs : List SP} {H : Hp} (h : Sep Ps H) (p : Sel [A, B, C, D, E, F] Ps Rs) : Sep (A :: B :: C :: D :: E :: F :: Rs) H := h.sel p
theorem Sep.s7 {A B C D E F G : SP} {Ps Rs : List SP} {H : Hp} (h : Sep Ps H) (p : Sel [A, B, C, D, E, F, G] Ps Rs) : Sep (A :: B :: C :: D :: E :: F :: G :: Rs) H := h.sel p
theorem Sep.s8 {A B C D E F G I : SP} {Ps Rs : List SP} {H : Hp} (h : Sep Ps H) (p : Sel [A, B, C, D, E, F, G, I] Ps Rs) : Sep (A :: B :: C :: D :: E :: F :: G :: I :: Rs) H := h.sel p
theorem Sep.pk {A : SP} {Ps Qs : List SP} {H : Hp} (h : Sep Ps H) (p : Pick A Ps Qs) : Sep (A :: Qs) H := p.go h
/-- one part looked up, put otherwise -/
inductive Repl (a : Addr) (o o' : HO) : List SP → List SP → Prop where
  | hd {Ps : List SP} : Repl a o o' (pt a o :: Ps) (pt a o' :: Ps)
  | tl {P : SP} {Ps Qs : List SP} : Repl a o o' Ps Qs → Repl a o o' (P :: Ps) (P :: Qs)
theorem Repl.pick {a : Addr} {o o' : HO} {Ps Qs : List SP} (r : Repl a o o' Ps Qs) : ∃ Rs, Pick (pt a o) Ps Rs ∧ Pick (pt a o') Qs Rs := by
  induction r with
  | hd => exact ⟨_, .hd, .hd⟩
  | tl _ ih => obtain ⟨Rs, h1, h2⟩ := ih; exact ⟨_, .tl h1, .tl h2⟩
theorem Sep.hd_at {a : Addr} {o : HO} {Ps : List SP} {H : Hp} : Sep (pt a o :: Ps) H → H a = some o := fun ⟨_, l, h, _⟩ => l a o h
theorem Sep.at_ {a : Addr} {o : HO} {Ps Qs : List SP} {H : Hp} (h : Sep Ps H) (p : Pick (pt a o) Ps Qs) : H a = some o := (p.go h).hd_at
theorem Sep.hd_set {a : Addr} {o : HO} {Ps : List SP} {H : Hp} (o' : HO) : Sep (pt a o :: Ps) H → Sep (pt a o' :: Ps) (upd H a o') := fun ⟨G, l, h, s⟩ => by
  have h' : G a = some o := h
  refine ⟨upd G a o', fun b u e => ?_, upd_same, s.mono fun b u e => ?_⟩
  · by_cases hb : b = a
    · subst hb; rw [upd_same] at e ⊢; exact e
    · rw [upd_ne hb] at e ⊢; exact l b u e
  · obtain ⟨e1, e2⟩ := sub_some e
    have hb : b ≠ a := fun q => by rw [q, h'] at e1; cases e1
    rw [sub_of (by rw [upd_ne hb]; exact e1), upd_ne hb]; exact e2
theorem Sep.set {a : Addr} {o o' : HO} {Ps Qs : List SP} {H : Hp} (h : Sep Ps H) (r : Repl a o o' Ps Qs) : Sep Qs (upd H a o') := by
  obtain ⟨Rs, h1, h2⟩ := r.pick
  exact h2.back ((h1.go h).hd_set o')
theorem Sep.new {p : Addr} {Ps : List SP} {H : Hp} (o : HO) (h : Sep Ps H) (n : H p = none) : Sep (pt p o :: Ps) (upd H p o) := by
  refine ⟨fun b => if b = p then some o else none, fun b u e => ?_, if_pos rfl, h.mono fun b u e => ?_⟩
  · by_cases hb : b = p
    · subst hb; rw [upd_same]; simpa using e
    · simp [hb] at e
  · have hb : b ≠ p := fun q => by rw [q, n] at e; cases e
    rw [sub_of (by simp [hb]), upd_ne hb]; exact e
/-- several parts as one -/
theorem Sep.flat : ∀ {As Rs : List SP} {H : Hp}, Sep (Sep As :: Rs) H → Sep (As ++ Rs) H
  | [], Rs, H, h => h.tl
  | A :: As, Rs, H, ⟨G, l, ⟨G1, l1, a, t⟩, r⟩ => by
    refine ⟨G1, fun b o e => l b o (l1 b o e), a, Sep.flat ⟨sub G G1, fun b o e => ?_, t, r.mono fun b o e => ?_⟩⟩
    · obtain ⟨e1, e2⟩ := sub_some e
      rw [sub_of e1]; exact l b o e2
    · obtain ⟨e1, e2⟩ := sub_some e
      have g1 : G1 b = none := by
        cases q : G1 b with
        | none => rfl
        | some u => have := l1 b u q; rw [e1] at this; cases this
      have g2 : sub G G1 b = none := by rw [sub_of g1]; exact e1
      rw [sub_of g2, sub_of g1]; exact e2
theorem Sep.unflat : ∀ {As Rs : List SP} {H : Hp}, Sep (As ++ Rs) H → Sep (Sep As :: Rs) H
  | [], Rs, H, h => ⟨fun _ => none, fun _ _ (e : (none : Option HO) = some _) => (Option.noConfusion rfl (heq_of_eq e)), trivial, Sep.mono (H := H) (fun a o e => by rw [sub_of rfl]; exact e) h⟩
  | A :: As, Rs, H, ⟨G1, l1, a, t⟩ => by
    obtain ⟨G2, l2, b, r⟩ := Sep.unflat (As := As) (Rs := Rs) t
    have d : ∀ x o, G2 x = some o → G1 x = none := fun x o e => (sub_some (l2 x o e)).1
    refine ⟨fun x => if (G1 x).isSome = true then G1 x else G2 x, fun x o e => ?_, ⟨G1, fun x o e => ?_, a, b.mono fun x o e => ?_⟩, r.mono fun x o e => ?_⟩
    · cases q : G1 x with
      | none => simp only [q] at e; exact (sub_some (l2 x o (by simpa using e))).2
      | some u => simp only [q] at e; rw [← e]; exact l1 x u q
    · simp [e]
    · have g := d x o e
      rw [sub_of g]; simp [g, e]
    · obtain ⟨e1, e2⟩ := sub_some e
      obtain ⟨e3, e4⟩ := sub_some e2
      rw [sub_of (by simp [e3, e1])]; exact e4
theorem Sep.ex {α : Type} {P : α → SP} {Ps : List SP} {H : Hp} : Sep ((fun G => ∃ x, P x G) :: Ps) H → ∃ x, Sep (P x :: Ps) H := fun ⟨G, l, ⟨x, h⟩, t⟩ => ⟨x, G, l, h, t⟩
theorem Sep.ex_in {α : Type} {P : α → SP} {Ps : List SP} {H : Hp} (x : α) : Sep (P x :: Ps) H → Sep ((fun G => ∃ x, P x G) :: Ps) H := fun ⟨G, l, h, t⟩ => ⟨G, l, ⟨x, h⟩, t⟩
theorem Sep.pure {p : Prop} {P : SP} {Ps : List SP} {H : Hp} : Sep ((fun G => p ∧ P G) :: Ps) H → p ∧ Sep (P :: Ps) H := fun ⟨G, l, ⟨x, h⟩, t⟩ => ⟨x, G, l, h, t⟩
theorem Sep.pure_in {p : Prop} {P : SP} {Ps : List SP} {H : Hp} (x : p) : Sep (P :: Ps) H → Sep ((fun G => p ∧ P G) :: Ps) H := fun ⟨G, l, h, t⟩ => ⟨G, l, ⟨x, h⟩, t⟩
/-- two known objects stand apart -/
theorem Sep.ne {a b : Addr} {o u : HO} {Ps : List SP} {H : Hp} : Sep (pt a o :: pt b u :: Ps) H → a ≠ b := fun ⟨G, l, h, G2, l2, h2, _⟩ e => by
  subst e
  have q := l2 a u h2
  rw [sub_in (show G a = some o from h)] at q
  cases q
/-- what is kept beside -/
theorem Sep.le_nil {H : Hp} : Sep [] H := trivial
end Kt

set_option Elab.async false
set_option linter.all false
set_option maxRecDepth 100000
namespace Kt
open PySem L2 PyProof.Rows
/-! ### defs of the text by name -/
/-- the def x of the top stands at f -/
structure Dt (K : PySem.W.Frag) (mg : Str → Option Value) (x : Str) (st : Stmt) (ps : List Str) (f : Addr) : Prop where
  fn : ∃ fd, Fun K x x st f fd ∧ Binds K fd ps []
  at_ : mg x = some (.ref f)
structure Df (P : Program) (w : World) (K : PySem.W.Frag) (mg : Str → Option Value) (base : Heap) (k : Nat) (x : Str) (f : Addr) (ps : List Str) (sp : Sp) : Prop where
  fn : ∃ fd, FnOk P w K mg base CX0 k f fd ps sp ∧ Binds K fd ps []
  at_ : mg x = some (.ref f)
  kp : PySem.W.keepIn K (.ref f) = true
section
variable {P : Program} {w : World} {K : PySem.W.Frag} {mg : Str → Option Value} {base : Heap}
theorem Dt.ok {x : Str} {st : Stmt} {f : Addr} {N ps : List Str} {k : Nat} {sp : Sp} (T : Dt K mg x st ps f) (S : FnScope N ps (defScope st)) (len : ∀ vs H Q E, sp vs H Q E → vs.length = ps.length)
    (hbody : ∀ (cdv : Value) (A : Around) (outer : List Env) (s : Shared) (H : Hp) (vs : List V) (Q : VK) (E : XK), Room k (A.deeper (envOfC x (defScope st) s.heap.objs.size f cdv)) → sp vs H Q E →
      ∃ t, PSs (cxOf CX0 P w K mg base N x (defScope st) f cdv A outer s H E).nox (defBody st) t ∧ t { nx := fun _ H' => Q .non H', rt := Q } (start N vs) H) : Df P w K mg base (k + 1) x f ps sp := by
  obtain ⟨fd, F, b⟩ := T.fn
  exact ⟨⟨fd, F.ok S len hbody, b⟩, T.at_, F.kp⟩
end
section
variable {X : Cx} {k : Nat} {x : Str} {f : Addr} {ps : List Str} {sp : Sp} {e : Expr} {es : List Expr} {t : TA} {p pos : Pos}
theorem pe_df (D : Df X.prog X.w X.K X.mg X.base k x f ps sp) (hr : Room k X.A) (ha : PA X (e :: es) t) (hg : Gl X x := by rfl) (hd : (x == ("__debug__" : Str)) = false := by decide)
    (he : starEach (e :: es) X.env = (false, eval e X.env) :: starEach es X.env := by rfl) (hpl : (backTo pos (starEach es X.env)).any (·.1) = false := by rfl) : PE X (.Call (.Name x p) (e :: es) [] pos) (tCall sp [] E0 t) := by
  obtain ⟨fd, F, b⟩ := D.fn
  exact pe_call F hr hg D.at_ D.kp b .nil pass0 ha hd he hpl
theorem pe_df0 (D : Df X.prog X.w X.K X.mg X.base k x f [] sp) (hr : Room k X.A) (hg : Gl X x := by rfl) (hd : (x == ("__debug__" : Str)) = false := by decide) : PE X (.Call (.Name x p) [] [] pos) (tCall sp [] E0 tNil) := by
  obtain ⟨fd, F, b⟩ := D.fn
  exact pe_call0 F hr hg D.at_ D.kp b .nil pass0 hd
end
/-! ### xs[i] as it is read ahead of xs[i] op= .. -/
section
variable {X : Cx}
theorem get_list : PGet X (rIxL X.K) := by
  intro pins s σ H x y v u Q I rx ry h
  obtain ⟨p, xs, i, z, rfl, rfl, hq, he, q⟩ := h
  cases rx
  obtain ⟨t, rfl⟩ := ry
  obtain ⟨its, r, pl, hz⟩ := I.list hq
  obtain ⟨j, h1, h2, h3, h4, h5⟩ := atI_get he
  obtain ⟨w, ew, rw'⟩ := r.get h2
  have hl := r.length
  have hn := line63
  have fin : EP X pins σ Q w s := ⟨z, H, I, rw', q⟩
  by_cases h0 : 0 ≤ i
  · have hj : i.toNat = j := by
      rw [seqIndex_of h0 h5] at h1
      exact Option.some.inj h1
    exact wpAny_getItem_list pl.isList h0 (by omega) (by rw [hj]; simpa using ew) fin
  · have hj : (i + (its.toArray.size : Int)).toNat = j := by
      rw [seqIndex_neg (by omega) h4] at h1
      rw [List.size_toArray, ← hl]
      exact Option.some.inj h1
    exact wpAny_getItem_list_neg pl.isList (by omega) (by rw [List.size_toArray] <;> omega) (by omega) (by rw [hj]; simpa using ew) fin
/-! ### operators that serve several kinds -/
def rOr (r r' : R2) : R2 := fun x y H Q => r x y H Q ∨ r' x y H Q
theorem op_or {f : Value → Value → Sem Value} {r r' : R2} (h : OpR X f r) (h' : OpR X f r') : OpR X f (rOr r r') := OpR.or h h'
def rAddI : R2 := rI0 fun i j => .int (i + j)
def rSubI : R2 := rI0 fun i j => .int (i - j)
def rStrA : R2 := fun x y H Q => ∃ i j, x = .str i ∧ y = .str j ∧ i.length + j.length ≤ sizeLine ∧ Q (.str (i ++ j)) H
def rAddA : R2 := rOr rAddI (rOr rCat rStrA)
theorem op_addA : OpR X (binaryOp .Add) rAddA := op_or op_add (op_or op_cat op_add_str)
def rMulI : R2 := rI CMul fun i j => .int (i * j)
def rMulA : R2 := rOr rMulI rRep
theorem op_mulA : OpR X (binaryOp .Mult) rMulA := op_or op_mul op_rep
def rModI : R2 := rI (fun _ j => 0 < j) fun i j => .int (i % j)
def rDivI : R2 := rI CDiv fun i j => .int (i / j)
def rPowI : R2 := rI CPow fun i j => .int (i ^ j.toNat)
def rEqA (K : PySem.W.Frag) : R2 := rOr rEq (rEqD K)
def rNeA (K : PySem.W.Frag) : R2 := rOr rNe (rNeD K)
theorem op_eqA (hu : X.A.units + 64 < cLine) : OpR X (compareOp .Eq) (rEqA X.K) := op_or op_eq (op_eqD hu)
theorem op_neA (hu : X.A.units + 64 < cLine) : OpR X (compareOp .NotEq) (rNeA X.K) := op_or op_ne (op_neD hu)
def rLtI : R2 := rI0 fun i j => .bl (decide (i < j))
def rLeI : R2 := rI0 fun i j => .bl (decide (i ≤ j))
def rGtI : R2 := rI0 fun i j => .bl (decide (j < i))
def rGeI : R2 := rI0 fun i j => .bl (decide (j ≤ i))
def rIsN : R2 := fun x y H Q => y = .non ∧ Q (.bl (decide (x = .non))) H
def rNotN : R2 := fun x y H Q => y = .non ∧ Q (.bl (!decide (x = .non))) H
def cAbs : List V → Hp → VK → Prop := fun xs H Q => ∃ i, xs = [.int i] ∧ Q (.int (if i < 0 then -i else i)) H
def cInt : List V → Hp → VK → Prop := fun xs H Q => (∃ i, xs = [.int i] ∧ Q (.int i) H) ∨ ∃ k, xs = [.bl k] ∧ Q (.int (if k then 1 else 0)) H
def cMax2 : List V → Hp → VK → Prop := fun xs H Q => ∃ i j, xs = [.int i, .int j] ∧ Q (.int (if j > i then j else i)) H
def cMin2 : List V → Hp → VK → Prop := fun xs H Q => ∃ i j, xs = [.int i, .int j] ∧ Q (.int (if j < i then j else i)) H
def cLenQ (K : PySem.W.Frag) : List V → Hp → VK → Prop := fun xs H Q => ∃ p ys, xs = [.ref p] ∧ (SqL K H p ys ∨ SqT K H p ys) ∧ Q (.int ys.length) H
def cLenS : List V → Hp → VK → Prop := fun xs H Q => ∃ z, xs = [.str z] ∧ z.length ≤ sizeLine ∧ Q (.int z.length) H
def cOr (r r' : List V → Hp → VK → Prop) : List V → Hp → VK → Prop := fun xs H Q => r xs H Q ∨ r' xs H Q
def cList (K : PySem.W.Frag) : List V → Hp → VK → Prop := fun xs H Q => ∃ p ys, xs = [.ref p] ∧ (SqL K H p ys ∨ SqT K H p ys) ∧ ∀ l, H l = none → Q (.ref l) (upd H l (.lst ys))
theorem call_lenA : CallR X (.builtin "len") (cOr (cLenQ X.K) cLenS) := CallR.or call_len_seq call_len_str
theorem call_absA : CallR X (.builtin "abs") cAbs := call_abs
theorem call_intA : CallR X (.type "int") cInt := call_int1
theorem call_listA : CallR X (.type "list") (cList X.K) := call_list_of
end
/-! ### readings, step by step -/
section
variable {K : PySem.W.Frag} {σ : L2.St} {H : Hp} {D : Ends} {Q : VK} {QA : List V → Hp → Prop} {QT : Bool → Hp → Prop} {i : Nat} {v x y : V} {ta tb te : TE} {t u : TS} {tt tu : TT} {tr : TA} {r r' : R2} {g : TG} {n m : Int} {b c : Bool} {Ps Qs : List SP} {a : Addr} {o : HO} {xs ys : List V}
theorem q_seq (h : t { D with nx := u D } σ H) : tSeq t u D σ H := h
theorem q_set (h : te σ H fun x H1 => D.nx (σ.set i (some x)) H1) : tAsg te (gName i) D σ H := h
theorem q_asg (h : te σ H fun x H1 => g x σ H1 D.nx) : tAsg te g D σ H := h
theorem q_ret (h : te σ H D.rt) : tRet te D σ H := h
theorem q_drop (h : te σ H fun _ H1 => D.nx σ H1) : tDrop te D σ H := h
theorem q_next (h : D.nx σ H) : tNext D σ H := h
theorem q_var (e : σ[i]? = some (some v)) (h : Q v H) : tVar i σ H Q := ⟨v, e, h⟩
theorem q_c (h : Q v H) : tC v σ H Q := h
theorem q_op (h : ta σ H fun x H1 => tb σ H1 fun y H2 => r x y H2 Q) : tOp r ta tb σ H Q := h
theorem q_un {f : V → Hp → VK → Prop} (h : ta σ H fun x H1 => f x H1 Q) : tUn f ta σ H Q := h
theorem q_nil (h : QA [] H) : tNil σ H QA := h
theorem q_cons (h : te σ H fun x H1 => tr σ H1 fun xs H2 => QA (x :: xs) H2) : tCons te tr σ H QA := h
theorem q_cb {f : List V → Hp → VK → Prop} (h : tr σ H fun vs H1 => f vs H1 Q) : tCB f tr σ H Q := h
theorem q_call {sp : Sp} {E : XK} (h : tr σ H fun vs H1 => sp vs H1 Q E) : tCall sp [] E tr σ H Q := by
  have e : ∀ vs : List V, vs ++ [] = vs := List.append_nil
  unfold tCall
  simp only [e]
  exact h
theorem q_ifs (h : tt σ H fun b H1 => if b = true then t D σ H1 else u D σ H1) : tIfS tt t u D σ H := h
theorem q_if (h : tt σ H fun c H1 => if c = true then ta σ H1 Q else tb σ H1 Q) : tIf tt ta tb σ H Q := h
theorem q_test (h : te σ H fun x H' => ∃ k, x = .bl k ∧ QT k H') : tTest te σ H QT := h
theorem q_tb (h : te σ H fun x H' => ∃ k, x = .bl k ∧ QT k H') : tB te σ H QT := h
theorem q_bl (h : QT b H) : ∃ k, V.bl b = .bl k ∧ QT k H := ⟨b, rfl, h⟩
theorem q_notT (h : tt σ H fun c H1 => QT (!c) H1) : tNot tt σ H QT := h
theorem q_andT (h : tt σ H fun c H1 => if c = true then tu σ H1 QT else QT false H1) : tAnd tt tu σ H QT := h
theorem q_orT (h : tt σ H fun c H1 => if c = true then QT true H1 else tu σ H1 QT) : tOr tt tu σ H QT := h
theorem q_andV (h : ta σ H fun x H1 => ∃ c, x = .bl c ∧ if c = true then tb σ H1 Q else Q (.bl false) H1) : tAndV ta tb σ H Q := h
theorem q_orV (h : ta σ H fun x H1 => ∃ c, x = .bl c ∧ if c = true then Q (.bl true) H1 else tb σ H1 Q) : tOrV ta tb σ H Q := h
theorem q_notV (h : ta σ H fun x H1 => ∃ c, x = .bl c ∧ Q (.bl (!c)) H1) : tNotV ta σ H Q := h
theorem q_blI {p : Bool → Prop} (h : p b) : ∃ c, V.bl b = .bl c ∧ p c := ⟨b, rfl, h⟩
theorem q_orL (h : r x y H Q) : rOr r r' x y H Q := .inl h
theorem q_orR (h : r' x y H Q) : rOr r r' x y H Q := .inr h
theorem q_rI0 {f : Int → Int → V} (h : Q (f n m) H) : rI0 f (.int n) (.int m) H Q := ⟨n, m, rfl, rfl, h⟩
theorem q_addI (h : Q (.int (n + m)) H) : rAddI (.int n) (.int m) H Q := ⟨n, m, rfl, rfl, h⟩
theorem q_addA (h : Q (.int (n + m)) H) : rAddA (.int n) (.int m) H Q := .inl ⟨n, m, rfl, rfl, h⟩
theorem q_subI (h : Q (.int (n - m)) H) : rSubI (.int n) (.int m) H Q := ⟨n, m, rfl, rfl, h⟩
theorem q_ltI (h : Q (.bl (decide (n < m))) H) : rLtI (.int n) (.int m) H Q := ⟨n, m, rfl, rfl, h⟩
theorem q_leI (h : Q (.bl (decide (n ≤ m))) H) : rLeI (.int n) (.int m) H Q := ⟨n, m, rfl, rfl, h⟩
theorem q_gtI (h : Q (.bl (decide (m < n))) H) : rGtI (.int n) (.int m) H Q := ⟨n, m, rfl, rfl, h⟩
theorem q_geI (h : Q (.bl (decide (m ≤ n))) H) : rGeI (.int n) (.int m) H Q := ⟨n, m, rfl, rfl, h⟩
theorem q_eqI (h : Q (.bl (decide (n = m))) H) : rEqA K (.int n) (.int m) H Q := .inl ⟨rfl, by have e : decide (V.int n = V.int m) = decide (n = m) := decide_eq_decide.mpr ⟨V.int.inj, congrArg _⟩; rw [e]; exact h⟩
theorem q_neI (h : Q (.bl (!decide (n = m))) H) : rNeA K (.int n) (.int m) H Q := .inl ⟨rfl, by have e : decide (V.int n = V.int m) = decide (n = m) := decide_eq_decide.mpr ⟨V.int.inj, congrArg _⟩; rw [e]; exact h⟩
theorem q_mulI (hc : CMul n m) (h : Q (.int (n * m)) H) : rMulA (.int n) (.int m) H Q := .inl ⟨n, m, rfl, rfl, hc, h⟩
theorem q_modI (hc : 0 < m) (h : Q (.int (n % m)) H) : rModI (.int n) (.int m) H Q := ⟨n, m, rfl, rfl, hc, h⟩
theorem q_divI (hc : CDiv n m) (h : Q (.int (n / m)) H) : rDivI (.int n) (.int m) H Q := ⟨n, m, rfl, rfl, hc, h⟩
theorem q_powI (hc : CPow n m) (h : Q (.int (n ^ m.toNat)) H) : rPowI (.int n) (.int m) H Q := ⟨n, m, rfl, rfl, hc, h⟩
theorem q_abs (h : Q (.int (if n < 0 then -n else n)) H) : cAbs [.int n] H Q := ⟨n, rfl, h⟩
theorem q_int (h : Q (.int n) H) : cInt [.int n] H Q := .inl ⟨n, rfl, h⟩
theorem q_intB (h : Q (.int (if b then 1 else 0)) H) : cInt [.bl b] H Q := .inr ⟨b, rfl, h⟩
theorem q_max (h : Q (.int (if m > n then m else n)) H) : cMax2 [.int n, .int m] H Q := ⟨n, m, rfl, h⟩
theorem q_min (h : Q (.int (if m < n then m else n)) H) : cMin2 [.int n, .int m] H Q := ⟨n, m, rfl, h⟩
theorem q_lenL (s : SqL K H a xs) (h : Q (.int (xs.length : Int)) H) : cOr (cLenQ K) cLenS [.ref a] H Q := .inl ⟨a, xs, rfl, .inl s, h⟩
theorem q_lenT (s : SqT K H a xs) (h : Q (.int (xs.length : Int)) H) : cOr (cLenQ K) cLenS [.ref a] H Q := .inl ⟨a, xs, rfl, .inr s, h⟩
theorem q_lenS {z : Str} (s : z.length ≤ sizeLine) (h : Q (.int (z.length : Int)) H) : cOr (cLenQ K) cLenS [.str z] H Q := .inr ⟨z, rfl, s, h⟩
theorem q_ixL (s : SqL K H a xs) (e : atI xs n = some v) (h : Q v H) : rIx K (.ref a) (.int n) H Q := .inl ⟨a, xs, n, v, rfl, rfl, s, e, h⟩
theorem q_ixT (s : SqT K H a xs) (e : atI xs n = some v) (h : Q v H) : rIx K (.ref a) (.int n) H Q := .inr (.inl ⟨a, xs, n, v, rfl, rfl, s, e, h⟩)
theorem q_ixLL (s : SqL K H a xs) (e : atI xs n = some v) (h : Q v H) : rIxL K (.ref a) (.int n) H Q := ⟨a, xs, n, v, rfl, rfl, s, e, h⟩
theorem q_setL {QH : Hp → Prop} {k : Nat} (s : H a = some (.lst xs)) (e : ixN xs.length n = some k) (h : QH (upd H a (.lst (xs.set k v)))) : rSetL (.ref a) (.int n) v H QH := ⟨a, xs, n, k, rfl, rfl, s, e, h⟩
theorem q_ipAdd (h : Q (.int (n + m)) H) : ipI (fun i j => i + j) (.int n) (.int m) H Q := ⟨n, m, rfl, rfl, h⟩
theorem q_ipSub (h : Q (.int (n - m)) H) : ipI (fun i j => i - j) (.int n) (.int m) H Q := ⟨n, m, rfl, rfl, h⟩
theorem q_gsub {to ti : TE} {ts : TSet} {QG : L2.St → Hp → Prop} (h : to σ H fun o H1 => ti σ H1 fun i H2 => ts o i v H2 fun H3 => QG σ H3) : gSub to ti ts v σ H QG := h
theorem q_augs {to ti : TE} {tget : V → V → Hp → VK → Prop} {tip : TIp} {tset : TSet} (h : to σ H fun o H1 => ti σ H1 fun i H2 => tget o i H2 fun x H3 => te σ H3 fun y H4 => tip x y H4 fun z H5 => tset o i z H5 fun H6 => D.nx σ H6) :
    tAugS to ti te tget tip tset D σ H := h
theorem q_aug {ti : TIp} (e : σ[i]? = some (some x)) (h : te σ H fun y H1 => ti x y H1 fun z H2 => D.nx (σ.set i (some z)) H2) : tAug i te ti D σ H := ⟨x, e, h⟩
def kLst (Q : VK) : List V → Hp → Prop := fun xs H1 => xs.length ≤ sizeLine ∧ ∀ p, H1 p = none → Q (.ref p) (upd H1 p (.lst xs))
def kTup (Q : VK) : List V → Hp → Prop := fun xs H1 => xs.length ≤ sizeLine ∧ ∀ p, H1 p = none → Q (.ref p) (upd H1 p (.tup xs))
theorem q_lst (h : tr σ H (kLst Q)) : tLst tr σ H Q := h
theorem q_tup (h : tr σ H (kTup Q)) : tTup tr σ H Q := h
/-- a new object, known from then on -/
theorem q_new (S : Sep Ps H) (hl : xs.length ≤ 1000) (h : ∀ p H', Sep (pt p (.lst xs) :: Ps) H' → Q (.ref p) H') : kLst Q xs H := ⟨Nat.le_trans hl (by decide), fun p np => h p _ (S.new _ np)⟩
theorem q_newT (S : Sep Ps H) (hl : xs.length ≤ 1000) (h : ∀ p H', Sep (pt p (.tup xs) :: Ps) H' → Q (.ref p) H') : kTup Q xs H := ⟨Nat.le_trans hl (by decide), fun p np => h p _ (S.new _ np)⟩
theorem Sep.sq (S : Sep Ps H) (p : Pick (pt a (.lst xs)) Ps Qs) : SqL K H a xs := SqL.of (S.at_ p)
theorem Sep.st (S : Sep Ps H) (p : Pick (pt a (.tup xs)) Ps Qs) : SqT K H a xs := SqT.of (S.at_ p)
theorem q_fld {C dx : Addr} {fs : List (Str × V)} {f : Str} (h : ta σ H fun x H1 => ∃ a C dx fs v, x = .ref a ∧ H1 a = some (.ins C dx fs) ∧ Cls K C ∧ NoAttr K C f ∧ fs.lookup f = some v ∧ Q v H1) : tFld K ta f σ H Q := h
theorem q_fldA {C dx : Addr} {fs : List (Str × V)} {f : Str} (s : H a = some (.ins C dx fs)) (c : Cls K C) (na : NoAttr K C f) (l : fs.lookup f = some v) (h : Q v H) :
    ∃ a' C dx fs v, V.ref a = .ref a' ∧ H a' = some (.ins C dx fs) ∧ Cls K C ∧ NoAttr K C f ∧ fs.lookup f = some v ∧ Q v H := ⟨a, C, dx, fs, v, rfl, s, c, na, l, h⟩
theorem q_ite {p A B : Prop} [Decidable p] (h1 : p → A) (h2 : ¬ p → B) : if decide p = true then A else B := by
  by_cases h : p
  · rw [decide_eq_true h]; exact iteT (h1 h)
  · rw [decide_eq_false h]; exact iteF (h2 h)
theorem q_iteN {p A B : Prop} [Decidable p] (h1 : ¬ p → A) (h2 : p → B) : if (!decide p) = true then A else B := by
  by_cases h : p
  · rw [decide_eq_true h]; exact iteF (h2 h)
  · rw [decide_eq_false h]; exact iteT (h1 h)
theorem q_iteB {b : Bool} {A B : Prop} (h1 : b = true → A) (h2 : b = false → B) : if b = true then A else B := by
  cases b
  · exact iteF (h2 rfl)
  · exact iteT (h1 rfl)
theorem iteNT {A B : Prop} (h : B) : if (!true) = true then A else B := iteF h
theorem iteNF {A B : Prop} (h : A) : if (!false) = true then A else B := iteT h
theorem q_cut {Mid : L2.St → Hp → Prop} (h : t { D with nx := Mid } σ H) (k : ∀ σ' H', Mid σ' H' → u D σ' H') : C8.tCut t u D σ H := ⟨Mid, h, k⟩
theorem q_setS {QH : Hp → Prop} {k : Nat} (S : Sep Ps H) (r : Repl a (.lst xs) (.lst (xs.set k v)) Ps Qs) (e : ixN xs.length n = some k) (h : ∀ H', Sep Qs H' → QH H') : rSetL (.ref a) (.int n) v H QH :=
  ⟨a, xs, n, k, rfl, rfl, by obtain ⟨Rs, p, _⟩ := r.pick; exact S.at_ p, e, h _ (S.set r)⟩
theorem at_i {α : Type} {xs : List α} (h0 : 0 ≤ n) (h1 : n < xs.length) : ∃ w, atI xs n = some w ∧ w ∈ xs := by
  obtain ⟨j, rfl⟩ := Int.eq_ofNat_of_zero_le h0
  have hj : j < xs.length := by omega
  exact ⟨xs[j], atI_nat (List.getElem?_eq_getElem hj), List.getElem_mem hj⟩
end
end Kt

set_option Elab.async false
set_option linter.all false
set_option maxRecDepth 100000
namespace Kt
open PySem L2 PyProof.Rows
/-! ### classes and their methods by name -/
structure Mt (K : PySem.W.Frag) (C : Addr) (m qual : Str) (st : Stmt) (ps : List Str) (f : Addr) : Prop where
  fn : ∃ fd, Fun K m qual st f fd ∧ Binds K fd ps []
  at_ : Meth K C m f
structure Mf (P : Program) (w : World) (K : PySem.W.Frag) (mg : Str → Option Value) (base : Heap) (k : Nat) (C : Addr) (m : Str) (ps : List Str) (sp : Sp) : Prop where
  fn : ∃ f fd, FnOk P w K mg base CX0 k f fd ps sp ∧ Binds K fd ps [] ∧ Meth K C m f
  cls : Cls K C
structure Ct (K : PySem.W.Frag) (mg : Str → Option Value) (x : Str) (C f : Addr) : Prop where
  at_ : mg x = some (.ref C)
  mkr : Mk K C f
/-- a class that may be called: its __init__'s promise -/
structure Cf (P : Program) (w : World) (K : PySem.W.Frag) (mg : Str → Option Value) (base : Heap) (k : Nat) (x : Str) (C : Addr) (ps : List Str) (sp : Sp) : Prop where
  fn : ∃ f fd, FnOk P w K mg base CX0 k f fd ps sp ∧ Binds K fd ps [] ∧ Mk K C f
  at_ : mg x = some (.ref C)
section
variable {P : Program} {w : World} {K : PySem.W.Frag} {mg : Str → Option Value} {base : Heap}
theorem Mt.ok {C : Addr} {x qual : Str} {st : Stmt} {f : Addr} {N ps : List Str} {k : Nat} {sp : Sp} (T : Mt K C x qual st ps f) (c : Cls K C) (S : FnScope N ps (defScope st)) (len : ∀ vs H Q E, sp vs H Q E → vs.length = ps.length)
    (hbody : ∀ (cdv : Value) (A : Around) (outer : List Env) (s : Shared) (H : Hp) (vs : List V) (Q : VK) (E : XK), Room k (A.deeper (envOfC qual (defScope st) s.heap.objs.size f cdv)) → sp vs H Q E →
      ∃ t, PSs (cxOf CX0 P w K mg base N qual (defScope st) f cdv A outer s H E).nox (defBody st) t ∧ t { nx := fun _ H' => Q .non H', rt := Q } (start N vs) H) : Mf P w K mg base (k + 1) C x ps sp := by
  obtain ⟨fd, F, b⟩ := T.fn
  exact ⟨⟨f, fd, F.ok S len hbody, b, T.at_⟩, c⟩
theorem Mf.cf {C f : Addr} {x : Str} {ps : List Str} {k : Nat} {sp : Sp} (M : Mf P w K mg base k C "__init__" ps sp) (T : Ct K mg x C f) : Cf P w K mg base k x C ps sp := by
  obtain ⟨g, fd, F, b, m⟩ := M.fn
  have e : g = f := by
    have h1 := m.at_
    rw [T.mkr.init] at h1
    cases h1
    rfl
  subst e
  exact ⟨⟨g, fd, F, b, T.mkr⟩, T.at_⟩
end
section
variable {X : Cx} {k : Nat} {x m : Str} {C : Addr} {ps : List Str} {sp : Sp} {o e : Expr} {es : List Expr} {to : TE} {t : TA} {p pos apos : Pos}
theorem pe_mf {pl : Sem Bool} (M : Mf X.prog X.w X.K X.mg X.base k C m ps sp) (hr : Room k X.A) (ho : PE X o to) (ha : PA X (e :: es) t)
    (hst : starEach (e :: es) X.env = (false, eval e X.env) :: starEach es X.env := by rfl) (hpl : (backTo pos (starEach es X.env)).any (·.1) = false := by rfl)
    (ht : eval (.Call (.Attribute o m apos) (e :: es) [] pos) X.env = (do
      let ov ← eval o X.env
      standAt apos.atName
      let (f, first) ← holding [ov] (getMethod ov m pl)
      callWith pos f first (backTo pos (starEach (e :: es) X.env)) (backToKw pos (keywordEach [] X.env))) := by rfl) : PE X (.Call (.Attribute o m apos) (e :: es) [] pos) (tMeth C m sp [] E0 to t) := by
  obtain ⟨f, fd, F, b, hm⟩ := M.fn
  exact pe_meth ho M.cls hm F hr b .nil pass0 ha hst hpl ht
theorem pe_mf0 {pl : Sem Bool} (M : Mf X.prog X.w X.K X.mg X.base k C m ps sp) (hr : Room k X.A) (ho : PE X o to)
    (ht : eval (.Call (.Attribute o m apos) [] [] pos) X.env = (do
      let ov ← eval o X.env
      standAt apos.atName
      let (f, first) ← holding [ov] (getMethod ov m pl)
      callWith pos f first [] []) := by rfl) : PE X (.Call (.Attribute o m apos) [] [] pos) (tMeth C m sp [] E0 to tNil) := by
  obtain ⟨f, fd, F, b, hm⟩ := M.fn
  exact pe_meth0 ho M.cls hm F hr b .nil pass0 ht
theorem pe_cf (M : Cf X.prog X.w X.K X.mg X.base k x C ps sp) (hr : Room (k + 1) X.A) (ha : PA X (e :: es) t) (hg : Gl X x := by rfl) (hd : (x == ("__debug__" : Str)) = false := by decide)
    (he : starEach (e :: es) X.env = (false, eval e X.env) :: starEach es X.env := by rfl) (hpl : (backTo pos (starEach es X.env)).any (·.1) = false := by rfl) : PE X (.Call (.Name x p) (e :: es) [] pos) (tMake C sp [] E0 t) := by
  obtain ⟨f, fd, F, b, M'⟩ := M.fn
  exact pe_make M' F hr hg M.at_ b .nil pass0 ha hd he hpl
end
/-! ### own operators of instances -/
section
variable {X : Cx} {k : Nat} {C : Addr} {ps : List Str} {sp : Sp}
theorem ins_at {pins : List (Addr × Obj)} {σ : L2.St} {H : Hp} {s : Shared} {a dx : Addr} {fs : List (Str × V)} (I : Inv X pins σ H s) (h : H a = some (.ins C dx fs)) : ∃ ox od, PySem.W.InstAt s.heap a ox C od := by
  obtain ⟨mA, O, _⟩ := ins_get I.hok h
  obtain ⟨od, J, _⟩ := O.look
  exact ⟨_, _, J⟩
/-- o[i] = v by an own __setitem__ -/
def rSetOwn (C : Addr) (sp : Sp) : TSet := fun o i v H Q => ∃ a dx fs, o = .ref a ∧ H a = some (.ins C dx fs) ∧ sp [.ref a, i, v] H (fun _ H' => Q H') E0
theorem set_own (M : Mf X.prog X.w X.K X.mg X.base k C "__setitem__" ps sp) (hr : Room k X.A) (hq : PySem.W.noSeq X.K C = true) : PSet X (rSetOwn C sp) := by
  intro pins s σ H o i v ov iv u Q I ro ri rv h
  obtain ⟨a, dx, fs, rfl, ha, q⟩ := h
  cases (show ov = Value.ref a from ro)
  obtain ⟨f, fd, F, b, hm⟩ := M.fn
  obtain ⟨ox, od, J⟩ := ins_at I ha
  obtain ⟨m, hF⟩ := I.fr
  refine PySem.W.ksp_setItem hF I.ok.mod.kin J hq hm.at_ hm.fn ?_
  exact wpAny_mono (run_fn (us := [.ref a, iv, u]) (vs := [.ref a, i, v]) F hr b .nil pass0 I (.cons rfl (.cons ri (.cons rv .nil))) (by rw [List.append_nil]; exact q)) (fun z s' ⟨y, H', I', r', q'⟩ => ⟨H', I', q'⟩) fun _ _ z => z
/-- x += y by an own __iadd__ -/
def rInpOwn (C : Addr) (sp : Sp) : TIp := fun x y H Q => ∃ a dx fs, x = .ref a ∧ H a = some (.ins C dx fs) ∧ sp [.ref a, y] H Q E0
theorem ip_own (M : Mf X.prog X.w X.K X.mg X.base k C "__iadd__" ps sp) (hr : Room k X.A) (hc : PySem.W.selfFirst X.K C = true) : PIp X .Add (rInpOwn C sp) := by
  intro pins s σ H x y v u Q I rx ry h
  obtain ⟨a, dx, fs, rfl, ha, q⟩ := h
  cases (show v = Value.ref a from rx)
  obtain ⟨f, fd, F, b, hm⟩ := M.fn
  obtain ⟨ox, od, J⟩ := ins_at I ha
  obtain ⟨m, hF⟩ := I.fr
  refine PySem.W.ksp_inplace (op := .Add) hF I.ok.mod.kin J hc hm.at_ hm.fn ?_
  exact wpAny_mono (run_fn (us := [.ref a, u]) (vs := [.ref a, y]) F hr b .nil pass0 I (.cons rfl (.cons ry .nil)) (by rw [List.append_nil]; exact q)) (fun z s' ⟨y', H', I', r', q'⟩ => SlX.cmpback r' ⟨y', H', I', r', q'⟩) fun _ _ z => z
end
/-! ### xs[a:c] = ys -/
section
variable {X : Cx} {o e : Expr} {lo hi : Option Expr} {to te : TE} {tl th : TO} {p2 pos tpos : Pos}
/-- the bounds of a slice that may reach beyond the end -/
theorem bounds_clip (a c n : Nat) (h : a ≤ n) : sliceBounds (some (a : Int)) (some (c : Int)) none n = ((a : Int), ((min c n : Nat) : Int), 1) := by
  have p1 : ¬ ((a : Int) < 0) := by omega
  have p2 : ¬ ((c : Int) < 0) := by omega
  simp only [sliceBounds, Option.getD_none, p1, p2, if_false, show (1 : Int) > 0 from by decide, if_true]
  refine Prod.ext ?_ (Prod.ext ?_ rfl)
  · show max 0 (min (a : Int) (n : Int)) = a; omega
  · show max 0 (min (c : Int) (n : Int)) = ((min c n : Nat) : Int); omega
theorem setItem_clip {prog : Program} {w : World} {A : Around} {E : Value → Shared → Prop} {s : Shared} {l b sl : Addr} {u v : List Value} {n n2 : Nat} {vl vu : Value} {a c : Nat} {Q : Unit → Shared → Prop}
    (e : s.heap.get? l = some { cls := .type "list", data := .seq u.toArray n }) (e2 : s.heap.get? b = some { cls := .type "list", data := .seq v.toArray n2 }) (hne : l ≠ b) (hs : s.heap.IsSliceOf sl vl vu .none)
    (pl : IsPart vl (some (a : Int))) (pu : IsPart vu (some (c : Int))) (ha : a ≤ u.length) (hac : a ≤ c) (hz : u.length + v.length ≤ sizeLine)
    (h : Q () { s with heap := s.heap.update l (Obj.mapSeq fun xs => xs.extract 0 a ++ v.toArray ++ xs.extract (min c u.length) xs.size) }) : wpAny (model prog w) A (setItem (.ref l) (.ref sl) (.ref b)) Q E s := by
  have lst : s.heap.IsList l u.toArray ∧ s.heap.IsList b v.toArray := ⟨PySem.IsL.isList e, PySem.IsL.isList e2⟩
  obtain ⟨os, g1, g2, g3⟩ := hs
  have ty : s.TypeIs (.ref sl) "slice" := ⟨os, g1, g2⟩
  have apart : Builtin.List.listSameRef (.ref l) (.ref b) = false := beq_eq_false_iff_ne.mpr hne
  have top : (max (a : Int) ((min c u.length : Nat) : Int)).toNat = min c u.length := by omega
  have fit : u.toArray.size + v.toArray.size ≤ sizeLine := by simpa using hz
  have out : ((fun xs : Array Value => xs.extract 0 a ++ v.toArray ++ xs.extract (min c u.length) xs.size) u.toArray).size ≤ sizeLine + 1 := by simp; omega
  have bd : sliceBounds (some (a : Int)) (some (c : Int)) none u.toArray.size = ((a : Int), ((min c u.length : Nat) : Int), 1) := by simpa using bounds_clip a c u.length ha
  unfold setItem
  refine wpAny_holding (wpAny_bind (wpAny_sequenceKey lst.1.typeIs (by decide) (wpAny_bind ?_)))
  refine wpAny_callSpecial?_slot (name := Str.ofString "__setitem__") lst.1.typeIs slot_list_setitem (wpAny_call_entry slot_list_setitem lst.1.typeIs entry_list_setitem ?_ (args_list_setitem _ _ _))
  show wpAny _ _ (Builtin.List.listSubscript? (Value.ref sl) >>= _) _ _ _
  unfold Builtin.List.listSubscript?
  refine wpAny_bind (wpAny_bind (wpAny_specialOf ty slice_no_index ?_))
  rw [if_pos (by rfl)]
  refine wpAny_pure (wpAny_bind (wpAny_typeOf ty ?_))
  rw [if_neg (by decide), listSliceParts_eq]
  refine wpAny_bind (wpAny_bind (wpAny_field g1 g3 (x := .none) rfl (wpAny_bind (wpAny_listPart IsPart.none ?_))))
  rw [if_neg (show ¬ ((rawPart none == rawInt 0) = true) from Bool.false_ne_true)]
  refine wpAny_bind (wpAny_field g1 g3 (x := vl) rfl (wpAny_bind (wpAny_listPart pl (wpAny_bind (wpAny_field g1 g3 (x := vu) rfl (wpAny_bind (wpAny_listPart pu (wpAny_pure ?_))))))))
  dsimp only
  rw [if_neg (by rw [apart]; exact Bool.false_ne_true)]
  refine wpAny_bind (m := Builtin.List.listAllItems (Value.ref b) _) ?_
  unfold Builtin.List.listAllItems
  refine wpAny_bind (wpAny_typeOf lst.2.typeIs (PySem.W.KFB.if_so (by decide) ?_))
  unfold Builtin.List.listItems
  refine wpAny_bind (wpAny_seqItems e2 rfl (wpAny_pure (wpAny_bind (wpAny_bind (wpAny_seqItems e rfl (wpAny_pure ?_))))))
  have si := sliceIndices_raw (some (a : Int)) (some (c : Int)) none u.toArray.size (by simp)
  rw [bd] at si
  refine wpAny_bind (wpAny_of_eq si ?_)
  dsimp only
  rw [if_pos (by decide)]
  refine wpAny_bind (wpAny_rule (PySem.W.KFB.if_not (notLongL fit) ?_))
  have key : wpAny (model prog w) A.in1 (updateSeq l fun xs => xs.extract 0 (a : Int).toNat ++ v.toArray ++ xs.extract (max (a : Int) ((min c u.length : Nat) : Int)).toNat xs.size) (fun _ s' => s' = { s with heap := s.heap.update l (Obj.mapSeq fun xs => xs.extract 0 a ++ v.toArray ++ xs.extract (min c u.length) xs.size) }) (fun _ _ => False) s := by
    rw [top, Int.toNat_natCast]
    exact wpAny_updateSeq (hz := Nat.le_trans (Nat.le_add_right _ _) fit) (_hz' := out) e rfl rfl
  refine wpAny_bind (wpAny_mono key (fun _ s' es => ?_) fun _ _ z => z.elim)
  subst es
  exact wpAny_bind (wpAny_letGo (wpAny_pure ⟨.none, rfl, wpAny_pure h⟩))
/-- o[lo:hi] = v: the list that is written, and another one -/
def gSl (to : TE) (tl th : TO) : TG := fun v σ H Q => to σ H fun x H1 => tl σ H1 fun lo H2 => th σ H2 fun hi H3 => ∃ (l b : Addr) (xs ys : List V) (a c : Nat), x = .ref l ∧ v = .ref b ∧ lo = some (a : Int) ∧ hi = some (c : Int) ∧
  H3 l = some (.lst xs) ∧ H3 b = some (.lst ys) ∧ l ≠ b ∧ a ≤ xs.length ∧ a ≤ c ∧ xs.length + ys.length ≤ sizeLine ∧ Q σ (upd H3 l (.lst (xs.take a ++ ys ++ xs.drop c)))
theorem pg_slice (ho : PE X o to) (hl : PO X lo tl) (hu : PO X hi th)
    (ha : ∀ v, assign (.Subscript o (.Slice lo hi none p2) tpos) X.env v = (do
      let ov ← holding [v] (eval o X.env)
      let iv ← holding [v, ov] (eval (.Slice lo hi none p2) X.env)
      standAt tpos
      holding [v, ov, iv] (setItem ov iv v)
      release [iv, v, ov] []) := by intro _; rfl) : PG X (.Subscript o (.Slice lo hi none p2) tpos) (gSl to tl th) := by
  refine ⟨fun pins s σ H v u Q I r h => ?_⟩
  rw [ha]
  refine wpAny_bind (wpAny_holding (thn (ho.run pins s σ H _ I h) fun ov s1 ⟨x, H1, I1, r1, q1⟩ => ?_))
  refine wpAny_bind (wpAny_holding (wpAny_Slice (thn (hl.run pins s1 σ H1 _ I1 q1) fun vl s2 ⟨z1, H2, I2, pl, q2⟩ => thn (hu.run pins s2 σ H2 _ I2 q2) fun vu s3 ⟨z2, H3, I3, pu, q3⟩ => ?_)))
  obtain ⟨l, b, xs, ys, a, c, rfl, rfl, rfl, rfl, hL, hB, hne, h1, h2, hz, q⟩ := q3
  cases (show ov = Value.ref l from r1)
  cases (show u = Value.ref b from r)
  rw [evalPart_none]
  have I4 : Inv X pins σ H3 { s3 with heap := s3.heap.push { cls := .type "slice", data := .fields #[vl, vu, .none] } } := I3.kept (t' := s3.toks) fun _ _ z => Heap.get?_push_of_some _ z
  refine wpAny_pure ?_
  obtain ⟨z, u1, n1, r1', hl1, e1⟩ := I4.lstM hL
  obtain ⟨z2, u2, n2, r2', hl2, e2⟩ := I4.lstM hB
  refine wpAny_bind (wpAny_standAt (wpAny_bind (wpAny_holding (setItem_clip e1 e2 hne (Heap.IsSliceOf.new ..) pl pu (by omega) h2 (by omega) (wpAny_release ⟨σ, _, ?_, q⟩)))))
  refine I4.lset (its' := u1.take a ++ u2 ++ u1.drop (min c u1.length)) (t' := s3.toks) hL e1 (splice_eq u1 u2 a _) ?_ ?_
  · have e3 : xs.drop c = xs.drop (min c u1.length) := by
      by_cases hc : c ≤ u1.length
      · rw [Nat.min_eq_left hc]
      · rw [Nat.min_eq_right (by omega), List.drop_eq_nil_of_le (by omega), List.drop_eq_nil_of_le (by omega)]
    rw [e3]
    exact Vals.append (Vals.append (r1'.take _) r2') (r1'.drop _)
  · rw [List.length_append, List.length_append, List.length_take, List.length_drop]
    omega
end
end Kt

set_option Elab.async false
set_option linter.all false
set_option maxRecDepth 100000
namespace Kt
open PySem L2 PyProof.Rows
/-! ### fields as written lists -/
theorem lk_eq {f : Str} {v : V} {r : List (Str × V)} : List.lookup f ((f, v) :: r) = some v := by simp
theorem lk_ne {f g : Str} {v : V} {r : List (Str × V)} (h : f ≠ g) : List.lookup f ((g, v) :: r) = List.lookup f r := by
  have e : (f == g) = false := beq_eq_false_iff_ne.mpr h
  simp [List.lookup_cons, e]
theorem pf_nil {f : Str} {v : V} : putF f v [] = [(f, v)] := rfl
theorem pf_eq {f : Str} {v x : V} {r : List (Str × V)} : putF f v ((f, x) :: r) = (f, v) :: r := if_pos rfl
theorem pf_ne {f g : Str} {v x : V} {r r' : List (Str × V)} (h : g ≠ f) (e : putF f v r = r') : putF f v ((g, x) :: r) = (g, x) :: r' := by
  rw [← e]
  exact if_neg h
section
variable {X : Cx} {e o value : Expr} {ta tv : TE} {f : Str} {pos pos' : Pos}
theorem pe_fldK (K : PySem.W.Frag) (he : PE X e ta) (hK : X.K = K := by rfl) (hb : attributeBase e f X.env (eval e X.env) = eval e X.env := by rfl) : PE X (.Attribute e f pos) (tFld K ta f) := hK ▸ pe_fld he hb
theorem ps_fldK (K : PySem.W.Frag) (ha : PE X o ta) (hv : PE X value tv) (hK : X.K = K := by rfl) (hs : swapsWith value (some (.Attribute o f pos')) pos.line X.env = pure false := by rfl) : PS X (.Assign [.Attribute o f pos'] value pos) (sFld K ta tv f) := hK ▸ ps_fld ha hv hs
theorem pi_listK (K : PySem.W.Frag) {tg l : Expr} {tl : TE} (hl : PE X l tl) (hK : X.K = K := by rfl) : PI X tg l (iList K tl) := hK ▸ pi_list hl
theorem pi_tupK (K : PySem.W.Frag) {tg l : Expr} {tl : TE} (hl : PE X l tl) (hK : X.K = K := by rfl) : PI X tg l (iTup K tl) := hK ▸ pi_tup hl
theorem pg_tupK (K : PySem.W.Frag) {es : List Expr} {k n : Nat} {t : TGs} (hc : X.calm = true) (h : PGs X es t) (hK : X.K = K := by rfl) (hn : (assignEach es X.env).length = n := by rfl) (hst : (assignEach es X.env).findIdx? (·.1) = none := by rfl) : PG X (.Tuple es k pos) (gTup K n t) := hK ▸ pg_tup hc h hn hst
theorem pg_unlK (K : PySem.W.Frag) {es : List Expr} {k n : Nat} {t : TGs} (hc : X.calm = true) (h : PGs X es t) (hK : X.K = K := by rfl) (hn : (assignEach es X.env).length = n := by rfl) (hst : (assignEach es X.env).findIdx? (·.1) = none := by rfl) : PG X (.Tuple es k pos) (gUnl K n t) := hK ▸ pg_unl hc h hn hst
theorem pe_bmK (K : PySem.W.Frag) {es : List Expr} {to : TE} {t : TA} {name : Str} {apos cpos : Pos} {T id : String} {r : V → List V → Hp → VK → Prop} (pa : PlainAttrs T) (slot : Slot T name id) (hty : typeOf (.builtin id) = pure (.type "method_descriptor")) (hm : MtR X id r) (ho : PE X o to) (ha : PA X (e :: es) t) (hK : X.K = K := by rfl)
    (hbase : attributeBase o name X.env (eval o X.env) = eval o X.env := by rfl)
    (hfew : ((backTo cpos (starEach (e :: es) X.env)).all (fun x => !x.1) && (backToKw cpos (keywordEach [] X.env)).all (fun x => x.1.isSome)
      && decide ((e :: es).length + ([] : List Keyword).length + (if ([] : List Keyword).isEmpty then 0 else 1) < 30)) = true := by rfl)
    (hline : (apos.endLine == cpos.line) = true := by rfl) (hs : starEach (e :: es) X.env = (false, eval e X.env) :: starEach es X.env := by rfl) (hplain : (backTo cpos (starEach es X.env)).any (·.1) = false := by rfl) :
    PE X (.Call (.Attribute o name apos) (e :: es) [] cpos) (tBM K T r to t) := hK ▸ pe_bm pa slot hty hm ho ha hbase hfew hline hs hplain
theorem pe_bm0K (K : PySem.W.Frag) {to : TE} {name : Str} {apos cpos : Pos} {T id : String} {r : V → List V → Hp → VK → Prop} (pa : PlainAttrs T) (slot : Slot T name id) (hty : typeOf (.builtin id) = pure (.type "method_descriptor")) (hm : MtR X id r) (ho : PE X o to) (hK : X.K = K := by rfl)
    (hbase : attributeBase o name X.env (eval o X.env) = eval o X.env := by rfl) (hline : (apos.endLine == cpos.line) = true := by rfl) : PE X (.Call (.Attribute o name apos) [] [] cpos) (tBM0 K T r to) := hK ▸ pe_bm0 pa slot hty hm ho hbase hline
end
section
variable {K : PySem.W.Frag} {σ : L2.St} {H : Hp} {D : Ends} {Q : VK} {QA : List V → Hp → Prop} {QT : Bool → Hp → Prop} {QG : L2.St → Hp → Prop} {i : Nat} {v x y : V} {ta tb te : TE} {t u : TS} {tr : TA} {g : TG} {n m : Int} {b c : Bool} {Ps Qs : List SP} {a : Addr} {o : HO} {xs ys : List V} {C dx : Addr} {fs fs' : List (Str × V)} {f : Str} {sp : Sp}
def kFld (K : PySem.W.Frag) (f : Str) (Q : VK) : V → Hp → Prop := fun x H1 => ∃ a C dx fs v, x = .ref a ∧ H1 a = some (.ins C dx fs) ∧ Cls K C ∧ NoAttr K C f ∧ fs.lookup f = some v ∧ Q v H1
theorem r_fld (h : ta σ H (kFld K f Q)) : tFld K ta f σ H Q := h
theorem r_kfld (S : Sep Ps H) (p : Pick (pt a (.ins C dx fs)) Ps Qs) (c : Cls K C) (na : NoAttr K C f) (l : fs.lookup f = some v) (h : Q v H) : kFld K f Q (.ref a) H := ⟨a, C, dx, fs, v, rfl, S.at_ p, c, na, l, h⟩
def kSet (K : PySem.W.Frag) (f : Str) (y : V) (Q : Hp → Prop) : V → Hp → Prop := fun x H2 => ∃ a C dx fs, x = .ref a ∧ H2 a = some (.ins C dx fs) ∧ Cls K C ∧ NoAttr K C f ∧ fs.length < 1000 ∧ Q (upd H2 a (.ins C dx (putF f y fs)))
theorem r_sfld (h : tb σ H fun y H1 => ta σ H1 (kSet K f y (D.nx σ))) : sFld K ta tb f D σ H := h
theorem r_kset {QH : Hp → Prop} (S : Sep Ps H) (r : Repl a (.ins C dx fs) (.ins C dx fs') Ps Qs) (c : Cls K C) (na : NoAttr K C f) (hl : fs.length < 1000) (e : putF f y fs = fs') (h : ∀ H', Sep Qs H' → QH H') : kSet K f y QH (.ref a) H :=
  ⟨a, C, dx, fs, rfl, by obtain ⟨Rs, p, _⟩ := r.pick; exact S.at_ p, c, na, hl, by rw [e]; exact h _ (S.set r)⟩
def kMeth (C : Addr) (m : Str) (sp : Sp) (t : TA) (σ : L2.St) (Q : VK) : V → Hp → Prop := fun x H1 => ∃ a dx fs, x = .ref a ∧ H1 a = some (.ins C dx fs) ∧ fs.lookup m = none ∧ t σ H1 fun vs H2 => sp (x :: vs) H2 Q E0
theorem r_meth {m : Str} (h : ta σ H (kMeth C m sp tr σ Q)) : tMeth C m sp [] E0 ta tr σ H Q := by
  unfold tMeth
  simp only [List.append_nil]
  exact h
theorem r_kmeth {m : Str} (S : Sep Ps H) (p : Pick (pt a (.ins C dx fs)) Ps Qs) (l : fs.lookup m = none) (h : tr σ H fun vs H2 => sp (.ref a :: vs) H2 Q E0) : kMeth C m sp tr σ Q (.ref a) H := ⟨a, dx, fs, rfl, S.at_ p, l, h⟩
def kNew (C : Addr) (sp : Sp) (Q : VK) : List V → Hp → Prop := fun vs H1 => ∀ x dx, H1 x = none → H1 dx = none → dx ≠ x → sp (.ref x :: vs) (upd (upd H1 dx (.own x)) x (.ins C dx [])) (fun v H2 => v = .non ∧ Q (.ref x) H2) E0
theorem r_make (h : tr σ H (kNew C sp Q)) : tMake C sp [] E0 tr σ H Q := by
  unfold tMake
  simp only [List.append_nil]
  exact h
theorem Sep.made {Ps : List SP} {H : Hp} {x dx C : Addr} (S : Sep Ps H) (h1 : H x = none) (h2 : H dx = none) (ne : dx ≠ x) : Sep (pt x (.ins C dx []) :: Ps) (upd (upd H dx (.own x)) x (.ins C dx [])) :=
  Sep.new _ ((S.new _ h2).tl) (by rw [upd_ne (Ne.symm ne)]; exact h1)
theorem r_knew {vs : List V} (S : Sep Ps H) (h : ∀ x dx H', Sep (pt x (.ins C dx []) :: Ps) H' → sp (.ref x :: vs) H' (fun v H2 => v = .non ∧ Q (.ref x) H2) E0) : kNew C sp Q vs H := fun x dx h1 h2 ne => h x dx _ (S.made h1 h2 ne)
/-- slices of lists -/
def kSl (K : PySem.W.Frag) (Q : VK) : V → Option Int → Option Int → Hp → Prop := fun x lo hi H => rSlL K x lo hi H Q
theorem r_sl {tl th : TO} (h : te σ H fun x H1 => tl σ H1 fun l H2 => th σ H2 fun u H3 => kSl K Q x l u H3) : tSl (rSlL K) te tl th σ H Q := h
theorem r_nopart {QO : Option Int → Hp → Prop} (h : QO none H) : tNoPart σ H QO := h
def kPart (QO : Option Int → Hp → Prop) : V → Hp → Prop := fun x H1 => ∃ i, x = .int i ∧ QO (some i) H1
theorem r_part {QO : Option Int → Hp → Prop} (h : te σ H (kPart QO)) : tPart te σ H QO := h
theorem r_parti {QO : Option Int → Hp → Prop} (h : QO (some n) H) : kPart QO (.int n) H := ⟨n, rfl, h⟩
theorem r_ksl {lo hi : Option Int} (S : Sep Ps H) (s : SqL K H a xs) (h : ∀ p H', Sep (pt p (.lst (cutV xs lo hi)) :: Ps) H' → Q (.ref p) H') : kSl K Q (.ref a) lo hi H := ⟨a, xs, rfl, s, fun p np => h p _ (S.new _ np)⟩
theorem r_gsl {to : TE} {tl th : TO} (h : to σ H fun x H1 => tl σ H1 fun lo H2 => th σ H2 fun hi H3 => ∃ (l b : Addr) (xs ys : List V) (a c : Nat), x = .ref l ∧ v = .ref b ∧ lo = some (a : Int) ∧ hi = some (c : Int) ∧
  H3 l = some (.lst xs) ∧ H3 b = some (.lst ys) ∧ l ≠ b ∧ a ≤ xs.length ∧ a ≤ c ∧ xs.length + ys.length ≤ sizeLine ∧ QG σ (upd H3 l (.lst (xs.take a ++ ys ++ xs.drop c)))) : gSl to tl th v σ H QG := h
/-- list(xs) -/
theorem r_list (S : Sep Ps H) (s : SqL K H a xs) (h : ∀ p H', Sep (pt p (.lst xs) :: Ps) H' → Q (.ref p) H') : cList K [.ref a] H Q := ⟨a, xs, rfl, .inl s, fun p np => h p _ (S.new _ np)⟩
/-- xs + ys -/
theorem r_cat {q : Addr} (S : Sep Ps H) (s1 : H a = some (.lst xs)) (s2 : H q = some (.lst ys)) (hz : xs.length + ys.length ≤ 100000) (h : ∀ p H', Sep (pt p (.lst (xs ++ ys)) :: Ps) H' → Q (.ref p) H') : rAddA (.ref a) (.ref q) H Q :=
  .inr (.inl ⟨a, q, xs, ys, rfl, rfl, s1, s2, Nat.le_trans hz (by decide), fun p np => h p _ (S.new _ np)⟩)
/-- methods of lists -/
theorem r_bm {T : String} {r : V → List V → Hp → VK → Prop} {to : TE} (h : to σ H fun x H1 => tyV K T x H1 ∧ tr σ H1 fun xs H2 => r x xs H2 Q) : tBM K T r to tr σ H Q := h
theorem r_bm0 {T : String} {r : V → List V → Hp → VK → Prop} {to : TE} (h : to σ H fun x H1 => tyV K T x H1 ∧ r x [] H1 Q) : tBM0 K T r to σ H Q := h
theorem r_tyl {p : Prop} (s : SqL K H a xs) (h : p) : tyV K "list" (.ref a) H ∧ p := ⟨.inl ⟨rfl, xs, s⟩, h⟩
theorem r_append (S : Sep Ps H) (r : Repl a (.lst xs) (.lst (xs ++ [y])) Ps Qs) (hz : xs.length < 100000) (h : ∀ H', Sep Qs H' → Q .non H') : rAppend (.ref a) [y] H Q :=
  ⟨a, xs, y, rfl, rfl, by obtain ⟨Rs, p, _⟩ := r.pick; exact S.at_ p, Nat.lt_of_lt_of_le hz (by decide), h _ (S.set r)⟩
theorem r_reverse (S : Sep Ps H) (r : Repl a (.lst xs) (.lst xs.reverse) Ps Qs) (h : ∀ H', Sep Qs H' → Q .non H') : rReverse (.ref a) [] H Q :=
  ⟨a, xs, rfl, rfl, by obtain ⟨Rs, p, _⟩ := r.pick; exact S.at_ p, h _ (S.set r)⟩
theorem r_clear (S : Sep Ps H) (r : Repl a (.lst xs) (.lst []) Ps Qs) (h : ∀ H', Sep Qs H' → Q .non H') : rClear (.ref a) [] H Q :=
  ⟨a, xs, rfl, rfl, by obtain ⟨Rs, p, _⟩ := r.pick; exact S.at_ p, h _ (S.set r)⟩
/-- isinstance -/
theorem r_isi {T B : String} {k : Bool} (ty : TyX K H x (.type T)) (e : kitB T B = some k) (h : Q (.bl k) H) : rIsi K [x, .ty B] H Q := ⟨x, .ty B, _, _, k, rfl, .ty B, ty, kit_ty e, h⟩
theorem ty_int : TyX K H (.int n) (.type "int") := .base (.int n)
theorem ty_lst (h : H a = some (.lst xs)) : TyX K H (.ref a) (.type "list") := .base (.lst h)
theorem r_all {bs : List Bool} (s : SqL K H a (bs.map V.bl)) (h : Q (.bl (bs.all id)) H) : rAll K [.ref a] H Q := ⟨a, bs, rfl, s, h⟩
/-- loops -/
theorem r_for {wi : TI} (h : wi σ H fun J H1 => ∃ W : Nat → Nat → L2.St → Hp → Prop, (∃ m, W 0 m σ H1) ∧ ∀ i m σ H, W i m σ H →
  (J.stop i H ∧ D.nx σ H) ∨ (J.go i H ∧ ∃ N : L2.St → Hp → Prop, (∀ σ' H', N σ' H' → ∃ m', m' < m ∧ W (i + 1) m' σ' H') ∧ ∀ x H', J.yld i H x H' → g x σ H' fun σ2 H2 => t { D with nx := N, ct := N, bk := D.nx } σ2 H2)) : tFor wi g t D σ H := h
theorem r_ilist {R : It → Hp → Prop} {tl : TE} (h : tl σ H fun x H1 => ∃ a, x = .ref a ∧ (∃ xs, SqL K H1 a xs) ∧ R (Itl K a) H1) : iList K tl σ H R := h
theorem r_irng {R : It → Hp → Prop} (h : tr σ H fun vs H1 => ∃ j : Int, vs = [.int j] ∧ -(2 ^ 62) ≤ j ∧ j < 2 ^ 62 ∧ R (Itr 0 j.toNat) H1) : iRng1 tr σ H R := h
theorem r_irngA {R : It → Hp → Prop} (h1 : -(2 ^ 62) ≤ n) (h2 : n < 2 ^ 62) (h : R (Itr 0 n.toNat) H) : ∃ j : Int, [V.int n] = [.int j] ∧ -(2 ^ 62) ≤ j ∧ j < 2 ^ 62 ∧ R (Itr 0 j.toNat) H := ⟨n, rfl, h1, h2, h⟩
theorem r_gname {i : Nat} (h : QG (σ.set i (some v)) H) : gName i v σ H QG := h
/-- targets -/
theorem r_gunl {k : Nat} {tg : TGs} (s : SqL K H a xs) (l : xs.length = k) (h : tg xs σ H QG) : gUnl K k tg (.ref a) σ H QG := ⟨a, xs, rfl, s, l, h⟩
theorem r_gtup {k : Nat} {tg : TGs} (s : SqT K H a xs) (l : xs.length = k) (h : tg xs σ H QG) : gTup K k tg (.ref a) σ H QG := ⟨a, xs, rfl, s, l, h⟩
theorem r_gcons {tu : TGs} (h : g v σ H fun σ' H' => tu xs σ' H' QG) : gCons g tu (v :: xs) σ H QG := ⟨v, xs, rfl, h⟩
theorem r_gnil (h : QG σ H) : gNil [] σ H QG := ⟨rfl, h⟩
theorem r_par {i j : Nat} (h : tr σ H fun vs H1 => ∃ v w, vs = [v, w] ∧ D.nx ((σ.set i (some v)).set j (some w)) H1) : tPar i j tr D σ H := h
theorem r_parA {i j : Nat} {p : L2.St → Hp → Prop} (h : p ((σ.set i (some x)).set j (some y)) H) : ∃ v w, [x, y] = [v, w] ∧ p ((σ.set i (some v)).set j (some w)) H := ⟨x, y, rfl, h⟩
theorem r_chain {r r' : R2} {tc : TE} (h : ta σ H fun x H1 => tb σ H1 fun y H2 => r x y H2 fun z H3 => ∃ k, z = .bl k ∧ (if k = true then tc σ H3 fun w' H4 => r' y w' H4 Q else Q (.bl false) H3)) : tChain r r' ta tb tc σ H Q := h
theorem r_isN (h : Q (.bl (decide (x = .non))) H) : Kt.rIsN x .non H Q := ⟨rfl, h⟩
end
/-! ### a class whose __init__ has one keyword-only parameter -/
structure Mtk (K : PySem.W.Frag) (C : Addr) (qual : Str) (st : Stmt) (ps : List Str) (n : Nat) (ks : List Str) (gV : List V → List V → List V) (f : Addr) : Prop where
  fn : ∃ (fd : FuncData) (kws : List (Str × V)) (g : List Value → List Value → List Value), FunD K "__init__" qual (defArgs st) (defBody st) (defScope st) [] kws f fd ∧ KBn K fd ps (n + 1) ks g gV
  mkr : Mk K C f
structure Cfk (P : Program) (w : World) (K : PySem.W.Frag) (mg : Str → Option Value) (base : Heap) (k : Nat) (x : Str) (C : Addr) (ps : List Str) (n : Nat) (ks : List Str) (gV : List V → List V → List V) (sp : Sp) : Prop where
  fn : ∃ (f : Addr) (fd : FuncData) (g : List Value → List Value → List Value), FnOk P w K mg base CX0 k f fd ps sp ∧ KBn K fd ps (n + 1) ks g gV ∧ Mk K C f
  at_ : mg x = some (.ref C)
theorem Mtk.ok {P : Program} {w : World} {K : PySem.W.Frag} {mg : Str → Option Value} {base : Heap} {x : Str} {C : Addr} {qual : Str} {st : Stmt} {f : Addr} {N ps ks : List Str} {k n : Nat} {gV : List V → List V → List V} {sp : Sp} (T : Mtk K C qual st ps n ks gV f) (hx : mg x = some (.ref C)) (S : FnScope N ps (defScope st)) (len : ∀ vs H Q E, sp vs H Q E → vs.length = ps.length)
    (hbody : ∀ (cdv : Value) (A : Around) (outer : List Env) (s : Shared) (H : Hp) (vs : List V) (Q : VK) (E : XK), Room k (A.deeper (envOfC qual (defScope st) s.heap.objs.size f cdv)) → sp vs H Q E →
      ∃ t, PSs (cxOf CX0 P w K mg base N qual (defScope st) f cdv A outer s H E).nox (defBody st) t ∧ t { nx := fun _ H' => Q .non H', rt := Q } (start N vs) H) : Cfk P w K mg base (k + 1) x C ps n ks gV sp := by
  obtain ⟨fd, kws, g, F, b⟩ := T.fn
  refine ⟨⟨f, fd, g, F.ok S len fun cdv A outer s H vs Q E hr h => ?_, b, T.mkr⟩, hx⟩
  obtain ⟨t, ht, q⟩ := hbody cdv A outer s H vs Q E hr h
  exact ⟨t, ht.nox, q⟩
section
variable {X : Cx} {k n : Nat} {x : Str} {C : Addr} {ps ks : List Str} {gV : List V → List V → List V} {sp : Sp} {e : Expr} {es : List Expr} {kws : List Keyword} {t tk : TA} {p pos : Pos}
theorem pe_cfk (M : Cfk X.prog X.w X.K X.mg X.base k x C ps n ks gV sp) (hr : Room (k + 1) X.A) (ha : PA X (e :: es) t) (hkw : PK X kws tk) (hg : Gl X x := by rfl)
    (hall : (backToKw pos (keywordEach kws X.env)).all (·.1.isSome) = true := by rfl) (hks : (backToKw pos (keywordEach kws X.env)).filterMap (·.1) = ks := by rfl) (hd : (x == ("__debug__" : Str)) = false := by decide)
    (he : starEach (e :: es) X.env = (false, eval e X.env) :: starEach es X.env := by rfl) (hpl : ((backTo pos (starEach (e :: es) X.env)).any (·.1) || (backToKw pos (keywordEach kws X.env)).any (·.1.isNone)) = false := by rfl) :
    PE X (.Call (.Name x p) (e :: es) kws pos) (tMakeK C n ks.length sp gV E0 t tk) := by
  obtain ⟨f, fd, g, F, b, M'⟩ := M.fn
  exact pe_makeK M' F hr hg M.at_ b pass0 ha hkw hall hks hd he hpl
end
section
variable {K : PySem.W.Frag} {σ : L2.St} {H : Hp} {Q : VK} {t tk : TA} {C : Addr} {sp : Sp} {gV : List V → List V → List V} {n m : Nat} {Ps : List SP} {vs zs : List V}
def kNewK (C : Addr) (n m : Nat) (sp : Sp) (gV : List V → List V → List V) (Q : VK) (vs zs : List V) : Hp → Prop := fun H2 => vs.length = n ∧ zs.length = m ∧ ∀ x dx, H2 x = none → H2 dx = none → dx ≠ x → sp (gV (.ref x :: vs) zs) (upd (upd H2 dx (.own x)) x (.ins C dx [])) (fun v H3 => v = .non ∧ Q (.ref x) H3) E0
theorem r_makek (h : t σ H fun vs H1 => tk σ H1 fun zs H2 => kNewK C n m sp gV Q vs zs H2) : tMakeK C n m sp gV E0 t tk σ H Q := h
theorem r_knewk (S : Sep Ps H) (l1 : vs.length = n) (l2 : zs.length = m) (h : ∀ x dx H', Sep (pt x (.ins C dx []) :: Ps) H' → sp (gV (.ref x :: vs) zs) H' (fun v H2 => v = .non ∧ Q (.ref x) H2) E0) : kNewK C n m sp gV Q vs zs H := ⟨l1, l2, fun x dx h1 h2 ne => h x dx _ (S.made h1 h2 ne)⟩
end
/-! ### a local name that holds a def -/
section
variable {X : Cx} {k i : Nat} {x y : Str} {f : Addr} {ps : List Str} {sp : Sp} {e : Expr} {es : List Expr} {t : TA} {p pos : Pos}
theorem pe_dfL (D : Df X.prog X.w X.K X.mg X.base k y f ps sp) (hr : Room k X.A) (ha : PA X (e :: es) t) (hN : X.N[i]? = some x := by rfl) (hv : Vis X.env.scope x := by first | exact Or.inl rfl | exact Or.inr (Or.inl rfl) | exact Or.inr (Or.inr rfl))
    (hdb : (x == ("__debug__" : Str)) = false := by decide) (hcd : (x == ("__classdict__" : Str)) = false := by decide)
    (he : starEach (e :: es) X.env = (false, eval e X.env) :: starEach es X.env := by rfl) (hpl : (backTo pos (starEach es X.env)).any (·.1) = false := by rfl) : PE X (.Call (.Name x p) (e :: es) [] pos) (tCallL i f sp [] E0 t) := by
  obtain ⟨fd, F, b⟩ := D.fn
  exact pe_callL F hr hN hv D.kp b .nil pass0 ha hdb hcd he hpl
theorem r_calll {σ : L2.St} {H : Hp} {Q : VK} (hs : σ[i]? = some (some (.ref f))) (h : t σ H fun vs H1 => sp vs H1 Q E0) : tCallL i f sp [] E0 t σ H Q := by
  unfold tCallL
  simp only [List.append_nil]
  exact ⟨hs, h⟩
end
end Kt

set_option Elab.async false
set_option linter.all false
set_option maxRecDepth 100000
namespace Kt
open PySem L2 PyProof.Rows
section
variable {K : PySem.W.Frag} {σ : L2.St} {H : Hp} {D : Ends} {Q : VK} {a : Addr} {xs : List V} {Ps : List SP} {g : TG} {tb : TS} {tt : TT} {te : TE} {vs : List Nat} {n : Int}
/-- the turns of a loop, by a word over the slots and the known parts -/
abbrev LW := Nat → L2.St → List SP → Prop
def Nx (J : LW) (i : Nat) : L2.St → Hp → Prop := fun σ H => ∃ Ps, J i σ Ps ∧ Sep Ps H
theorem nx_in {J : LW} {i : Nat} (S : Sep Ps H) (j : J i σ Ps) : Nx J i σ H := ⟨Ps, j, S⟩
abbrev ForW (J : It) (g : TG) (tb : TS) (D : Ends) (σ : L2.St) (H1 : Hp) : Prop := ∃ W : Nat → Nat → L2.St → Hp → Prop, (∃ m, W 0 m σ H1) ∧ ∀ i m σ H, W i m σ H →
  (J.stop i H ∧ D.nx σ H) ∨ (J.go i H ∧ ∃ N : L2.St → Hp → Prop, (∀ σ' H', N σ' H' → ∃ m', m' < m ∧ W (i + 1) m' σ' H') ∧ ∀ x H', J.yld i H x H' → g x σ H' fun σ2 H2 => tb { D with nx := N, ct := N, bk := D.nx } σ2 H2)
theorem r_for_list (J : LW) (S : Sep Ps H) (h0 : J 0 σ Ps) (hl : ∀ i σ Ps H, i ≤ xs.length → J i σ Ps → Sep Ps H → SqL K H a xs)
    (hs : ∀ i x σ Ps H, xs[i]? = some x → J i σ Ps → Sep Ps H → g x σ H fun σ2 H2 => tb { D with nx := Nx J (i + 1), ct := Nx J (i + 1), bk := D.nx } σ2 H2) (hd : ∀ σ Ps H, J xs.length σ Ps → Sep Ps H → D.nx σ H) :
    ∃ a', V.ref a = .ref a' ∧ (∃ xs, SqL K H a' xs) ∧ ForW (Itl K a') g tb D σ H :=
  ⟨a, rfl, ⟨xs, hl 0 σ Ps H (Nat.zero_le _) h0 S⟩, for_list (K := K) (a := a) (xs := xs) (Nx J) ⟨Ps, h0, S⟩ (fun i σ H hi ⟨Ps, j, S⟩ => hl i σ Ps H hi j S) (fun i x σ H hi ⟨Ps, j, S⟩ => hs i x σ Ps H hi j S) fun σ H ⟨Ps, j, S⟩ => hd σ Ps H j S⟩
theorem r_for_tup (J : LW) (S : Sep Ps H) (h0 : J 0 σ Ps) (hl : ∀ i σ Ps H, i ≤ xs.length → J i σ Ps → Sep Ps H → SqT K H a xs)
    (hs : ∀ i x σ Ps H, xs[i]? = some x → J i σ Ps → Sep Ps H → g x σ H fun σ2 H2 => tb { D with nx := Nx J (i + 1), ct := Nx J (i + 1), bk := D.nx } σ2 H2) (hd : ∀ σ Ps H, J xs.length σ Ps → Sep Ps H → D.nx σ H) :
    ∃ a', V.ref a = .ref a' ∧ (∃ xs, SqT K H a' xs) ∧ ForW (Itt K a') g tb D σ H :=
  ⟨a, rfl, ⟨xs, hl 0 σ Ps H (Nat.zero_le _) h0 S⟩, for_tup (K := K) (a := a) (xs := xs) (Nx J) ⟨Ps, h0, S⟩ (fun i σ H hi ⟨Ps, j, S⟩ => hl i σ Ps H hi j S) (fun i x σ H hi ⟨Ps, j, S⟩ => hs i x σ Ps H hi j S) fun σ H ⟨Ps, j, S⟩ => hd σ Ps H j S⟩
/-- over range(n) -/
theorem r_for_rng (J : LW) (S : Sep Ps H) (h1 : -(2 ^ 62) ≤ n) (h2 : n < 2 ^ 62) (h0 : J 0 σ Ps)
    (hs : ∀ (i : Nat) σ Ps H, i < n.toNat → J i σ Ps → Sep Ps H → g (.int (i : Int)) σ H fun σ2 H2 => tb { D with nx := Nx J (i + 1), ct := Nx J (i + 1), bk := D.nx } σ2 H2) (hd : ∀ σ Ps H, J n.toNat σ Ps → Sep Ps H → D.nx σ H) :
    ∃ j : Int, [V.int n] = [.int j] ∧ -(2 ^ 62) ≤ j ∧ j < 2 ^ 62 ∧ ForW (Itr 0 j.toNat) g tb D σ H :=
  ⟨n, rfl, h1, h2, for_range (Nx J) ⟨Ps, h0, S⟩ (fun i σ H hi ⟨Ps, j, S⟩ => by rw [Int.zero_add]; exact hs i σ Ps H hi j S) fun σ H ⟨Ps, j, S⟩ => hd σ Ps H j S⟩
/-! ### comprehensions: J by the turn, what is made, the known parts -/
abbrev CW := Nat → List V → List SP → Prop
abbrev LcW (Jt : It) (g : TG) (tt : TT) (te : TE) (vs : List Nat) (Q : VK) (σ : L2.St) (H1 : Hp) : Prop := ∀ D, H1 D = none → ∃ W : Nat → Nat → Hp → Prop, (∃ m, W 0 m (upd H1 D (.lst []))) ∧ ∀ i m H, W i m H →
  (Jt.stop i H ∧ Q (.ref D) H) ∨ (Jt.go i H ∧ ∃ Nx : Hp → Prop, (∀ H', Nx H' → ∃ m', m' < m ∧ W (i + 1) m' H') ∧ ∀ x H', Jt.yld i H x H' → g x (wipe σ vs) H' fun σ2 H2 => wipe σ2 vs = wipe σ vs ∧ tt σ2 H2 fun b H3 =>
    if b = true then te σ2 H3 fun y H4 => ∃ acc, H4 D = some (.lst acc) ∧ acc.length < sizeLine ∧ Nx (upd H4 D (.lst (acc ++ [y]))) else Nx H3)
def CN (J : CW) (D : Addr) (i : Nat) : Hp → Prop := fun H => ∃ acc Ps, J i acc Ps ∧ Sep (pt D (.lst acc) :: Ps) H
/-- an item is made: the new list holds one more -/
theorem cn_in {J : CW} {D : Addr} {i : Nat} {acc : List V} {y : V} (S : Sep (pt D (.lst acc) :: Ps) H) (hl : acc.length < 100000) (j : J i (acc ++ [y]) Ps) : ∃ acc, H D = some (.lst acc) ∧ acc.length < sizeLine ∧ CN J D i (upd H D (.lst (acc ++ [y]))) :=
  ⟨acc, S.hd_at, Nat.lt_of_lt_of_le hl (by decide), acc ++ [y], Ps, j, S.hd_set _⟩
theorem cn_out {J : CW} {D : Addr} {i : Nat} {acc : List V} (S : Sep (pt D (.lst acc) :: Ps) H) (j : J i acc Ps) : CN J D i H := ⟨acc, Ps, j, S⟩
theorem r_lc (h : ∀ (wi : TI), wi = wi → True) : True := trivial
theorem r_tlc {wi : TI} (h : wi σ H fun Jt H1 => LcW Jt g tt te vs Q σ H1) : tLc wi g tt te vs σ H Q := h
theorem r_lc_list (J : CW) (S : Sep Ps H) (h0 : J 0 [] Ps) (hl : ∀ D i acc Ps H, i ≤ xs.length → J i acc Ps → Sep (pt D (.lst acc) :: Ps) H → SqL K H a xs) (hl0 : SqL K H a xs)
    (hs : ∀ D i x acc Ps H, xs[i]? = some x → J i acc Ps → Sep (pt D (.lst acc) :: Ps) H → g x (wipe σ vs) H fun σ2 H2 => wipe σ2 vs = wipe σ vs ∧ tt σ2 H2 fun b H3 =>
      if b = true then te σ2 H3 fun y H4 => ∃ acc, H4 D = some (.lst acc) ∧ acc.length < sizeLine ∧ CN J D (i + 1) (upd H4 D (.lst (acc ++ [y]))) else CN J D (i + 1) H3)
    (hd : ∀ D acc Ps H, J xs.length acc Ps → Sep (pt D (.lst acc) :: Ps) H → Q (.ref D) H) : ∃ a', V.ref a = .ref a' ∧ (∃ xs, SqL K H a' xs) ∧ LcW (Itl K a') g tt te vs Q σ H :=
  ⟨a, rfl, ⟨xs, hl0⟩, fun D nD => lc_list (K := K) (a := a) (xs := xs) (CN J D) ⟨[], Ps, h0, S.new _ nD⟩ (fun i H hi ⟨acc, Ps, j, S⟩ => hl D i acc Ps H hi j S) (fun i x H hi ⟨acc, Ps, j, S⟩ => hs D i x acc Ps H hi j S) fun H ⟨acc, Ps, j, S⟩ => hd D acc Ps H j S⟩
theorem r_lc_rng (J : CW) (S : Sep Ps H) (h1 : -(2 ^ 62) ≤ n) (h2 : n < 2 ^ 62) (h0 : J 0 [] Ps)
    (hs : ∀ D (i : Nat) acc Ps H, i < n.toNat → J i acc Ps → Sep (pt D (.lst acc) :: Ps) H → g (.int (i : Int)) (wipe σ vs) H fun σ2 H2 => wipe σ2 vs = wipe σ vs ∧ tt σ2 H2 fun b H3 =>
      if b = true then te σ2 H3 fun y H4 => ∃ acc, H4 D = some (.lst acc) ∧ acc.length < sizeLine ∧ CN J D (i + 1) (upd H4 D (.lst (acc ++ [y]))) else CN J D (i + 1) H3)
    (hd : ∀ D acc Ps H, J n.toNat acc Ps → Sep (pt D (.lst acc) :: Ps) H → Q (.ref D) H) : ∃ j : Int, [V.int n] = [.int j] ∧ -(2 ^ 62) ≤ j ∧ j < 2 ^ 62 ∧ LcW (Itr 0 j.toNat) g tt te vs Q σ H :=
  ⟨n, rfl, h1, h2, fun D nD => lc_range (CN J D) ⟨[], Ps, h0, S.new _ nD⟩ (fun i H hi ⟨acc, Ps, j, S⟩ => by rw [Int.zero_add]; exact hs D i acc Ps H hi j S) fun H ⟨acc, Ps, j, S⟩ => hd D acc Ps H j S⟩
theorem r_yes {QT : Bool → Hp → Prop} (h : QT true H) : tYes σ H QT := h
end
end Kt

set_option Elab.async false
set_option linter.all false
set_option maxRecDepth 100000
namespace Kt
open PySem L2 PyProof.Rows
/-! ### data: equal things are equal -/
def Okd (k : Nat) (d : PyData) : Prop := d.canLay0 = true ∧ d.depth ≤ k
theorem okd_int {k : Nat} (i : Int) : Okd k (.int i) := ⟨rfl, Nat.zero_le _⟩
theorem okd_bl {k : Nat} (b : Bool) : Okd k (.bool b) := ⟨rfl, Nat.zero_le _⟩
theorem okd_non {k : Nat} : Okd k .none := ⟨rfl, Nat.zero_le _⟩
theorem okd_all {k : Nat} : ∀ {ds : List PyData}, (∀ d ∈ ds, Okd k d) → PyData.canLayAll0 ds = true ∧ PyData.depthAll ds ≤ k
  | [], _ => ⟨rfl, Nat.zero_le _⟩
  | d :: ds, h => by
    obtain ⟨h1, h2⟩ := okd_all (ds := ds) fun x m => h x (List.mem_cons_of_mem _ m)
    obtain ⟨g1, g2⟩ := h d List.mem_cons_self
    refine ⟨?_, ?_⟩
    · rw [PyData.canLayAll0, g1, h1] <;> rfl
    · rw [PyData.depthAll]; exact Nat.max_le.mpr ⟨g2, h2⟩
theorem okd_list {k : Nat} {ds : List PyData} (h : ∀ d ∈ ds, Okd k d) : Okd (k + 1) (.list ds) := by
  obtain ⟨h1, h2⟩ := okd_all h
  refine ⟨?_, ?_⟩
  · rw [PyData.canLay0]; exact h1
  · rw [PyData.depth]; omega
theorem okd_tuple {k : Nat} {ds : List PyData} (h : ∀ d ∈ ds, Okd k d) : Okd (k + 1) (.tuple ds) := by
  obtain ⟨h1, h2⟩ := okd_all h
  refine ⟨?_, ?_⟩
  · rw [PyData.canLay0]; exact h1
  · rw [PyData.depth]; omega
theorem Okd.shaped {k : Nat} {d : PyData} (h : Okd k d) (hk : k ≤ 64) : SeqAt.shaped d = true := by
  unfold SeqAt.shaped
  rw [h.1, decide_eq_true (Nat.le_trans h.2 hk)]
  rfl
def dInts (ns : List Int) : PyData := .list (ns.map PyData.int)
theorem okd_ints (k : Nat) (ns : List Int) : Okd (k + 1) (dInts ns) := okd_list fun d m => by
  obtain ⟨i, _, rfl⟩ := List.mem_map.mp m
  exact okd_int i
section
variable {K : PySem.W.Frag} {H : Hp} {Q : VK} {x y : V} {a : Addr} {k : Nat} {d : PyData} {n : Int}
theorem dpall_ints : ∀ ns : List Int, DpAll K H (ns.map V.int) (ns.map PyData.int)
  | [] => .nil
  | n :: ns => .cons (.int n) (dpall_ints ns)
theorem dp_ints {ns : List Int} (s : SqL K H a (ns.map V.int)) : Dp K H (.ref a) (dInts ns) := .lst s (dpall_ints ns)
theorem r_eq_same (h1 : Dp K H x d) (h2 : Dp K H y d) (o : Okd k d) (hk : k ≤ 64) (q : Q (.bl true) H) : rEqA K x y H Q := .inr ⟨d, d, h1, h2, o.shaped hk, o.shaped hk, by rw [SeqAt.eqv_refl d o.1]; exact q⟩
theorem r_ne_same (h1 : Dp K H x d) (h2 : Dp K H y d) (o : Okd k d) (hk : k ≤ 64) (q : Q (.bl false) H) : rNeA K x y H Q := .inr ⟨d, d, h1, h2, o.shaped hk, o.shaped hk, by rw [SeqAt.eqv_refl d o.1]; exact q⟩
theorem r_neg (h : Q (.int (-n)) H) : rU (fun i => .int (-i)) (.int n) H Q := ⟨n, rfl, h⟩
end
end Kt

set_option Elab.async false
set_option linter.all false
set_option maxRecDepth 100000
namespace Kt
open PySem L2 PyProof.Rows
/-! ### many lists as one part -/
def big (l : List (Addr × List V)) : SP := Sep (l.map fun p => pt p.1 (.lst p.2))
theorem big_nil {R : List SP} {H : Hp} (S : Sep R H) : Sep (big [] :: R) H := Sep.unflat (As := []) S
theorem pick_mid {A : SP} {Qs : List SP} : ∀ Ps : List SP, Pick A (Ps ++ A :: Qs) (Ps ++ Qs)
  | [] => .hd
  | P :: Ps => .tl (pick_mid Ps)
theorem big_add {l : List (Addr × List V)} {p : Addr} {xs : List V} {R : List SP} {H : Hp} (S : Sep (pt p (.lst xs) :: big l :: R) H) : Sep (big (l ++ [(p, xs)]) :: R) H := by
  have S1 : Sep (pt p (.lst xs) :: ((l.map fun p => pt p.1 (.lst p.2)) ++ R)) H := S.cons_mono fun _ => Sep.flat
  have S2 : Sep ((l.map fun p => pt p.1 (.lst p.2)) ++ pt p (.lst xs) :: R) H := (pick_mid _).back S1
  refine Sep.unflat (As := (l ++ [(p, xs)]).map fun p => pt p.1 (.lst p.2)) ?_
  rw [List.map_append, List.append_assoc]
  exact S2
theorem sep_mem {R : List SP} {H : Hp} : ∀ {l : List (Addr × List V)} {p : Addr} {xs : List V}, Sep ((l.map fun p => pt p.1 (.lst p.2)) ++ R) H → (p, xs) ∈ l → H p = some (.lst xs)
  | [], _, _, _, h => by simp at h
  | q :: l, p, xs, S, h => by
    rcases List.mem_cons.mp h with e | h
    · subst e
      exact Sep.hd_at (Ps := (l.map fun p => pt p.1 (.lst p.2)) ++ R) S
    · exact sep_mem (Sep.tl (Ps := (l.map fun p => pt p.1 (.lst p.2)) ++ R) S) h
theorem big_get {l : List (Addr × List V)} {p : Addr} {xs : List V} {R : List SP} {H : Hp} (S : Sep (big l :: R) H) (h : (p, xs) ∈ l) : H p = some (.lst xs) := sep_mem S.flat h
theorem big_open {l : List (Addr × List V)} {R : List SP} {H : Hp} (S : Sep (big l :: R) H) : Sep ((l.map fun p => pt p.1 (.lst p.2)) ++ R) H := S.flat
section
variable {K : PySem.W.Frag} {H : Hp} {Q : VK} {x y : V} {a : Addr} {xs : List V} {Ps Qs : List SP}
theorem dpall_of {α : Type} (f : α → V) (g : α → PyData) : ∀ {l : List α}, (∀ z ∈ l, Dp K H (f z) (g z)) → DpAll K H (l.map f) (l.map g)
  | [], _ => .nil
  | z :: l, h => .cons (h z List.mem_cons_self) (dpall_of f g fun z m => h z (List.mem_cons_of_mem _ m))
theorem dpall_app : ∀ {xs ys : List V} {ds es : List PyData}, DpAll K H xs ds → DpAll K H ys es → DpAll K H (xs ++ ys) (ds ++ es)
  | _, _, _, _, .nil, h => h
  | _, _, _, _, .cons h t, h2 => .cons h (dpall_app t h2)
theorem r_insert0 (S : Sep Ps H) (r : Repl a (.lst xs) (.lst (y :: xs)) Ps Qs) (hz : xs.length < 100000) (h : ∀ H', Sep Qs H' → Q .non H') : ∃ (l : Addr) (zs : List V) (i : Int) (y' : V), V.ref a = .ref l ∧ [V.int 0, y] = [.int i, y'] ∧ H l = some (.lst zs) ∧ zs.length < sizeLine ∧ 0 ≤ i ∧ i < 2 ^ 63 ∧
    Q .non (upd H l (.lst (zs.take i.toNat ++ y' :: zs.drop i.toNat))) :=
  ⟨a, xs, 0, y, rfl, rfl, by obtain ⟨Rs, p, _⟩ := r.pick; exact S.at_ p, Nat.lt_of_lt_of_le hz (by decide), by decide, by decide, h _ (S.set r)⟩
end
end Kt

set_option Elab.async false
set_option linter.all false
set_option maxRecDepth 100000
namespace Kt
open PySem PySem.Spec PySem.W L2 PyProof.Rows
/-! ### an instance that is called: its class's own __call__ -/
theorem fn_found {K : Frag} {f : Addr} {h : Heap} (X : K.In h) (e : fnIn K f = true) : ∃ (o : Obj) (fd : FuncData), h.get? f = some o ∧ o.data = .func fd := by
  unfold fnIn at e
  split at e
  · rename_i q
    exact ⟨_, _, X _ _ q, rfl⟩
  · cases e
theorem callee_inst {prog : Program} {w : World} {A : Around} {K : Frag} {a C f : Addr} {dx : Addr} {od : Option Obj} {s : Shared} {R : Result → Shared → Prop} {rest : List Value} {kw : List (Str × Value)} {of_ : Obj} {fd : FuncData}
    (X : K.In s.heap) (J : PySem.W.InstAt s.heap a (PySem.W.instObj C dx) C od) (hs : findIn K (.ref C) "__call__" = some (some (.ref f))) (hf : isFn K (.ref f) = true) (hl : s.heap.get? f = some of_) (hd : of_.data = .func fd)
    (h : codeAny (model prog w) A (.call (.ref f) ⟨.ref a :: rest, kw⟩) R s) : codeAny (model prog w) A (.call (.ref a) ⟨rest, kw⟩) R s := by
  have sp : Looks (model prog w) s.heap (specialOf (.ref a) "__call__") (some (.ref f)) := J.type.andThen (looks_findIn X hs)
  have bd : Looks (model prog w) s.heap (bindSpecial (.ref f) (.ref a)) (.ref f, [.ref a]) := bind_fn X _ (beq_iff_eq.mp hf)
  refine codeAny_of_tree ?_
  show wpAny _ _ (callAny (.ref a) _) _ _ _
  refine nd_load J.at_ ?_
  show wpAny _ _ (callAny.viaDunder (.ref a) _) _ _ _
  unfold callAny.viaDunder
  refine wpAny_bind (sp.here ?_)
  refine wpAny_bind (bd.here ?_)
  have pc : Looks (model prog w) s.heap (callAny.plainCallee (.ref f)) true := (Looks.ld (part := none) hl).andThen (by rw [hd]; exact .now)
  refine wpAny_bind (pc.here ?_)
  exact wpAny_pure (a := Fin.again (.call (.ref f) ⟨.ref a :: rest, kw⟩)) (And.intro rfl h)
theorem keeper_inst {M : Model} {a C dx : Addr} {h : Heap} (e : h.get? a = some (PySem.W.instObj C dx)) : Looks M h (keeperOf (.ref a)) Keeper.caller := (Looks.ld (part := none) e).andThen .now
theorem callWith_inst {M : Model} {A : Around} {E : Value → Shared → Prop} {s : Shared} {pos : Pos} {f : Value} {args : List (Bool × Sem Value)} {Q : Value → Shared → Prop} {P : Heap → Prop} (hplain : (args.any (·.1) || ([] : List (Option Str × Sem Value)).any (·.1.isNone)) = false)
    (hk : ∀ h, P h → Looks M h (keeperOf f) Keeper.caller) (h : wpAny M A (evalArgs f true args []) (fun x s1 => P s1.heap ∧ wpAny M A (call f ([] ++ x.pos) x.kw) Q E s1) E s) : wpAny M A (callWith pos f [] args []) Q E s := by
  unfold callWith
  refine wpAny_bind (wpAny_holding (wpAny_mono h (fun x s1 h1 => wpAny_bind (wpAny_standAt ?_)) fun _ _ z => z))
  simp only [hplain]
  refine wpAny_bind ((hk _ h1.1).here ?_)
  dsimp only
  exact wpAny_bind (wpAny_mono (wpAny_operate' h1.2) (fun r s2 hr => wpAny_bind (wpAny_holding (wpAny_point (wpAny_pure hr)))) fun _ _ z => z)
section
variable {X : Cx} {k i : Nat} {x : Str} {C : Addr} {ps : List Str} {sp : Sp} {e : Expr} {es : List Expr} {t : TA} {p pos : Pos}
/-- x(e, ..), the local x holds an instance of C -/
def tCallI (i : Nat) (C : Addr) (sp : Sp) (t : TA) : TE := fun σ H Q => ∃ a, σ[i]? = some (some (.ref a)) ∧ t σ H fun vs H1 => ∃ dx fs, H1 a = some (.ins C dx fs) ∧ sp (.ref a :: vs) H1 Q E0
theorem pe_mfL (M : Mf X.prog X.w X.K X.mg X.base k C "__call__" ps sp) (hfn : ∀ f, findIn X.K (.ref C) "__call__" = some (some (.ref f)) → fnIn X.K f = true) (hr : Room k X.A) (ha : PA X (e :: es) t) (hN : X.N[i]? = some x := by rfl) (hv : Vis X.env.scope x := by first | exact Or.inl rfl | exact Or.inr (Or.inl rfl) | exact Or.inr (Or.inr rfl))
    (hdb : (x == ("__debug__" : Str)) = false := by decide) (hcd : (x == ("__classdict__" : Str)) = false := by decide) (he : starEach (e :: es) X.env = (false, eval e X.env) :: starEach es X.env := by rfl) (hpl : (backTo pos (starEach es X.env)).any (·.1) = false := by rfl) :
    PE X (.Call (.Name x p) (e :: es) [] pos) (tCallI i C sp t) := by
  obtain ⟨f, fd, F, b, hm⟩ := M.fn
  refine ⟨fun pins s σ H Q I h => ?_⟩
  obtain ⟨a, hs, ht⟩ := h
  refine wpAny_Call_Name_kw (thn ((pe_var (pos := p) hN hv hdb hcd).run pins s σ H (fun v H1 => v = .ref a ∧ H1 = H) I ⟨.ref a, hs, rfl, rfl⟩) fun u s1 ⟨v, H1, I1, r1, q1⟩ => ?_)
  obtain ⟨rfl, rfl⟩ := q1
  cases r1
  have h2 : wpAny (model X.prog X.w) X.A (spliced (backTo pos (starEach (e :: es) X.env))) (fun vs s2 => (∃ dx, s2.heap.get? a = some (PySem.W.instObj C dx)) ∧ wpAny (model X.prog X.w) X.A (call (.ref a) ([] ++ vs)) (EP X pins σ Q) X.xe s2) X.xe s1 :=
    thn (ha.run pos pins s1 σ _ _ I1 ht) fun us s2 ⟨vs, H2, I2, r, dx, fs, hH, q⟩ => by
      obtain ⟨mA, O, _⟩ := ins_get I2.hok hH
      refine ⟨⟨dx, O.obj⟩, ?_⟩
      obtain ⟨od, J, _⟩ := O.look
      obtain ⟨of_, fd2, hl, hd2⟩ := fn_found I2.kIn (hfn f hm.at_)
      have rr : Vals (V.ref a :: vs) (Value.ref a :: us) := .cons rfl r
      have ln : (Value.ref a :: us).length = ps.length := by rw [← rr.length]; exact F.len _ _ _ _ q
      have bd := b s2 (.ref a :: us) I2.kIn (by rw [List.append_nil]; exact ln)
      rw [List.append_nil] at bd
      refine wpAny_call (callee_inst I2.kIn J hm.at_ hm.fn hl hd2 (codeAny_mono (F.run X.A X.stack s2 H2 ⟨.ref a :: us, []⟩ (.ref a :: us) (.ref a :: vs) Q E0 hr I2.env0 bd rr q) fun r s' hq => ?_))
      cases r with
      | error z => exact pass0 pins σ H2 s2 z s' I2 hq
      | ok fl => cases fl with
        | ret u => exact I2.after hq
        | _ => exact False.elim hq
  rw [he] at h2 ⊢
  exact callWith_inst (P := fun h => ∃ dx, h.get? a = some (PySem.W.instObj C dx)) (by show ((false || (backTo pos (starEach es X.env)).any (·.1)) || false) = false; rw [hpl]; rfl) (fun h ⟨dx, q⟩ => keeper_inst q) (Calls.evalArgs_plain h2)
/-- an expression read in one of two ways -/
def tEr (t t' : TE) : TE := fun σ H Q => t σ H Q ∨ t' σ H Q
theorem pe_er {e : Expr} {t t' : TE} (h : PE X e t) (h' : PE X e t') : PE X e (tEr t t') := ⟨fun pins s σ H Q I q => q.elim (h.run pins s σ H Q I) (h'.run pins s σ H Q I)⟩
end
end Kt

set_option Elab.async false
set_option linter.all false
set_option maxRecDepth 100000
namespace Kt
open PySem L2 PyProof.Rows
/-! ### properties by name -/
structure Pt (K : PySem.W.Frag) (C : Addr) (m qual : Str) (st : Stmt) (g : Addr) : Prop where
  fn : ∃ fd, Fun K m qual st g fd ∧ Binds K fd ["self"] []
  at_ : ∃ p, PropOf K C m p g
structure Pf (P : Program) (w : World) (K : PySem.W.Frag) (mg : Str → Option Value) (base : Heap) (k : Nat) (C : Addr) (m : Str) (sp : Sp) : Prop where
  fn : ∃ p g fd, FnOk P w K mg base CX0 k g fd ["self"] sp ∧ Binds K fd ["self"] [] ∧ PropOf K C m p g
  cls : Cls K C
theorem Pt.ok {P : Program} {w : World} {K : PySem.W.Frag} {mg : Str → Option Value} {base : Heap} {C : Addr} {x qual : Str} {st : Stmt} {f : Addr} {N : List Str} {k : Nat} {sp : Sp} (T : Pt K C x qual st f) (c : Cls K C) (S : FnScope N ["self"] (defScope st)) (len : ∀ vs H Q E, sp vs H Q E → vs.length = 1)
    (hbody : ∀ (cdv : Value) (A : Around) (outer : List Env) (s : Shared) (H : Hp) (vs : List V) (Q : VK) (E : XK), Room k (A.deeper (envOfC qual (defScope st) s.heap.objs.size f cdv)) → sp vs H Q E →
      ∃ t, PSs (cxOf CX0 P w K mg base N qual (defScope st) f cdv A outer s H E).nox (defBody st) t ∧ t { nx := fun _ H' => Q .non H', rt := Q } (start N vs) H) : Pf P w K mg base (k + 1) C x sp := by
  obtain ⟨fd, F, b⟩ := T.fn
  obtain ⟨p, hp⟩ := T.at_
  exact ⟨⟨p, f, fd, F.ok S len hbody, b, hp⟩, c⟩
theorem pe_pr {X : Cx} {k : Nat} {C : Addr} {f : Str} {sp : Sp} {e : Expr} {pos : Pos} {ta : TE} (M : Pf X.prog X.w X.K X.mg X.base k C f sp) (hr : Room (k + 1) X.A) (he : PE X e ta) (hab : attributeBase e f X.env (eval e X.env) = eval e X.env := by rfl) : PE X (.Attribute e f pos) (tProp C sp [] E0 ta) := by
  obtain ⟨p, g, fd, F, b, hp⟩ := M.fn
  exact pe_prop he M.cls hp F hr b .nil pass0 hab
section
variable {σ : L2.St} {H : Hp} {Q : VK} {C a dx : Addr} {sp : Sp} {ta : TE} {fs : List (Str × V)} {Ps Qs : List SP}
def kProp (C : Addr) (sp : Sp) (Q : VK) : V → Hp → Prop := fun x H1 => ∃ a dx fs, x = .ref a ∧ H1 a = some (.ins C dx fs) ∧ sp [.ref a] H1 Q E0
theorem r_prop (h : ta σ H (kProp C sp Q)) : tProp C sp [] E0 ta σ H Q := h
theorem r_kprop (S : Sep Ps H) (p : Pick (pt a (.ins C dx fs)) Ps Qs) (h : sp [.ref a] H Q E0) : kProp C sp Q (.ref a) H := ⟨a, dx, fs, rfl, S.at_ p, h⟩
end
end Kt

set_option Elab.async false
set_option linter.all false
set_option maxRecDepth 100000
namespace Kt
open PySem PySem.Spec L2 PyProof.Rows
/-! ### promises of defs that are called where no guard stands: what repr of a list asks -/
structure FnG (P : Program) (w : World) (K : PySem.W.Frag) (mg : Str → Option Value) (base : Heap) (k : Nat) (f : Addr) (fd : FuncData) (ps : List Str) (sp : Sp) : Prop where
  len : ∀ vs H Q E, sp vs H Q E → vs.length = ps.length
  run : ∀ (A : Around) (outer : List Env) (s : Shared) (H : Hp) (args : Args) (us : List Value) (vs : List V) (Q : VK) (E : XK), A.guards = some [] → Room k A → Env0 P w K mg base A outer s H → BindsTo s fd args (ps.zip us) → Vals vs us → sp vs H Q E → codeAny (model P w) A (.call (.ref f) args) (CR CX0 outer P w H s Q E) s
section
variable {P : Program} {w : World} {K : PySem.W.Frag} {mg : Str → Option Value} {base : Heap}
theorem fnG_ok {x qual : Str} {st : Stmt} {f : Addr} {fd : FuncData} {N ps : List Str} {k : Nat} {sp : Sp} (F : Fun K x qual st f fd) (S : FnScope N ps (defScope st)) (len : ∀ vs H Q E, sp vs H Q E → vs.length = ps.length)
    (hbody : ∀ (cdv : Value) (A : Around) (outer : List Env) (s : Shared) (H : Hp) (vs : List V) (Q : VK) (E : XK), A.guards = some [] → Room k (A.deeper (envOfC qual (defScope st) s.heap.objs.size f cdv)) → sp vs H Q E →
      ∃ t, PSs (cxOf CX0 P w K mg base N qual (defScope st) f cdv A outer s H E).nox (defBody st) t ∧ t { nx := fun _ H' => Q .non H', rt := Q } (start N vs) H) : FnG P w K mg base (k + 1) f fd ps sp := by
  obtain ⟨oc, od, kV, doc, pm, an, cdv, ct, osl, rfl, lk, hcd⟩ := F.ex
  refine ⟨len, fun A outer s H args us vs Q E hg hr e0 hb r hsp => ?_⟩
  have KX : K.In s.heap := e0.mod.kin.keeps fun b o e => (e0.bs b o e).1
  have lim := e0.mod.nolimit.keeps (h' := s.heap) fun b o e => (e0.bs b o e).1
  have hl : vs.length = ps.length := len vs H Q E hsp
  have kinds : ∀ y ∈ ps.zip us, (defScope st).names.lookup y.1 = some .local ∨ ((defScope st).names.lookup y.1 = some .cell ∧ ((cellsFrom (s.heap.objs.size + 1) (defScope st).names []).lookup y.1).isSome = true) := by
    rintro ⟨n, v⟩ hy
    exact (S.par n (List.of_mem_zip hy).1).imp id fun q => ⟨q, PySem.W.cellsFrom_some _ _ _ (.inl q)⟩
  refine codeAny_call_function hr.depth (KX _ _ lk) rfl S.co S.gen rfl (PySem.W.codeRec_of KX hcd) (hb _ _ _ _ (wpAny_newFunctionEnv_cells S.kind kinds fun env he s1 x => ?_))
  cases he
  refine ⟨lim.keeps x.toInCall.keep, codeAny_func ?_⟩
  obtain ⟨t, ht, hq⟩ := hbody cdv A outer s H vs Q E hg (hr.deeper _) hsp
  refine wpAny_mono (ht.nox.run [] s1 (start N vs) H _ (inv_start S hr.hd e0 hl r x) hq) (fun fl s' hs => ?_) fun _ _ z => z
  rcases fl with u | _ | _ | _
  all_goals first
    | exact (let ⟨v, σ', H', J, rv, q⟩ := hs; ⟨v, H', J.os, J.bare, J.base, J.hok, rv, q⟩)
    | exact (let ⟨σ', H', J, q⟩ := hs; ⟨V.non, H', J.os, J.bare, J.base, J.hok, rfl, q⟩)
    | exact (let ⟨_, _, _, q⟩ := hs; q.elim)
end
/-! ### a def of the text that is called where no guard stands -/
structure Dg (P : Program) (w : World) (K : PySem.W.Frag) (mg : Str → Option Value) (base : Heap) (k : Nat) (x : Str) (f : Addr) (ps : List Str) (sp : Sp) : Prop where
  fn : ∃ fd, FnG P w K mg base k f fd ps sp ∧ Binds K fd ps []
  at_ : mg x = some (.ref f)
  kp : PySem.W.keepIn K (.ref f) = true
theorem Dt.okG {P : Program} {w : World} {K : PySem.W.Frag} {mg : Str → Option Value} {base : Heap} {x : Str} {st : Stmt} {f : Addr} {N ps : List Str} {k : Nat} {sp : Sp} (T : Dt K mg x st ps f) (S : FnScope N ps (defScope st)) (len : ∀ vs H Q E, sp vs H Q E → vs.length = ps.length)
    (hbody : ∀ (cdv : Value) (A : Around) (outer : List Env) (s : Shared) (H : Hp) (vs : List V) (Q : VK) (E : XK), A.guards = some [] → Room k (A.deeper (envOfC x (defScope st) s.heap.objs.size f cdv)) → sp vs H Q E →
      ∃ t, PSs (cxOf CX0 P w K mg base N x (defScope st) f cdv A outer s H E).nox (defBody st) t ∧ t { nx := fun _ H' => Q .non H', rt := Q } (start N vs) H) : Dg P w K mg base (k + 1) x f ps sp := by
  obtain ⟨fd, F, b⟩ := T.fn
  exact ⟨⟨fd, fnG_ok F S len hbody, b⟩, T.at_, F.kp⟩
section
variable {X : Cx} {k : Nat} {x : Str} {f : Addr} {fd : FuncData} {ps : List Str} {sp : Sp} {e : Expr} {es : List Expr} {t : TA} {p pos : Pos}
theorem run_fnG {pins : List (Addr × Obj)} {σ : L2.St} {H : Hp} {s : Shared} {Q : VK} {us : List Value} {vs : List V} (F : FnG X.prog X.w X.K X.mg X.base k f fd ps sp) (hg : X.A.guards = some []) (hr : Room k X.A) (hb : Binds X.K fd ps []) (I : Inv X pins σ H s) (r : Vals vs us) (h : sp vs H Q E0) :
    wpAny (model X.prog X.w) X.A (call (.ref f) us) (EP X pins σ Q) X.xe s := by
  have ln : us.length = ps.length := r.length.symm.trans (F.len _ _ _ _ h)
  have bd := hb s us I.kIn (by rw [List.append_nil]; exact ln)
  rw [List.append_nil] at bd
  refine wpAny_call (codeAny_mono (F.run X.A X.stack s H ⟨us, []⟩ us vs Q E0 hg hr I.env0 bd r h) fun z s' hq => ?_)
  rcases z with z | u | _ | _ | _ <;> first | exact I.after hq | exact pass0 pins σ H s z s' I hq | exact hq.elim
theorem pe_dg (D : Dg X.prog X.w X.K X.mg X.base k x f ps sp) (hg : X.A.guards = some []) (hr : Room k X.A) (ha : PA X (e :: es) t) (hgl : Gl X x := by rfl) (hd : (x == ("__debug__" : Str)) = false := by decide)
    (he : starEach (e :: es) X.env = (false, eval e X.env) :: starEach es X.env := by rfl) (hpl : (backTo pos (starEach es X.env)).any (·.1) = false := by rfl) : PE X (.Call (.Name x p) (e :: es) [] pos) (tCall sp [] E0 t) := by
  obtain ⟨fd, F, b⟩ := D.fn
  refine ⟨fun pins s σ H Q I h => wpAny_Call_Name_kw (ld_glob I hgl D.at_ ?_ hd)⟩
  refine PySem.W.callWith_K (h₀ := X.base) I.ok.mod.kin D.kp (thn (ha.run pos pins s σ H _ I h) fun us s1 ⟨vs, H1, I1, r, q⟩ => ⟨I1.kIn, run_fnG F hg hr b I1 r ?_⟩) he hpl
  have q2 : sp (vs ++ []) H1 Q E0 := q
  rw [List.append_nil] at q2
  exact q2
/-! ### repr of lists and tuples -/
def cRepr (K : PySem.W.Frag) : List V → Hp → VK → Prop := fun xs H Q => ∃ a d, xs = [.ref a] ∧ Dp K H (.ref a) d ∧ d.showable = true ∧ d.hasDict = false ∧ d.depth ≤ 60 ∧ d.shown.length ≤ sizeLine ∧ Q (.str d.shown) H
theorem call_reprA (hg : X.A.guards = some []) (hu : X.A.units + 64 < cLine) : CallR X (.builtin "repr") (cRepr X.K) := by
  intro pins s σ H xs us Q I r h
  obtain ⟨a, d, rfl, hD, hs, hn, hp, hz, q⟩ := h
  obtain ⟨u, rfl, r1⟩ := vals1 r
  cases r1
  obtain ⟨as, rd⟩ := Dp.reads I d _ _ hD rfl
  exact repr_of_reads' rd hs (fun z => by rw [hn] at z; cases z) hg (by omega) (fun _ _ e => e) (fun h' u tk hk => ⟨.str d.shown, H, I.kept hk, ⟨u, rfl⟩, q⟩) hz
end
/-! ### the law itself: it is called where no guard stands -/
section
variable {P : Program} {w : World} {K : PySem.W.Frag} {mg mb : Str → Option Value} {k : Nat} {fa a : Addr} {fd : FuncData} {x : Str} {sp : Sp} {s1 : Shared} {vs : List Value} {ns : List Int}
/-- from a heap in which the script alone may be tracked -/
theorem law_from (KX : K.In s1.heap) (hns : s1.heap.Ns mainGlobals mg) (hb : s1.heap.Ns builtinsNs mb) (hbb : ∀ x : Str, x ≠ "__name__" → mb x = bootBuiltins x) (hlim : s1.heap.NoLimit) (hg : s1.gens = #[])
    (ha : s1.heap.get? a = some { cls := .type "list", data := .seq vs.toArray }) (hr : Room k callerA) (F : ∀ base : Heap, K.In base → base.Ns mainGlobals mg → FnG P w K mg base k fa fd [x] sp) (hbind : ∀ (s : Shared) (u : Value), BindsTo s fd ⟨[u], []⟩ [(x, u)])
    (H : Hp) (hO : Only H) (hq : sp [.ref a] H (fun v _ => v = .bl true) E0) (hok : HOk P w H s1.heap) (hA : ∀ b, H b ≠ none → b = a) (hK : H a ≠ none → K.lookup a = none) :
    codeAny (model P w) callerA (.call (.ref fa) ⟨[.ref a], []⟩) (fun r s' => r = .ok (.ret (.bool true)) ∧ OldK s1.heap s'.heap ∧ s'.os = s1.os ∧ AllBare s'.gens) s1 := by
  have free : ∀ b, b ≠ a → H b = none := fun b nb => by
    cases q : H b with
    | none => rfl
    | some u => exact absurd (hA b (by rw [q]; nofun)) nb
  have dictFree : ∀ {b : Addr} {m : Str → Option Value}, s1.heap.Ns b m → (hidT s1.heap H).Ns b m := by
    rintro b m ⟨o, es, ep, e, d, r⟩
    refine ⟨o, es, ep, hidT_get e (free b ?_), d, r⟩
    rintro rfl
    rw [ha] at e
    cases e
    cases d
  have hKb : K.In (hidT s1.heap H) := fun b o e => hidT_get (KX b o e) (by
    cases q : H b with
    | none => rfl
    | some u =>
      cases hA b (by rw [q]; nofun)
      rw [hK (by rw [q]; nofun)] at e
      cases e)
  obtain ⟨mc, lim1, lim2⟩ := hlim
  have hM : Mod K mg (hidT s1.heap H) := ⟨hKb, dictFree hns, ⟨mb, dictFree hb, hbb⟩, ⟨mc, dictFree lim1, lim2⟩⟩
  have e0 : Env0 P w K mg (hidT s1.heap H) callerA [] s1 H := ⟨rfl, hM, fun b o e => of_hidT e, Nat.le_of_eq (hidT_size _ _), trivial, fun b hb => (List.not_mem_nil (show b ∈ ([] : List Addr) from hb)).elim, hok, .of_eq hg⟩
  refine codeAny_mono ((F _ hKb (dictFree hns)).run callerA [] s1 H ⟨[.ref a], []⟩ [.ref a] [.ref a] _ _ rfl hr e0 (hbind s1 (.ref a)) (.cons rfl .nil) hq) fun r s' h => ?_
  cases r with
  | error e => exact False.elim h
  | ok fl => cases fl with
    | ret u =>
      obtain ⟨v, H', os, bare, un, hok', r', q'⟩ := h
      cases (show v = .bl true from q')
      cases (show u = Value.bool true from r')
      refine ⟨rfl, OldK.of_keep fun b o e => ?_, os, bare⟩
      rcases hO b with z | ⟨ob, xs, z⟩
      · exact un.keep b o e z (fun q => (List.not_mem_nil (show b ∈ ([] : List Addr) from q)).elim) (by simp)
      · obtain ⟨e1, _⟩ := hok b _ z
        obtain ⟨e2, _⟩ := hok' b _ (un.frzs b ob _ z)
        rw [e] at e1
        cases e1
        exact e2
    | _ => exact False.elim h
theorem law_callG (KX : K.In s1.heap) (hns : s1.heap.Ns mainGlobals mg) (hb : s1.heap.Ns builtinsNs mb) (hbb : ∀ x : Str, x ≠ "__name__" → mb x = bootBuiltins x) (hlim : s1.heap.NoLimit) (hg : s1.gens = #[])
    (ha : s1.heap.get? a = some { cls := .type "list", data := .seq vs.toArray }) (hi : IntsAre vs ns) (hl : ns.length ≤ sizeLine) (hr : Room k callerA) (F : ∀ base : Heap, K.In base → base.Ns mainGlobals mg → FnG P w K mg base k fa fd [x] sp)
    (hbind : ∀ (s : Shared) (u : Value), BindsTo s fd ⟨[u], []⟩ [(x, u)]) (hsp : ∀ H : Hp, Only H → SqL K H a (ns.map V.int) → sp [.ref a] H (fun v _ => v = .bl true) E0) :
    codeAny (model P w) callerA (.call (.ref fa) ⟨[.ref a], []⟩) (fun r s' => r = .ok (.ret (.bool true)) ∧ OldK s1.heap s'.heap ∧ s'.os = s1.os ∧ AllBare s'.gens) s1 := by
  have core := law_from (P := P) (w := w) (sp := sp) KX hns hb hbb hlim hg ha hr F hbind
  have lenV := hi.length
  have rv := vals_ints hi
  cases hk : K.lookup a with
  | some o =>
    have e := ha.symm.trans (KX a o hk)
    cases e
    have hO : Only (fun _ => none) := fun _ => .inl rfl
    exact core _ hO (hsp _ hO (.inr ⟨_, vs.toArray, _, hk, rfl, rfl, rfl, by rw [List.size_toArray, lenV]; exact hl, by simpa using rv⟩)) (fun b u z => nomatch (show (none : Option HO) = some u from z)) (fun b z => absurd rfl z) (fun z => absurd rfl z)
  | none =>
    have at_ : (fun b => if b = a then some (HO.frz { cls := .type "list", data := .seq vs.toArray } (.lst (ns.map V.int))) else none : Hp) a = some (HO.frz { cls := .type "list", data := .seq vs.toArray } (.lst (ns.map V.int))) := if_pos rfl
    have off : ∀ b, b ≠ a → (fun b => if b = a then some (HO.frz { cls := .type "list", data := .seq vs.toArray } (.lst (ns.map V.int))) else none : Hp) b = none := fun b nb => if_neg nb
    generalize (fun b => if b = a then some (HO.frz { cls := .type "list", data := .seq vs.toArray } (.lst (ns.map V.int))) else none : Hp) = H at at_ off
    have hO : Only H := fun b => (Decidable.em (b = a)).elim (fun e => .inr ⟨_, _, e ▸ at_⟩) fun e => .inl (off b e)
    refine core H hO (hsp H hO (.inl (.inr ⟨_, at_⟩))) (fun b u z => ?_) (fun b z => Decidable.byContradiction fun e => z (off b e)) fun _ => hk
    obtain rfl : b = a := Decidable.byContradiction fun e => nomatch (off b e).symm.trans z
    cases at_.symm.trans z
    exact ⟨ha, by rw [List.length_map]; exact hl, vs, _, rv, ha⟩
end
theorem walk_G {l : PySem.W.OpenLaw} {n k : Nat} {q : Program} {loose : List Str} {XP : (Str → Option Value) → Heap → Prop} {YP : World → Heap → Prop} {d : DefRec} {K : Params → PySem.W.Frag} {sp : World → Sp} {x : Str} (hn : l.most = some n) (hn2 : n ≤ sizeLine) (hdf : d.params.defaults = []) (hr : Room k callerA)
    (hY : ∀ (w : World) (h : Heap), YP w h → (K w.params).In h) (F : ∀ (w : World) (mg : Str → Option Value) (fa : Addr) (h : Heap), (K w.params).In h → h.Ns mainGlobals mg → mg d.name = some (.ref fa) →
      ∃ fd : FuncData, (∀ (s : Shared) (u : Value), BindsTo s fd ⟨[u], []⟩ [(x, u)]) ∧ ∀ base : Heap, (K w.params).In base → base.Ns mainGlobals mg → FnG l.prog w (K w.params) mg base k fa fd [x] (sp w))
    (hsp : ∀ (w : World) (H : Hp) (a : Addr) (ns : List Int), ns.length ≤ n → (∀ z ∈ ns, Builtin.Int.intBits z ≤ 1048576) → Only H → SqL (K w.params) H a (ns.map V.int) → sp w [.ref a] H (fun v _ => v = .bl true) E0) : PySem.W.WalkO q loose XP YP l.row.toRowW d [] (fun f vs => PySem.call f vs) := by
  refine Att.attach_callB hn hdf fun w s0 s1 mg mb fa o pm cd doc a vs ns G Y ho hd hcd hmg hobj hints hlen hbits hg => ?_
  obtain ⟨fd, hb, hF⟩ := F w mg fa _ (hY w _ Y) G.T.g hmg
  exact law_callG (hY w _ Y) G.T.g G.T.b G.T.builtins G.T.nolimit hg hobj hints (Nat.le_trans hlen hn2) hr hF hb fun H hO hS => hsp w H a ns hlen hbits hO hS
end Kt

set_option Elab.async false
set_option linter.all false
set_option maxRecDepth 100000
namespace Kt
open PySem PySem.Spec L2 PyProof.Rows
/-! ### instances of a class without an own __eq__: == is being the same -/
section
variable {M : Model} {prog : Program} {w : World} {A : Around} {E : Value → Shared → Prop} {s : Shared} {K : PySem.W.Frag} {x y C dx dy : Addr} {od od2 : Option Obj}
theorem isSame_inst {R : Bool → Shared → Prop} (hx : s.heap.get? x = some (PySem.W.instObj C dx)) (hy : s.heap.get? y = some (PySem.W.instObj C dy)) (h : R (decide (x = y)) s) : wpAny M A (isSame (.ref x) (.ref y)) R E s := by
  unfold isSame
  by_cases e : x = y
  · subst e
    rw [decide_eq_true rfl] at h
    refine wpAny_ite_split (fun _ => wpAny_pure h) (fun q => absurd (beq_self_eq_true x) (by simpa using q))
  · rw [decide_eq_false e] at h
    refine wpAny_ite_split (fun q => absurd (beq_iff_eq.mp q) e) (fun _ => ?_)
    refine wpAny_bind (PySem.W.nd_load hx (wpAny_pure ?_))
    refine wpAny_bind (PySem.W.nd_load hy (wpAny_pure ?_))
    exact wpAny_pure h
theorem objEq_inst {Q : Fin → Shared → Prop} (hx : s.heap.get? x = some (PySem.W.instObj C dx)) (hy : s.heap.get? y = some (PySem.W.instObj C dy)) (hq : Q (.done (.ret (if x = y then .bool true else .notImplemented))) s) : wpAny M A (Builtin.«object.__eq__» ⟨[.ref x, .ref y], []⟩) Q E s := by
  unfold Builtin.«object.__eq__»
  repeat (first | with_reducible refine isSame_inst hx hy ?_ | wp_step)
  by_cases e : x = y
  · rw [if_pos e] at hq
    rw [decide_eq_true e]
    exact wpAny_pure hq
  · rw [if_neg e] at hq
    rw [decide_eq_false e]
    exact wpAny_pure hq
theorem try_inst (X : K.In s.heap) (I : PySem.W.InstAt s.heap x (PySem.W.instObj C dx) C od) (hm : PySem.W.mroIn K C (.type "object") = some true) (hs : PySem.W.findIn K (.ref C) "__eq__" = some (some (.builtin "object.__eq__"))) (hy : s.heap.get? y = some (PySem.W.instObj C dy)) :
    wpAny (model prog w) A (tryCompare (.ref x) "__eq__" (.ref y)) (fun r s' => r = (if x = y then some (Value.bool true) else none) ∧ s' = s) E s := by
  unfold tryCompare
  refine wpAny_bind (HN.ifBound_objEq X I hs (wpAny_call (codeAny_call_builtin F.cmp_object.eq.plain F.cmpEntry_eq (PySem.W.check_slot F.cmpKind_eq F.cmpSplit_eq (I.type.andThen (PySem.W.looks_mroIn X hm)) (F.cmpArgs_eq _ _) (objEq_inst I.at_ hy ?_)))))
  by_cases e : x = y
  · rw [if_pos e, if_pos e]
    exact wpAny_pure ⟨rfl, rfl⟩
  · rw [if_neg e, if_neg e]
    exact wpAny_pure ⟨rfl, rfl⟩
theorem rc_inst (hu : A.units < cLine) (X : K.In s.heap) (I : PySem.W.InstAt s.heap x (PySem.W.instObj C dx) C od) (J : PySem.W.InstAt s.heap y (PySem.W.instObj C dy) C od2) (hm : PySem.W.mroIn K C (.type "object") = some true) (hs : PySem.W.findIn K (.ref C) "__eq__" = some (some (.builtin "object.__eq__"))) {Q : Value → Shared → Prop}
    (h : Q (.bool (decide (x = y))) s) : wpAny (model prog w) A (richCompare .Eq (.ref x) (.ref y)) Q E s := by
  simp only [richCompare, cmpInfo_Eq, oneThing_ref]
  refine wpAny_holding (wpAny_bind (wpAny_cRoomFor hu ?_))
  refine wpAny_bind (I.type.here (wpAny_bind (J.type.here ?_)))
  rw [if_neg (by simp)]
  refine wpAny_bind (wpAny_pure ?_)
  simp only [Bool.false_eq_true, if_false, Bool.not_false, if_true]
  refine wpAny_bind (m := tryCompare (.ref x) _ (.ref y)) (wpAny_mono (try_inst X I hm hs J.at_) (fun r s1 z => ?_) fun _ _ e => e)
  obtain ⟨z1, z2⟩ := z
  subst z2
  by_cases e : x = y
  · rw [if_pos e] at z1
    subst z1
    rw [decide_eq_true e] at h
    exact wpAny_pure h
  · rw [if_neg e] at z1
    subst z1
    refine wpAny_bind (m := tryCompare (.ref y) _ (.ref x)) (wpAny_mono (try_inst X J hm hs I.at_) (fun r s2 z => ?_) fun _ _ e => e)
    obtain ⟨z1, z2⟩ := z
    subst z2
    rw [if_neg (fun q => e q.symm)] at z1
    subst z1
    exact wpAny_bind (wpAny_rule (wpAny_bind (isSame_inst I.at_ J.at_ (wpAny_pure h))))
end
def rEqIns (K : PySem.W.Frag) : R2 := fun x y H Q => ∃ a b C dx fs dy gs, x = .ref a ∧ y = .ref b ∧ H a = some (.ins C dx fs) ∧ H b = some (.ins C dy gs) ∧ PySem.W.mroIn K C (.type "object") = some true ∧ PySem.W.findIn K (.ref C) "__eq__" = some (some (.builtin "object.__eq__")) ∧ Q (.bl (decide (a = b))) H
theorem op_eqIns {X : Cx} (hu : X.A.units + 64 < cLine) : OpR X (compareOp .Eq) (rEqIns X.K) := by
  intro pins s σ H x y v u Q I rx ry h
  obtain ⟨a, b, C, dx, fs, dy, gs, rfl, rfl, h1, h2, hm, he, q⟩ := h
  cases (show v = Value.ref a from rx)
  cases (show u = Value.ref b from ry)
  obtain ⟨_, O1, _⟩ := ins_get I.hok h1
  obtain ⟨_, O2, _⟩ := ins_get I.hok h2
  obtain ⟨_, J1, _⟩ := O1.look
  obtain ⟨_, J2, _⟩ := O2.look
  exact rc_inst (by omega) I.kIn J1 J2 hm he ⟨.bl _, H, I, rfl, q⟩
end Kt

set_option Elab.async false
set_option linter.all false
set_option maxRecDepth 100000
namespace Kt
open PySem PySem.Spec L2 PyProof.Rows
section
variable {X : Cx} {C : Addr} {k : Nat} {ps : List Str} {sp : Sp}
/-! ### own __getitem__, own __len__ -/
def rIxOwn (C : Addr) (sp : Sp) : R2 := fun x y H Q => ∃ a dx fs, x = .ref a ∧ H a = some (.ins C dx fs) ∧ sp [.ref a, y] H Q E0
theorem pe_ixOwn {a b : Expr} {ta tb : TE} {pos : Pos} (M : Mf X.prog X.w X.K X.mg X.base k C "__getitem__" ps sp) (hfn : ∀ f, PySem.W.findIn X.K (.ref C) "__getitem__" = some (some (.ref f)) → PySem.W.fnIn X.K f = true) (hr : Room (k + 1) X.A) (ha : PE X a ta) (hb : PE X b tb)
    (hs : ∀ o i, subscripted b true o i = runValue (.builtin "lifetime.subscript" ⟨[o, i], []⟩) := by exact fun _ _ => rfl) : PE X (.Subscript a b pos) (tOp (rIxOwn C sp) ta tb) := by
  refine ⟨fun pins s σ H Q I h => Subscript_ (binT ha hb I h fun v u s2 x y H2 I2 rx ry q => ?_)⟩
  obtain ⟨o, dx, fs, rfl, ho, q⟩ := q
  cases (show v = Value.ref o from rx)
  obtain ⟨f, fd, F, b, hm⟩ := M.fn
  obtain ⟨ox, od, J⟩ := ins_at I2 ho
  obtain ⟨m, hF⟩ := I2.fr
  have bd := b s2 [.ref o, u] I2.kIn (by rw [List.append_nil]; exact F.len _ _ _ _ q)
  rw [List.append_nil] at bd
  refine PySem.W.sub_K hF I2.ok.mod.kin J hm.at_ (hfn f hm.at_) hm.fn (wpAny_call (codeAny_mono (F.run X.A.in1 X.stack s2 H2 ⟨[.ref o, u], []⟩ [.ref o, u] [.ref o, y] Q E0 hr.in1 I2.env0.in1 bd (.cons rfl (.cons ry .nil)) q) fun z s' hq => ?_)) (hs _ _)
  cases z with
  | error e => exact pass0 pins σ H2 s2 e s' I2 hq
  | ok fl => cases fl with
    | ret u => exact I2.after hq
    | _ => exact False.elim hq
def cLenOwn (C : Addr) (sp : Sp) : List V → Hp → VK → Prop := fun xs H Q => ∃ a dx fs, xs = [.ref a] ∧ H a = some (.ins C dx fs) ∧ sp [.ref a] H (fun v H' => ∃ n : Nat, v = .int n ∧ (n : Int) < 2 ^ 62 ∧ Q (.int n) H') E0
theorem call_lenOwn (M : Mf X.prog X.w X.K X.mg X.base k C "__len__" ps sp) (hr : Room (k + 1) X.A) : CallR X (.builtin "len") (cLenOwn C sp) := by
  intro pins s σ H xs us Q I r h
  obtain ⟨a, dx, fs, rfl, ha, q⟩ := h
  obtain ⟨u, rfl, r1⟩ := vals1 r
  cases r1
  obtain ⟨f, fd, F, b, hm⟩ := M.fn
  obtain ⟨ox, od, J⟩ := ins_at I ha
  obtain ⟨m, hF⟩ := I.fr
  have bd := b s [.ref a] I.kIn (by rw [List.append_nil]; exact F.len _ _ _ _ q)
  rw [List.append_nil] at bd
  refine PySem.W.len_K hF I.ok.mod.kin J hm.at_ hm.fn (wpAny_call (codeAny_mono (F.run X.A.in1 X.stack s H ⟨[.ref a], []⟩ [.ref a] [.ref a] _ E0 hr.in1 I.env0.in1 bd (.cons rfl .nil) q) fun z s' hq => ?_))
  cases z with
  | error e => exact pass0 pins σ H s e s' I hq
  | ok fl => cases fl with
    | ret u =>
      obtain ⟨v, H', I3, rv, n, rfl, hn, q3⟩ := I.after hq
      obtain ⟨t, rfl⟩ := rv
      exact ⟨⟨by omega, by omega⟩, ⟨.int n, H', I3.tok _, ⟨_, rfl⟩, q3⟩⟩
    | _ => exact False.elim hq
/-! ### len(range(n)) -/
def tLenRng (te : TE) : TE := fun σ H Q => te σ H fun x H1 => ∃ n : Nat, x = .int n ∧ (n : Int) < 2 ^ 62 ∧ Q (.int n) H1
theorem pe_lenRng {e : Expr} {te : TE} {p1 p2 pos pos2 : Pos} (he : PE X e te) (g1 : X.mg "len" = none) (g2 : X.mg "range" = none) (l1 : Gl X "len" := by rfl) (l2 : Gl X "range" := by rfl) (h1 : starEach [e] X.env = [(false, eval e X.env)] := by rfl)
    (h2 : starEach [.Call (.Name "range" p2) [e] [] pos2] X.env = (false, eval (.Call (.Name "range" p2) [e] [] pos2) X.env) :: starEach [] X.env := by rfl) (h3 : (backTo pos (starEach [] X.env)).any (·.1) = false := by rfl) :
    PE X (.Call (.Name "len" p1) [.Call (.Name "range" p2) [e] [] pos2] [] pos) (tLenRng te) := by
  refine ⟨fun pins s σ H Q I h => wpAny_Call_Name_kw (ld_blt I l1 g1 PySem.boot_len (callWith_builtin1 ?_ h2 h3))⟩
  rw [h2]
  refine Calls.spliced_cons ?_
  refine Call_ (ld_blt I l2 g2 boot_range (PyProof.Rows.callWith_type1 (e := e) (rest := []) ?_ h1 rfl))
  rw [h1]
  refine Calls.spliced_cons (thn (he.run pins s σ H _ I h) fun u s1 ⟨x, H1, I1, r1, n, e1, hn, q⟩ => ?_)
  subst e1
  obtain ⟨t, rfl⟩ := r1
  refine Calls.spliced_nil (call_range_1 ?_)
  refine Calls.spliced_nil (call_len_range (n := n) (Heap.get?_push_size _ rfl) ?_ (by omega) ⟨.int n, H1, I1.kept fun b o z => Heap.get?_push_of_some _ z, ⟨_, rfl⟩, q⟩)
  rw [rangeSize_one]
  split <;> omega
theorem r_lenRng {σ : L2.St} {H : Hp} {Q : VK} {te : TE} (h : te σ H fun x H1 => ∃ n : Nat, x = .int n ∧ (n : Int) < 2 ^ 62 ∧ Q (.int n) H1) : tLenRng te σ H Q := h
end
end Kt

set_option Elab.async false
set_option linter.all false
set_option maxRecDepth 100000
namespace Kt
open PySem L2 PyProof.Rows
/-! ### data that may be shown: its texts are short -/
structure Sh (k W : Nat) (d : PyData) : Prop where
  ok : Okd k d
  sh : d.showable = true
  sm : d.leavesShort 64 = true
  wt : d.weight ≤ W
theorem Sh.nd {k W : Nat} {d : PyData} (h : Sh k W d) : d.hasDict = false := PyData.hasDict_of_canLay d h.ok.1
theorem Sh.fits {k W : Nat} {d : PyData} (h : Sh k W d) (hW : W ≤ 200000) : d.shown.length ≤ sizeLine := by
  have h1 := PyData.shown_le 64 (by decide) d h.sm
  have h2 : (64 + 2) * d.weight ≤ 66 * 200000 := Nat.mul_le_mul (by omega) (Nat.le_trans h.wt hW)
  have e : sizeLine = 16777216 := by decide
  omega
theorem Sh.up {k k' W W' : Nat} {d : PyData} (h : Sh k W d) (hk : k ≤ k') (hW : W ≤ W') : Sh k' W' d := ⟨⟨h.ok.1, Nat.le_trans h.ok.2 hk⟩, h.sh, h.sm, Nat.le_trans h.wt hW⟩
theorem sh_int {k : Nat} {i : Int} (h : i.natAbs < 10 ^ 60) : Sh k 200 (.int i) := by
  refine ⟨okd_int i, ?_, ?_, ?_⟩
  · rw [PyData.showable]
    refine decide_eq_true ?_
    have h2 : i.natAbs < 2 ^ 200 := Nat.lt_trans h (by decide)
    by_cases h0 : i.natAbs = 0
    · rw [h0]; decide
    · exact Nat.lt_trans ((Nat.log2_lt h0).mpr h2) (by decide)
  · rw [PyData.leavesShort]
    refine decide_eq_true ?_
    have e := int_text_length_le10 (k := 60) (by decide) h
    show (Str.ofString (toString i)).length ≤ 64
    rw [PySem.ofString_length]
    omega
  · rw [PyData.weight]
    have h2 : i.natAbs < 2 ^ 200 := Nat.lt_trans h (by decide)
    by_cases h0 : i.natAbs = 0
    · rw [h0]
      split
      · decide
      · decide
    · have := (Nat.log2_lt h0).mpr h2
      split
      · decide
      · omega
theorem sh_non {k : Nat} : Sh k 0 .none := ⟨okd_non, rfl, rfl, Nat.le_refl _⟩
theorem sh_bl {k : Nat} (b : Bool) : Sh k 1 (.bool b) := ⟨okd_bl b, rfl, rfl, by cases b <;> decide⟩
theorem sh_all {k W : Nat} : ∀ {ds : List PyData}, (∀ d ∈ ds, Sh k W d) → PyData.showableAll ds = true ∧ PyData.leavesShortAll 64 ds = true ∧ PyData.weightAll ds ≤ ds.length * (W + 1)
  | [], _ => ⟨rfl, rfl, Nat.zero_le _⟩
  | d :: ds, h => by
    obtain ⟨h1, h2, h3⟩ := sh_all (ds := ds) fun x m => h x (List.mem_cons_of_mem _ m)
    have g := h d List.mem_cons_self
    refine ⟨?_, ?_, ?_⟩
    · rw [PyData.showableAll, g.sh, h1]; rfl
    · rw [PyData.leavesShortAll, g.sm, h2]; rfl
    · rw [PyData.weightAll, List.length_cons, Nat.succ_mul]
      have := g.wt
      omega
theorem sh_list {k W : Nat} {ds : List PyData} (h : ∀ d ∈ ds, Sh k W d) : Sh (k + 1) (ds.length * (W + 1)) (.list ds) := by
  obtain ⟨h1, h2, h3⟩ := sh_all h
  exact ⟨okd_list fun d m => (h d m).ok, by rw [PyData.showable]; exact h1, by rw [PyData.leavesShort]; exact h2, by rw [PyData.weight]; exact h3⟩
theorem sh_tuple {k W : Nat} {ds : List PyData} (h : ∀ d ∈ ds, Sh k W d) : Sh (k + 1) (ds.length * (W + 1)) (.tuple ds) := by
  obtain ⟨h1, h2, h3⟩ := sh_all h
  exact ⟨okd_tuple fun d m => (h d m).ok, by rw [PyData.showable]; exact h1, by rw [PyData.leavesShort]; exact h2, by rw [PyData.weight]; exact h3⟩
theorem sh_ints {k : Nat} {ns : List Int} (h : ∀ n ∈ ns, n.natAbs < 10 ^ 60) : Sh (k + 1) (ns.length * 201) (dInts ns) := by
  have := sh_list (k := k) (W := 200) (ds := ns.map PyData.int) fun d m => by
    obtain ⟨i, hi, rfl⟩ := List.mem_map.mp m
    exact sh_int (h i hi)
  rw [List.length_map] at this
  exact this
end Kt

set_option Elab.async false
set_option linter.all false
set_option maxRecDepth 100000
namespace Kt
open PySem PySem.Spec L2 PyProof.Rows
/-! ### own __eq__ by == and by != -/
section
variable {prog : Program} {w : World} {A : Around} {E : Value → Shared → Prop} {s : Shared} {K : PySem.W.Frag} {x y C f : Addr} {ox oy : Obj} {od od2 : Option Obj}
theorem ifBound_ne {M : Model} {args : List Value} {Q : Option Value → Shared → Prop} (X : K.In s.heap) (I : PySem.W.InstAt s.heap x ox C od) (hs : PySem.W.findIn K (.ref C) "__ne__" = some (some (.builtin "object.__ne__")))
    (h : wpAny M A (call (.builtin "object.__ne__") (.ref x :: args)) (fun v => Q (some v)) E s) : wpAny M A (callSpecialIfBound? (.ref x) "__ne__" args) Q E s := by
  simp only [callSpecialIfBound?, bindSpecialIfBound?]
  refine wpAny_holding (wpAny_bind (wpAny_bind (wpAny_bind (I.type.here ((PySem.W.looks_findIn X hs).here ?_)))))
  refine wpAny_bind (wpAny_askSetting (wpAny_ite ?_))
  have fin : wpAny M A (call (.builtin "object.__ne__") ([.ref x] ++ args) >>= fun v => pure (some v)) Q E s := wpAny_bind (wpAny_mono h (fun v s' h' => wpAny_pure h') fun _ _ h' => h')
  split
  · exact wpAny_bind (wpAny_of_eq (F.cmp_object.ne.bind _) (wpAny_pure (by exact fin)))
  · exact wpAny_tryCatch (wpAny_bind (wpAny_of_eq (F.cmp_object.ne.bind _) (wpAny_pure (by exact fin))))
theorem objNe_own {b : Value} {Q : Fin → Shared → Prop} (hu : A.units < cLine) (X : K.In s.heap) (I : PySem.W.InstAt s.heap x ox C od) (hs : PySem.W.findIn K (.ref C) "__eq__" = some (some (.ref f))) (hf : PySem.W.isFn K (.ref f) = true)
    (hcall : wpAny (model prog w) A (call (.ref f) [.ref x, b]) (fun v s' => ∃ k, v = .bool k ∧ Q (.done (.ret (.bool (!k)))) s') E s) : wpAny (model prog w) A (Builtin.«object.__ne__» ⟨[.ref x, b], []⟩) Q E s := by
  unfold Builtin.«object.__ne__»
  repeat (first
    | with_reducible refine wpAny_cRoomFor hu ?_
    | (refine wpAny_bind (m := callSpecialIfBound? (.ref x) (Str.ofString "__eq__") [b])
        (PySem.W.ifBound_K X I hs hf (wpAny_mono hcall (fun r s' hr => by
          obtain ⟨k, rfl, hq⟩ := hr
          repeat (first | exact hq | exact wpAny_pure hq | exact wpAny_truthy_bool hq | (refine wpAny_bind (m := truthy (.bool _)) (wpAny_truthy_bool ?_)) | wp_step)) fun _ _ e => e)))
    | wp_step)
theorem ne_own {b tb : Value} {Q : Value → Shared → Prop} (hu : A.units + 1 < cLine) (X : K.In s.heap) (I : PySem.W.InstAt s.heap x ox C od) (hb : PySem.W.Looks (model prog w) s.heap (typeOf b) tb) (hn : PySem.W.notFirst K C tb = true)
    (hm : PySem.W.mroIn K C (.type "object") = some true) (hne : PySem.W.findIn K (.ref C) "__ne__" = some (some (.builtin "object.__ne__"))) (hs : PySem.W.findIn K (.ref C) "__eq__" = some (some (.ref f))) (hf : PySem.W.isFn K (.ref f) = true)
    (h : wpAny (model prog w) A.in1 (call (.ref f) [.ref x, b]) (fun v s' => ∃ k, v = .bool k ∧ Q (.bool (!k)) s') E s) : wpAny (model prog w) A (richCompare .NotEq (.ref x) b) Q E s := by
  have one : wpAny (model prog w) A (tryCompare (.ref x) "__ne__" b) (fun r s' => ∃ k, r = some (.bool k) ∧ Q (.bool k) s') E s := by
    unfold tryCompare
    refine wpAny_bind (ifBound_ne X I hne (wpAny_call (codeAny_call_builtin F.cmp_object.ne.plain F.cmpEntry_ne (PySem.W.check_slot F.cmpKind_ne F.cmpSplit_ne (I.type.andThen (PySem.W.looks_mroIn X hm)) (F.cmpArgs_ne _ _)
      (objNe_own (A := A.in1) hu X I hs hf (wpAny_mono h (fun v s' hv => ?_) fun _ _ e => e))))))
    obtain ⟨k, rfl, hq⟩ := hv
    exact ⟨k, rfl, wpAny_pure ⟨_, rfl, hq⟩⟩
  unfold richCompare
  simp only [oneThing_ref]
  refine wpAny_holding (wpAny_bind (wpAny_cRoomFor (by omega) ?_))
  rw [cmpInfo_NotEq]
  refine wpAny_bind (I.type.here (wpAny_bind (hb.here ?_)))
  split
  · rename_i q
    have e : PySem.W.subIn K tb (.ref C) = some false := by
      rcases Bool.or_eq_true_iff.mp hn with e | e
      · rw [beq_iff_eq.mp e] at q; simp at q
      · exact beq_iff_eq.mp e
    refine wpAny_bind ((PySem.W.looks_subIn X e).here ?_)
    simp only [Bool.false_eq_true, if_false]
    refine wpAny_bind (wpAny_mono one (fun r s' z => ?_) fun _ _ e => e)
    obtain ⟨v, rfl, hq⟩ := z
    exact wpAny_pure hq
  · refine wpAny_bind (wpAny_pure ?_)
    simp only [Bool.false_eq_true, if_false]
    refine wpAny_bind (wpAny_mono one (fun r s' z => ?_) fun _ _ e => e)
    obtain ⟨v, rfl, hq⟩ := z
    exact wpAny_pure hq
end
section
variable {X : Cx} {C : Addr} {k : Nat} {ps : List Str} {sp : Sp}
def rEqOwn (C : Addr) (sp : Sp) : R2 := fun x y H Q => ∃ a b dx fs dy gs, x = .ref a ∧ y = .ref b ∧ H a = some (.ins C dx fs) ∧ H b = some (.ins C dy gs) ∧ sp [.ref a, .ref b] H (fun v H' => ∃ k, v = .bl k ∧ Q (.bl k) H') E0
def rNeOwn (C : Addr) (sp : Sp) : R2 := fun x y H Q => ∃ a b dx fs dy gs, x = .ref a ∧ y = .ref b ∧ H a = some (.ins C dx fs) ∧ H b = some (.ins C dy gs) ∧ sp [.ref a, .ref b] H (fun v H' => ∃ k, v = .bl k ∧ Q (.bl (!k)) H') E0
theorem op_eqOwn (M : Mf X.prog X.w X.K X.mg X.base k C "__eq__" ps sp) (hr : Room k X.A) : OpR X (compareOp .Eq) (rEqOwn C sp) := by
  intro pins s σ H x y v u Q I rx ry h
  obtain ⟨a, b, dx, fs, dy, gs, rfl, rfl, ha, hb', q⟩ := h
  cases (show v = Value.ref a from rx)
  cases (show u = Value.ref b from ry)
  obtain ⟨f, fd, F, bb, hm⟩ := M.fn
  obtain ⟨ox, od, J⟩ := ins_at I ha
  obtain ⟨ox', od', J'⟩ := ins_at I hb'
  obtain ⟨m, hF⟩ := I.fr
  refine PySem.W.cmp_K (op := .Eq) (tb := .ref C) hr.units0 hF I.ok.mod.kin J J'.type (by simp [PySem.W.notFirst]) hm.at_ hm.fn ?_
  refine wpAny_mono (run_fn (us := [.ref a, .ref b]) (vs := [.ref a, .ref b]) F hr bb .nil pass0 I (.cons rfl (.cons rfl .nil)) (by rw [List.append_nil]; exact q)) (fun z s' hz => ?_) fun _ _ z => z
  obtain ⟨y', H', I', r', k, rfl, q'⟩ := hz
  cases r'
  exact ⟨.bl k, H', I', rfl, q'⟩
theorem op_neOwn (M : Mf X.prog X.w X.K X.mg X.base k C "__eq__" ps sp) (hr : Room (k + 1) X.A) (hmr : PySem.W.mroIn X.K C (.type "object") = some true) (hne : PySem.W.findIn X.K (.ref C) "__ne__" = some (some (.builtin "object.__ne__"))) : OpR X (compareOp .NotEq) (rNeOwn C sp) := by
  intro pins s σ H x y v u Q I rx ry h
  obtain ⟨a, b, dx, fs, dy, gs, rfl, rfl, ha, hb', q⟩ := h
  cases (show v = Value.ref a from rx)
  cases (show u = Value.ref b from ry)
  obtain ⟨f, fd, F, bb, hm⟩ := M.fn
  obtain ⟨ox, od, J⟩ := ins_at I ha
  obtain ⟨ox', od', J'⟩ := ins_at I hb'
  obtain ⟨m, hF⟩ := I.fr
  have bd := bb s [.ref a, .ref b] I.kIn (by rw [List.append_nil]; exact F.len _ _ _ _ q)
  rw [List.append_nil] at bd
  refine ne_own (tb := .ref C) (by have := hr.units; omega) I.kIn J J'.type (by simp [PySem.W.notFirst]) hmr hne hm.at_ hm.fn ?_
  refine wpAny_call (codeAny_mono (F.run X.A.in1 X.stack s H ⟨[.ref a, .ref b], []⟩ [.ref a, .ref b] [.ref a, .ref b] _ E0 hr.in1 I.env0.in1 bd (.cons rfl (.cons rfl .nil)) q) fun z s' hq => ?_)
  cases z with
  | error e => exact pass0 pins σ H s e s' I hq
  | ok fl => cases fl with
    | ret u =>
      obtain ⟨v, H', I3, rv, k, rfl, q3⟩ := I.after hq
      cases rv
      exact ⟨k, rfl, .bl (!k), H', I3, rfl, q3⟩
    | _ => exact False.elim hq
end
end Kt

set_option Elab.async false
set_option linter.all false
set_option maxRecDepth 100000
namespace Kt
open PySem L2 PyProof.Rows
section
variable {K : PySem.W.Frag} {σ : L2.St} {H : Hp} {D : Ends} {Q : VK} {a b : Addr} {xs ys : List V} {Ps : List SP} {g : TG} {tb : TS} {tr : TA}
def kZip (K : PySem.W.Frag) (R : It → Hp → Prop) : List V → Hp → Prop := fun vs H1 => ∃ a b xs ys, vs = [.ref a, .ref b] ∧ SqL K H1 a xs ∧ SqL K H1 b ys ∧ R (Itz K a b) H1
theorem r_izip {R : It → Hp → Prop} (h : tr σ H (kZip K R)) : iZip K tr σ H R := h
theorem r_for_zip (J : LW) (hlen : xs.length = ys.length) (S : Sep Ps H) (h0 : J 0 σ Ps) (hl : ∀ i σ Ps H, J i σ Ps → Sep Ps H → SqL K H a xs ∧ SqL K H b ys)
    (hs : ∀ i x y T σ Ps H, xs[i]? = some x → ys[i]? = some y → J i σ Ps → Sep (pt T (.tup [x, y]) :: Ps) H → g (.ref T) σ H fun σ2 H2 => tb { D with nx := Nx J (i + 1), ct := Nx J (i + 1), bk := D.nx } σ2 H2) (hd : ∀ σ Ps H, J xs.length σ Ps → Sep Ps H → D.nx σ H) :
    kZip K (fun Jt H1 => ForW Jt g tb D σ H1) [.ref a, .ref b] H :=
  ⟨a, b, xs, ys, rfl, (hl 0 σ Ps H h0 S).1, (hl 0 σ Ps H h0 S).2, RZ.for_zipL (K := K) (a := a) (b := b) hlen (Nx J) ⟨Ps, h0, S⟩ (fun i σ H ⟨Ps, j, S⟩ => hl i σ Ps H j S) (fun i x y T σ H hx hy ⟨Ps, j, S⟩ hT => hs i x y T σ Ps _ hx hy j (S.new _ hT)) fun σ H ⟨Ps, j, S⟩ => hd σ Ps H j S⟩
end
theorem pi_zipK {X : Cx} (K : PySem.W.Frag) {e e2 : Expr} {ta : TA} {p pos tpos : Pos} {elts : List Expr} {kk : Nat} (hg : Gl X "zip") (hm : X.mg "zip" = none) (ha : PA X [e, e2] ta) (hK : X.K = K := by rfl)
    (hs : starEach [e, e2] X.env = (false, eval e X.env) :: starEach [e2] X.env := by rfl) (hpl : (backTo pos (starEach [e2] X.env)).any (·.1) = false := by rfl) :
    PI X (.Tuple elts kk tpos) (.Call (.Name "zip" p) [e, e2] [] pos) (iZip K ta) := hK ▸ pi_zip hg hm ha hs hpl
section
variable {K : PySem.W.Frag} {σ : L2.St} {H : Hp} {D : Ends} {Q : VK} {a b : Addr} {xs ys : List V} {Ps : List SP} {g : TG} {tb : TS} {tr : TA}
theorem eqvAll_ints : ∀ a b : List Int, PyData.eqvAll (a.map PyData.int) (b.map PyData.int) = decide (a = b)
  | [], [] => by simp [PyData.eqvAll]
  | [], y :: b => by simp [PyData.eqvAll]
  | x :: a, [] => by simp [PyData.eqvAll]
  | x :: a, y :: b => by
    simp only [List.map_cons, PyData.eqvAll, eqvAll_ints a b, PyData.eqv]
    by_cases h : x = y
    · subst h
      simp
    · simp [h]
theorem eqv_ints (a b : List Int) : PyData.eqv (dInts a) (dInts b) = decide (a = b) := by
  unfold dInts
  rw [PyData.eqv]
  exact eqvAll_ints a b
theorem r_eq_ints {p q : Addr} {m1 m2 : List Int} (s1 : SqL K H p (m1.map V.int)) (s2 : SqL K H q (m2.map V.int)) (h : Q (.bl (decide (m1 = m2))) H) : rEqA K (.ref p) (.ref q) H Q :=
  .inr ⟨_, _, dp_ints s1, dp_ints s2, (okd_ints 0 _).shaped (by decide), (okd_ints 0 _).shaped (by decide), by rw [eqv_ints]; exact h⟩
theorem r_ne_ints {p q : Addr} {m1 m2 : List Int} (s1 : SqL K H p (m1.map V.int)) (s2 : SqL K H q (m2.map V.int)) (h : Q (.bl (!decide (m1 = m2))) H) : rNeA K (.ref p) (.ref q) H Q :=
  .inr ⟨_, _, dp_ints s1, dp_ints s2, (okd_ints 0 _).shaped (by decide), (okd_ints 0 _).shaped (by decide), by rw [eqv_ints]; exact h⟩
theorem r_par3 {i j l : Nat} (h : tr σ H fun vs H1 => ∃ u v w, vs = [u, v, w] ∧ D.nx (((σ.set i (some u)).set j (some v)).set l (some w)) H1) : tPar3 i j l tr D σ H := h
theorem r_parA3 {i j l : Nat} {x y z : V} {p : L2.St → Hp → Prop} (h : p (((σ.set i (some x)).set j (some y)).set l (some z)) H) : ∃ u v w, [x, y, z] = [u, v, w] ∧ p (((σ.set i (some u)).set j (some v)).set l (some w)) H := ⟨x, y, z, rfl, h⟩
def kRng2 (R : It → Hp → Prop) : List V → Hp → Prop := fun vs H1 => ∃ i j : Int, vs = [.int i, .int j] ∧ (-(2 ^ 62) ≤ i ∧ i < 2 ^ 62 ∧ -(2 ^ 62) ≤ j ∧ j < 2 ^ 62) ∧ R (Itr i (j - i).toNat) H1
theorem r_irng2 {R : It → Hp → Prop} (h : tr σ H (kRng2 R)) : iRng2 tr σ H R := h
theorem r_rep {n : Int} (S : Sep Ps H) (s : H a = some (.lst xs)) (h1 : 0 ≤ n) (h2 : n ≤ 1000) (hz : xs.length ≤ 1000) (h : ∀ p H', Sep (pt p (.lst (List.replicate n.toNat xs).flatten) :: Ps) H' → Q (.ref p) H') : rMulA (.ref a) (.int n) H Q :=
  .inr ⟨a, n, xs, rfl, rfl, s, by omega, by omega, Nat.le_trans (Nat.mul_le_mul hz (show n.toNat ≤ 1000 by omega)) (by decide), fun p np => h p _ (S.new _ np)⟩
theorem r_lc_itr {lo : Int} {n : Nat} {tt : TT} {te : TE} {vs : List Nat} (J : CW) (S : Sep Ps H) (h0 : J 0 [] Ps)
    (hs : ∀ D (i : Nat) acc Ps H, i < n → J i acc Ps → Sep (pt D (.lst acc) :: Ps) H → g (.int (lo + (i : Int))) (wipe σ vs) H fun σ2 H2 => wipe σ2 vs = wipe σ vs ∧ tt σ2 H2 fun b H3 =>
      if b = true then te σ2 H3 fun y H4 => ∃ acc, H4 D = some (.lst acc) ∧ acc.length < sizeLine ∧ CN J D (i + 1) (upd H4 D (.lst (acc ++ [y]))) else CN J D (i + 1) H3)
    (hd : ∀ D acc Ps H, J n acc Ps → Sep (pt D (.lst acc) :: Ps) H → Q (.ref D) H) : LcW (Itr lo n) g tt te vs Q σ H :=
  fun D nD => lc_range (CN J D) ⟨[], Ps, h0, S.new _ nD⟩ (fun i H hi ⟨acc, Ps, j, S⟩ => hs D i acc Ps H hi j S) fun H ⟨acc, Ps, j, S⟩ => hd D acc Ps H j S
theorem q_neB {x y : Bool} (h : Q (.bl (x != y)) H) : rNeA K (.bl x) (.bl y) H Q := .inl ⟨rfl, by
  have e : (!decide (V.bl x = V.bl y)) = (x != y) := by cases x <;> cases y <;> rfl
  rw [e]
  exact h⟩
theorem q_eqB {x y : Bool} (h : Q (.bl (x == y)) H) : rEqA K (.bl x) (.bl y) H Q := .inl ⟨rfl, by
  have e : decide (V.bl x = V.bl y) = (x == y) := by cases x <;> cases y <;> rfl
  rw [e]
  exact h⟩
end
end Kt

set_option Elab.async false
set_option linter.all false
set_option maxRecDepth 100000
namespace Kt
open PySem L2 PyProof.Rows
/-! ### data as parts of the heap -/
section
variable {K : PySem.W.Frag}
theorem Rd.le {G H : Hp} (l : Le G H) {a : Addr} {o : HO} (h : Rd G a o) : Rd H a o := by
  rcases h with h | ⟨ob, h⟩
  · exact .inl (l _ _ h)
  · exact .inr ⟨ob, l _ _ h⟩
theorem SqL.le {G H : Hp} (l : Le G H) {a : Addr} {xs : List V} (h : SqL K G a xs) : SqL K H a xs := h.imp (Rd.le l) id
theorem SqT.le {G H : Hp} (l : Le G H) {a : Addr} {xs : List V} (h : SqT K G a xs) : SqT K H a xs := h.imp (Rd.le l) id
mutual
theorem Dp.le {G H : Hp} (l : Le G H) : ∀ (d : PyData) (v : V), Dp K G v d → Dp K H v d
  | .none, _, h => by cases h; exact .non
  | .bool b, _, h => by cases h; exact .bl b
  | .int i, _, h => by cases h; exact .int i
  | .str x, _, h => by cases h; exact .str x
  | .list ds, _, h => by
    cases h with
    | lst s t => exact .lst (SqL.le l s) (DpAll.le l ds _ t)
  | .tuple ds, _, h => by
    cases h with
    | tup s t => exact .tup (SqT.le l s) (DpAll.le l ds _ t)
  | .dict _, _, h => by cases h
theorem DpAll.le {G H : Hp} (l : Le G H) : ∀ (ds : List PyData) (vs : List V), DpAll K G vs ds → DpAll K H vs ds
  | [], _, h => by cases h; exact .nil
  | d :: ds, _, h => by
    cases h with
    | cons h t => exact .cons (Dp.le l d _ h) (DpAll.le l ds _ t)
end
def dat (K : PySem.W.Frag) (p : Addr) (d : PyData) : SP := fun G => Dp K G (.ref p) d
def dall (K : PySem.W.Frag) (vs : List V) (ds : List PyData) : SP := fun G => DpAll K G vs ds
theorem Sep.join {P Q X : SP} {R : List SP} {H : Hp} (f : ∀ G1 G2 G, Le G1 G → Le G2 G → P G1 → Q G2 → X G) (S : Sep (P :: Q :: R) H) : Sep (X :: R) H :=
  (Sep.unflat (As := [P, Q]) S).hd_mono fun G ⟨G1, l1, p, G2, l2, q, _⟩ => f G1 G2 G l1 (fun a o e => (sub_some (l2 a o e)).2) p q
theorem dat_dp {p : Addr} {d : PyData} {R : List SP} {H : Hp} : Sep (dat K p d :: R) H → Dp K H (.ref p) d := fun ⟨_, l, h, _⟩ => Dp.le l d _ h
theorem dat_list {p : Addr} {vs : List V} {ds : List PyData} {R : List SP} {H : Hp} (S : Sep (pt p (.lst vs) :: dall K vs ds :: R) H) : Sep (dat K p (.list ds) :: R) H :=
  Sep.join (fun G1 G2 G l1 l2 h1 h2 => .lst (SqL.of (l1 _ _ h1)) (DpAll.le l2 _ _ h2)) S
theorem dat_flat {p : Addr} {vs : List V} {ds : List PyData} {R : List SP} {H : Hp} (h : ∀ G, DpAll K G vs ds) (S : Sep (pt p (.lst vs) :: R) H) : Sep (dat K p (.list ds) :: R) H :=
  S.hd_mono fun G e => .lst (SqL.of e) (h G)
theorem dall_nil {R : List SP} {H : Hp} (S : Sep R H) : Sep (dall K [] [] :: R) H :=
  ⟨fun _ => none, fun _ _ (e : (none : Option HO) = some _) => (Option.noConfusion rfl (heq_of_eq e)), .nil, S.mono fun a o e => by rw [sub_of rfl]; exact e⟩
theorem dall_flat {vs : List V} {ds : List PyData} {R : List SP} {H : Hp} (h : ∀ G, DpAll K G vs ds) (S : Sep R H) : Sep (dall K vs ds :: R) H :=
  ⟨fun _ => none, fun _ _ (e : (none : Option HO) = some _) => (Option.noConfusion rfl (heq_of_eq e)), h _, S.mono fun a o e => by rw [sub_of rfl]; exact e⟩
theorem dall_add {p : Addr} {d : PyData} {vs : List V} {ds : List PyData} {R : List SP} {H : Hp} (S : Sep (dat K p d :: dall K vs ds :: R) H) : Sep (dall K (vs ++ [.ref p]) (ds ++ [d]) :: R) H :=
  Sep.join (fun G1 G2 G l1 l2 h1 h2 => dpall_app (DpAll.le l2 _ _ h2) (.cons (Dp.le l1 _ _ h1) .nil)) S
theorem dall_cons {p : Addr} {d : PyData} {vs : List V} {ds : List PyData} {R : List SP} {H : Hp} (S : Sep (dat K p d :: dall K vs ds :: R) H) : Sep (dall K (.ref p :: vs) (d :: ds) :: R) H :=
  Sep.join (fun G1 G2 G l1 l2 h1 h2 => .cons (Dp.le l1 _ _ h1) (DpAll.le l2 _ _ h2)) S
theorem dpall_bls {G : Hp} : ∀ bs : List Bool, DpAll K G (bs.map V.bl) (bs.map PyData.bool)
  | [] => .nil
  | b :: bs => .cons (.bl b) (dpall_bls bs)
end
theorem sh_cons {k W W2 : Nat} {d : PyData} {ds : List PyData} (h : Sh k W d) (t : Sh (k + 1) W2 (.list ds)) : Sh (k + 1) (W + 1 + W2) (.list (d :: ds)) := by
  refine ⟨⟨?_, ?_⟩, ?_, ?_, ?_⟩
  · have := t.ok.1
    rw [PyData.canLay0] at this ⊢
    rw [PyData.canLayAll0, h.ok.1, this]; rfl
  · have h1 := t.ok.2
    have h2 := h.ok.2
    rw [PyData.depth] at h1 ⊢
    rw [PyData.depthAll]
    omega
  · have := t.sh
    rw [PyData.showable] at this ⊢
    rw [PyData.showableAll, h.sh, this]; rfl
  · have := t.sm
    rw [PyData.leavesShort] at this ⊢
    rw [PyData.leavesShortAll, h.sm, this]; rfl
  · have h1 := t.wt
    have h2 := h.wt
    rw [PyData.weight] at h1 ⊢
    rw [PyData.weightAll]
    omega
theorem sh_nil {k : Nat} : Sh (k + 1) 0 (.list []) := ⟨⟨rfl, by show PyData.depth (.list []) ≤ _; rw [PyData.depth]; exact Nat.succ_le_succ (Nat.zero_le _)⟩, rfl, rfl, by rw [PyData.weight]; exact Nat.le_refl _⟩
end Kt

set_option Elab.async false
set_option linter.all false
set_option maxRecDepth 100000
namespace Kt
open PySem PySem.Spec L2 PyProof.Rows
/-! ### the type of a value as a part of the heap -/
section
variable {K : PySem.W.Frag} {G H : Hp} {v : V} {t : Value} {T : String} {R : List SP}
theorem ty_mono (l : Le G H) (h : TyX K G v t) : TyX K H v t := by
  cases h with
  | base b =>
    cases b with
    | non => exact .base .non
    | bl x => exact .base (.bl x)
    | int i => exact .base (.int i)
    | str x => exact .base (.str x)
    | flt x => exact .base (.flt x)
    | lst e => exact .base (.lst (l _ _ e))
    | frz e => exact .base (.frz (l _ _ e))
    | tup e => exact .base (.tup (l _ _ e))
    | dK e => exact .base (.dK (l _ _ e))
    | dT e => exact .base (.dT (l _ _ e))
    | ins e cl ha hn htk hm => exact .base (.ins (l _ _ e) cl ha hn htk hm)
  | byt b => exact .byt b
  | set e => exact .set (l _ _ e)
  | kList e c => exact .kList e c
  | kTuple e c => exact .kTuple e c
  | kDict e c => exact .kDict e c
  | fTuple e => exact .fTuple (l _ _ e)
  | fDict e => exact .fDict (l _ _ e)
def tyP (K : PySem.W.Frag) (v : V) (T : String) : SP := fun G => TyX K G v (.type T)
theorem ty_of (S : Sep (tyP K v T :: R) H) : TyX K H v (.type T) := by
  obtain ⟨G, l, h, _⟩ := S
  exact ty_mono l h
theorem ty_nil (S : Sep R H) (h : TyX K (fun _ => none) v (.type T)) : Sep (tyP K v T :: R) H :=
  ⟨fun _ => none, fun _ _ (e : (none : Option HO) = some _) => (Option.noConfusion rfl (heq_of_eq e)), h, Sep.mono (H := H) (fun a o e => by rw [sub_of rfl]; exact e) S⟩
theorem kit_own {C : Addr} (h1 : PySem.W.isClsIn K C = true) (h2 : PySem.W.typeIn K (.ref C) = some (.type "type")) (h3 : PySem.W.subIn K (.type T) (.ref C) = some false) : PySem.W.kitOne K (.type T) (.ref C) = some false := by
  have e : ((Value.type T) == (Value.ref C)) = false := by rfl
  unfold PySem.W.kitOne PySem.W.kitCls
  rw [e, if_neg Bool.false_ne_true]
  show (if _ then _ else _) = _
  rw [h2, show (PySem.W.clsIn K C).isSome = true from h1]
  simpa using h3
theorem kit_base {C : Addr} (h1 : PySem.W.kitMeta T = true) (h3 : PySem.W.mroIn K C (.type T) = some false) : PySem.W.kitOne K (.ref C) (.type T) = some false := by
  have e : ((Value.ref C) == (Value.type T)) = false := by rfl
  unfold PySem.W.kitOne PySem.W.kitCls
  rw [e, if_neg Bool.false_ne_true]
  show (if _ then _ else _) = _
  rw [if_pos h1]
  exact h3
theorem ty_isInt (h : TyX K H v (.type "int")) : ∃ i, v = .int i := by
  generalize e : Value.type "int" = t at h
  cases h with
  | base b =>
    cases b with
    | int i => exact ⟨i, rfl⟩
    | _ => first | (exact absurd e (by simp)) | (cases e)
  | _ => first | (exact absurd e (by simp)) | (cases e)
end
section
variable {X : Cx} {C : Addr} {k : Nat} {ps : List Str} {sp : Sp}
/-! ### x in o by an own __contains__ -/
def rInOwn (C : Addr) (sp : Sp) : R2 := fun x y H Q => ∃ a dx fs, y = .ref a ∧ H a = some (.ins C dx fs) ∧ sp [.ref a, x] H (fun v H' => ∃ k, v = .bl k ∧ Q (.bl k) H') E0
theorem op_inOwn (M : Mf X.prog X.w X.K X.mg X.base k C "__contains__" ps sp) (hr : Room k X.A) : OpR X (compareOp .In) (rInOwn C sp) := by
  intro pins s σ H x y v u Q I rx ry h
  obtain ⟨a, dx, fs, rfl, ha, q⟩ := h
  cases (show u = Value.ref a from ry)
  obtain ⟨f, fd, F, bb, hm⟩ := M.fn
  obtain ⟨ox, od, J⟩ := ins_at I ha
  obtain ⟨m, hF⟩ := I.fr
  refine PySem.W.in_K hF I.ok.mod.kin J hm.at_ hm.fn ?_
  refine wpAny_mono (run_fn (us := [.ref a, v]) (vs := [.ref a, x]) F hr bb .nil pass0 I (.cons rfl (.cons rx .nil)) (by rw [List.append_nil]; exact q)) (fun z s' hz => ?_) fun _ _ z => z
  obtain ⟨y', H', I', r', k, rfl, q'⟩ := hz
  cases r'
  exact wpAny_truthy_bool ⟨.bl k, H', I', rfl, q'⟩
/-! ### an own == with a value of a built-in type -/
def rEqOwnT (K : PySem.W.Frag) (C : Addr) (sp : Sp) : R2 := fun x y H Q => ∃ a dx fs t, x = .ref a ∧ H a = some (.ins C dx fs) ∧ TyX K H y t ∧ PySem.W.notFirst K C t = true ∧ sp [.ref a, y] H (fun v H' => ∃ k, v = .bl k ∧ Q (.bl k) H') E0
def rNeOwnT (K : PySem.W.Frag) (C : Addr) (sp : Sp) : R2 := fun x y H Q => ∃ a dx fs t, x = .ref a ∧ H a = some (.ins C dx fs) ∧ TyX K H y t ∧ PySem.W.notFirst K C t = true ∧ sp [.ref a, y] H (fun v H' => ∃ k, v = .bl k ∧ Q (.bl (!k)) H') E0
theorem op_eqOwnT (M : Mf X.prog X.w X.K X.mg X.base k C "__eq__" ps sp) (hr : Room k X.A) : OpR X (compareOp .Eq) (rEqOwnT X.K C sp) := by
  intro pins s σ H x y v u Q I rx ry h
  obtain ⟨a, dx, fs, t, rfl, ha, ty, hn, q⟩ := h
  cases (show v = Value.ref a from rx)
  obtain ⟨f, fd, F, bb, hm⟩ := M.fn
  obtain ⟨ox, od, J⟩ := ins_at I ha
  obtain ⟨Pz, Z, p, _⟩ := kit_of I ry ty
  obtain ⟨m, hF⟩ := I.fr
  refine PySem.W.cmp_K (op := .Eq) (tb := t) hr.units0 hF I.ok.mod.kin J (Z.ty _ _ I.kIn p) hn hm.at_ hm.fn ?_
  refine wpAny_mono (run_fn (us := [.ref a, u]) (vs := [.ref a, y]) F hr bb .nil pass0 I (.cons rfl (.cons ry .nil)) (by rw [List.append_nil]; exact q)) (fun z s' hz => ?_) fun _ _ z => z
  obtain ⟨y', H', I', r', k, rfl, q'⟩ := hz
  cases r'
  exact ⟨.bl k, H', I', rfl, q'⟩
theorem op_neOwnT (M : Mf X.prog X.w X.K X.mg X.base k C "__eq__" ps sp) (hr : Room (k + 1) X.A) (hmr : PySem.W.mroIn X.K C (.type "object") = some true) (hne : PySem.W.findIn X.K (.ref C) "__ne__" = some (some (.builtin "object.__ne__"))) : OpR X (compareOp .NotEq) (rNeOwnT X.K C sp) := by
  intro pins s σ H x y v u Q I rx ry h
  obtain ⟨a, dx, fs, t, rfl, ha, ty, hn, q⟩ := h
  cases (show v = Value.ref a from rx)
  obtain ⟨f, fd, F, bb, hm⟩ := M.fn
  obtain ⟨ox, od, J⟩ := ins_at I ha
  obtain ⟨Pz, Z, p, _⟩ := kit_of I ry ty
  obtain ⟨m, hF⟩ := I.fr
  have bd := bb s [.ref a, u] I.kIn (by rw [List.append_nil]; exact F.len _ _ _ _ q)
  rw [List.append_nil] at bd
  refine ne_own (tb := t) (by have := hr.units; omega) I.kIn J (Z.ty _ _ I.kIn p) hn hmr hne hm.at_ hm.fn ?_
  refine wpAny_call (codeAny_mono (F.run X.A.in1 X.stack s H ⟨[.ref a, u], []⟩ [.ref a, u] [.ref a, y] _ E0 hr.in1 I.env0.in1 bd (.cons rfl (.cons ry .nil)) q) fun z s' hq => ?_)
  cases z with
  | error e => exact pass0 pins σ H s e s' I hq
  | ok fl => cases fl with
    | ret u =>
      obtain ⟨v, H', I3, rv, k, rfl, q3⟩ := I.after hq
      cases rv
      exact ⟨k, rfl, .bl (!k), H', I3, rfl, q3⟩
    | _ => exact False.elim hq
end
def cTup (K : PySem.W.Frag) : List V → Hp → VK → Prop := fun xs H Q => ∃ p ys, xs = [.ref p] ∧ ((SqL K H p ys ∧ ∀ l, H l = none → Q (.ref l) (upd H l (.tup ys))) ∨ (SqT K H p ys ∧ Q (.ref p) H))
theorem call_tupA {X : Cx} : CallR X (.type "tuple") (cTup X.K) := call_tuple_of
def cStrI : List V → Hp → VK → Prop := fun xs H Q => ∃ i, xs = [.int i] ∧ i.natAbs.log2 < 1920 ∧ Q (.str (toString i)) H
theorem call_strA {X : Cx} : CallR X (.type "str") cStrI := call_str_int
/-! ### repr of a list, a tuple or a truth -/
def cReprB (K : PySem.W.Frag) : List V → Hp → VK → Prop := fun xs H Q => (∃ b : Bool, xs = [.bl b] ∧ Q (.str (if b then "True" else "False")) H) ∨ cRepr K xs H Q
theorem call_reprB {X : Cx} (hg : X.A.guards = some []) (hu : X.A.units + 64 < cLine) : CallR X (.builtin "repr") (cReprB X.K) := by
  intro pins s σ H xs us Q I r h
  rcases h with ⟨b, rfl, q⟩ | h
  · obtain ⟨u, rfl, r1⟩ := vals1 r
    cases r1
    exact PySem.P.repr_of_bool ⟨.str _, H, I.tok _, ⟨_, rfl⟩, q⟩
  · exact call_reprA hg hu pins s σ H xs us Q I r h
theorem pe_revLK {X : Cx} (K : PySem.W.Frag) {e : Expr} {te : TE} {k : Nat} {p1 p2 p3 pos : Pos} (he : PE X e te) (hK : X.K = K := by rfl) : PE X (.Subscript e (.Slice none none (some (.UnaryOp .USub (.Constant (.int 1) k p1) p2)) p3) pos) (tRevL K te) := hK ▸ pe_revL he
theorem big_pick {l : List (Addr × List V)} {p : Addr} {xs : List V} (h : (p, xs) ∈ l) : ∃ l', (∀ {R H}, Sep (big l :: R) H → Sep (pt p (.lst xs) :: big l' :: R) H) ∧ (∀ {R H}, Sep (pt p (.lst xs) :: big l' :: R) H → Sep (big l :: R) H) := by
  obtain ⟨l1, l2, rfl⟩ := List.append_of_mem h
  refine ⟨l1 ++ l2, fun {R H} S => ?_, fun {R H} S => ?_⟩
  · have S := S.flat
    rw [List.map_append, List.map_cons, List.append_assoc, List.cons_append] at S
    have S : Sep (pt p (.lst xs) :: ((l1.map fun p : Addr × List V => pt p.1 (.lst p.2)) ++ ((l2.map fun p : Addr × List V => pt p.1 (.lst p.2)) ++ R))) H := (pick_mid _).go S
    refine Sep.cons_mono (fun _ S => Sep.unflat (As := (l1 ++ l2).map fun p : Addr × List V => pt p.1 (.lst p.2)) ?_) S
    rw [List.map_append, List.append_assoc]
    exact S
  · have S1 : Sep (pt p (.lst xs) :: (((l1 ++ l2).map fun p : Addr × List V => pt p.1 (.lst p.2)) ++ R)) H := S.cons_mono fun _ => Sep.flat
    rw [List.map_append, List.append_assoc] at S1
    have S2 := (pick_mid _).back S1
    refine Sep.unflat (As := (l1 ++ (p, xs) :: l2).map fun p : Addr × List V => pt p.1 (.lst p.2)) ?_
    rw [List.map_append, List.append_assoc]
    exact S2
section
variable {K : PySem.W.Frag} {σ : L2.St} {H : Hp} {Q : VK} {te : TE} {a : Addr} {xs : List V} {Ps : List SP} {n : Int}
def kRevL (K : PySem.W.Frag) (Q : VK) : V → Hp → Prop := fun x H1 => ∃ a xs, x = .ref a ∧ SqL K H1 a xs ∧ ∀ p, H1 p = none → Q (.ref p) (upd H1 p (.lst xs.reverse))
theorem r_revL (h : te σ H (kRevL K Q)) : tRevL K te σ H Q := h
theorem r_revLk (S : Sep Ps H) (s : SqL K H a xs) (h : ∀ p H', Sep (pt p (.lst xs.reverse) :: Ps) H' → Q (.ref p) H') : kRevL K Q (.ref a) H := ⟨a, xs, rfl, s, fun p np => h p _ (S.new _ np)⟩
theorem r_tupOf (S : Sep Ps H) (s : SqL K H a xs) (h : ∀ p H', Sep (pt p (.tup xs) :: Ps) H' → Q (.ref p) H') : cTup K [V.ref a] H Q := ⟨a, xs, rfl, .inl ⟨s, fun p np => h p _ (S.new _ np)⟩⟩
theorem r_strI (hz : n.natAbs.log2 < 1920) (h : Q (.str (toString n)) H) : cStrI [V.int n] H Q := ⟨n, rfl, hz, h⟩
theorem in_ints {i : Int} : ∀ ns : List Int, inV (.int i) (ns.map V.int) = decide (i ∈ ns)
  | [] => rfl
  | n :: ns => by
    have ih := in_ints (i := i) ns
    unfold inV at ih ⊢
    rw [List.map_cons, List.any_cons, ih]
    show ((n == i) || _) = _
    by_cases e : n = i
    · subst e; simp
    · have : (n == i) = false := beq_eq_false_iff_ne.mpr e
      rw [this, Bool.false_or]
      refine decide_eq_decide.mpr ⟨List.mem_cons_of_mem _, fun m => (List.mem_cons.mp m).resolve_left fun q => e q.symm⟩
theorem flat_ints : ∀ ns : List Int, (ns.map V.int).all flatV = true
  | [] => rfl
  | n :: ns => by rw [List.map_cons, List.all_cons, flat_ints ns]; rfl
theorem r_in_ints {i : Int} {ns : List Int} (s : SqL K H a (ns.map V.int)) (h : Q (.bl (decide (i ∈ ns))) H) : rIn K false (.int i) (.ref a) H Q := ⟨a, _, rfl, .inl s, rfl, flat_ints ns, by rw [in_ints]; exact h⟩
end
end Kt

set_option Elab.async false
set_option linter.all false
set_option maxRecDepth 100000
namespace Kt
open PySem PySem.Spec L2 PyProof.Rows
/-! ### what isinstance asks of a def: its __class__ -/
theorem fk_slot : Slot "function" "__getattribute__" "object.__getattribute__" :=
  .of (n := "__getattribute__") (owner := "object") (by rw [typeLookup_type, builtinLookup_eq_fast]; kernel_rfl) (by decide +kernel) (by decide +kernel) (by decide +kernel) (by first | exact .inl (by decide +kernel) | exact .inr (by decide +kernel)) (by rw [isSubtype_type]; kernel_rfl)
theorem fk_look : typeLookup (.type "function") "__class__" = pure (some (.builtin "object.__class__")) := by rw [typeLookup_type, builtinLookup_eq_fast]; kernel_rfl
theorem fk_owner : isSubtype (.type "function") (.type (".".intercalate ("object.__class__".cutAt '.').dropLast)) = pure true := by rw [PySem.F.owner_object_class, isSubtype_type]; kernel_rfl
section
variable {P : Program} {w : World} {A : Around} {E : Value → Shared → Prop} {hp : Heap} {gs : Array GenState} {dr : Drawn} {n : Nat} {os : OsState} {f : Addr} {ob : Obj}
theorem fk_get {R : Result → Shared → Prop} (e1 : hp.get? f = some ob) (e2 : ob.cls = .type "function") (q : R (.ok (.ret (.type "function"))) ⟨hp, gs, dr, n, os⟩) : codeAny (model P w) A (.call (.builtin "getset_descriptor.__get__") ⟨[.builtin "object.__class__", .ref f, .type "function"], []⟩) R ⟨hp, gs, dr, n, os⟩ := by
  have t1 : (⟨hp, gs, dr, n, os⟩ : Shared).TypeIs (.ref f) "function" := ⟨_, e1, e2⟩
  have t2 : (⟨hp, gs, dr, n, os⟩ : Shared).TypeIs (.builtin "object.__class__") "getset_descriptor" := PySem.F.typeOf_object_class
  have t3 := fk_owner
  refine codeAny_call_builtin PySem.F.slot_gs_get.plain PySem.F.entry_gs_get (PySem.F.slot_gs_get.check _ _ _ _ _ _ _ _ t2 (PySem.F.args_gs_get _ _ _) ?_)
  repeat (any_goals (first | assumption | wp_step))
  exact ⟨Code.quiet_builtin _ (by decide +kernel), codeAny_builtin PySem.F.entry_object_class (by repeat (any_goals (first | assumption | wp_step)))⟩
theorem fk_entry {tk : Tok} {Q : Fin → Shared → Prop} (e1 : hp.get? f = some ob) (e2 : ob.cls = .type "function") (q : Q (.done (.ret (.type "function"))) ⟨hp, gs, dr, n, os⟩) : wpAny (model P w) A (Builtin.«object.__getattribute__» ⟨[.ref f, .str "__class__" tk], []⟩) Q E ⟨hp, gs, dr, n, os⟩ := by
  have t1 : (⟨hp, gs, dr, n, os⟩ : Shared).TypeIs (.ref f) "function" := ⟨_, e1, e2⟩
  have t2 : (⟨hp, gs, dr, n, os⟩ : Shared).TypeIs (.builtin "object.__class__") "getset_descriptor" := PySem.F.typeOf_object_class
  have t3 := fk_look
  have t4 := PySem.F.typeOf_object_class
  have t5 := PySem.F.slot_gs_get.lookup
  have t6 := PySem.F.slot_gs_set.lookup
  repeat (any_goals (first | assumption | wp_step))
  refine fk_get e1 e2 ?_
  repeat (any_goals (first | assumption | wp_step))
theorem fk_by {tk : Tok} {Q : Value → Shared → Prop} (e1 : hp.get? f = some ob) (e2 : ob.cls = .type "function") (q : Q (.type "function") ⟨hp, gs, dr, n, os⟩) : wpAny (model P w) A (getAttrBy (.ref f) (.str "__class__" tk) false) Q E ⟨hp, gs, dr, n, os⟩ := by
  have t1 : (⟨hp, gs, dr, n, os⟩ : Shared).TypeIs (.ref f) "function" := ⟨_, e1, e2⟩
  have t2 := fk_slot.lookup
  have t3 := fk_slot.bind (.ref f)
  repeat (any_goals (first | assumption | wp_step))
  refine codeAny_call_builtin fk_slot.plain PySem.F.entry_object_getattribute (fk_slot.check _ _ _ _ _ _ _ _ (show (⟨hp, gs, dr, n, os⟩ : Shared).TypeIs (.ref f) "function" from t1) (PySem.F.args_object_getattribute_2 _ _) (fk_entry e1 e2 ?_))
  repeat (any_goals (first | assumption | wp_step))
theorem fk_attr {Q : Option Value → Shared → Prop} (e1 : hp.get? f = some ob) (e2 : ob.cls = .type "function") (q : Q (some (.type "function")) ⟨hp, gs, dr, n + 1, os⟩) : wpAny (model P w) A (getAttr? (.ref f) "__class__") Q E ⟨hp, gs, dr, n, os⟩ := by
  unfold getAttr? getAttrBy?
  repeat (any_goals (first | assumption | with_reducible apply fk_by e1 e2 | wp_step))
end
theorem kitx_fun {K : PySem.W.Frag} {f : Addr} : PySem.W.KitX K (.ref f) (.type "function") (PySem.W.KitAt f "function") :=
  PySem.W.kitx_of PySem.W.kitAt_ty (fun {_ _ _ _ _ s} p k => by obtain ⟨hp, gs, dr, n, os⟩ := s; obtain ⟨o, e1, e2⟩ := p; exact fk_attr e1 e2 k)
/-- the type of a value, of a def of the text too -/
def TyY (K : PySem.W.Frag) (H : Hp) (x : V) (t : Value) : Prop := TyX K H x t ∨ ∃ f o, x = .ref f ∧ t = .type "function" ∧ K.lookup f = some o ∧ o.cls = .type "function"
def rIsiY (K : PySem.W.Frag) : List V → Hp → VK → Prop := fun xs H Q => ∃ (x c : V) (t u : Value) (b : Bool), xs = [x, c] ∧ ClsV c u ∧ TyY K H x t ∧ PySem.W.kitOne K t u = some b ∧ Q (.bl b) H
theorem call_isiY {X : Cx} : CallR X (.builtin "isinstance") (rIsiY X.K) := by
  intro pins s σ H xs us Q I r h
  obtain ⟨x, c, t, u, b, rfl, hc, ty, e, q⟩ := h
  rcases ty with ty | ⟨f, o, rfl, rfl, hl, ho⟩
  · exact call_isi pins s σ H _ us Q I r ⟨x, c, t, u, b, rfl, hc, ty, e, q⟩
  · cases r with
    | cons rx rr =>
      cases rr with
      | cons rt rr =>
        cases rr
        cases rx
        have ec := hc.eq rt
        subst ec
        exact PySem.W.kia_one kitx_fun I.kIn ⟨o, I.kIn f o hl, ho⟩ e (fun z => nomatch z) fun tk => ⟨.bl b, H, I.tok _, rfl, q⟩
end Kt

set_option Elab.async false
set_option linter.all false
set_option maxRecDepth 100000
namespace Kt
open PySem PySem.Spec L2 PyProof.Rows
/-! ### methods and classes that may let an error out -/
structure MfX (P : Program) (w : World) (K : PySem.W.Frag) (mg : Str → Option Value) (base : Heap) (k : Nat) (C : Addr) (m : Str) (ps : List Str) (sp : Sp) : Prop where
  fn : ∃ f fd, FnOk P w K mg base (L2.CX P w) k f fd ps sp ∧ Binds K fd ps [] ∧ Meth K C m f
  cls : Cls K C
structure DfX (P : Program) (w : World) (K : PySem.W.Frag) (mg : Str → Option Value) (base : Heap) (k : Nat) (x : Str) (f : Addr) (ps : List Str) (sp : Sp) : Prop where
  fn : ∃ fd, FnOk P w K mg base (L2.CX P w) k f fd ps sp ∧ Binds K fd ps []
  at_ : mg x = some (.ref f)
  kp : PySem.W.keepIn K (.ref f) = true
structure CfX (P : Program) (w : World) (K : PySem.W.Frag) (mg : Str → Option Value) (base : Heap) (k : Nat) (x : Str) (C : Addr) (ps : List Str) (sp : Sp) : Prop where
  fn : ∃ f fd, FnOk P w K mg base (L2.CX P w) k f fd ps sp ∧ Binds K fd ps [] ∧ Mk K C f
  at_ : mg x = some (.ref C)
section
variable {P : Program} {w : World} {K : PySem.W.Frag} {mg : Str → Option Value} {base : Heap}
theorem Mt.okX {C : Addr} {x qual : Str} {st : Stmt} {f : Addr} {N ps : List Str} {k : Nat} {sp : Sp} (T : Mt K C x qual st ps f) (c : Cls K C) (S : FnScope N ps (defScope st)) (len : ∀ vs H Q E, sp vs H Q E → vs.length = ps.length)
    (hbody : ∀ (cdv : Value) (A : Around) (outer : List Env) (s : Shared) (H : Hp) (vs : List V) (Q : VK) (E : XK), Room k (A.deeper (envOfC qual (defScope st) s.heap.objs.size f cdv)) → sp vs H Q E →
      ∃ t, PSs (cxOf (L2.CX P w) P w K mg base N qual (defScope st) f cdv A outer s H E) (defBody st) t ∧ t { nx := fun _ H' => Q .non H', rt := Q } (start N vs) H) : MfX P w K mg base (k + 1) C x ps sp := by
  obtain ⟨fd, F, b⟩ := T.fn
  exact ⟨⟨f, fd, F.okX S len hbody, b, T.at_⟩, c⟩
theorem Dt.okX {x : Str} {st : Stmt} {f : Addr} {N ps : List Str} {k : Nat} {sp : Sp} (T : Dt K mg x st ps f) (S : FnScope N ps (defScope st)) (len : ∀ vs H Q E, sp vs H Q E → vs.length = ps.length)
    (hbody : ∀ (cdv : Value) (A : Around) (outer : List Env) (s : Shared) (H : Hp) (vs : List V) (Q : VK) (E : XK), Room k (A.deeper (envOfC x (defScope st) s.heap.objs.size f cdv)) → sp vs H Q E →
      ∃ t, PSs (cxOf (L2.CX P w) P w K mg base N x (defScope st) f cdv A outer s H E) (defBody st) t ∧ t { nx := fun _ H' => Q .non H', rt := Q } (start N vs) H) : DfX P w K mg base (k + 1) x f ps sp := by
  obtain ⟨fd, F, b⟩ := T.fn
  exact ⟨⟨fd, F.okX S len hbody, b⟩, T.at_, F.kp⟩
theorem MfX.cf {C f : Addr} {x : Str} {ps : List Str} {k : Nat} {sp : Sp} (M : MfX P w K mg base k C "__init__" ps sp) (T : Ct K mg x C f) : CfX P w K mg base k x C ps sp := by
  obtain ⟨g, fd, F, b, m⟩ := M.fn
  have e : g = f := by
    have h1 := m.at_
    rw [T.mkr.init] at h1
    cases h1
    rfl
  subst e
  exact ⟨⟨g, fd, F, b, T.mkr⟩, T.at_⟩
end
section
variable {X : Cx} {k : Nat} {f C : Addr} {fd : FuncData} {ps : List Str} {sp : Sp} {E : L2.St → XK} {x m : Str} {p pos apos : Pos} {e o : Expr} {es : List Expr} {to : TE} {t : TA}
/-- C(e, ..) in a try -/
def tMakeS (C : Addr) (sp : Sp) (E : L2.St → XK) (t : TA) : TE := fun σ H Q => t σ H fun vs H1 => ∀ x dx, H1 x = none → H1 dx = none → dx ≠ x → sp (.ref x :: vs) (upd (upd H1 dx (.own x)) x (.ins C dx [])) (fun v H2 => v = .non ∧ Q (.ref x) H2) (E σ)
theorem pe_cfS (M : CfX X.prog X.w X.K X.mg X.base k x C ps sp) (hr : Room (k + 1) X.A) (hx : ∀ σ, PassesAt (L2.CX X.prog X.w) X σ (E σ)) (ha : PA X (e :: es) t) (hg : Gl X x := by rfl) (hd : (x == ("__debug__" : Str)) = false := by decide)
    (he : starEach (e :: es) X.env = (false, eval e X.env) :: starEach es X.env := by rfl) (hpl : (backTo pos (starEach es X.env)).any (·.1) = false := by rfl) : PE X (.Call (.Name x p) (e :: es) [] pos) (tMakeS C sp E t) := by
  obtain ⟨f, fd, F, b, M'⟩ := M.fn
  refine ⟨fun pins s σ H Q I h => ?_⟩
  refine wpAny_Call_Name_kw (ld_glob I hg M.at_ ?_ hd)
  refine PySem.W.callWith_K (h₀ := X.base) I.ok.mod.kin M'.kp (thn (ha.run pos pins s σ H _ I h) fun us s1 ⟨vs, H1, I1, r, q⟩ => ⟨I1.kIn, ?_⟩) he hpl
  have hq := q (s1.heap.objs.size + 1) s1.heap.objs.size (I1.hok.fresh (Nat.le_succ _)) (I1.hok.fresh (Nat.le_refl _)) (Nat.ne_of_lt (Nat.lt_succ_self _))
  have I2 := Inv.made (C := C) I1
  have r2 : Vals (V.ref (s1.heap.objs.size + 1) :: vs) (Value.ref (s1.heap.objs.size + 1) :: us) := .cons rfl r
  have hl : (Value.ref (s1.heap.objs.size + 1) :: us).length = ps.length := r2.length.symm.trans (F.len _ _ _ _ hq)
  have bd := b _ (Value.ref (s1.heap.objs.size + 1) :: us) I2.kIn (by rw [List.append_nil]; exact hl)
  rw [List.append_nil] at bd
  refine wpAny_call (make_map (f := f) I1.kIn M'.makes M'.init (beq_iff_eq.mp M'.fn) (codeAny_mono (F.run _ X.stack _ _ ⟨Value.ref (s1.heap.objs.size + 1) :: us, []⟩ (Value.ref (s1.heap.objs.size + 1) :: us) _ _ (E σ) (hr.make C us []) (I2.env0.make C us []) bd r2 hq) fun z s' hz => ?_))
  cases z with
  | error z => exact hx σ pins _ _ z s' I2 hz
  | ok fl => cases fl with
    | ret u =>
      obtain ⟨v, H', I3, rv, ev, q3⟩ := I2.after hz
      subst ev
      exact ⟨rv, ⟨V.ref (s1.heap.objs.size + 1), H', I3, rfl, q3⟩⟩
    | _ => exact False.elim hz
theorem pe_dfS (D : DfX X.prog X.w X.K X.mg X.base k x f ps sp) (hr : Room k X.A) (hx : ∀ σ, PassesAt (L2.CX X.prog X.w) X σ (E σ)) (ha : PA X (e :: es) t) (hg : Gl X x := by rfl) (hd : (x == ("__debug__" : Str)) = false := by decide)
    (he : starEach (e :: es) X.env = (false, eval e X.env) :: starEach es X.env := by rfl) (hpl : (backTo pos (starEach es X.env)).any (·.1) = false := by rfl) : PE X (.Call (.Name x p) (e :: es) [] pos) (tCallS sp E t) := by
  obtain ⟨fd, F, b⟩ := D.fn
  exact pe_callS F hr hg D.at_ D.kp b hx ha hd he hpl
/-- o.m(e, ..) in a try -/
def tMethE (C : Addr) (m : Str) (sp : Sp) (E : L2.St → XK) (to : TE) (t : TA) : TE := fun σ H Q => to σ H fun x H1 => ∃ a dx fs, x = .ref a ∧ H1 a = some (.ins C dx fs) ∧ fs.lookup m = none ∧ t σ H1 fun vs H2 => sp (x :: vs) H2 Q (E σ)
theorem r_makeS {σ : L2.St} {H : Hp} {Q : VK} (h : t σ H fun vs H1 => ∀ x dx, H1 x = none → H1 dx = none → dx ≠ x → sp (.ref x :: vs) (upd (upd H1 dx (.own x)) x (.ins C dx [])) (fun v H2 => v = .non ∧ Q (.ref x) H2) (E σ)) : tMakeS C sp E t σ H Q := h
end
/-! ### isinstance of the error that a suite holds, which has fields -/
structure ErC (K : PySem.W.Frag) (D : Addr) : Prop where
  cl : (PySem.W.clsIn K D).isSome = true
  ga : PySem.W.findIn K (.ref D) "__getattribute__" = some (some (.builtin "BaseException.__getattribute__"))
  gt : PySem.W.findIn K (.ref D) "__getattr__" = some none
  sb : PySem.W.subIn K (.ref D) (.type "BaseException") = some true
  ha : PySem.W.findIn K (.ref D) "__class__" = some (some (.builtin "object.__class__"))
  hn : PySem.W.specialIn K (.builtin "object.__class__") "__get__" = some (some (.builtin "getset_descriptor.__get__"))
  ht : PySem.W.takesIn K (.builtin "object.__class__") = some true
  hm : PySem.W.mroIn K D (.type "object") = some true
def rIsED (K : PySem.W.Frag) (D a : Addr) (cls : Value) (d : Option Addr) : List V → Hp → VK → Prop := fun xs H Q => ∃ (c : V) (cv : Value) (b : Bool) (dd : Addr) (fs : List (Str × V)), xs = [.ref a, c] ∧ ClsV c cv ∧ cls = .ref D ∧ d = some dd ∧ H dd = some (.xd fs) ∧ PySem.W.kitOne K (.ref D) cv = some b ∧ Q (.bl b) H
theorem call_isED {X : Cx} {a D : Addr} {oe : Obj} {cls : Value} {d : Option Addr} {pn : List (Addr × Obj)} (T : ErC X.K D) (hz : Zc cls d oe) (hf : ∃ vs, oe.data = .fields vs) : CallR (X.suite a ((a, oe) :: pn)) (.builtin "isinstance") (rIsED X.K D a cls d) := by
  intro pins s σ H xs us Q I r h
  obtain ⟨c, cv, b, dd, fs, rfl, hc, ec, ed, ea, e, q⟩ := h
  subst ec
  subst ed
  cases r with
  | cons rx rr =>
    cases rr with
    | cons rt rr =>
      cases rr
      cases rx
      have e2 := hc.eq rt
      subst e2
      obtain ⟨hget, _⟩ := I.pin (a, oe) (List.mem_append.mpr (.inl List.mem_cons_self))
      obtain ⟨vs, hv⟩ := hf
      have hx : ObjOk X.prog X.w H s.heap dd (.xd fs) := I.hok dd _ ea
      obtain ⟨mA, hns, hr⟩ := hx
      obtain ⟨od, ho, hl⟩ := lookIn_ns hns
      have J : PySem.W.InstAt s.heap a oe D (some od) := ⟨hget, hz.1, by unfold PySem.W.notCls; rw [hv] <;> rfl, by rw [hz.2]; exact ho⟩
      exact PySem.W.kia_one (PySem.W.kitx_exc T.cl T.ga T.gt T.sb T.ha T.hn T.ht T.hm) I.kIn J e (fun z => nomatch z) fun tk => ⟨.bl b, H, I.tok _, rfl, q⟩
end Kt

set_option Elab.async false
set_option linter.all false
set_option maxRecDepth 100000
namespace Kt
open PySem PySem.Spec PySem.W L2 PyProof.Rows
section
variable {X : Cx} {k : Nat} {C : Addr} {ps : List Str} {sp : Sp} {fe e : Expr} {es : List Expr} {tf : TE} {t : TA} {pos : Pos}
/-- f(e, ..), f any expression that gives an instance of C -/
def tCallE (C : Addr) (sp : Sp) (tf : TE) (t : TA) : TE := fun σ H Q => tf σ H fun x H0 => ∃ a, x = .ref a ∧ t σ H0 fun vs H1 => ∃ dx fs, H1 a = some (.ins C dx fs) ∧ sp (.ref a :: vs) H1 Q E0
theorem pe_mfE (M : Mf X.prog X.w X.K X.mg X.base k C "__call__" ps sp) (hfn : ∀ f, findIn X.K (.ref C) "__call__" = some (some (.ref f)) → fnIn X.K f = true) (hr : Room k X.A) (hf : PE X fe tf) (ha : PA X (e :: es) t)
    (hc : eval (.Call fe (e :: es) [] pos) X.env = (do callWith pos (← eval fe X.env) [] (backTo pos (starEach (e :: es) X.env)) (backToKw pos (keywordEach [] X.env))) := by rfl)
    (he : starEach (e :: es) X.env = (false, eval e X.env) :: starEach es X.env := by rfl) (hpl : (backTo pos (starEach es X.env)).any (·.1) = false := by rfl) : PE X (.Call fe (e :: es) [] pos) (tCallE C sp tf t) := by
  obtain ⟨f, fd, F, b, hm⟩ := M.fn
  refine ⟨fun pins s σ H Q I h => ?_⟩
  refine PyProof.Rows.Call_ (thn (hf.run pins s σ H _ I h) fun u s1 ⟨v, H1, I1, r1, a, ev, q1⟩ => ?_) hc
  subst ev
  cases r1
  have h2 : wpAny (model X.prog X.w) X.A (spliced (backTo pos (starEach (e :: es) X.env))) (fun vs s2 => (∃ dx, s2.heap.get? a = some (PySem.W.instObj C dx)) ∧ wpAny (model X.prog X.w) X.A (call (.ref a) ([] ++ vs)) (EP X pins σ Q) X.xe s2) X.xe s1 :=
    thn (ha.run pos pins s1 σ _ _ I1 q1) fun us s2 ⟨vs, H2, I2, r, dx, fs, hH, q⟩ => by
      obtain ⟨mA, O, _⟩ := ins_get I2.hok hH
      refine ⟨⟨dx, O.obj⟩, ?_⟩
      obtain ⟨od, J, _⟩ := O.look
      obtain ⟨of_, fd2, hl, hd2⟩ := fn_found I2.kIn (hfn f hm.at_)
      have rr : Vals (V.ref a :: vs) (Value.ref a :: us) := .cons rfl r
      have ln : (Value.ref a :: us).length = ps.length := by rw [← rr.length]; exact F.len _ _ _ _ q
      have bd := b s2 (.ref a :: us) I2.kIn (by rw [List.append_nil]; exact ln)
      rw [List.append_nil] at bd
      refine wpAny_call (callee_inst I2.kIn J hm.at_ hm.fn hl hd2 (codeAny_mono (F.run X.A X.stack s2 H2 ⟨.ref a :: us, []⟩ (.ref a :: us) (.ref a :: vs) Q E0 hr I2.env0 bd rr q) fun r s' hq => ?_))
      cases r with
      | error z => exact pass0 pins σ H2 s2 z s' I2 hq
      | ok fl => cases fl with
        | ret u => exact I2.after hq
        | _ => exact False.elim hq
  rw [he] at h2 ⊢
  exact callWith_inst (P := fun h => ∃ dx, h.get? a = some (PySem.W.instObj C dx)) (by show ((false || (backTo pos (starEach es X.env)).any (·.1)) || false) = false; rw [hpl]; rfl) (fun h ⟨dx, q⟩ => keeper_inst q) (Calls.evalArgs_plain h2)
end
section
variable {K : Frag} {σ : L2.St} {H : Hp} {Q : VK} {tf : TE} {t : TA} {C a dx : Addr} {sp : Sp} {fs : List (Str × V)} {xs : List V} {Ps Qs : List SP} {n : Int}
theorem r_callE (h : tf σ H fun x H0 => ∃ a, x = .ref a ∧ t σ H0 fun vs H1 => ∃ dx fs, H1 a = some (.ins C dx fs) ∧ sp (.ref a :: vs) H1 Q E0) : tCallE C sp tf t σ H Q := h
/-- repr of a whole number, a list, a tuple -/
def cReprI (K : Frag) : List V → Hp → VK → Prop := fun xs H Q => (∃ i : Int, xs = [.int i] ∧ i.natAbs.log2 < 1920 ∧ Q (.str (toString i)) H) ∨ cRepr K xs H Q
theorem call_reprI {X : Cx} (hg : X.A.guards = some []) (hu : X.A.units + 64 < cLine) : CallR X (.builtin "repr") (cReprI X.K) := by
  intro pins s σ H xs us Q I r h
  rcases h with ⟨i, rfl, hz, q⟩ | h
  · obtain ⟨u, rfl, t, rfl⟩ := vals1 r
    exact PySem.P.repr_of_int hz ⟨.str _, H, I.tok _, ⟨_, rfl⟩, q⟩
  · exact call_reprA hg hu pins s σ H xs us Q I r h
theorem r_rep2 (S : Sep Ps H) (s : H a = some (.lst xs)) (h1 : 0 ≤ n) (h2 : n ≤ 10000) (hz : xs.length ≤ 10) (h : ∀ p H', Sep (pt p (.lst (List.replicate n.toNat xs).flatten) :: Ps) H' → Q (.ref p) H') : rMulA (.ref a) (.int n) H Q :=
  .inr ⟨a, n, xs, rfl, rfl, s, by omega, by omega, Nat.le_trans (Nat.mul_le_mul hz (show n.toNat ≤ 10000 by omega)) (by decide), fun p np => h p _ (S.new _ np)⟩
theorem ty_sq (s : SqL K H a xs) : TyX K H (.ref a) (.type "list") := by
  rcases s with (h | ⟨o, h⟩) | ⟨o, its, n, h, hc, _⟩
  · exact .base (.lst h)
  · exact .base (.frz h)
  · exact .kList h hc
theorem r_isiY {x : V} {T B : String} {k : Bool} (ty : TyX K H x (.type T)) (e : kitB T B = some k) (h : Q (.bl k) H) : rIsiY K [x, .ty B] H Q := ⟨x, .ty B, _, _, k, rfl, .ty B, .inl ty, kit_ty e, h⟩
theorem r_dispP {Ps : List SP} {trs : List (TE × TE)} (S : Sep Ps H) (h : ∀ p H', Sep (pt p (.dK []) :: Ps) H' → tPairs trs σ H' fun ps H2 => H2 p = some (.dK []) ∧ ∃ kvs : List (Key × V), ps = kvs.map (fun kv => (kV kv.1, kv.2)) ∧ kvs.length ≤ 15 ∧ Q (.ref p) (upd H2 p (.dK (mergeK [] kvs)))) : tDisp trs σ H Q := fun p np => h p _ (S.new _ np)
theorem log_ok {i : Int} (h : i.natAbs < 10 ^ 60) : i.natAbs.log2 < 1920 := by
  by_cases e : i.natAbs = 0
  · rw [e]; decide
  · exact Nat.lt_trans ((Nat.log2_lt (n := i.natAbs) (k := 200) e).mpr (Nat.lt_trans h (by decide))) (by decide)
end
/-! ### facts of error classes -/
section
variable {K : Frag} {A B : Addr}
theorem er_cls {r : Option Bool} (i : isClsIn K B = true) (t : typeIn K (.ref B) = some (.type "type")) (m : mroIn K A (.ref B) = r) : kitCls K (.ref A) (.ref B) = r := by
  unfold kitCls
  show (if _ then _ else _) = _
  rw [t, show (clsIn K B).isSome = true from i]
  simpa using (show subIn K (.ref A) (.ref B) = r from m)
theorem er_exm (b : subIn K (.ref B) (.type "BaseException") = some true) (i : isClsIn K B = true) (t : typeIn K (.ref B) = some (.type "type")) (m : mroIn K A (.ref B) = some true) : exmOne K (.ref A) (.ref B) = some true := by
  unfold exmOne
  rw [b]
  exact (if_pos rfl).trans (er_cls i t m)
theorem er_self : kitOne K (.ref A) (.ref A) = some true := by
  unfold kitOne
  simp
theorem er_ne (m1 : mroIn K A (.ref A) = some true) (m2 : mroIn K A (.ref B) = some false) (i : isClsIn K B = true) (t : typeIn K (.ref B) = some (.type "type")) : kitOne K (.ref A) (.ref B) = some false := by
  have hne : A ≠ B := fun e => by
    subst e
    rw [m1] at m2
    cases m2
  have e : ((Value.ref A) == (Value.ref B)) = false := beq_eq_false_iff_ne.mpr fun q => hne (Value.ref.inj q)
  unfold kitOne
  rw [e, if_neg Bool.false_ne_true]
  exact er_cls i t m2
end
end Kt

set_option Elab.async false
set_option linter.all false
set_option maxRecDepth 100000
namespace Kt
open PySem L2 PyProof.Rows
/-! ### a part that only grows: what is known of values is told of it -/
def hp (G : Hp) : SP := fun G' => Le G G'
theorem Le.rfl {G : Hp} : Le G G := fun _ _ e => e
theorem Le.tr {A B C : Hp} (h : Le A B) (h2 : Le B C) : Le A C := fun a o e => h2 a o (h a o e)
section
variable {K : PySem.W.Frag} {G G' H : Hp} {R : List SP} {p : Addr} {o : HO} {v : V} {d : PyData} {vs : List V} {ds : List PyData}
theorem hp_le (S : Sep (hp G :: R) H) : Le G H := by
  obtain ⟨g, l, h, _⟩ := S
  exact fun a u e => l a u (h a u e)
theorem hp_nil (S : Sep R H) : Sep (hp (fun _ => none) :: R) H :=
  ⟨fun _ => none, fun _ _ (e : (none : Option HO) = some _) => (Option.noConfusion rfl (heq_of_eq e)), fun _ _ (e : (none : Option HO) = some _) => (Option.noConfusion rfl (heq_of_eq e)), S.mono fun a o e => by rw [sub_of rfl]; exact e⟩
theorem hp_add (S : Sep (pt p o :: hp G :: R) H) : ∃ G', Le G G' ∧ G' p = some o ∧ Sep (hp G' :: R) H := by
  have S0 := Sep.unflat (As := [pt p o, hp G]) S
  obtain ⟨g, l, ⟨g1, l1, h1, g2, l2, h2, _⟩, r⟩ := S0
  refine ⟨g, fun a u e => (sub_some (l2 a u (h2 a u e))).2, l1 p o h1, g, l, fun _ _ e => e, r⟩
theorem dp_lst (l : Le G G') (e : G' p = some (.lst vs)) (h : DpAll K G vs ds) : Dp K G' (.ref p) (.list ds) := .lst (SqL.of e) (DpAll.le l _ _ h)
theorem dp_tup (l : Le G G') (e : G' p = some (.tup vs)) (h : DpAll K G vs ds) : Dp K G' (.ref p) (.tuple ds) := .tup (SqT.of e) (DpAll.le l _ _ h)
/-- a new list, a new tuple join the part -/
theorem hp_lst (S : Sep (pt p (.lst vs) :: hp G :: R) H) (h : DpAll K G vs ds) : ∃ G', Le G G' ∧ Dp K G' (.ref p) (.list ds) ∧ Sep (hp G' :: R) H := by
  obtain ⟨G', l, e, S⟩ := hp_add S
  exact ⟨G', l, dp_lst l e h, S⟩
theorem hp_tup (S : Sep (pt p (.tup vs) :: hp G :: R) H) (h : DpAll K G vs ds) : ∃ G', Le G G' ∧ Dp K G' (.ref p) (.tuple ds) ∧ Sep (hp G' :: R) H := by
  obtain ⟨G', l, e, S⟩ := hp_add S
  exact ⟨G', l, dp_tup l e h, S⟩
theorem dp_tupInv (h : Dp K G v (.tuple ds)) : ∃ a xs, v = .ref a ∧ SqT K G a xs ∧ DpAll K G xs ds := by
  cases h with
  | tup s t => exact ⟨_, _, rfl, s, t⟩
theorem dp_lstInv (h : Dp K G v (.list ds)) : ∃ a xs, v = .ref a ∧ SqL K G a xs ∧ DpAll K G xs ds := by
  cases h with
  | lst s t => exact ⟨_, _, rfl, s, t⟩
theorem dp_strInv {x : Str} (h : Dp K G v (.str x)) : v = .str x := by cases h; rfl
theorem dp_intInv {i : Int} (h : Dp K G v (.int i)) : v = .int i := by cases h; rfl
theorem dpall_len : ∀ {vs : List V} {ds : List PyData}, DpAll K G vs ds → vs.length = ds.length
  | _, _, .nil => rfl
  | _, _, .cons _ t => by rw [List.length_cons, List.length_cons, dpall_len t]
theorem dpall_at : ∀ {vs : List V} {ds : List PyData}, DpAll K G vs ds → ∀ {i : Nat} {x : V}, vs[i]? = some x → ∃ d, ds[i]? = some d ∧ Dp K G x d
  | _, _, .nil, i, x, h => by simp at h
  | _, _, .cons h t, 0, x, e => by simp at e; subst e; exact ⟨_, by simp, h⟩
  | _, _, .cons h t, i + 1, x, e => by
    rw [List.getElem?_cons_succ] at e ⊢
    exact dpall_at t e
theorem dpall_atD : ∀ {vs : List V} {ds : List PyData}, DpAll K G vs ds → ∀ {i : Nat} {d : PyData}, ds[i]? = some d → ∃ x, vs[i]? = some x ∧ Dp K G x d
  | _, _, .nil, i, x, h => by simp at h
  | _, _, .cons h t, 0, x, e => by simp at e; subst e; exact ⟨_, by simp, h⟩
  | _, _, .cons h t, i + 1, x, e => by
    rw [List.getElem?_cons_succ] at e ⊢
    exact dpall_atD t e
theorem dpall_snoc (h : DpAll K G vs ds) (h2 : Dp K G v d) : DpAll K G (vs ++ [v]) (ds ++ [d]) := dpall_app h (.cons h2 .nil)
theorem dpall_take (n : Nat) : ∀ {vs : List V} {ds : List PyData}, DpAll K G vs ds → DpAll K G (vs.take n) (ds.take n) := by
  induction n with
  | zero => intro vs ds _; rw [List.take_zero, List.take_zero]; exact .nil
  | succ n ih =>
    intro vs ds h
    cases h with
    | nil => exact .nil
    | cons h t => exact .cons h (ih t)
theorem dpall_drop (n : Nat) : ∀ {vs : List V} {ds : List PyData}, DpAll K G vs ds → DpAll K G (vs.drop n) (ds.drop n) := by
  induction n with
  | zero => intro vs ds h; exact h
  | succ n ih =>
    intro vs ds h
    cases h with
    | nil => exact .nil
    | cons h t => exact ih t
theorem dpall_strs : ∀ xs : List Str, DpAll K G (xs.map V.str) (xs.map PyData.str)
  | [] => .nil
  | x :: xs => .cons (.str x) (dpall_strs xs)
theorem dpall_strsInv : ∀ {xs : List Str} {vs : List V}, DpAll K G vs (xs.map PyData.str) → vs = xs.map V.str
  | [], _, h => by cases h; rfl
  | x :: xs, _, h => by
    rw [List.map_cons] at h
    cases h with
    | cons h t => rw [dp_strInv h, dpall_strsInv t]; rfl
theorem flat_strs : ∀ xs : List Str, (xs.map V.str).all flatV = true
  | [] => rfl
  | x :: xs => by rw [List.map_cons, List.all_cons, flat_strs xs]; rfl
theorem in_strs {x : Str} : ∀ xs : List Str, inV (.str x) (xs.map V.str) = decide (x ∈ xs)
  | [] => rfl
  | y :: xs => by
    have ih := in_strs (x := x) xs
    unfold inV at ih ⊢
    rw [List.map_cons, List.any_cons, ih]
    show ((y == x) || _) = _
    by_cases e : y = x
    · subst e; simp
    · have : (y == x) = false := beq_eq_false_iff_ne.mpr e
      rw [this, Bool.false_or]
      refine decide_eq_decide.mpr ⟨List.mem_cons_of_mem _, fun m => (List.mem_cons.mp m).resolve_left fun q => e q.symm⟩
end
/-! ### comprehensions whose source and items are data -/
section
variable {K : PySem.W.Frag} {σ : L2.St} {H : Hp} {Q : VK} {a : Addr} {xs : List V} {ds : List PyData} {g : TG} {tt : TT} {te : TE} {vs : List Nat} {G : Hp} {R : List SP}
/-- one turn over the item d: what it gives, if anything -/
def LcT (K : PySem.W.Frag) (G : Hp) (R : List SP) (g : TG) (tt : TT) (te : TE) (vs : List Nat) (σ : L2.St) (d : PyData) (e : Option PyData) : Prop := ∀ D acc Gi x H (N : Hp → Prop), Le G Gi → Dp K Gi x d → acc.length < 90000 → Sep (pt D (.lst acc) :: hp Gi :: R) H →
  (∀ y z G' H4, Le Gi G' → e = some z → Dp K G' y z → Sep (pt D (.lst acc) :: hp G' :: R) H4 → ∃ acc, H4 D = some (.lst acc) ∧ acc.length < sizeLine ∧ N (upd H4 D (.lst (acc ++ [y])))) → (e = none → ∀ H3, Sep (pt D (.lst acc) :: hp Gi :: R) H3 → N H3) →
  g x (wipe σ vs) H fun σ2 H2 => wipe σ2 vs = wipe σ vs ∧ tt σ2 H2 fun b H3 => if b = true then te σ2 H3 fun y H4 => ∃ acc, H4 D = some (.lst acc) ∧ acc.length < sizeLine ∧ N (upd H4 D (.lst (acc ++ [y]))) else N H3
section
variable {α β : Type} {l : List α} {enc : α → PyData} {enc2 : β → PyData} {f : α → Option β}
theorem lcd_step {i : Nat} {x : α} (e : l[i]? = some x) : ((l.take (i + 1)).filterMap f).map enc2 = ((l.take i).filterMap f).map enc2 ++ (match f x with | some z => [enc2 z] | none => []) := by
  rw [List.take_add_one, e, List.filterMap_append, List.map_append]
  cases q : f x with
  | none => simp [q]
  | some z => simp [q]
theorem r_lcL (S : Sep (hp G :: R) H) (hx : Dp K G (.ref a) (.list (l.map enc))) (hl : l.length ≤ 80000) (f : α → Option β) (enc2 : β → PyData) (turn : ∀ x ∈ l, LcT K G R g tt te vs σ (enc x) ((f x).map enc2))
    (fin : ∀ D acc G' H', Le G G' → DpAll K G' acc ((l.filterMap f).map enc2) → Sep (pt D (.lst acc) :: hp G' :: R) H' → Q (.ref D) H') : ∃ a', V.ref a = .ref a' ∧ (∃ xs, SqL K H a' xs) ∧ LcW (Itl K a') g tt te vs Q σ H := by
  obtain ⟨a', xs, ea, hs, ha⟩ := dp_lstInv hx
  cases ea
  have hlen : xs.length = l.length := by rw [dpall_len ha, List.length_map]
  refine r_lc_list (xs := xs) (fun i acc Ps => ∃ Gi, Le G Gi ∧ Ps = hp Gi :: R ∧ DpAll K Gi acc (((l.take i).filterMap f).map enc2) ∧ acc.length ≤ i) S ⟨G, Le.rfl, rfl, .nil, Nat.zero_le _⟩ (fun D i acc Ps H hi ⟨Gi, le, e, _⟩ S => by subst e; exact SqL.le (le.tr (hp_le S.tl)) hs) (SqL.le (hp_le S) hs) ?_ ?_
  · rintro D i x acc Ps H hi ⟨Gi, le, rfl, hacc, hn⟩ S
    obtain ⟨d, hd, hxd⟩ := dpall_at ha hi
    rw [List.getElem?_map] at hd
    cases ez : l[i]? with
    | none => rw [ez] at hd; cases hd
    | some z =>
      rw [ez] at hd
      cases hd
      have hi' := (List.getElem?_eq_some_iff.mp ez).1
      have st := lcd_step (f := f) (enc2 := enc2) ez
      refine turn z (List.mem_of_getElem? ez) D acc Gi x H _ le (Dp.le le _ _ hxd) (by omega) S (fun y zz G' H4 l4 ey hy S4 => ?_) (fun en H3 S3 => ?_)
      · refine cn_in S4 (by omega) ⟨G', le.tr l4, rfl, ?_, by rw [List.length_append]; simp; omega⟩
        cases q : f z with
        | none => rw [q] at ey; cases ey
        | some w =>
          rw [q] at ey st
          cases ey
          rw [st]
          exact dpall_snoc (DpAll.le l4 _ _ hacc) hy
      · refine cn_out S3 ⟨Gi, le, rfl, ?_, by omega⟩
        cases q : f z with
        | some w => rw [q] at en; cases en
        | none =>
          rw [q] at st
          rw [st, List.append_nil]
          exact hacc
  · rintro D acc Ps H ⟨Gi, le, rfl, hacc, hn⟩ S
    rw [hlen, List.take_length] at hacc
    exact fin D acc Gi H le hacc S
theorem r_lc_tup {Ps : List SP} (J : CW) (S : Sep Ps H) (h0 : J 0 [] Ps) (hl : ∀ D i acc Ps H, i ≤ xs.length → J i acc Ps → Sep (pt D (.lst acc) :: Ps) H → SqT K H a xs) (hl0 : SqT K H a xs)
    (hs : ∀ D i x acc Ps H, xs[i]? = some x → J i acc Ps → Sep (pt D (.lst acc) :: Ps) H → g x (wipe σ vs) H fun σ2 H2 => wipe σ2 vs = wipe σ vs ∧ tt σ2 H2 fun b H3 =>
      if b = true then te σ2 H3 fun y H4 => ∃ acc, H4 D = some (.lst acc) ∧ acc.length < sizeLine ∧ CN J D (i + 1) (upd H4 D (.lst (acc ++ [y]))) else CN J D (i + 1) H3)
    (hd : ∀ D acc Ps H, J xs.length acc Ps → Sep (pt D (.lst acc) :: Ps) H → Q (.ref D) H) : ∃ a', V.ref a = .ref a' ∧ (∃ xs, SqT K H a' xs) ∧ LcW (Itt K a') g tt te vs Q σ H :=
  ⟨a, rfl, ⟨xs, hl0⟩, fun D nD => lc_tup (K := K) (a := a) (xs := xs) (CN J D) ⟨[], Ps, h0, S.new _ nD⟩ (fun i H hi ⟨acc, Ps, j, S⟩ => hl D i acc Ps H hi j S) (fun i x H hi ⟨acc, Ps, j, S⟩ => hs D i x acc Ps H hi j S) fun H ⟨acc, Ps, j, S⟩ => hd D acc Ps H j S⟩
theorem r_lcT (S : Sep (hp G :: R) H) (hx : Dp K G (.ref a) (.tuple (l.map enc))) (hl : l.length ≤ 80000) (f : α → Option β) (enc2 : β → PyData) (turn : ∀ x ∈ l, LcT K G R g tt te vs σ (enc x) ((f x).map enc2))
    (fin : ∀ D acc G' H', Le G G' → DpAll K G' acc ((l.filterMap f).map enc2) → Sep (pt D (.lst acc) :: hp G' :: R) H' → Q (.ref D) H') : ∃ a', V.ref a = .ref a' ∧ (∃ xs, SqT K H a' xs) ∧ LcW (Itt K a') g tt te vs Q σ H := by
  obtain ⟨a', xs, ea, hs, ha⟩ := dp_tupInv hx
  cases ea
  have hlen : xs.length = l.length := by rw [dpall_len ha, List.length_map]
  refine r_lc_tup (xs := xs) (fun i acc Ps => ∃ Gi, Le G Gi ∧ Ps = hp Gi :: R ∧ DpAll K Gi acc (((l.take i).filterMap f).map enc2) ∧ acc.length ≤ i) S ⟨G, Le.rfl, rfl, .nil, Nat.zero_le _⟩ (fun D i acc Ps H hi ⟨Gi, le, e, _⟩ S => by subst e; exact SqT.le (le.tr (hp_le S.tl)) hs) (SqT.le (hp_le S) hs) ?_ ?_
  · rintro D i x acc Ps H hi ⟨Gi, le, rfl, hacc, hn⟩ S
    obtain ⟨d, hd, hxd⟩ := dpall_at ha hi
    rw [List.getElem?_map] at hd
    cases ez : l[i]? with
    | none => rw [ez] at hd; cases hd
    | some z =>
      rw [ez] at hd
      cases hd
      have hi' := (List.getElem?_eq_some_iff.mp ez).1
      have st := lcd_step (f := f) (enc2 := enc2) ez
      refine turn z (List.mem_of_getElem? ez) D acc Gi x H _ le (Dp.le le _ _ hxd) (by omega) S (fun y zz G' H4 l4 ey hy S4 => ?_) (fun en H3 S3 => ?_)
      · refine cn_in S4 (by omega) ⟨G', le.tr l4, rfl, ?_, by rw [List.length_append]; simp; omega⟩
        cases q : f z with
        | none => rw [q] at ey; cases ey
        | some w =>
          rw [q] at ey st
          cases ey
          rw [st]
          exact dpall_snoc (DpAll.le l4 _ _ hacc) hy
      · refine cn_out S3 ⟨Gi, le, rfl, ?_, by omega⟩
        cases q : f z with
        | some w => rw [q] at en; cases en
        | none =>
          rw [q] at st
          rw [st, List.append_nil]
          exact hacc
  · rintro D acc Ps H ⟨Gi, le, rfl, hacc, hn⟩ S
    rw [hlen, List.take_length] at hacc
    exact fin D acc Gi H le hacc S
end
end
end Kt

set_option Elab.async false
set_option linter.all false
set_option maxRecDepth 100000
namespace Kt
open PySem PySem.Spec L2 PyProof.Rows
/-! ### texts of data in which flat dicts stand -/
/-- a value that can be shown, told of the model's own heap -/
structure Shn (P : Program) (w : World) (h : Heap) (u : Value) (d : PyData) : Prop where
  rd : ∃ as, Reads h u d as
  kk : ∃ bs, ReadAtMost h d.depth bs ∧ ReprK P w bs h d.depth u d.shown
section
variable {P : Program} {w : World} {h : Heap} {u : Value} {d : PyData}
theorem shn_plain {as : List Addr} (r : Reads h u d as) (hs : d.showable = true) (hn : d.hasDict = false) (hz : d.shown.length ≤ sizeLine) : Shn P w h u d :=
  ⟨⟨as, r⟩, ReprK.of_reads r hs (fun z => by rw [hn] at z; cases z) hz⟩
theorem shn_all : ∀ {us : List Value} {ds : List PyData}, Paired (Shn P w h) us ds →
    (∃ as, ReadsAll h us ds as) ∧ ∃ bs, ReadAtMost h (PyData.depthAll ds) bs ∧ ReprAllK P w bs h (PyData.depthAll ds) us (PyData.shownAll ds)
  | _, _, .nil => ⟨⟨[], .nil⟩, [], nofun, .nil⟩
  | _, _, .cons ⟨⟨as, r⟩, b1, m1, k1⟩ t => by
    obtain ⟨⟨as2, r2⟩, b2, m2, k2⟩ := shn_all t
    refine ⟨⟨_, .cons r r2⟩, b1 ++ b2, ?_, ?_⟩
    · rw [PyData.depthAll]
      exact (m1.mono (Nat.le_max_left ..)).append (m2.mono (Nat.le_max_right ..))
    · rw [PyData.depthAll, PyData.shownAll]
      exact .cons ((k1.more fun b m => List.mem_append.mpr (.inl m)).level_le (Nat.le_max_left ..)) (k2.more_le (fun b m => List.mem_append.mpr (.inr m)) (Nat.le_max_right ..))
theorem shn_list {a : Addr} {o : Obj} {vs : Array Value} {n : Nat} {ds : List PyData} (e : h.get? a = some o) (c : o.cls = .type "list") (dt : o.data = .seq vs n) (t : Paired (Shn P w h) vs.toList ds) : Shn P w h (.ref a) (.list ds) := by
  obtain ⟨⟨as, r⟩, bs, m, k⟩ := shn_all t
  have rr := Reads.list e c dt r
  have ap : a ∉ bs := not_mem_of_deeper rr (by rw [PyData.depth]; omega) m
  refine ⟨⟨_, rr⟩, a :: bs, ReadAtMost.cons rr (by rw [PyData.depth]; omega) m, ?_⟩
  rw [PyData.depth, PyData.shown]
  obtain ⟨l⟩ := vs
  cases l with
  | nil =>
    cases (show Paired (Shn P w h) [] ds from t)
    rw [PyData.shownAll, listText_nil]
    exact ReprK.listEmpty e c dt
  | cons x l => exact ReprK.list e c dt ap (by simpa using k.length_eq) fun i y q => k.item i y (by simpa using q)
theorem shn_tuple {a : Addr} {o : Obj} {vs : Array Value} {n : Nat} {ds : List PyData} (e : h.get? a = some o) (c : o.cls = .type "tuple") (dt : o.data = .seq vs n) (t : Paired (Shn P w h) vs.toList ds) : Shn P w h (.ref a) (.tuple ds) := by
  obtain ⟨⟨as, r⟩, bs, m, k⟩ := shn_all t
  have rr := Reads.tuple e c dt r
  have ap : a ∉ bs := not_mem_of_deeper rr (by rw [PyData.depth]; omega) m
  refine ⟨⟨_, rr⟩, a :: bs, ReadAtMost.cons rr (by rw [PyData.depth]; omega) m, ?_⟩
  rw [PyData.depth, PyData.shown]
  exact ReprK.tuple e c dt ap k
theorem shn_dict {a : Addr} {o : Obj} {es : Array DictEntry} {n : Nat} {ds : List (PyData × PyData)} (e : h.get? a = some o) (c : o.cls = .type "dict") (dt : o.data = .dict es n) (sm : (a == sysModules) = false)
    (t1 : Paired (Shn P w h) (es.toList.map (·.key)) (ds.map (·.1))) (t2 : Paired (Shn P w h) (es.toList.map (·.val)) (ds.map (·.2))) : Shn P w h (.ref a) (.dict ds) ∧ ∃ bs, a ∉ bs ∧ ReprEntriesK P w bs h (PyData.depthKv ds) es.toList (PyData.shownKv ds) := by
  obtain ⟨⟨as, r⟩, bs, m, k⟩ := shn_all t1
  obtain ⟨⟨as2, r2⟩, bs2, m2, k2⟩ := shn_all t2
  have rr := Reads.dict e c dt r r2
  have mm : ReadAtMost h (PyData.depthKv ds) (bs ++ bs2) := (m.mono (PyData.depthAll_keys_le ds)).append (m2.mono (PyData.depthAll_vals_le ds))
  have ap : a ∉ bs ++ bs2 := not_mem_of_deeper rr (by rw [PyData.depth]; omega) mm
  have en : ReprEntriesK P w (bs ++ bs2) h (PyData.depthKv ds) es.toList (PyData.shownKv ds) := by
    rw [PyData.shownKv_eq]
    exact ReprEntriesK.of_two es.toList _ _ (k.more_le (fun b m => List.mem_append.mpr (.inl m)) (PyData.depthAll_keys_le ds)) (k2.more_le (fun b m => List.mem_append.mpr (.inr m)) (PyData.depthAll_vals_le ds))
  refine ⟨⟨⟨_, rr⟩, a :: (bs ++ bs2), ReadAtMost.cons rr (by rw [PyData.depth]; omega) mm, ?_⟩, bs ++ bs2, ap, en⟩
  rw [PyData.depth, PyData.shown]
  exact ReprK.dict e c dt sm ap en
end
/-! ### values that are no container, flat dicts -/
inductive Lf : V → PyData → Prop where
  | int (i : Int) (h : i.natAbs.log2 < 1920) : Lf (.int i) (.int i)
  | str (x : Str) (h : (PyData.str x).shown.length ≤ sizeLine) : Lf (.str x) (.str x)
  | bl (b : Bool) : Lf (.bl b) (.bool b)
  | non : Lf .non .none
def keyD : Key → PyData
  | .inl i => .int i
  | .inr x => .str x
/-- the entries of a dict, as data -/
abbrev KvD : List (Key × V) → List (PyData × PyData) → Prop := Paired fun kv p => Lf (kV kv.1) p.1 ∧ Lf kv.2 p.2
section
variable {P : Program} {w : World} {h : Heap}
theorem Lf.shn {v : V} {u : Value} {d : PyData} (l : Lf v d) (r : RelV v u) : Shn P w h u d := by
  cases l with
  | int i hi =>
    obtain ⟨t, rfl⟩ := r
    refine ⟨⟨_, .int i t⟩, [], nofun, ?_⟩
    rw [PyData.shown]
    exact .of_is (ReprIs.int t hi) _ _ _
  | str x hx =>
    obtain ⟨t, rfl⟩ := r
    refine ⟨⟨_, .str x t⟩, [], nofun, ?_⟩
    rw [PyData.shown] at hx ⊢
    exact .of_is (ReprIs.str x t hx) _ _ _
  | bl b =>
    cases r
    refine ⟨⟨_, .bool b⟩, [], nofun, ?_⟩
    rw [PyData.shown]
    exact .of_is (ReprIs.bool b) _ _ _
  | non =>
    cases r
    refine ⟨⟨_, .none⟩, [], nofun, ?_⟩
    rw [PyData.shown]
    exact .of_is ReprIs.none _ _ _
theorem key_rel {k : Key} {u : Value} (e : keyIs k u = true) : RelV (kV k) u := by
  rcases keyIs_shape e with ⟨i, t, rfl, rfl⟩ | ⟨x, t, rfl, rfl⟩
  · exact ⟨t, rfl⟩
  · exact ⟨t, rfl⟩
theorem kv_shn : ∀ {es : List DictEntry} {vs : List (Key × Value)} {kvs : List (Key × V)} {ds : List (PyData × PyData)}, Pairs (mixKind P w) es vs → KV kvs vs → KvD kvs ds →
    Paired (Shn P w h) (es.map (·.key)) (ds.map (·.1)) ∧ Paired (Shn P w h) (es.map (·.val)) (ds.map (·.2))
  | _, _, _, _, .nil, .nil, .nil => ⟨.nil, .nil⟩
  | _, _, _, _, .cons hk hv t, .cons ⟨e, r⟩ t2, .cons ⟨l1, l2⟩ t3 => by
    obtain ⟨a, b⟩ := kv_shn t t2 t3
    refine ⟨.cons (l1.shn ?_) a, .cons (l2.shn ?_) b⟩
    · rw [e]; exact key_rel hk
    · show RelV _ (DictEntry.val _)
      rw [hv]; exact r
end
/-! ### as parts of the abstract heap -/
/-- a value that is data: no dict in it, or a flat dict itself -/
inductive Dx (K : PySem.W.Frag) (H : Hp) : V → PyData → Prop where
  | dp {v : V} {d : PyData} (h : Dp K H v d) (hs : d.showable = true) (hn : d.hasDict = false) (hz : d.shown.length ≤ sizeLine) : Dx K H v d
  | dct {a : Addr} {kvs : List (Key × V)} {ds : List (PyData × PyData)} (e : Rd H a (.dK kvs)) (t : KvD kvs ds) : Dx K H (.ref a) (.dict ds)
section
variable {X : Cx} {pins : List (Addr × Obj)} {σ : L2.St} {H : Hp} {s : Shared}
theorem dct_obj {a : Addr} {kvs : List (Key × V)} {ds : List (PyData × PyData)} (I : Inv X pins σ H s) (e : Rd H a (.dK kvs)) (t : KvD kvs ds) :
    ∃ o es n, s.heap.get? a = some o ∧ o.cls = .type "dict" ∧ o.data = .dict es n ∧ (a == sysModules) = false ∧ Paired (Shn X.prog X.w s.heap) (es.toList.map (·.key)) (ds.map (·.1)) ∧ Paired (Shn X.prog X.w s.heap) (es.toList.map (·.val)) (ds.map (·.2)) := by
  obtain ⟨_, sm, vs, r, o, es, ep, ho, hx, hd, _, pr, _⟩ := dk_rd I.hok e
  obtain ⟨a1, a2⟩ := kv_shn (h := s.heap) pr r t
  exact ⟨o, es, ep, ho, hx.1, hd, sm, a1, a2⟩
theorem Dx.shn {v : V} {u : Value} {d : PyData} (I : Inv X pins σ H s) (x : Dx X.K H v d) (r : RelV v u) : Shn X.prog X.w s.heap u d := by
  cases x with
  | dp h hs hn hz =>
    obtain ⟨as, rd⟩ := Dp.reads I d _ _ h r
    exact shn_plain rd hs hn hz
  | dct e t =>
    cases r
    obtain ⟨o, es, n, ho, hc, hd, sm, a1, a2⟩ := dct_obj I e t
    exact (shn_dict ho hc hd sm a1 a2).1
theorem dx_all (I : Inv X pins σ H s) : ∀ {vs : List V} {us : List Value} {ds : List PyData}, Vals vs us → Paired (Dx X.K H) vs ds → Paired (Shn X.prog X.w s.heap) us ds
  | _, _, _, .nil, .nil => .nil
  | _, _, _, .cons r t, .cons x t2 => .cons (x.shn I r) (dx_all I t t2)
/-- repr of a list of data with flat dicts among it; of a flat dict -/
def cReprX (K : PySem.W.Frag) : List V → Hp → VK → Prop := fun xs H Q => cRepr K xs H Q ∨
  (∃ (a : Addr) (vs : List V) (ds : List PyData), xs = [.ref a] ∧ SqL K H a vs ∧ Paired (Dx K H) vs ds ∧ PyData.depthAll ds ≤ 50 ∧ (PyData.list ds).shown.length ≤ sizeLine ∧ Q (.str (PyData.list ds).shown) H) ∨
  (∃ (a : Addr) (kvs : List (Key × V)) (ds : List (PyData × PyData)), xs = [.ref a] ∧ Rd H a (.dK kvs) ∧ KvD kvs ds ∧ PyData.depthKv ds ≤ 50 ∧ (PyData.dict ds).shown.length ≤ sizeLine ∧ Q (.str (PyData.dict ds).shown) H)
theorem call_reprX (hg : X.A.guards = some []) (hu : X.A.units + 64 < cLine) : CallR X (.builtin "repr") (cReprX X.K) := by
  intro pins s σ H xs us Q I r h
  rcases h with h | ⟨a, vs, ds, rfl, sq, t, dp, hz, q⟩ | ⟨a, kvs, ds, rfl, e, t, dp, hz, q⟩
  · exact call_reprA hg hu pins s σ H xs us Q I r h
  · obtain ⟨u, rfl, r1⟩ := vals1 r
    cases r1
    obtain ⟨its, rv, ⟨o, n, ho, hc, _, hd⟩, _⟩ := I.list sq
    obtain ⟨⟨as, rs⟩, bs, m, k⟩ := shn_all (dx_all I rv t)
    have rr := Reads.list (vs := its.toArray) ho hc hd (by simpa using rs)
    have ap : a ∉ bs := not_mem_of_deeper rr (by rw [PyData.depth]; omega) m
    rw [PyData.shown] at hz q
    refine call_repr_slot (by omega) ⟨o, ho, hc⟩ PySem.F.slot_list_repr.toG ?_
    cases its with
    | nil =>
      cases rv
      cases t
      rw [PyData.shownAll, listText_nil] at q
      exact call_list_repr_empty ⟨o, ho, hc⟩ ho hd ⟨_, _, rfl, .str "[]", H, I.tok _, ⟨_, rfl⟩, q⟩
    | cons x l =>
      exact call_list_reprK ho hc hd ap (by simpa using k.length_eq) (fun i y q => k.item i y (by simpa using q)) (A := X.A.in1) hg (fun b _ => Clear.nil b) (by show X.A.units + 1 + (PyData.depthAll ds + 1) < cLine; omega) (fun _ _ e => e) (fun h' u tk hk => ⟨_, _, rfl, .str _, H, I.kept hk, ⟨u, rfl⟩, q⟩) hz
  · obtain ⟨u, rfl, r1⟩ := vals1 r
    cases r1
    obtain ⟨o, es, n, ho, hc, hd, sm, a1, a2⟩ := dct_obj I e t
    obtain ⟨_, bs, ap, en⟩ := shn_dict ho hc hd sm a1 a2
    rw [PyData.shown] at hz q
    refine call_repr_slot (by omega) ⟨o, ho, hc⟩ PySem.F.slot_dict_repr ?_
    exact call_dict_reprK ho hc hd sm ap en (A := X.A.in1) hg (fun b _ => Clear.nil b) (by show X.A.units + 1 + (PyData.depthKv ds + 1) < cLine; omega) (fun _ _ e => e) (fun h' u tk hk => ⟨_, _, rfl, .str _, H, I.kept hk, ⟨u, rfl⟩, q⟩) hz
end
end Kt

set_option Elab.async false
set_option linter.all false
set_option maxRecDepth 100000
set_option maxHeartbeats 1000000
namespace Kt
open PySem PySem.Spec L2 PyProof.Rows
/-! ### errors as values: what the written part says of an own error class, looked at in one go -/
def exCls (K : PySem.W.Frag) (C : Addr) : Bool := match K.lookup C with
  | some ⟨.type "type", _, .cls cd, sl⟩ => (match cd.mro, sl.toList with
    | .ref C' :: bm, [_, _, _, _, some (.builtin n), _] => C' == C && n == "ValueError.__new__" && cd.hasDict && !cd.hasDel && PySem.HandSPX.refsVE bm
    | _, _ => false)
  | _ => false
def exOk (K : PySem.W.Frag) (C : Addr) : Bool := exCls K C
  && (PySem.W.findIn K (.ref C) "__setattr__" == some (some (.builtin "object.__setattr__")))
  && (PySem.W.subIn K (.ref C) (.type "BaseException") == some true)
  && (PySem.W.typeIn K (.ref C) == some (.type "type"))
  && (PySem.W.keepIn K (.ref C))
  && (PySem.W.clsIn K C).isSome
  && (PySem.W.findIn K (.ref C) "__getattribute__" == some (some (.builtin "BaseException.__getattribute__")))
  && (PySem.W.findIn K (.ref C) "__getattr__" == some none)
  && (PySem.W.findIn K (.ref C) "__class__" == some (some (.builtin "object.__class__")))
  && (PySem.W.specialIn K (.builtin "object.__class__") "__get__" == some (some (.builtin "getset_descriptor.__get__")))
  && (PySem.W.takesIn K (.builtin "object.__class__") == some true)
  && (PySem.W.mroIn K C (.type "object") == some true)
  && (PySem.W.hasDictIn K C)
structure ExF (K : PySem.W.Frag) (C : Addr) : Prop where
  ox : OexC K C
  er : ErC K C
  hd : PySem.W.hasDictIn K C = true
theorem exCls_of {K : PySem.W.Frag} {C : Addr} (q : exCls K C = true) : ∃ nm q N bs bm sn sub ab col dd k0 k1 k2 k3 k5, K.lookup C = some (excClassObj nm q C N bs bm true sn sub ab col dd k0 k1 k2 k3 k5 "ValueError.__new__") ∧ PySem.HandSPX.refsVE bm = true := by
  unfold exCls at q
  split at q
  · rename_i dd cd sl ho
    split at q
    · rename_i C' bm k0 k1 k2 k3 n k5 hm hs
      simp only [Bool.and_eq_true, beq_iff_eq, Bool.not_eq_true'] at q
      obtain ⟨⟨⟨⟨rfl, rfl⟩, hdi⟩, hdel⟩, hok⟩ := q
      obtain ⟨nm, bs, mro, ns, qn, hd, sn, sub, ab, col, del⟩ := cd
      dsimp only at hm hdel hdi
      subst hm hdel hdi
      have hsl : sl = #[k0, k1, k2, k3, some (.builtin "ValueError.__new__"), k5] := by
        obtain ⟨l⟩ := sl
        simp only at hs
        rw [hs]
      subst hsl
      exact ⟨nm, qn, ns, bs, bm, sn, sub, ab, col, dd, k0, k1, k2, k3, k5, ho, hok⟩
    · cases q
  · cases q
theorem exf_of {K : PySem.W.Frag} {C : Addr} (q : exOk K C = true) : ExF K C := by
  unfold exOk at q
  simp only [Bool.and_eq_true, beq_iff_eq] at q
  obtain ⟨⟨⟨⟨⟨⟨⟨⟨⟨⟨⟨⟨a0, a1⟩, a2⟩, a3⟩, a4⟩, a5⟩, a6⟩, a7⟩, a8⟩, a9⟩, a10⟩, a11⟩, a12⟩ := q
  exact ⟨⟨exCls_of a0, a1, a2, a3, a4⟩, ⟨a5, a6, a7, a2, a8, a9, a10, a11⟩, a12⟩
/-! ### a new error as a value -/
/-- C(e, ..), C's own __init__ keeping sp -/
def tMkV (C : Addr) (sp : Sp) (ta : TA) : TE := fun σ H Q => ta σ H fun vs H1 => vs.length ≤ 1000 ∧ ∀ a, H1 a = none → sp (.ref a :: vs) (upd H1 a (exo a C none)) (fun v H2 => v = .non ∧ Q (.ref a) H2) E0
/-- an own error class with its own __init__ -/
structure Exi (P : Program) (w : World) (K : PySem.W.Frag) (mg : Str → Option Value) (base : Heap) (k : Nat) (x : Str) (C : Addr) (ps : List Str) (sp : Sp) : Prop where
  fn : ∃ fI fd, FnOk P w K mg base CX0 k fI fd ps sp ∧ Binds K fd ps [] ∧ PySem.W.findIn K (.ref C) "__init__" = some (some (.ref fI)) ∧ PySem.W.typeIn K (.ref fI) = some (.type "function")
  ex : ExF K C
  at_ : mg x = some (.ref C)
section
variable {X : Cx} {C : Addr} {k : Nat} {ps : List Str} {sp : Sp} {x : Str} {e : Expr} {es : List Expr} {ta : TA} {p pos : Pos}
theorem pe_exi (M : Exi X.prog X.w X.K X.mg X.base k x C ps sp) (hr : Room (k + 1) X.A) (ha : PA X (e :: es) ta) (hg : Gl X x := by rfl) (hdb : (x == ("__debug__" : Str)) = false := by decide)
    (he : starEach (e :: es) X.env = (false, eval e X.env) :: starEach es X.env := by rfl) (hpl : (backTo pos (starEach es X.env)).any (·.1) = false := by rfl) :
    PE X (.Call (.Name x p) (e :: es) [] pos) (tMkV C sp ta) := by
  obtain ⟨fI, fd, F1, hb, iC, tI⟩ := M.fn
  obtain ⟨nm, q, N, bs, bm, sn, sub, ab, col, dd, k0, k1, k2, k3, k5, hC, hbm⟩ := M.ex.ox.cls
  refine ⟨fun pins s σ H Q I h => ?_⟩
  refine wpAny_Call_Name_kw (ld_glob I hg M.at_ ?_ hdb)
  refine PySem.W.callWith_K (h₀ := X.base) I.ok.mod.kin M.ex.ox.kC (thn (ha.run pos pins s σ H _ I h) fun us s1 ⟨vs, H1, I1, r1, hz, q1⟩ => ⟨I1.kIn, ?_⟩) he hpl
  show wpAny _ _ (call (.ref C) us) _ _ _
  obtain ⟨hp, g, dr, tk, os⟩ := s1
  have hsz : hp.objs.size ≤ hp.objs.size + 1 := Nat.le_succ _
  have hn : H1 (hp.objs.size + 1) = none := I1.hok.fresh hsz
  have hq := q1 (hp.objs.size + 1) hn
  have kk : ∀ b o, hp.get? b = some o → ((hp.push (PySem.W.kdv_tup us)).push (PySem.HandSPX.excO C hp.objs.size)).get? b = some o := fun b o e => Heap.get?_push_of_some _ (Heap.get?_push_of_some _ e)
  have hget : ((hp.push (PySem.W.kdv_tup us)).push (PySem.HandSPX.excO C hp.objs.size)).get? (hp.objs.size + 1) = some (PySem.HandSPX.excO C hp.objs.size) := by heap_get
  have I2 : Inv X pins σ (upd H1 (hp.objs.size + 1) (exo (hp.objs.size + 1) C none)) ⟨(hp.push (PySem.W.kdv_tup us)).push (PySem.HandSPX.excO C hp.objs.size), g, dr, tk, os⟩ :=
    I1.laid (t' := tk) (a := hp.objs.size + 1) (o := exo (hp.objs.size + 1) C none) (h' := (hp.push (PySem.W.kdv_tup us)).push (PySem.HandSPX.excO C hp.objs.size)) kk hsz (exo_ok hget)
  have r2 : Vals (V.ref (hp.objs.size + 1) :: vs) (Value.ref (hp.objs.size + 1) :: us) := .cons rfl r1
  have hl : (Value.ref (hp.objs.size + 1) :: us).length = ps.length := by
    have e := r2.length
    rw [F1.len _ _ _ _ hq] at e
    exact e.symm
  have hus : us.length ≤ sizeLine := by
    rw [← Paired.length r1, sizeLine_eq]
    omega
  have bd := hb _ (Value.ref (hp.objs.size + 1) :: us) I2.kIn (by rw [List.append_nil]; exact hl)
  rw [List.append_nil] at bd
  refine wpAny_call (PySem.HandSPX.call_own F.excBase_ValueError (fun Y => PySem.HandSPX.refsVE_contains Y bm hbm) (I1.kIn _ _ hC) (PySem.W.looks_findIn I1.kIn iC) (fun self => PySem.W.bind_fn I1.kIn self tI) hus
    (codeAny_mono (F1.run _ X.stack _ _ ⟨Value.ref (hp.objs.size + 1) :: us, []⟩ (Value.ref (hp.objs.size + 1) :: us) _ _ E0 (hr.make C us []) (I2.env0.make C us []) bd r2 hq) fun r s' hq' => ?_))
  cases r with
  | error er => exact pass0 pins σ _ _ er s' I2 hq'
  | ok fl =>
    cases fl with
    | ret u =>
      obtain ⟨v, H2, I3, rv, ev, q3⟩ := I2.after hq'
      subst ev
      exact ⟨rv, ⟨V.ref (hp.objs.size + 1), H2, I3, rfl, q3⟩⟩
    | next => exact False.elim hq'
    | brk => exact False.elim hq'
    | cont => exact False.elim hq'
/-- C(), C without own __init__ -/
def tMk0 (C : Addr) : TE := fun _ H Q => ∀ a, H a = none → Q (.ref a) (upd H a (exo a C none))
structure Ex0 (K : PySem.W.Frag) (mg : Str → Option Value) (bmB : List Value) (x : Str) (C : Addr) : Prop where
  ok : PySem.W.excIn K C bmB "ValueError.__new__" = true
  ex : ExF K C
  at_ : mg x = some (.ref C)
theorem pe_ex0 {bmB : List Value} {initId B : String} (F : ExcBaseFacts B "ValueError.__new__" initId bmB) (M : Ex0 X.K X.mg bmB x C) (hg : Gl X x := by rfl) (hdb : (x == ("__debug__" : Str)) = false := by decide) : PE X (.Call (.Name x p) [] [] pos) (tMk0 C) := by
  refine ⟨fun pins s σ H Q I h => ?_⟩
  refine wpAny_Call_Name_kw (ld_glob I hg M.at_ ?_ hdb)
  refine PySem.W.callWith_K0 I.kIn M.ex.ox.kC ?_
  obtain ⟨bm, N, nm, qn, bs, hdct, sn, sub, ab, col, dd, k0, k1, k2, k3, k5, mN, hC, hN, hni, T⟩ := exc_obj I.kIn M.ok
  obtain ⟨hp, g, dr, tk, os⟩ := s
  refine wpAny_call_exc_subT (rest := []) F T hC hN hni (fun h' a hm => ?_) (by show 0 ≤ sizeLine; rw [sizeLine_eq]; omega)
  have hn : H a = none := I.hok.gone hm.new
  obtain ⟨t, ht, _, _⟩ := hm.there
  exact ⟨.ref a, upd H a (exo a C none), I.laidN hm.keeps hm.new hn (exo_ok ht), rfl, h a hn⟩
/-! ### isinstance of an error, its fields -/
def ErO (H : Hp) (a C : Addr) (fs : List (Str × V)) : Prop := (fs = [] ∧ H a = some (exo a C none)) ∨ ∃ d, H a = some (exo a C (some d)) ∧ H d = some (exd d fs)
def rIsE (K : PySem.W.Frag) : List V → Hp → VK → Prop := fun xs H Q => ∃ (a D : Addr) (fs : List (Str × V)) (c : V) (cv : Value) (b : Bool), xs = [.ref a, c] ∧ ClsV c cv ∧ ErO H a D fs ∧ ExF K D ∧ PySem.W.kitOne K (.ref D) cv = some b ∧ Q (.bl b) H
theorem erO_inst {pins : List (Addr × Obj)} {σ : L2.St} {H : Hp} {s : Shared} {a D : Addr} {fs : List (Str × V)} (I : Inv X pins σ H s) (h : ErO H a D fs) :
    ∃ oe od, PySem.W.InstAt s.heap a oe D od := by
  rcases h with ⟨_, e⟩ | ⟨d, e, ed⟩
  · obtain ⟨t1, ho⟩ := exo_at I.hok e
    exact ⟨_, none, ho, rfl, rfl, trivial⟩
  · obtain ⟨t1, ho⟩ := exo_at I.hok e
    obtain ⟨mA, hns, rel⟩ := exd_at I.hok ed
    obtain ⟨od, hod, _⟩ := lookIn_ns hns
    exact ⟨_, some od, ho, rfl, rfl, hod⟩
theorem call_isE : CallR X (.builtin "isinstance") (rIsE X.K) := by
  intro pins s σ H xs us Q I r h
  obtain ⟨a, D, fs, c, cv, b, rfl, hc, ho, T, e, q⟩ := h
  cases r with
  | cons rx rr =>
    cases rr with
    | cons rt rr =>
      cases rr
      cases rx
      have e2 := hc.eq rt
      subst e2
      obtain ⟨oe, od, J⟩ := erO_inst I ho
      have T := T.er
      exact PySem.W.kia_one (PySem.W.kitx_exc T.cl T.ga T.gt T.sb T.ha T.hn T.ht T.hm) I.kIn J e (fun z => nomatch z) fun tk => ⟨.bl b, H, I.tok _, rfl, q⟩
/-- e.f -/
def tXFld (K : PySem.W.Frag) (te : TE) (f : Str) : TE := fun σ H Q => te σ H fun x H1 => ∃ (a D d : Addr) (fs : List (Str × V)) (v : V), x = .ref a ∧ ExF K D ∧ PySem.W.findIn K (.ref D) f = some none ∧ H1 a = some (exo a D (some d)) ∧ H1 d = some (exd d fs) ∧ fs.lookup f = some v ∧ Q v H1
theorem pe_xfld {te : TE} {f : Str} (he : PE X e te) (hb : attributeBase e f X.env (eval e X.env) = eval e X.env := by rfl) : PE X (.Attribute e f pos) (tXFld X.K te f) := by
  refine ⟨fun pins s σ H Q I h => ?_⟩
  refine attr_of hb (thn (he.run pins s σ H _ I h) fun u s1 hh => ?_)
  obtain ⟨x, H1, I1, rx, a, D, d, fs, v, ex, T, noN, ea, ed, l, q⟩ := hh
  subst ex
  obtain rfl : u = Value.ref a := rx
  obtain ⟨t1, ho⟩ := exo_at I1.hok ea
  obtain ⟨mA, hns, rel⟩ := exd_at I1.hok ed
  obtain ⟨od, hod, hl⟩ := lookIn_ns hns
  obtain ⟨u, hu, ru⟩ := RelO.some_of (v := v) (o := mA f) (by rw [← l]; exact rel f)
  have J : PySem.W.InstAt s1.heap a _ D (some od) := ⟨ho, rfl, rfl, hod⟩
  exact PySem.HandSPX.exc_get I1.kIn J T.er.ga T.er.gt T.ox.exC (PySem.W.findObj_own T.hd noN rfl (by rw [hl, hu])) (handed_of ru) ⟨v, H1, I1.tok _, ru, q⟩
/-! ### == of two lists with the same things -/
def noF : V → Bool
  | .byt _ => false
  | .flt _ => false
  | _ => true
def rEqId (K : PySem.W.Frag) : R2 := fun x y H Q => ∃ (a b : Addr) (xs : List V), x = .ref a ∧ y = .ref b ∧ SqL K H a xs ∧ SqL K H b xs ∧ xs.all noF = true ∧ Q (.bl true) H
theorem eqAt_id {A : Around} {s : Shared} {v : V} {u u' : Value} (r : RelV v u) (r' : RelV v u') (h : noF v = true) : SeqAt.EqAt A s u u' true := by
  cases v with
  | non => cases r; cases r'; exact SeqAt.EqAt.same _
  | bl b => cases r; cases r'; exact SeqAt.EqAt.same _
  | int i =>
    obtain ⟨t, rfl⟩ := r
    obtain ⟨t', rfl⟩ := r'
    have z := SeqAt.EqAt.int_int (A := A) (s := s) i t i t'
    rwa [beq_self_eq_true] at z
  | str x =>
    obtain ⟨t, rfl⟩ := r
    obtain ⟨t', rfl⟩ := r'
    have z := SeqAt.EqAt.str_str (A := A) (s := s) x t x t'
    rwa [beq_self_eq_true] at z
  | byt b => cases h
  | flt b => cases h
  | ref a => cases r; cases r'; exact SeqAt.EqAt.same _
  | ty n => cases r; cases r'; exact SeqAt.EqAt.same _
theorem op_eqId (hu : X.A.units < cLine) : OpR X (compareOp .Eq) (rEqId X.K) := by
  intro pins s σ H x y v u Q I rx ry h
  obtain ⟨a, b, xs, rfl, rfl, sa, sb, hf, q⟩ := h
  obtain rfl : v = Value.ref a := rx
  obtain rfl : u = Value.ref b := ry
  obtain ⟨its, r, pl, hz⟩ := I.list sa
  obtain ⟨its', r', pl', hz'⟩ := I.list sb
  have l1 := r.length
  have l2 := r'.length
  refine SeqAt.eq_listAt (e := fun _ => true) pl.isList pl'.isList (by simp only [List.size_toArray]; omega) hu (fun j h1 h2 => ?_) ⟨.bl true, H, I, ?_, q⟩
  · simp only [List.size_toArray] at h1 h2
    have hj : j < xs.length := by omega
    obtain ⟨w1, e1, r1⟩ := r.get (List.getElem?_eq_getElem hj)
    obtain ⟨w2, e2, r2⟩ := r'.get (List.getElem?_eq_getElem hj)
    have e3 : its.toArray[j] = w1 := by simpa [List.getElem?_eq_getElem h1] using e1
    have e4 : its'.toArray[j] = w2 := by simpa [List.getElem?_eq_getElem h2] using e2
    rw [e3, e4]
    exact eqAt_id r1 r2 (List.all_eq_true.mp hf _ (List.getElem_mem hj))
  · show Value.bool _ = Value.bool true
    simp
end
/-! ### a value of any kind in a tuple of texts -/
theorem dict_eq_declines_str (l : Addr) (es : Array DictEntry) (n : Nat) (dd : Option Addr) (sl : Array (Option Value)) (b : Str) (u : Tok) :
    Meets (Builtin.«dict.__eq__» ⟨[.ref l, .str b u], []⟩) (fun _ R s => s.heap.get? l = some { cls := .type "dict", dict := dd, data := .dict es n, slots := sl } ∧ R (.ok (.ret .notImplemented)) s) :=
  .of_wp fun prog w A R s h => by
    obtain ⟨hp, g, d, tk, os⟩ := s
    obtain ⟨hl, h⟩ := h
    have f1 := PySem.F.sub_str_dict
    wp_walk using wpAny_loadPart' hl
    exact ⟨_, rfl, h⟩
theorem str_eq_declines_dict (b : Str) (u : Tok) (l : Addr) (c : Value) (es : Array DictEntry) (n : Nat) (dd : Option Addr) (sl : Array (Option Value)) :
    Meets (Builtin.«str.__eq__» ⟨[.str b u, .ref l], []⟩) (fun _ R s => s.heap.get? l = some { cls := c, dict := dd, data := .dict es n, slots := sl } ∧ R (.ok (.ret .notImplemented)) s) :=
  .of_wp fun prog w A R s h => by obtain ⟨hp, g, d, tk, os⟩ := s; obtain ⟨hl, h⟩ := h; wp_walk using wpAny_loadPart' hl, wpAny_load hl; exact ⟨_, rfl, h⟩

section
open PySem.SeqAt
variable {A : Around} {s : Shared}
theorem rc_str_dict {b : Str} {u : Tok} {l : Addr} {es : Array DictEntry} {n : Nat} {dd : Option Addr} {sl : Array (Option Value)} (ho : s.heap.get? l = some { cls := .type "dict", dict := dd, data := .dict es n, slots := sl }) (hu : A.units < cLine) : RcAt A s (.str b u) (.ref l) false := fun prog w E Q h =>
  rc_eq_decline_or (k := false) (typeIs_str s b u) ⟨_, ho, rfl⟩ (by decide) PySem.F.sub_dict_str PySem.F.slot_str_eq PySem.F.slot_dict_eq_refl
    (fun _ hq => call_meets PySem.F.slot_str_eq (typeIs_str s b u) PySem.F.entry_str_eq (PySem.F.args_str_eq_2 _ _) (str_eq_declines_dict b u l (.type "dict") es n dd sl) ⟨ho, hq⟩)
    (fun _ hq => call_meets PySem.F.slot_dict_eq_refl ⟨_, ho, rfl⟩ PySem.F.entry_dict_eq (PySem.F.args_dict_eq_2 _ _) (dict_eq_declines_str l es n dd sl b u) ⟨ho, hq⟩)
    (fun _ hq => wpAny_of_eq (rfl : isSame (.str b u) (.ref l) = pure false) hq) (.inr hu) h
theorem eqAt_str_dict {b : Str} {u : Tok} {l : Addr} {es : Array DictEntry} {n : Nat} {dd : Option Addr} {sl : Array (Option Value)} (ho : s.heap.get? l = some { cls := .type "dict", dict := dd, data := .dict es n, slots := sl }) (hu : A.units < cLine) : EqAt A s (.str b u) (.ref l) false := fun prog w E Q h => by
  unfold eqBool
  refine wpAny_holding ?_
  refine wpAny_ite_split (fun hab => absurd (eq_of_beq hab) nofun) (fun _ => ?_)
  exact wpAny_bind (rc_str_dict ho hu prog w E _ (wpAny_truthy_bool h))
end
/-- what is no text -/
def NoS (K : PySem.W.Frag) (H : Hp) (x : V) : Prop := x = .non ∨ (∃ b, x = .bl b) ∨ (∃ i, x = .int i) ∨ (∃ a xs, x = .ref a ∧ SqL K H a xs) ∨ (∃ a xs, x = .ref a ∧ SqT K H a xs) ∨ ∃ a kvs, x = .ref a ∧ Rd H a (.dK kvs)
def rInTx (K : PySem.W.Frag) : R2 := fun x y H Q => ∃ (p : Addr) (ws : List Str), y = .ref p ∧ SqT K H p (ws.map V.str) ∧ ((∃ z, x = .str z ∧ Q (.bl (decide (z ∈ ws))) H) ∨ (NoS K H x ∧ Q (.bl false) H))
theorem str_of : ∀ {ws : List Str} {its : List Value}, Vals (ws.map V.str) its → ∀ u ∈ its, ∃ z t, u = Value.str z t
  | [], _, .nil, u, h => by cases h
  | w :: ws, _, .cons r t, u, h => by
    rcases List.mem_cons.mp h with rfl | h
    · obtain ⟨tk, rfl⟩ := r
      exact ⟨w, tk, rfl⟩
    · exact str_of t u h
section
variable {X : Cx}
theorem eqAt_noS {pins : List (Addr × Obj)} {σ : L2.St} {H : Hp} {s : Shared} {x : V} {v : Value} {z : Str} {t : Tok} (I : Inv X pins σ H s) (hu : X.A.units + 8 < cLine) (n : NoS X.K H x) (r : RelV x v) : SeqAt.EqAt X.A.in1 s (.str z t) v false := by
  have hu1 : X.A.in1.units < cLine := by show X.A.units + 1 < cLine; omega
  rcases n with rfl | ⟨b, rfl⟩ | ⟨i, rfl⟩ | ⟨a, xs, rfl, h⟩ | ⟨a, xs, rfl, h⟩ | ⟨a, kvs, rfl, h⟩
  · cases r; exact SeqAt.EqAt.str_none z t
  · cases r; exact SeqAt.EqAt.str_bool z t b
  · obtain ⟨t', rfl⟩ := r; exact SeqAt.EqAt.str_int z t i t'
  · cases r
    obtain ⟨its, rv, pl, hz⟩ := I.list h
    exact SeqAt.EqAt.str_list z t pl.isList hu1
  · cases r
    obtain ⟨its, rv, pl, hz⟩ := I.tuple h
    exact SeqAt.EqAt.str_tuple z t pl hu1
  · cases r
    obtain ⟨_, sm, vs, r, o, es, ep, ho, hx, hd, _⟩ := dk_rd I.hok h
    obtain ⟨c, dd, dt, sl⟩ := o
    have hc := hx.1
    dsimp only at hc hd
    subst hc hd
    exact eqAt_str_dict ho hu1
theorem op_inTx (hu : X.A.units + 8 < cLine) : OpR X (compareOp .In) (rInTx X.K) := by
  intro pins s σ H x y v u Q I rx ry h
  obtain ⟨p, ws, rfl, hq, h⟩ := h
  rcases h with ⟨z, rfl, q⟩ | ⟨n, q⟩
  · exact op_in_seq pins s σ H _ _ v u Q I rx ry ⟨p, _, rfl, .inr hq, rfl, flat_strs ws, by rw [if_neg Bool.false_ne_true, in_strs]; exact q⟩
  · cases ry
    obtain ⟨its, r, pl, hz⟩ := I.tuple hq
    refine SeqAt.in_tupleAt (fun _ => false) pl (fun w hw => ?_) ⟨.bl false, H, I, by show Value.bool _ = Value.bool false; simp, q⟩
    obtain ⟨z, t, rfl⟩ := str_of r w (by simpa using hw)
    exact eqAt_noS I hu n rx
end
end Kt

set_option Elab.async false
set_option linter.all false
set_option maxRecDepth 100000
namespace Kt
open PySem L2 PyProof.Rows
/-! ### the items of a tuple, one after another, in an enumeration -/
section
variable {P : Program} {w : World} {A : Around} {E : Value → Shared → Prop} {s : Shared}
theorem nextTup {jt tu k : Nat} {vs : Array Value} {y : Value} {Z : Value → Shared → Prop} (hj : s.heap.IsTupleIter jt tu k) (hu : s.heap.IsTuple tu vs) (hy : vs[k]? = some y)
    (q : ∀ h2, h2.IsTupleIter jt tu (k + 1) → Heap.SameBut jt s.heap h2 → Z y { s with heap := h2 }) : wpAny (model P w) A (Builtin.SmallTypes.nextOf (.ref jt)) Z E s := by
  obtain ⟨oj, ej, cj, dj⟩ := id hj
  obtain ⟨ou, eu, _, nu, du⟩ := hu
  unfold Builtin.SmallTypes.nextOf
  refine wpAny_bind (wpAny_callSpecial?_slot (name := Str.ofString "__next__") hj.typeIs F.slot_tuple_iterator_next (wpAny_call_entry F.slot_tuple_iterator_next hj.typeIs F.entry_tuple_iterator_next ?_ (F.args_tuple_iterator_next_1 _)))
  show wpAny _ _ (field (.ref jt) 0 >>= _) _ _ s
  refine wpAny_bind (wpAny_field ej dj (x := .ref tu) rfl ?_)
  show wpAny _ _ (if (Value.ref tu == Value.none) = true then _ else _) _ _ s
  rw [if_neg (show ¬ ((Value.ref tu == Value.none) = true) from nofun)]
  show wpAny _ _ (field (.ref jt) 1 >>= _) _ _ s
  refine wpAny_bind (wpAny_field ej dj (x := .int k 0) rfl ?_)
  show wpAny _ _ (seqItems? (.ref tu) >>= _) _ _ s
  refine wpAny_bind (wpAny_seqItems eu du ?_)
  simp only [Int.toNat_natCast, hy]
  refine wpAny_bind (wpAny_setField ej dj (by simp) (wpAny_pure ⟨y, rfl, wpAny_pure (q _ ?_ (Heap.SameBut.update ..))⟩))
  exact ⟨_, Heap.get?_update_self _ ej (Obj.isFreed_of_fields (Obj.data_mapFields dj _)), (Obj.cls_mapFields ..).trans cj, by rw [Obj.data_mapFields dj]; simp [rawInt]⟩
theorem nextTupEnd {jt tu k : Nat} {vs : Array Value} {Z : Value → Shared → Prop} (h0 : A.handled = none) (hj : s.heap.IsTupleIter jt tu k) (hu : s.heap.IsTuple tu vs) (hy : vs[k]? = none)
    (q : ∀ h2 e, Heap.ExtBut jt s.heap h2 → (∃ o, h2.get? e = some o ∧ o.cls = .type "StopIteration") → E (.ref e) { s with heap := h2 }) : wpAny (model P w) A (Builtin.SmallTypes.nextOf (.ref jt)) Z E s := by
  obtain ⟨oj, ej, cj, dj⟩ := id hj
  obtain ⟨ou, eu, _, nu, du⟩ := hu
  unfold Builtin.SmallTypes.nextOf
  refine wpAny_bind (wpAny_callSpecial?_slot (name := Str.ofString "__next__") hj.typeIs F.slot_tuple_iterator_next (wpAny_call_entry F.slot_tuple_iterator_next hj.typeIs F.entry_tuple_iterator_next ?_ (F.args_tuple_iterator_next_1 _)))
  show wpAny _ _ (field (.ref jt) 0 >>= _) _ _ s
  refine wpAny_bind (wpAny_field ej dj (x := .ref tu) rfl ?_)
  show wpAny _ _ (if (Value.ref tu == Value.none) = true then _ else _) _ _ s
  rw [if_neg (show ¬ ((Value.ref tu == Value.none) = true) from nofun)]
  show wpAny _ _ (field (.ref jt) 1 >>= _) _ _ s
  refine wpAny_bind (wpAny_field ej dj (x := .int k 0) rfl ?_)
  show wpAny _ _ (seqItems? (.ref tu) >>= _) _ _ s
  refine wpAny_bind (wpAny_seqItems eu du ?_)
  simp only [Int.toNat_natCast, hy]
  refine wpAny_bind (wpAny_rule (wpAny_bind (wpAny_setField ej dj (by simp) ?_)))
  show wpAny _ _ (newExc (.type "StopIteration") [] >>= _) _ _ _
  refine wpAny_bind (m := newExc _ _) ?_
  simp only [newExc, newTuple]
  refine wpAny_bind (wpAny_newObj_type (by exact (wpAny_bind (m := firstArgMember _ _) (wpAny_of_eq (a := Value.none) (by first | rfl | (simp only [firstArgMember]; rfl)) (by
    refine wpAny_newObj_type (by
      simp only [raiseNew]
      refine wpAny_bind (wpAny_handled (by
        first | rw [show A.in1.handled = none from h0] | rw [h0]
        exact wpAny_bind (wpAny_pure (wpAny_throw (q _ _ (((Heap.SameBut.update ..).extBut.push _).push _) ⟨_, Heap.get?_push_size _ rfl, rfl⟩))))) ) (by size_fits))))) (by size_fits))
end

theorem drawsTup {P : Program} {w : World} {A : Around} (h0 : A.handled = none) (jt tu : Addr) (ne : tu ≠ jt) (vs : Array Value) :
    Draws P w A jt [jt, tu] vs.size (fun k y => vs[k]? = some y) (fun k h => h.IsTupleIter jt tu k ∧ h.IsTuple tu vs) where
  live := fun _ _ z => let ⟨o, ho, _⟩ := z.1; ⟨o, ho⟩
  frame := fun _ _ _ z g => ⟨z.1.at fun o e => g jt (by simp) o e, z.2.at fun o e => g tu (by simp) o e⟩
  item := fun k s Z E lt z q => by
    refine nextTup z.1 z.2 (y := vs[k]) (by simp [lt]) fun h2 hj sb => ?_
    exact q _ h2 s.toks (by simp [lt]) ⟨hj, z.2.extBut sb.extBut ne⟩ sb
  done := fun s Z E z q => nextTupEnd h0 z.1 z.2 (by simp) q
theorem meetsEnumT (tu : Addr) (vs : Array Value) (n : Nat) (dd : Option Addr) (sl : Array (Option Value)) :
    Meets (Builtin.«enumerate.__new__» ⟨[.type "enumerate", .ref tu], []⟩) (fun _ R s => s.heap.get? tu = some { cls := .type "tuple", dict := dd, data := .seq vs n, slots := sl } ∧
      R (.ok (.ret (.ref (s.heap.push { cls := .type "tuple_iterator", data := .fields #[.ref tu, .int 0 0] }).objs.size)))
        { s with heap := (s.heap.push { cls := .type "tuple_iterator", data := .fields #[.ref tu, .int 0 0] }).push { cls := .type "enumerate", data := .fields #[.none, .bool false, .ref s.heap.objs.size, rawInt 0, .none, .none] } }) :=
  .of_wp fun prog w A R s h => by
    obtain ⟨hp, g, d, tk, os⟩ := s; obtain ⟨e1, h⟩ := h
    have hsub := sub_enumerate
    have hT : Heap.IsTuple (Shared.heap ⟨hp, g, d, tk, os⟩) tu vs := ⟨_, e1, rfl, n, rfl⟩
    wp_walk
    refine wpAny_stack_any fun st => wpAny_pure ?_
    split
    · rename_i c _ _ _ _ _
      cases (c == Value.type "enumerate")
      · wp_walk using wpAny_pyIter_tuple hT
        exact ⟨_, rfl, h⟩
      · wp_walk using wpAny_pyIter_tuple hT
        exact ⟨_, rfl, h⟩
    · wp_walk using wpAny_pyIter_tuple hT
      exact ⟨_, rfl, h⟩
theorem callEnumT {P : Program} {w : World} {A : Around} {E : Value → Shared → Prop} {s : Shared} {tu : Addr} {vs : Array Value} {Z : Value → Shared → Prop} (hT : s.heap.IsTuple tu vs)
    (q : ∀ h2, IsEnum h2 (s.heap.objs.size + 1) s.heap.objs.size 0 .none → h2.IsTupleIter s.heap.objs.size tu 0 → h2.IsTuple tu vs → (∀ b o, s.heap.get? b = some o → h2.get? b = some o) → Z (.ref (s.heap.objs.size + 1)) { s with heap := h2 }) :
    wpAny (model P w) A (call (.type "enumerate") [.ref tu]) Z E s := by
  obtain ⟨⟨c, dd, dt, sl⟩, e1, hc, n, hd⟩ := id hT
  replace hc : c = .type "tuple" := hc
  replace hd : dt = .seq vs n := hd
  subst hc hd
  refine callType_new F.called_enumerate (by decide) (F.typeCall_enumerate_1 _) (F.newCall_enumerate_1 _) (fun obj => F.args_object_init_2 obj _) F.entry_enumerate_new (meetsEnumT tu vs n dd sl) ⟨e1, ?_⟩
  have z : (s.heap.push { cls := .type "tuple_iterator", data := .fields #[.ref tu, .int 0 0] }).objs.size = s.heap.objs.size + 1 := Heap.size_push ..
  show _ ∧ _
  rw [z]
  have he : IsEnum ((s.heap.push { cls := .type "tuple_iterator", data := .fields #[.ref tu, .int 0 0] }).push { cls := .type "enumerate", data := .fields #[.none, .bool false, .ref s.heap.objs.size, rawInt 0, .none, .none] }) (s.heap.objs.size + 1) s.heap.objs.size 0 .none := by
    have := Heap.get?_push_size (s.heap.push { cls := .type "tuple_iterator", data := .fields #[.ref tu, .int 0 0] }) (o := { cls := .type "enumerate", data := .fields #[.none, .bool false, .ref s.heap.objs.size, rawInt 0, .none, .none] }) rfl
    rw [z] at this; exact this
  have kk : ∀ b o, s.heap.get? b = some o → ((s.heap.push { cls := .type "tuple_iterator", data := .fields #[.ref tu, .int 0 0] }).push { cls := .type "enumerate", data := .fields #[.none, .bool false, .ref s.heap.objs.size, rawInt 0, .none, .none] }).get? b = some o := fun b o x => Heap.get?_push_of_some _ (Heap.get?_push_of_some _ x)
  exact ⟨⟨_, he, rfl⟩, q _ he ⟨_, Heap.get?_push_of_some _ (Heap.get?_push_size _ rfl), rfl, rfl⟩ (hT.at fun o e => kk tu o e) kk⟩
/-- the tuple at a, each item in a new pair -/
def IteT (K : PySem.W.Frag) (a : Addr) (xs : List V) : It :=
  ⟨fun i H => SqT K H a xs ∧ i < xs.length, fun i H v H' => ∃ T x, v = .ref T ∧ H T = none ∧ H' = upd H T (.tup [.int (i : Nat), x]) ∧ xs[i]? = some x, fun i H => SqT K H a xs ∧ xs.length ≤ i⟩
theorem turnEnumT {P : Program} {w : World} {K : PySem.W.Frag} {elts : List Expr} {kk : Nat} {tpos : Pos} (a e jt : Addr) (xs : List V) :
    Turn P w K (.Tuple elts kk tpos) (IteT K a xs) [e, jt] e (fun i h => (∃ old, IsEnum h e jt ((i : Nat) : Int) old) ∧ h.IsTupleIter jt a i ∧ e ≠ jt) where
  mem := by simp
  obj := fun i h z b hb => by
    obtain ⟨⟨old, he⟩, ⟨o, ho, hc, hd⟩, _⟩ := z
    rcases (show b = e ∨ b = jt by simpa using hb) with y | y
    · rw [y]; exact ⟨_, he, fun v q => nomatch q⟩
    · rw [y]; exact ⟨o, ho, fun v q => by rw [hd] at q; cases q⟩
  keep := fun i h h2 z g => let ⟨⟨old, he⟩, hi, ne⟩ := z; ⟨⟨old, g e (by simp) _ he⟩, hi.at fun o q => g jt (by simp) o q, ne⟩
  item := by
    intro X hP hw hK hc i pins s σ H E I hf z go
    subst hP hw hK
    obtain ⟨⟨old, he⟩, hj, ne⟩ := z
    obtain ⟨hq, hi⟩ := go
    obtain ⟨its, rv, hT, hz⟩ := I.tuple hq
    obtain ⟨x, hx⟩ : ∃ x, xs[i]? = some x := ⟨xs[i], List.getElem?_eq_getElem hi⟩
    obtain ⟨u, hu, ru⟩ := rv.get hx
    have le1 : e < s.heap.objs.size := Heap.lt_size he
    have le2 : jt < s.heap.objs.size := by obtain ⟨_, q, _⟩ := hj; exact Heap.lt_size q
    have aj : a ≠ jt := by
      obtain ⟨o1, e1, c1, _⟩ := hj
      obtain ⟨o2, e2, c2, _⟩ := id hT
      rintro rfl
      rw [e1] at e2
      cases e2
      rw [c1] at c2
      injection c2 with c2
      exact absurd c2 (by decide)
    have ae : e ∉ [jt, a] := by
      obtain ⟨o2, e2, c2, _⟩ := id hT
      simp only [List.mem_cons, List.not_mem_nil, or_false, not_or]
      refine ⟨ne, ?_⟩
      rintro rfl
      rw [he] at e2
      cases e2
      injection c2 with c2
      exact absurd c2 (by decide)
    refine wpAny_pyNext_enum_itemD (drawsTup (P := X.prog) (w := X.w) (A := X.A.in1) (by simp [I.ok.hd hc]) jt a aj its.toArray) he ⟨hj, hT⟩ (by rw [List.size_toArray, ← rv.length]; exact hi) ne ae fun y h2 tk hy ho hst hT2 hsz hk => ?_
    have ey : y = u := by
      have e3 : its[i]? = some y := by simpa using hy
      rw [hu] at e3
      exact (Option.some.inj e3).symm
    subst ey
    refine ⟨_, rfl, wpAny_letOwnedTupleGo_enum (s := { s with heap := h2, toks := tk + 1 }) ho fun h3 he3 sb => ?_⟩
    have at3 : h3.get? s.heap.objs.size = some { cls := .type "tuple", data := .seq #[.int i tk, y] } := (sb.2 _ (Nat.ne_of_gt le1)).trans hT2
    have nw : ObjOk X.prog X.w (upd H s.heap.objs.size (.tup [.int (i : Nat), x])) h3 s.heap.objs.size (.tup [.int (i : Nat), x]) := ⟨by show 2 ≤ sizeLine; decide, [.int i tk, y], .cons ⟨_, rfl⟩ (.cons ru .nil), ⟨_, at3, rfl, _, rfl⟩⟩
    have I1 : Inv X pins σ (upd H s.heap.objs.size (.tup [.int (i : Nat), x])) { s with heap := h3, toks := tk + 1 } :=
      I.turnedNew (ch := [e, jt]) (fun b ob hb q => (sb.2 b (fun z => hb (by simp [z]))).trans (hk b ob (fun z => hb (by simp [z])) (fun z => hb (by simp [z])) q)) hf (Nat.le_refl _) nw
    refine ⟨.ref s.heap.objs.size, _, I1, rfl, ⟨_, x, rfl, I.hok.fresh (Nat.le_refl _), rfl, hx⟩, ⟨⟨y, ?_⟩, hst.1.at fun o q => (sb.2 jt (Ne.symm ne)).trans q, ne⟩, fun b hb => ?_⟩
    · have e1 : ((i + 1 : Nat) : Int) = (i : Int) + 1 := by omega
      rw [e1]; exact he3
    · have lb : b < s.heap.objs.size := by
        rcases (show b = e ∨ b = jt by simpa using hb) with y | y
        · rw [y]; exact le1
        · rw [y]; exact le2
      rw [upd_ne (Nat.ne_of_lt lb)]
      exact (hf b hb).1
  done := by
    intro X hP hw hK hc i pins s σ H E I hf z sp
    subst hP hw hK
    obtain ⟨⟨old, he⟩, hj, ne⟩ := z
    obtain ⟨hq, hi⟩ := sp
    obtain ⟨its, rv, hT, hz⟩ := I.tuple hq
    obtain ⟨f0, f1, f2, f3, f4, f5⟩ := hf jt (by simp)
    have ln := rv.length
    have hTe : s.TypeIs (.ref e) "enumerate" := ⟨_, he, rfl⟩
    unfold pyNext
    refine wpAny_bind (wpAny_attempt (wpAny_callSpecial?_slot (name := Str.ofString "__next__") hTe F.slot_enumerate_next (wpAny_call_entry F.slot_enumerate_next hTe F.entry_enumerate_next ?_ (F.args_enumerate_next_1 _))))
    show wpAny _ _ (field (.ref e) 2 >>= _) _ _ _
    refine wpAny_bind (wpAny_field he rfl (x := .ref jt) rfl ?_)
    refine wpAny_bind (nextTupEnd (vs := its.toArray) (by simp [I.ok.hd hc]) hj hT (by simp; omega) fun h2 x he2 hx2 => ?_)
    obtain ⟨o, ho, hc2⟩ := hx2
    refine wpAny_bind (wpAny_isInstance (T := "StopIteration") (b := true) ⟨o, ho, hc2⟩ isSubtype_stop ?_)
    exact wpAny_pure ⟨rfl, I.turned (t' := s.toks) (fun b o hb q => he2 b o hb q) f0 f1 f3 f4 f5⟩
  self := fun A i s Q E z q => let ⟨⟨_, he⟩, _⟩ := z; wpAny_pyIter_enum he q
def iEnumT (K : PySem.W.Frag) (ta : TA) : TI := fun σ H R => ta σ H fun vs H1 => ∃ a xs, vs = [.ref a] ∧ SqT K H1 a xs ∧ R (IteT K a xs) H1
theorem pi_enumT {X : Cx} (K : PySem.W.Frag) {e : Expr} {ta : TA} {p pos tpos : Pos} {elts : List Expr} {kk : Nat} (hg : Gl X "enumerate") (hm : X.mg "enumerate" = none) (ha : PA X [e] ta) (hK : X.K = K := by rfl) (hs : starEach [e] X.env = [(false, eval e X.env)] := by rfl) :
    PI X (.Tuple elts kk tpos) (.Call (.Name "enumerate" p) [e] [] pos) (iEnumT K ta) := by
  subst hK
  refine ⟨fun pins s σ H R I h => ?_⟩
  refine Call_ (ld_blt I hg hm boot_enumerate (PyProof.Rows.callWith_type1 (thn (ha.run pos pins s σ H _ I h) fun us s1 ⟨vs, H1, I1, r1, q1⟩ => ?_) hs rfl))
  obtain ⟨a, xs, rfl, hq, q⟩ := q1
  cases r1 with
  | cons r rr =>
    cases rr
    cases r
    obtain ⟨its, rv, hT, hz⟩ := I1.tuple hq
    refine callEnumT hT fun h2 he hit _ hk => wpAny_pyIter_enum he ?_
    have I2 : Inv X pins σ H1 { s1 with heap := h2 } := I1.kept (t' := s1.toks) hk
    refine ⟨s1.heap.objs.size + 1, [s1.heap.objs.size + 1, s1.heap.objs.size], _, _, H1, rfl, I2, turnEnumT a (s1.heap.objs.size + 1) s1.heap.objs.size xs, ⟨⟨.none, he⟩, hit, Nat.succ_ne_self _⟩, fun b hb => ?_, q⟩
    have lb : s1.heap.objs.size ≤ b := by
      rcases (show b = s1.heap.objs.size + 1 ∨ b = s1.heap.objs.size by simpa using hb) with y | y
      · rw [y]; exact Nat.le_add_right _ _
      · rw [y]; exact Nat.le_refl _
    exact I1.fpOk lb (I1.hok.fresh lb)
section
variable {K : PySem.W.Frag} {σ : L2.St} {H : Hp} {D : Ends} {Q : VK} {a : Addr} {xs : List V} {Ps : List SP} {g : TG} {tb : TS} {tr : TA}
def kEnumT (K : PySem.W.Frag) (R : It → Hp → Prop) : List V → Hp → Prop := fun vs H1 => ∃ a xs, vs = [.ref a] ∧ SqT K H1 a xs ∧ R (IteT K a xs) H1
theorem r_ienumT {R : It → Hp → Prop} (h : tr σ H (kEnumT K R)) : iEnumT K tr σ H R := h
theorem r_for_enumT (J : LW) (S : Sep Ps H) (h0 : J 0 σ Ps) (hl : ∀ i σ Ps H, J i σ Ps → Sep Ps H → SqT K H a xs)
    (hs : ∀ i x T σ Ps H, xs[i]? = some x → J i σ Ps → Sep (pt T (.tup [.int (i : Nat), x]) :: Ps) H → g (.ref T) σ H fun σ2 H2 => tb { D with nx := Nx J (i + 1), ct := Nx J (i + 1), bk := D.nx } σ2 H2) (hd : ∀ σ Ps H, J xs.length σ Ps → Sep Ps H → D.nx σ H) :
    kEnumT K (fun Jt H1 => ForW Jt g tb D σ H1) [.ref a] H := by
  refine ⟨a, xs, rfl, hl 0 σ Ps H h0 S, fun i m σ H => m = xs.length - i ∧ i ≤ xs.length ∧ Nx J i σ H, ⟨xs.length, by simp, Nat.zero_le _, Ps, h0, S⟩, ?_⟩
  rintro i m σ H ⟨rfl, hi, Ps, j, S⟩
  by_cases he : i = xs.length
  · subst he
    exact .inl ⟨⟨hl _ σ Ps H j S, Nat.le_refl _⟩, hd σ Ps H j S⟩
  · refine .inr ⟨⟨hl _ σ Ps H j S, by omega⟩, Nx J (i + 1), fun σ' H' n => ⟨xs.length - (i + 1), by omega, rfl, by omega, n⟩, ?_⟩
    rintro x H' ⟨T, y, rfl, hT, rfl, hy⟩
    exact hs i y T σ Ps _ hy j (S.new _ hT)
end
/-! ### sorted of a list of data that are alike -/
def rSortD (K : PySem.W.Frag) : List V → Hp → VK → Prop := fun xs H Q => ∃ (a : Addr) (ds : List PyData) (G : Hp), xs = [.ref a] ∧ Le G H ∧ Dp K G (.ref a) (.list ds) ∧ PySem.W.AllAlike ds ∧ PySem.W.Sortable ds ∧ (∀ d ∈ ds, d.depth ≤ 50) ∧
  ∀ p out, H p = none → DpAll K G out (ds.mergeSort (PySem.W.dataLe false id)) → Q (.ref p) (upd H p (.lst out))
theorem each_out {K : PySem.W.Frag} {H : Hp} : ∀ {us : List Value} {ds : List PyData}, PySem.W.EachIs (fun u d => ∃ v, RelV v u ∧ Dp K H v d) us ds → ∃ vs, Vals vs us ∧ DpAll K H vs ds
  | _, _, .nil => ⟨[], .nil, .nil⟩
  | _, _, .cons ⟨v, r, h⟩ t => by
    obtain ⟨vs, rs, hs⟩ := each_out t
    exact ⟨v :: vs, .cons r rs, .cons h hs⟩
theorem each_in {X : Cx} {pins : List (Addr × Obj)} {σ : L2.St} {G H : Hp} {s : Shared} (le : Le G H) (I : Inv X pins σ H s) : ∀ {vs : List V} {us : List Value} {ds : List PyData}, Vals vs us → DpAll X.K G vs ds →
    PySem.W.EachIs (fun u d => ∃ v, RelV v u ∧ Dp X.K G v d) us ds ∧ PySem.W.EachIs (fun u d => ∃ as, Reads s.heap u d as) us ds
  | _, _, _, .nil, .nil => ⟨.nil, .nil⟩
  | _, _, _, .cons r rs, .cons h hs => by
    obtain ⟨e1, e2⟩ := each_in le I rs hs
    exact ⟨.cons ⟨_, r, h⟩ e1, .cons (Dp.reads I _ _ _ (Dp.le le _ _ h) r) e2⟩
theorem cr_sortD {X : Cx} (hu : X.A.units + 64 < cLine) : CallR X (.builtin "sorted") (rSortD X.K) := by
  intro pins s σ H xs us Q I r h
  obtain ⟨a, ds, G, rfl, le, hD, hal, hk, hdp, q⟩ := h
  obtain ⟨a', vs, ea, hs, hall⟩ := dp_lstInv hD
  cases ea
  obtain ⟨its, rv, pl, hz⟩ := I.list (SqL.le le hs)
  rw [Vals.ref1 r]
  obtain ⟨e1, e2⟩ := each_in le I rv hall
  have ln : its.length = ds.length := e1.length
  refine PySem.W.sorted_data (vs := its) (enc := id) (bs := ds) pl.isList e1 e2 (by rw [List.map_id]; exact hal) (by rw [List.map_id]; exact hk) (by rw [← ln, ← rv.length]; exact hz) (fun d m => by have := hdp d m; show X.A.units + 2 + d.depth < cLine; omega) fun out lo eo => ?_
  obtain ⟨ep, at1⟩ := sortedAll_at s.heap its out.toArray
  obtain ⟨ws, rw', dw⟩ := each_out eo
  have lw : ws.length ≤ sizeLine := by rw [rw'.length, lo, ← ln, ← rv.length]; exact hz
  exact ⟨.ref _, upd H (s.heap.objs.size + 1) (.lst ws), I.laid (t' := s.toks) (fun _ _ => sortedAll_old) (Nat.le_succ _) ⟨lw, out, ep, rw', at1⟩, rfl, q _ ws (I.hok.fresh (Nat.le_succ _)) dw⟩
end Kt

set_option Elab.async false
set_option linter.all false
set_option maxRecDepth 100000
namespace Kt
open PySem PySem.Spec L2 PyProof.Rows
/-! ### set(xs), xs a list of whole numbers -/
abbrev soOf (w : World) : Obj := { cls := .type "set", dict := none, data := .set #[] 0 (.fresh 0 0 (!w.params.followText "set-order")) }
section
variable {P : Program} {w : World} {A : Around} {E : Value → Shared → Prop} {s : Shared}
set_option maxHeartbeats 3200000 in
theorem callSetL {l : Addr} {vs : Array Value} (ns : List Int) {Z : Value → Shared → Prop} (h0 : A.handled = none) (hL : s.heap.IsList l vs) (hI : IntsAre vs.toList ns) (hB : ns.length + 1 < scanBound)
    (q : ∀ (h2 : Heap) (tk c : Nat), SetR w h2 s.heap.objs.size (fun j => decide (j ∈ ns)) c → c ≤ ns.length → (∀ b o, s.heap.get? b = some o → h2.get? b = some o) → Z (.ref s.heap.objs.size) { s with heap := h2, toks := tk }) :
    wpAny (model P w) A (call (.type "set") [.ref l]) Z E s := by
  have sz : vs.size = ns.length := (Array.length_toList ..).symm.trans (IntsAre.length hI)
  obtain ⟨c, tl, hmro⟩ := F.called_set.mro
  have hmade := F.called_set.made
  have hsub := F.called_set.sub
  refine wpAny_call (codeAny_of_tree ?_)
  show wpAny _ _ (callAny (.type "set") _) _ _ _
  refine wpAny_pure ⟨Code.quiet_builtin _ (by decide +kernel), codeAny_builtin F.entry_type_call ?_⟩
  rw [Around.under_plain (weight_type_call_type "set" [.ref l] []) rfl]
  have g1 := F.called_set.notType
  have g2 := F.called_set.canCreate
  have g3 := F.typeCall_set_1 (.ref l)
  repeat (any_goals (first | assumption | wp_step))
  refine codeAny_mono (code_set_led1 (.ref l) (E := E) (Q₁ := fun ob s₁ => ob = .ref s.heap.objs.size ∧ s₁ = { s with heap := s.heap.push (soOf w) }) ⟨rfl, rfl⟩) fun r s₁ hr => ?_
  cases r with
  | error e => exact hr
  | ok fl =>
    cases fl with
    | ret ob =>
      obtain ⟨rfl, rfl⟩ := hr
      have eS : (s.heap.push (soOf w)).get? s.heap.objs.size = some (soOf w) := Heap.get?_push_size _ rfl
      have tS : Shared.TypeIs { s with heap := s.heap.push (soOf w) } (.ref s.heap.objs.size) "set" := ⟨_, eS, rfl⟩
      have i1 := F.called_set.init.lookup
      have i2 := F.called_set.init.bind (.ref s.heap.objs.size)
      repeat (any_goals (first | assumption | wp_step))
      refine codeAny_mono (codeAny_call_builtin (R := wants (fun r s₂ => r = .none ∧ ∃ h2 tk c, s₂ = { s with heap := h2, toks := tk } ∧ SetR w h2 s.heap.objs.size (fun j => decide (j ∈ ns)) c ∧ c ≤ ns.length ∧ (∀ b o, s.heap.get? b = some o → h2.get? b = some o)) E) F.called_set.init.plain F.entry_set_init (check_set_init_1 tS ?_)) fun r₂ s₂ hr₂ => ?_
      · obtain ⟨ol, eol, col, nl, dol⟩ := hL
        obtain ⟨kc, kd, kt, ks⟩ := ol
        simp only at col dol
        subst col; subst dol
        have eo2 : (s.heap.push (soOf w)).get? l = some { cls := .type "list", dict := kd, data := .seq vs nl, slots := ks } := Heap.get?_push_of_some _ eol
        have sb1 := F.sub_list_set
        have sb2 := F.sub_list_frozenset
        have hne : (Value.type "list" == Value.type "dict") = false := by decide
        have hL1 : (s.heap.push (soOf w)).IsList l vs := ⟨_, eo2, rfl, nl, rfl⟩
        unfold Builtin.«set.__init__» noKeywords Builtin.Frozenset.updateFrom
        generalize hPI : pyIter = PI
        wp_walk
        subst hPI
        refine wpAny_pyIter_list hL1 ?_
        refine wpAny_bind (wpAny_runValue ?_)
        have ll : l < s.heap.objs.size := Heap.lt_size eol
        have hh3 : A.in1.in1.in1.handled = none := by simp [h0]
        have zz : (s.heap.push (soOf w)).objs.size = s.heap.objs.size + 1 := Heap.size_push ..
        have ne1 : l ≠ (s.heap.push (soOf w)).objs.size := by rw [zz]; exact Nat.ne_of_lt (Nat.lt_succ_of_lt ll)
        have ne2 : s.heap.objs.size ∉ [(s.heap.push (soOf w)).objs.size, l] := by
          rw [zz]; simp only [List.mem_cons, List.not_mem_nil, or_false, not_or]
          exact ⟨Nat.ne_of_lt (Nat.lt_succ_self _), Nat.ne_of_gt ll⟩
        have val : ∀ (i : Nat) (v : Value), vs[i]? = some v → ∃ k t, ns[i]? = some k ∧ v = .int k t := fun i v hv => by
          have hi : i < ns.length := by rw [← sz]; exact (Array.getElem?_eq_some_iff.mp hv).1
          obtain ⟨t, e⟩ := PyProof.Rows.IntsAre.int_at hI i v (by rw [Array.getElem?_toList]; exact hv)
          exact ⟨ns[i], t, List.getElem?_eq_getElem hi, by rw [e, List.getD_eq_getElem?_getD, List.getElem?_eq_getElem hi] <;> rfl⟩
        refine set_update_ints ((Walks.list hh3 _ l ne1 vs).toS) s.heap.objs.size ne2 ns sz hB val (vs.size - 0) 0 _ (by omega) (Nat.zero_le _) ⟨⟨_, Heap.get?_push_size _ rfl, rfl, rfl⟩, (hL1.push _)⟩ ?k0 ?k1
        case k0 => exact ⟨0, Nat.le_refl 0, setR_new_at (Heap.get?_push_of_some _ eS)⟩
        case k1 =>
          intro s' c' hm hc' hS'
          obtain ⟨h2, g2, d2, tk, os2⟩ := s'
          obtain rfl : g2 = s.gens := hm.gens
          obtain rfl : d2 = s.drawn := hm.drawn
          obtain rfl : os2 = s.os := hm.os
          show wpAny _ _ _ _ _ _
          refine wpAny_pure ?_
          show wpAny _ _ (ret Value.none) _ _ _
          rw [sz] at hc'
          refine wpAny_pure ⟨rfl, h2, tk, c', rfl, hS', hc', fun b o e => ?_⟩
          have lb : b < s.heap.objs.size := Heap.lt_size e
          exact hm.heap b o (by rw [zz]; simp only [List.mem_cons, List.not_mem_nil, or_false, not_or]; exact ⟨Nat.ne_of_lt lb, Nat.ne_of_lt (Nat.lt_succ_of_lt lb)⟩) (Heap.get?_push_of_some _ (Heap.get?_push_of_some _ e))
      · cases r₂ with
        | error e => exact hr₂
        | ok fl₂ =>
          cases fl₂ with
          | ret r =>
            obtain ⟨rfl, h2, tk, c', rfl, hS', hc', hk'⟩ := hr₂
            repeat (any_goals (first | assumption | wp_step))
            exact q _ _ _ hS' hc' hk'
          | _ => exact hr₂.elim
    | _ => exact hr.elim
end
/-- set(xs) -/
def rSetL (K : PySem.W.Frag) (w : World) : List V → Hp → VK → Prop := fun xs H Q => ∃ (a : Addr) (ns : List Int), xs = [.ref a] ∧ SqL K H a (ns.map V.int) ∧ ns.length ≤ 1000 ∧ ∀ p c, H p = none → c ≤ ns.length → Q (.ref p) (upd H p (SetO w p (fun j => decide (j ∈ ns)) c))
theorem cr_setL {X : Cx} (hc : X.calm = true) : CallR X (.type "set") (rSetL X.K X.w) := by
  intro pins s σ H xs us Q I r h
  obtain ⟨a, ns, rfl, hs, hl, q⟩ := h
  obtain ⟨its, rv, pl, hz⟩ := I.list hs
  rw [Vals.ref1 r]
  refine callSetL ns (I.ok.hd hc) pl.isList (by simpa using rv.ints) (Nat.lt_of_le_of_lt (Nat.add_le_add_right hl 1) (by unfold scanBound; decide)) fun h2 tk c R lc hk => ?_
  exact ⟨.ref _, upd H s.heap.objs.size (SetO X.w s.heap.objs.size (fun j => decide (j ∈ ns)) c), I.laid (t' := tk) hk (Nat.le_refl _) (setO_new R), rfl, q _ c (I.hok.fresh (Nat.le_refl _)) lc⟩
/-! ### sorted of a list of data, or of a set of whole numbers -/
theorem asc_ext : ∀ {a b : List Int}, a.Pairwise (· < ·) → b.Pairwise (· < ·) → (∀ k, k ∈ a ↔ k ∈ b) → a = b
  | [], [], _, _, _ => rfl
  | [], y :: b, _, _, h => by have := (h y).mpr List.mem_cons_self; cases this
  | x :: a, [], _, _, h => by have := (h x).mp List.mem_cons_self; cases this
  | x :: a, y :: b, ha, hb, h => by
    obtain ⟨a1, a2⟩ := List.pairwise_cons.mp ha
    obtain ⟨b1, b2⟩ := List.pairwise_cons.mp hb
    have e : x = y := by
      rcases List.mem_cons.mp ((h x).mp List.mem_cons_self) with e | m
      · exact e
      · rcases List.mem_cons.mp ((h y).mpr List.mem_cons_self) with e | m2
        · exact e.symm
        · have := b1 x m
          have := a1 y m2
          omega
    subst e
    congr 1
    refine asc_ext a2 b2 fun k => ⟨fun m => ?_, fun m => ?_⟩
    · rcases List.mem_cons.mp ((h k).mp (List.mem_cons_of_mem _ m)) with e | m2
      · subst e; have := a1 _ m; omega
      · exact m2
    · rcases List.mem_cons.mp ((h k).mpr (List.mem_cons_of_mem _ m)) with e | m2
      · subst e; have := b1 _ m; omega
      · exact m2
def rSortA (K : PySem.W.Frag) (w : World) : List V → Hp → VK → Prop := fun xs H Q => rSortD K xs H Q ∨ rSortedSet w xs H Q
theorem cr_sortA {X : Cx} (hc : X.calm = true) (hu : X.A.units + 64 < cLine) : CallR X (.builtin "sorted") (rSortA X.K X.w) := fun pins s σ H xs us Q I r h => h.elim (cr_sortD hu pins s σ H xs us Q I r) (cr_sortedSet hc pins s σ H xs us Q I r)
end Kt

set_option Elab.async false
set_option linter.all false
set_option maxRecDepth 100000
namespace Kt
open PySem L2 PyProof.Rows
/-! ### orders and shapes as data -/
abbrev Lv := List Str
abbrev Od := List Lv
def dLv (l : Lv) : PyData := .tuple (l.map PyData.str)
def dOd (o : Od) : PyData := .tuple (o.map dLv)
def dOds (os : List Od) : PyData := .list (os.map dOd)
def dShp (os : List Od) : PyData := .tuple (os.map dOd)
def dNs (l : List Str) : PyData := .list (l.map PyData.str)
def leOd : Od → Od → Bool := PySem.W.dataLe false dOd
def leS : Str → Str → Bool := PySem.W.dataLe false PyData.str
def sortS (l : List Str) : List Str := l.mergeSort leS
def lvO (o : Od) (x : Str) : Option Nat := o.findIdx? fun l => decide (x ∈ l)
def dOpt : Option Nat → PyData
  | none => .none
  | some n => .int n
def vOpt : Option Nat → V
  | none => .non
  | some n => .int n
def dOptI : Option Int → PyData
  | none => .none
  | some n => .int n
def vOptI : Option Int → V
  | none => .non
  | some n => .int n
def cmpO (o : Od) (x y : Str) : Option Int :=
  match lvO o x, lvO o y with
  | some i, some j => some (if i = j then 0 else if i < j then -1 else 1)
  | _, _ => none
def onlyO (ps : List Str) (o : Od) : Od := (o.map (List.filter fun x => decide (x ∈ ps))).filter fun l => !l.isEmpty
def shpO (os : List Od) : List Od := (os.filter fun o => !o.isEmpty).mergeSort leOd
def arrO (s : List Od) (x : Str) : Option Nat := s.findIdx? fun o => (lvO o x).isSome
def stO (s : List Od) (x y : Str) : Option Int := s.findSome? fun o => cmpO o x y
def passedS : List Str := ["+0", "+1"]
def commonS : List Str := ["=", "^", "!"]
def keptP (s : List Od) (ns : List Str) : List Od := shpO ((s.filter fun o => !(onlyO (ns ++ passedS) o).isEmpty).map (onlyO (ns ++ passedS ++ commonS)))
section
variable {K : PySem.W.Frag} {G H : Hp} {v : V}
theorem dp_opt (o : Option Nat) : Dp K G (vOpt o) (dOpt o) := by
  cases o with
  | none => exact .non
  | some n => exact .int _
theorem dp_optI (o : Option Int) : Dp K G (vOptI o) (dOptI o) := by
  cases o with
  | none => exact .non
  | some n => exact .int _
/-! ### all of these are alike -/
theorem alike_strs : ∀ a b : List Str, PySem.W.alikeAll (a.map PyData.str) (b.map PyData.str) = true
  | [], _ => by simp [PySem.W.alikeAll]
  | _ :: _, [] => by simp [PySem.W.alikeAll]
  | x :: a, y :: b => by
    show PySem.W.alikeAll (.str x :: a.map PyData.str) (.str y :: b.map PyData.str) = true
    rw [PySem.W.alikeAll, alike_strs a b]
    simp [PySem.W.alike]
theorem alike_lv (a b : Lv) : PySem.W.alike (dLv a) (dLv b) = true := by
  unfold dLv
  rw [PySem.W.alike]
  exact alike_strs a b
theorem alike_lvs : ∀ a b : Od, PySem.W.alikeAll (a.map dLv) (b.map dLv) = true
  | [], _ => by simp [PySem.W.alikeAll]
  | _ :: _, [] => by simp [PySem.W.alikeAll]
  | x :: a, y :: b => by
    show PySem.W.alikeAll (dLv x :: a.map dLv) (dLv y :: b.map dLv) = true
    rw [PySem.W.alikeAll, alike_lvs a b, alike_lv]
    rfl
theorem alike_od (a b : Od) : PySem.W.alike (dOd a) (dOd b) = true := by
  unfold dOd
  rw [PySem.W.alike]
  exact alike_lvs a b
theorem depth_strs : ∀ a : List Str, PyData.depthAll (a.map PyData.str) = 0
  | [] => by simp [PyData.depthAll]
  | x :: a => by
    show PyData.depthAll (.str x :: a.map PyData.str) = 0
    rw [PyData.depthAll, depth_strs a]
    simp [PyData.depth]
theorem depth_lv (a : Lv) : (dLv a).depth ≤ 1 := by
  unfold dLv
  rw [PyData.depth, depth_strs]
  decide
theorem depth_lvs : ∀ a : Od, PyData.depthAll (a.map dLv) ≤ 1
  | [] => by simp [PyData.depthAll]
  | x :: a => by
    show PyData.depthAll (dLv x :: a.map dLv) ≤ 1
    rw [PyData.depthAll]
    have h1 := depth_lv x
    have h2 := depth_lvs a
    omega
theorem depth_od (a : Od) : (dOd a).depth ≤ 2 := by
  unfold dOd
  rw [PyData.depth]
  have := depth_lvs a
  omega
theorem allAlike_od (os : List Od) : PySem.W.AllAlike (os.map dOd) := PySem.W.AllAlike.of alike_od
theorem allAlike_str (l : List Str) : PySem.W.AllAlike (l.map PyData.str) := PySem.W.AllAlike.of fun a b => by simp [PySem.W.alike]
theorem sortable_str (l : List Str) : PySem.W.Sortable (l.map PyData.str) := PySem.W.Sortable.others fun b => ⟨nofun, nofun⟩
theorem sortable_od {os : List Od} (h : ∀ o ∈ os, o ≠ []) : PySem.W.Sortable (os.map dOd) := .inl fun d hd => by
  obtain ⟨o, ho, rfl⟩ := List.mem_map.mp hd
  cases o with
  | nil => exact absurd rfl (h _ ho)
  | cons l o => exact ⟨dLv l, o.map dLv, rfl⟩
theorem sort_od (os : List Od) : (os.map dOd).mergeSort (PySem.W.dataLe false id) = (os.mergeSort leOd).map dOd := (List.map_mergeSort (f := dOd) (r := leOd) (s := PySem.W.dataLe false id) (l := os) (fun a _ b _ => rfl)).symm
theorem sort_str (l : List Str) : (l.map PyData.str).mergeSort (PySem.W.dataLe false id) = (sortS l).map PyData.str := (List.map_mergeSort (f := PyData.str) (r := leS) (s := PySem.W.dataLe false id) (l := l) (fun a _ b _ => rfl)).symm
/-- sorted of texts, of orders -/
theorem r_sortS {Q : VK} {w : World} {a : Addr} {l : List Str} (le : Le G H) (hD : Dp K G (.ref a) (dNs l)) (h : ∀ p, H p = none → Q (.ref p) (upd H p (.lst ((sortS l).map V.str)))) : rSortA K w [.ref a] H Q :=
  .inl ⟨a, _, G, rfl, le, hD, allAlike_str l, sortable_str l, fun d m => by
    obtain ⟨x, _, rfl⟩ := List.mem_map.mp m
    exact Nat.zero_le _, fun p out np ho => by
    rw [sort_str] at ho
    rw [dpall_strsInv ho]
    exact h p np⟩
theorem r_sortOd {Q : VK} {w : World} {a : Addr} {os : List Od} (le : Le G H) (hD : Dp K G (.ref a) (dOds os)) (h0 : ∀ o ∈ os, o ≠ []) (h : ∀ p out, H p = none → DpAll K G out ((os.mergeSort leOd).map dOd) → Q (.ref p) (upd H p (.lst out))) : rSortA K w [.ref a] H Q :=
  .inl ⟨a, _, G, rfl, le, hD, allAlike_od os, sortable_od h0, fun d m => by
    obtain ⟨x, _, rfl⟩ := List.mem_map.mp m
    have := depth_od x
    omega, fun p out np ho => by
    rw [sort_od] at ho
    exact h p out np ho⟩
/-- sorted of a set of whole numbers: the list that ascends -/
theorem r_sortSet {Q : VK} {w : World} {a : Addr} {ns ms : List Int} {c : Nat} (e : H a = some (SetO w a (fun j => decide (j ∈ ns)) c)) (hc : c < 64) (hm : ms.Pairwise (· < ·)) (hi : ∀ k, k ∈ ms ↔ k ∈ ns) (h : ∀ p, H p = none → Q (.ref p) (upd H p (.lst (ms.map V.int)))) : rSortA K w [.ref a] H Q :=
  .inr ⟨a, _, c, rfl, e, hc, fun zs p h1 h2 h3 np => by
    have : zs = ms := asc_ext h1 hm fun k => by rw [h2, hi]; simp
    rw [this]
    exact h p np⟩
end
/-! ### a star in a display -/
theorem pa_starK {X : Cx} (K : PySem.W.Frag) {e : Expr} {es : List Expr} {te : TE} {t : TA} {p : Pos} (he : PE X e te) (hr : PA X es t) (hK : X.K = K := by rfl) (hs : starEach (.Starred e p :: es) X.env = (true, eval e X.env) :: starEach es X.env := by rfl) : PA X (.Starred e p :: es) (StX.tStar K te t) := by
  subst hK
  exact StX.pa_star he hr hs
section
variable {K : PySem.W.Frag} {σ : L2.St} {G H : Hp} {Q : VK} {QA : List V → Hp → Prop} {QT : Bool → Hp → Prop} {a : Addr} {xs : List V} {ds : List PyData} {te : TE} {tr : TA} {R : List SP} {v : V} {d : PyData}
def kStar (K : PySem.W.Frag) (t : Hp → (List V → Hp → Prop) → Prop) (QA : List V → Hp → Prop) : V → Hp → Prop := fun x H1 => ∃ p xs, x = V.ref p ∧ (SqT K H1 p xs ∨ SqL K H1 p xs) ∧ t H1 fun ys H2 => QA (xs ++ ys) H2
theorem r_star (h : te σ H (kStar K (tr σ) QA)) : StX.tStar K te tr σ H QA := h
theorem r_starT (s : SqT K H a xs) (h : tr σ H fun ys H2 => QA (xs ++ ys) H2) : kStar K (tr σ) QA (.ref a) H := ⟨a, xs, rfl, .inl s, h⟩
theorem r_starL (s : SqL K H a xs) (h : tr σ H fun ys H2 => QA (xs ++ ys) H2) : kStar K (tr σ) QA (.ref a) H := ⟨a, xs, rfl, .inr s, h⟩
/-! ### what the growing part says -/
theorem hp_dp (S : Sep (hp G :: R) H) (h : Dp K G v d) : Dp K H v d := Dp.le (hp_le S) _ _ h
theorem hp_sqL (S : Sep (hp G :: R) H) (h : SqL K G a xs) : SqL K H a xs := SqL.le (hp_le S) h
theorem hp_sqT (S : Sep (hp G :: R) H) (h : SqT K G a xs) : SqT K H a xs := SqT.le (hp_le S) h
theorem dns_sq {l : List Str} (h : Dp K G (.ref a) (dNs l)) : SqL K G a (l.map V.str) := by
  obtain ⟨b, xs, e, s, t⟩ := dp_lstInv h
  cases e
  rw [← dpall_strsInv t]
  exact s
theorem dlv_sq {l : Lv} (h : Dp K G (.ref a) (dLv l)) : SqT K G a (l.map V.str) := by
  obtain ⟨b, xs, e, s, t⟩ := dp_tupInv h
  cases e
  rw [← dpall_strsInv t]
  exact s
theorem r_in_strs {i : Str} {ns : List Str} (s : SqL K H a (ns.map V.str) ∨ SqT K H a (ns.map V.str)) (h : Q (.bl (decide (i ∈ ns))) H) : rIn K false (.str i) (.ref a) H Q := ⟨a, _, rfl, s, rfl, flat_strs ns, by rw [in_strs]; exact h⟩
theorem r_notin_strs {i : Str} {ns : List Str} (s : SqL K H a (ns.map V.str) ∨ SqT K H a (ns.map V.str)) (h : Q (.bl (!decide (i ∈ ns))) H) : rIn K true (.str i) (.ref a) H Q := ⟨a, _, rfl, s, rfl, flat_strs ns, by rw [in_strs]; exact h⟩
/-! ### a test by truth -/
def tTru (K : PySem.W.Frag) (te : TE) : TT := fun σ H QT => te σ H fun x H1 => ∃ k, TruV K x H1 k ∧ QT k H1
def kTru (K : PySem.W.Frag) (QT : Bool → Hp → Prop) : V → Hp → Prop := fun x H1 => ∃ k, TruV K x H1 k ∧ QT k H1
theorem pt_truK {X : Cx} (K : PySem.W.Frag) {e : Expr} {te : TE} (he : PE X e te) (hK : X.K = K := by rfl) (hw : ∀ whole, isTrue e X.env whole = (do let v ← whole; standAt e.pos; holding [v] (truthy v)) := by intro _; rfl) : PT X e (tTru K te) := by
  subst hK
  exact pt_truth he hw
theorem r_tru (h : te σ H (kTru K QT)) : tTru K te σ H QT := h
theorem r_truT (s : SqT K H a xs) (h : QT (!xs.isEmpty) H) : kTru K QT (.ref a) H := ⟨_, .inr (.inl ⟨xs, s, rfl⟩), h⟩
theorem r_truL (s : SqL K H a xs) (h : QT (!xs.isEmpty) H) : kTru K QT (.ref a) H := ⟨_, .inl ⟨xs, s, rfl⟩, h⟩
theorem r_itup {R : It → Hp → Prop} {tl : TE} (h : tl σ H fun x H1 => ∃ a, x = .ref a ∧ (∃ xs, SqT K H1 a xs) ∧ R (Itt K a) H1) : iTup K tl σ H R := h
end
end Kt

set_option Elab.async false
set_option linter.all false
set_option maxRecDepth 100000
namespace Kt
open PySem L2 PyProof.Rows
/-! ### dicts whose keys are texts, whose values are whole numbers -/
abbrev Rk := List (Str × Int)
def kS (x : Str) : Key := .inr x
def encK (l : Rk) : List (Key × V) := l.map fun e => (kS e.1, .int e.2)
theorem encK_len (l : Rk) : (encK l).length = l.length := List.length_map ..
def rkGet (l : Rk) (p : Str) : Option Int := (l.find? fun e => decide (e.1 = p)).map (·.2)
theorem valV_enc (l : Rk) (p : Str) : valV (encK l) (kS p) = (rkGet l p).map V.int := by
  unfold valV rkGet encK
  rw [List.find?_map]
  have e : ((fun kv : Key × V => decide (kv.1 = kS p)) ∘ fun e : Str × Int => (kS e.1, V.int e.2)) = fun e : Str × Int => decide (e.1 = p) := by
    funext e
    exact decide_eq_decide.mpr ⟨fun h => Sum.inr.inj h, fun h => congrArg kS h⟩
  rw [e]
  cases (l.find? fun e => decide (e.1 = p)) <;> rfl
theorem putK_enc {l : Rk} {p : Str} {i : Int} (h : ∀ e ∈ l, e.1 ≠ p) : putK (encK l) (kS p) (.int i) = encK (l ++ [(p, i)]) := by
  unfold putK
  rw [if_neg]
  · unfold encK
    rw [List.map_append]
    rfl
  · intro q
    obtain ⟨kv, m, hd⟩ := List.any_eq_true.mp q
    obtain ⟨e, me, rfl⟩ := List.mem_map.mp m
    exact h e me (Sum.inr.inj (of_decide_eq_true hd))
theorem rkGet_mem {l : Rk} (hn : (l.map Prod.fst).Nodup) {e : Str × Int} (h : e ∈ l) : rkGet l e.1 = some e.2 := by
  induction l with
  | nil => cases h
  | cons x l ih =>
    rw [List.map_cons, List.nodup_cons] at hn
    unfold rkGet
    rw [List.find?_cons]
    rcases List.mem_cons.mp h with q | q
    · subst q
      simp
    · have ne : x.1 ≠ e.1 := fun z => hn.1 (z ▸ List.mem_map_of_mem (f := Prod.fst) q)
      rw [decide_eq_false ne]
      exact ih hn.2 q
section
variable {K : PySem.W.Frag} {σ : L2.St} {G H : Hp} {D : Ends} {Q : VK} {QT : Bool → Hp → Prop} {d : Addr} {kvs : List (Key × V)} {td ty tv : TE} {x y v : V} {R Ps : List SP} {p : Str} {l : Rk} {vs : List Nat} {g : TG} {tt : TT} {te : TE}
def kDGet (Q : VK) (x y : V) (H : Hp) : Prop := ∃ a v, x = .ref a ∧ DGet H a y (some v) ∧ Q v H
theorem r_dget (h : td σ H fun x H1 => ty σ H1 fun y H2 => kDGet Q x y H2) : tDGet td ty σ H Q := h
theorem r_dgetK {i : Int} (e : Rd H d (.dK (encK l))) (hv : rkGet l p = some i) (q : Q (.int i) H) : kDGet Q (.ref d) (.str p) H :=
  ⟨d, _, rfl, .inl ⟨_, kS p, e, rfl, by rw [valV_enc, hv]; rfl⟩, q⟩
def kDIn (Q : VK) (y x : V) (H : Hp) : Prop := ∃ a o, x = .ref a ∧ DGet H a y o ∧ Q (.bl o.isSome) H
def kDNotIn (Q : VK) (y x : V) (H : Hp) : Prop := ∃ a o, x = .ref a ∧ DGet H a y o ∧ Q (.bl (!o.isSome)) H
theorem r_din (h : ty σ H fun y H1 => td σ H1 fun x H2 => kDIn Q y x H2) : tDIn ty td σ H Q := h
theorem r_dnotin (h : ty σ H fun y H1 => td σ H1 fun x H2 => kDNotIn Q y x H2) : tDNotIn ty td σ H Q := h
theorem opt_map_some {α β : Type} {f : α → β} (o : Option α) : (o.map f).isSome = o.isSome := by cases o <;> rfl
theorem r_dinK (e : Rd H d (.dK (encK l))) (q : Q (.bl (rkGet l p).isSome) H) : kDIn Q (.str p) (.ref d) H :=
  ⟨d, _, rfl, .inl ⟨_, kS p, e, rfl, rfl⟩, by rw [valV_enc, opt_map_some]; exact q⟩
theorem r_dnotinK (e : Rd H d (.dK (encK l))) (q : Q (.bl (!(rkGet l p).isSome)) H) : kDNotIn Q (.str p) (.ref d) H :=
  ⟨d, _, rfl, .inl ⟨_, kS p, e, rfl, rfl⟩, by rw [valV_enc, opt_map_some]; exact q⟩
def kDPut (D : Ends) (σ : L2.St) (v x y : V) (H : Hp) : Prop := ∃ a H4, x = .ref a ∧ DPut H a y v H4 ∧ D.nx σ H4
theorem r_dput (h : tv σ H fun v H1 => td σ H1 fun x H2 => ty σ H2 fun y H3 => kDPut D σ v x y H3) : sDPut td ty tv D σ H := h
theorem r_dputK {i : Int} (S : Sep (pt d (.dK (encK l)) :: R) H) (hn : ∀ e ∈ l, e.1 ≠ p) (hl : l.length ≤ 100000) (q : ∀ H', Sep (pt d (.dK (encK (l ++ [(p, i)]))) :: R) H' → D.nx σ H') : kDPut D σ (.int i) (.ref d) (.str p) H :=
  ⟨d, _, rfl, .inl ⟨_, kS p, S.hd_at, rfl, by rw [encK_len]; exact Nat.lt_of_le_of_lt hl (by decide), rfl⟩, q _ (by rw [← putK_enc hn]; exact S.hd_set _)⟩
/-! ### a comprehension over a dict's keys -/
section
variable {β : Type} {enc2 : β → PyData} {f : Str × Int → Option β}
theorem r_lcD {iv : Nat} (S : Sep (pt d (.dK (encK l)) :: hp G :: R) H) (hv : σ[iv]? = some (some (.ref d))) (hl : l.length ≤ 80000) (f : Str × Int → Option β) (enc2 : β → PyData)
    (turn : ∀ e ∈ l, ∀ od, LcT K G (pt d (.frz od (.dK (encK l))) :: R) g tt te vs σ (.str e.1) ((f e).map enc2))
    (fin : ∀ D acc G' H', Le G G' → DpAll K G' acc ((l.filterMap f).map enc2) → Sep (pt D (.lst acc) :: hp G' :: pt d (.dK (encK l)) :: R) H' → Q (.ref D) H') : tLockE (tLc (iKeys (tVar iv)) g tt te vs) σ H Q := by
  refine ⟨d, .dK (encK l), S.hd_at, ?_, fun od => ?_⟩
  · first | trivial | exact .inr rfl | exact ⟨⟩ | simp [Mut]
  have S1 : Sep (hp G :: pt d (.frz od (.dK (encK l))) :: R) (upd H d (.frz od (.dK (encK l)))) := (S.hd_set _).swap
  refine r_tlc (q_var hv ⟨d, od, rfl, .inl ⟨encK l, upd_same, fun D nD => ?_⟩⟩)
  refine lc_it (walk_keys (d := d) (o := od) (kvs := encK l)) (CN (fun i acc Ps => ∃ Gi, Le G Gi ∧ Ps = hp Gi :: pt d (.frz od (.dK (encK l))) :: R ∧ DpAll K Gi acc (((l.take i).filterMap f).map enc2) ∧ acc.length ≤ i) D) ?_ ?_ ?_ ?_
  · exact ⟨[], _, ⟨G, Le.rfl, rfl, .nil, Nat.zero_le _⟩, S1.new _ nD⟩
  · rintro i H hi ⟨acc, Ps, ⟨Gi, le, rfl, _⟩, S⟩
    exact S.tl.tl.hd_at
  · rintro i x H H' hi ⟨acc, Ps, ⟨Gi, le, rfl, hacc, hn⟩, S⟩ ⟨rfl, k, v, hk, rfl⟩
    unfold encK at hk
    rw [List.getElem?_map] at hk
    rw [encK_len] at hi
    cases ez : l[i]? with
    | none => rw [ez] at hk; cases hk
    | some z =>
      rw [ez] at hk
      cases hk
      have st := lcd_step (f := f) (enc2 := enc2) ez
      refine turn z (List.mem_of_getElem? ez) od D acc Gi _ _ _ le (.str _) (by omega) S (fun y zz G' H4 l4 ey hy S4 => ?_) (fun en H3 S3 => ?_)
      · refine cn_in S4 (by omega) ⟨G', le.tr l4, rfl, ?_, by rw [List.length_append]; simp; omega⟩
        cases q : f z with
        | none => rw [q] at ey; cases ey
        | some w =>
          rw [q] at ey st
          cases ey
          rw [st]
          exact dpall_snoc (DpAll.le l4 _ _ hacc) hy
      · refine cn_out S3 ⟨Gi, le, rfl, ?_, by omega⟩
        cases q : f z with
        | some w => rw [q] at en; cases en
        | none =>
          rw [q] at st
          rw [st, List.append_nil]
          exact hacc
  · rintro H' ⟨acc, Ps, ⟨Gi, le, rfl, hacc, hn⟩, S⟩
    rw [encK_len, List.take_length] at hacc
    refine ⟨S.tl.tl.hd_at, fin D acc Gi _ le hacc ?_⟩
    have S3 : Sep (pt d (.frz od (.dK (encK l))) :: pt D (.lst acc) :: hp Gi :: R) H' := (S.cons_mono fun _ => Sep.swap).swap
    have S4 := S3.hd_set (.dK (encK l))
    exact S4.swap.cons_mono fun _ => Sep.swap
end
/-! ### ints in a list; pairs in a list -/
theorem dpall_intsInv : ∀ {xs : List Int} {vs : List V}, DpAll K G vs (xs.map PyData.int) → vs = xs.map V.int
  | [], _, h => by cases h; rfl
  | x :: xs, _, h => by
    rw [List.map_cons] at h
    cases h with
    | cons h t => rw [dp_intInv h, dpall_intsInv t]; rfl
def dPr (e : Str × Int) : PyData := .tuple [.str e.1, .int e.2]
theorem dpall_prs : ∀ {l : Rk} {vs : List V}, DpAll K G vs (l.map dPr) → ∃ ps : List Addr, vs = ps.map V.ref ∧ Paired (fun p kv => SqT K G p [kV kv.1, kv.2]) ps (encK l)
  | [], _, h => by cases h; exact ⟨[], rfl, .nil⟩
  | e :: l, _, h => by
    rw [List.map_cons] at h
    cases h with
    | cons h t =>
      obtain ⟨ps, rfl, hp⟩ := dpall_prs t
      obtain ⟨a, xs, rfl, hs, hx⟩ := dp_tupInv (ds := [.str e.1, .int e.2]) h
      cases hx with
      | cons h1 t1 =>
        cases t1 with
        | cons h2 t2 =>
          cases t2
          rw [dp_strInv h1, dp_intInv h2] at hs
          exact ⟨a :: ps, rfl, .cons hs hp⟩
theorem mergeK_app : ∀ {l l2 : Rk}, ((l ++ l2).map Prod.fst).Nodup → mergeK (encK l) (encK l2) = encK (l ++ l2)
  | l, [], _ => by rw [List.append_nil]; rfl
  | l, e :: l2, hn => by
    have ne : ∀ z ∈ l, z.1 ≠ e.1 := by
      intro z m q
      rw [List.map_append, List.nodup_append] at hn
      exact hn.2.2 z.1 (List.mem_map_of_mem m) e.1 (by simp) q
    show mergeK (putK (encK l) (kS e.1) (.int e.2)) (encK l2) = _
    have e1 : l ++ e :: l2 = (l ++ [e]) ++ l2 := by simp
    rw [putK_enc ne, e1]
    exact mergeK_app (by rw [← e1]; exact hn)
def rDictP (K : PySem.W.Frag) : List V → Hp → VK → Prop := fun xs H Q => ∃ (a : Addr) (ps : List Addr) (kvs : List (Key × V)), xs = [.ref a] ∧ SqL K H a (ps.map V.ref) ∧ Paired (fun p kv => SqT K H p [kV kv.1, kv.2]) ps kvs ∧
    ∀ p, H p = none → Q (.ref p) (upd H p (.dK (mergeK [] kvs)))
theorem cr_dictP {X : Cx} (hc : X.calm = true) : CallR X (.type "dict") (rDictP X.K) := call_dictP hc
theorem paired_imp {α β : Type} {p q : α → β → Prop} (h : ∀ a b, p a b → q a b) : ∀ {as : List α} {bs : List β}, Paired p as bs → Paired q as bs
  | _, _, .nil => .nil
  | _, _, .cons x t => .cons (h _ _ x) (paired_imp h t)
theorem r_dictP {a : Addr} (S : Sep (hp G :: R) H) (h : Dp K G (.ref a) (.list (l.map dPr))) (hn : (l.map Prod.fst).Nodup) (q : ∀ p H', Sep (pt p (.dK (encK l)) :: hp G :: R) H' → Q (.ref p) H') : rDictP K [.ref a] H Q := by
  obtain ⟨a', vs, e, hs, hx⟩ := dp_lstInv h
  cases e
  obtain ⟨ps, rfl, hpp⟩ := dpall_prs hx
  refine ⟨a, ps, encK l, rfl, hp_sqL S hs, paired_imp (fun p kv => hp_sqT S) hpp, fun p np => q p _ ?_⟩
  have e : mergeK [] (encK l) = encK l := mergeK_app (l := []) (l2 := l) hn
  rw [e]
  exact S.new _ np
theorem r_setI {w : World} {a : Addr} {ns : List Int} (S : Sep Ps H) (s : SqL K H a (ns.map V.int)) (hl : ns.length ≤ 1000) (q : ∀ p c H', c ≤ ns.length → Sep (pt p (SetO w p (fun j => decide (j ∈ ns)) c) :: Ps) H' → Q (.ref p) H') : rSetL K w [.ref a] H Q :=
  ⟨a, ns, rfl, s, hl, fun p c np hc => q p c _ hc (S.new _ np)⟩
end
end Kt

set_option Elab.async false
set_option linter.all false
set_option maxRecDepth 100000
namespace Kt
open PySem L2 PyProof.Rows
/-! ### the order of texts -/
theorem leS_eq : leS = fun a b => decide (a.cps.toList ≤ b.cps.toList) := PySem.W.dataLe_str (fun b : Str => b)
theorem leS_trans (a b c : Str) (h : leS a b = true) (h2 : leS b c = true) : leS a c = true := by
  rw [leS_eq] at h h2 ⊢
  exact decide_eq_true (List.le_trans (of_decide_eq_true h) (of_decide_eq_true h2))
theorem leS_total (a b : Str) : (leS a b || leS b a) = true := by
  rw [leS_eq]
  rcases List.le_total a.cps.toList b.cps.toList with h | h
  · show (decide _ || decide _) = true
    rw [decide_eq_true h]
    rfl
  · show (decide _ || decide _) = true
    rw [decide_eq_true h, Bool.or_true]
def Asc (l : List Str) : Prop := l.Pairwise fun a b => leS a b = true
theorem asc_sort (l : List Str) : Asc (sortS l) := List.pairwise_mergeSort leS_trans leS_total l
theorem sort_asc {l : List Str} (h : Asc l) : sortS l = l := List.mergeSort_of_pairwise h
theorem asc_filter {l : List Str} (p : Str → Bool) (h : Asc l) : Asc (l.filter p) := h.filter p
theorem sort_perm (l : List Str) : (sortS l).Perm l := List.mergeSort_perm l leS
/-! ### ranks -/
def rkF : Nat → Od → Rk
  | _, [] => []
  | n, l :: o => l.map (fun x => (x, (n : Int))) ++ rkF (n + 1) o
theorem rkF_app : ∀ (a b : Od) (n : Nat), rkF n (a ++ b) = rkF n a ++ rkF (n + a.length) b
  | [], b, n => by simp [rkF]
  | l :: a, b, n => by
    show l.map _ ++ rkF (n + 1) (a ++ b) = _
    rw [rkF_app a b (n + 1), List.length_cons, show n + 1 + a.length = n + (a.length + 1) by omega, ← List.append_assoc]
    rfl
theorem rkF_take {o : Od} {i : Nat} {l : Lv} (h : o[i]? = some l) : rkF 0 (o.take (i + 1)) = rkF 0 (o.take i) ++ l.map (fun x => (x, (i : Int))) := by
  have hi := (List.getElem?_eq_some_iff.mp h).1
  rw [List.take_add_one, h, rkF_app]
  have e : (o.take i).length = i := by rw [List.length_take]; omega
  rw [e, Nat.zero_add]
  show _ ++ (l.map _ ++ rkF (i + 1) []) = _
  rw [show rkF (i + 1) [] = [] from rfl, List.append_nil]
theorem rkF_keys : ∀ (o : Od) (n : Nat), (rkF n o).map Prod.fst = o.flatten
  | [], _ => rfl
  | l :: o, n => by
    show (l.map _ ++ rkF (n + 1) o).map Prod.fst = _
    rw [List.map_append, rkF_keys o, List.map_map, List.flatten_cons]
    congr 1
    exact List.map_id _
theorem rkF_len (o : Od) (n : Nat) : (rkF n o).length = o.flatten.length := by rw [← rkF_keys o n, List.length_map]
theorem rkGet_app (a b : Rk) (p : Str) : rkGet (a ++ b) p = (rkGet a p).or (rkGet b p) := by
  unfold rkGet
  rw [List.find?_append]
  cases a.find? fun e => decide (e.1 = p) <;> rfl
theorem rkGet_lv (p : Str) (n : Int) : ∀ l : Lv, rkGet (l.map fun x => (x, n)) p = if p ∈ l then some n else none
  | [] => by simp [rkGet]
  | x :: l => by
    have ih := rkGet_lv p n l
    unfold rkGet at ih ⊢
    rw [List.map_cons, List.find?_cons]
    by_cases e : x = p
    · subst e; simp
    · rw [decide_eq_false e]
      rw [ih]
      have : p ∈ x :: l ↔ p ∈ l := ⟨fun m => (List.mem_cons.mp m).resolve_left fun q => e q.symm, List.mem_cons_of_mem _⟩
      simp [this]
theorem lvO_cons (l : Lv) (o : Od) (p : Str) : lvO (l :: o) p = if p ∈ l then some 0 else (lvO o p).map (· + 1) := by
  unfold lvO
  rw [List.findIdx?_cons]
  by_cases h : p ∈ l <;> simp [h]
theorem rkGet_rkF (p : Str) : ∀ (o : Od) (n : Nat), rkGet (rkF n o) p = (lvO o p).map fun i => (n : Int) + (i : Int)
  | [], n => rfl
  | l :: o, n => by
    show rkGet (l.map _ ++ rkF (n + 1) o) p = _
    rw [rkGet_app, rkGet_lv, rkGet_rkF p o, lvO_cons]
    by_cases h : p ∈ l
    · simp [h]
    · simp only [h, if_false, Option.none_or, Option.map_map]
      cases lvO o p with
      | none => rfl
      | some i => simp; omega
theorem rkGet_0 (p : Str) (o : Od) : rkGet (rkF 0 o) p = (lvO o p).map fun i : Nat => (i : Int) := by
  rw [rkGet_rkF]
  cases lvO o p with
  | none => rfl
  | some i => simp
theorem lvO_mem {o : Od} {p : Str} : (lvO o p).isSome = true ↔ p ∈ o.flatten := by
  unfold lvO
  rw [List.findIdx?_isSome, List.any_eq_true]
  simp only [List.mem_flatten, decide_eq_true_eq]
theorem lvO_none {o : Od} {p : Str} : lvO o p = none ↔ p ∉ o.flatten := by
  rw [← lvO_mem]
  cases lvO o p <;> simp
/-! ### what is kept of an order -/
theorem onlyO_congr {ps qs : List Str} (h : ∀ x, x ∈ ps ↔ x ∈ qs) (o : Od) : onlyO ps o = onlyO qs o := by
  unfold onlyO
  have e : (fun x => decide (x ∈ ps)) = fun x => decide (x ∈ qs) := by
    funext x
    exact decide_eq_decide.mpr (h x)
  rw [e]
theorem onlyO_nil (ps : List Str) : onlyO ps [] = [] := rfl
theorem onlyO_cons (ps : List Str) (l : Lv) (o : Od) : onlyO ps (l :: o) = if (l.filter fun x => decide (x ∈ ps)).isEmpty = true then onlyO ps o else (l.filter fun x => decide (x ∈ ps)) :: onlyO ps o := by
  unfold onlyO
  rw [List.map_cons, List.filter_cons]
  cases (l.filter fun x => decide (x ∈ ps)).isEmpty <;> rfl
theorem onlyO_flat (ps : List Str) : ∀ o : Od, (onlyO ps o).flatten = o.flatten.filter fun x => decide (x ∈ ps)
  | [] => rfl
  | l :: o => by
    rw [onlyO_cons, List.flatten_cons, List.filter_append, ← onlyO_flat ps o]
    split
    · rename_i h
      rw [List.isEmpty_iff.mp h, List.nil_append]
    · rfl
theorem onlyO_ne {ps : List Str} {o : Od} {l : Lv} (h : l ∈ onlyO ps o) : l ≠ [] := by
  have := (List.mem_filter.mp h).2
  intro e
  rw [e] at this
  cases this
theorem onlyO_empty (ps : List Str) (o : Od) : (onlyO ps o).isEmpty = (o.flatten.filter fun x => decide (x ∈ ps)).isEmpty := by
  rw [← onlyO_flat]
  cases e : onlyO ps o with
  | nil => rfl
  | cons l t =>
    have := onlyO_ne (ps := ps) (o := o) (l := l) (by rw [e]; exact List.mem_cons_self)
    cases l with
    | nil => exact absurd rfl this
    | cons x l => rfl
/-! ### an order out of its ranks -/
def ordL (kv : Rk) (ms : List Int) : Od := ms.map fun r => sortS ((kv.filter fun e => decide (e.2 = r)).map Prod.fst)
def kvP (ps : List Str) (n : Nat) (o : Od) : Rk := (rkF n o).filter fun e => decide (e.1 ∈ ps)
def msO (ps : List Str) : Nat → Od → List Int
  | _, [] => []
  | n, l :: o => if (l.filter fun x => decide (x ∈ ps)).isEmpty = true then msO ps (n + 1) o else (n : Int) :: msO ps (n + 1) o
theorem kvP_cons (ps : List Str) (n : Nat) (l : Lv) (o : Od) : kvP ps n (l :: o) = (l.filter fun x => decide (x ∈ ps)).map (fun x => (x, (n : Int))) ++ kvP ps (n + 1) o := by
  unfold kvP
  show (l.map _ ++ rkF (n + 1) o).filter _ = _
  rw [List.filter_append, List.filter_map]
  rfl
theorem msO_cons (ps : List Str) (n : Nat) (l : Lv) (o : Od) : msO ps n (l :: o) = if (l.filter fun x => decide (x ∈ ps)).isEmpty = true then msO ps (n + 1) o else (n : Int) :: msO ps (n + 1) o := rfl
theorem msO_ge (ps : List Str) : ∀ (o : Od) (n : Nat) (k : Int), k ∈ msO ps n o → (n : Int) ≤ k
  | [], n, k, h => by cases h
  | l :: o, n, k, h => by
    unfold msO at h
    split at h
    · have := msO_ge ps o (n + 1) k h; omega
    · rcases List.mem_cons.mp h with e | m
      · omega
      · have := msO_ge ps o (n + 1) k m; omega
theorem msO_asc (ps : List Str) : ∀ (o : Od) (n : Nat), (msO ps n o).Pairwise (· < ·)
  | [], n => .nil
  | l :: o, n => by
    unfold msO
    split
    · exact msO_asc ps o (n + 1)
    · refine .cons (fun k m => ?_) (msO_asc ps o (n + 1))
      have := msO_ge ps o (n + 1) k m
      omega
theorem kvP_ge (ps : List Str) : ∀ (o : Od) (n : Nat) (e : Str × Int), e ∈ kvP ps n o → (n : Int) ≤ e.2
  | [], n, e, h => by cases h
  | l :: o, n, e, h => by
    rw [kvP_cons] at h
    rcases List.mem_append.mp h with m | m
    · obtain ⟨x, _, rfl⟩ := List.mem_map.mp m; exact Int.le_refl _
    · have := kvP_ge ps o (n + 1) e m; omega
theorem msO_mem (ps : List Str) (k : Int) : ∀ (o : Od) (n : Nat), k ∈ msO ps n o ↔ k ∈ (kvP ps n o).map Prod.snd
  | [], n => by simp [msO, kvP, rkF]
  | l :: o, n => by
    rw [kvP_cons, List.map_append, List.mem_append, ← msO_mem ps k o (n + 1), List.map_map, msO_cons]
    cases e : l.filter fun x => decide (x ∈ ps) with
    | nil => simp
    | cons y t =>
      rw [if_neg (by simp), List.mem_cons]
      refine or_congr ⟨fun h => by rw [h]; simp, fun h => ?_⟩ Iff.rfl
      obtain ⟨x, _, hx⟩ := List.mem_map.mp h
      exact hx.symm
theorem filter_none {α : Type} {p : α → Bool} {l : List α} (h : ∀ x ∈ l, p x = false) : l.filter p = [] := List.filter_eq_nil_iff.mpr fun x m => by rw [h x m]; decide
theorem ordL_only (ps : List Str) : ∀ (o : Od) (n : Nat), (∀ l ∈ o, Asc l) → ordL (kvP ps n o) (msO ps n o) = onlyO ps o
  | [], n, _ => rfl
  | l :: o, n, h => by
    have ih := ordL_only ps o (n + 1) fun x m => h x (List.mem_cons_of_mem _ m)
    have key : ∀ k ∈ msO ps (n + 1) o, (kvP ps n (l :: o)).filter (fun e => decide (e.2 = k)) = (kvP ps (n + 1) o).filter fun e => decide (e.2 = k) := fun k m => by
      have := msO_ge ps o (n + 1) k m
      rw [kvP_cons, List.filter_append, filter_none, List.nil_append]
      intro e me
      obtain ⟨x, _, rfl⟩ := List.mem_map.mp me
      exact decide_eq_false fun q => by have q : (n : Int) = k := q; omega
    have key2 : ordL (kvP ps n (l :: o)) (msO ps (n + 1) o) = onlyO ps o := by
      rw [← ih]
      exact List.map_congr_left fun k m => by rw [key k m]
    rw [onlyO_cons]
    unfold msO
    by_cases e : (l.filter fun x => decide (x ∈ ps)).isEmpty = true
    · rw [if_pos e, if_pos e]
      exact key2
    · rw [if_neg e, if_neg e]
      show sortS _ :: ordL _ (msO ps (n + 1) o) = _
      rw [key2]
      congr 1
      have e1 : (kvP ps n (l :: o)).filter (fun e => decide (e.2 = (n : Int))) = (l.filter fun x => decide (x ∈ ps)).map fun x => (x, (n : Int)) := by
        rw [kvP_cons, List.filter_append, filter_none (l := kvP ps (n + 1) o), List.append_nil, List.filter_eq_self]
        · intro e me
          obtain ⟨x, _, rfl⟩ := List.mem_map.mp me
          exact decide_eq_true rfl
        · intro e me
          have := kvP_ge ps o (n + 1) e me
          exact decide_eq_false fun q => by omega
      rw [e1, List.map_map]
      have e2 : ((l.filter fun x => decide (x ∈ ps)).map (Prod.fst ∘ fun x => (x, (n : Int)))) = l.filter fun x => decide (x ∈ ps) := List.map_id _
      rw [e2]
      exact sort_asc (asc_filter _ (h l List.mem_cons_self))
/-! ### names that stand in one order at most -/
def Apart (p : Str) (s : List Od) : Prop := s.Pairwise fun a b => ¬ (p ∈ a.flatten ∧ p ∈ b.flatten)
theorem arrO_cons (o : Od) (s : List Od) (p : Str) : arrO (o :: s) p = if p ∈ o.flatten then some 0 else (arrO s p).map (· + 1) := by
  unfold arrO
  rw [List.findIdx?_cons]
  by_cases h : p ∈ o.flatten
  · rw [if_pos h, if_pos (lvO_mem.mpr h)]
  · rw [if_neg h, if_neg fun q => h (lvO_mem.mp q)]
theorem cmpO_none {o : Od} {p q : Str} : cmpO o p q = none ↔ ¬ (p ∈ o.flatten ∧ q ∈ o.flatten) := by
  rw [← lvO_mem, ← lvO_mem]
  unfold cmpO
  cases lvO o p <;> cases lvO o q <;> simp
theorem stO_cons (o : Od) (s : List Od) (p q : Str) : stO (o :: s) p q = (cmpO o p q).or (stO s p q) := by
  unfold stO
  rw [List.findSome?_cons]
  cases cmpO o p q <;> rfl
theorem stO_away {s : List Od} {p q : Str} (h : ∀ o ∈ s, p ∉ o.flatten ∨ q ∉ o.flatten) : stO s p q = none := by
  unfold stO
  rw [List.findSome?_eq_none_iff]
  intro o m
  refine cmpO_none.mpr fun ⟨a, b⟩ => ?_
  rcases h o m with z | z
  · exact z a
  · exact z b
/-- where two names stand: in the order that holds both, if there is one -/
theorem stO_arr : ∀ {s : List Od} {p q : Str}, Apart p s → Apart q s → stO s p q = match arrO s p, arrO s q with
    | some i, some j => if i = j then cmpO (s.getD i []) p q else none
    | _, _ => none
  | [], p, q, _, _ => rfl
  | o :: s, p, q, hp, hq => by
    obtain ⟨p1, p2⟩ := List.pairwise_cons.mp hp
    obtain ⟨q1, q2⟩ := List.pairwise_cons.mp hq
    have ih := stO_arr p2 q2
    rw [stO_cons, arrO_cons, arrO_cons]
    by_cases a : p ∈ o.flatten
    · by_cases b : q ∈ o.flatten
      · rw [if_pos a, if_pos b]
        cases e : cmpO o p q with
        | none => exact absurd ⟨a, b⟩ (cmpO_none.mp e)
        | some z =>
          show some z = cmpO o p q
          exact e.symm
      · rw [if_pos a, if_neg b, cmpO_none.mpr fun z => b z.2, stO_away fun x m => .inl fun z => p1 x m ⟨a, z⟩]
        cases arrO s q <;> simp
    · by_cases b : q ∈ o.flatten
      · rw [if_neg a, if_pos b, cmpO_none.mpr fun z => a z.1, stO_away fun x m => .inr fun z => q1 x m ⟨b, z⟩]
        cases arrO s p <;> simp
      · rw [if_neg a, if_neg b, cmpO_none.mpr fun z => a z.1, Option.none_or, ih]
        cases arrO s p with
        | none => rfl
        | some i =>
          cases arrO s q with
          | none => rfl
          | some j => simp
theorem arrO_some {s : List Od} {p : Str} {i : Nat} (h : arrO s p = some i) : ∃ o, s[i]? = some o ∧ p ∈ o.flatten := by
  unfold arrO at h
  rw [List.findIdx?_eq_some_iff_getElem] at h
  obtain ⟨hi, h1, _⟩ := h
  exact ⟨s[i], List.getElem?_eq_getElem hi, lvO_mem.mp h1⟩
theorem stO_isSome {s : List Od} {p q : Str} (hp : Apart p s) (hq : Apart q s) : (stO s p q).isSome = ((arrO s p).isSome && decide (arrO s p = arrO s q)) := by
  rw [stO_arr hp hq]
  cases e1 : arrO s p with
  | none => rfl
  | some i =>
    cases e2 : arrO s q with
    | none => simp
    | some j =>
      by_cases e : i = j
      · subst e
        obtain ⟨o, ho, m1⟩ := arrO_some e1
        obtain ⟨o2, ho2, m2⟩ := arrO_some e2
        rw [ho] at ho2
        cases ho2
        have : s.getD i [] = o := by rw [List.getD_eq_getElem?_getD, ho]; rfl
        simp only [if_true, this]
        cases e3 : cmpO o p q with
        | none => exact absurd ⟨m1, m2⟩ (cmpO_none.mp e3)
        | some z => simp
      · simp [e]
theorem apart_filter {p : Str} {s : List Od} (f : Od → Bool) (h : Apart p s) : Apart p (s.filter f) := h.filter f
theorem apart_perm {p : Str} {s t : List Od} (h : Apart p s) (e : s.Perm t) : Apart p t := e.pairwise h fun z w => z ⟨w.2, w.1⟩
theorem shpO_perm (os : List Od) : (shpO os).Perm (os.filter fun o => !o.isEmpty) := List.mergeSort_perm _ leOd
theorem shpO_mem {os : List Od} {o : Od} : o ∈ shpO os ↔ o ∈ os ∧ o ≠ [] := by
  rw [(shpO_perm os).mem_iff, List.mem_filter]
  cases o <;> simp
theorem shpO_apart {p : Str} {os : List Od} (h : Apart p os) : Apart p (shpO os) := apart_perm (apart_filter _ h) (shpO_perm os).symm
end Kt

set_option Elab.async false
set_option linter.all false
set_option maxRecDepth 100000
namespace Kt
open PySem L2 PyProof.Rows
section
variable {K : PySem.W.Frag} {σ : L2.St} {G H : Hp} {D : Ends} {Q : VK} {a b : Addr} {xs : List V} {y : V} {Ps R : List SP} {ds : List PyData} {k : Nat}
theorem r_dnew (S : Sep Ps H) (q : ∀ p H', Sep (pt p (.dK (encK [])) :: Ps) H' → Q (.ref p) H') : tDNewK σ H Q := fun p np => q p _ (S.new _ np)
/-- xs.insert(i, y) -/
def rIns : V → List V → Hp → VK → Prop := fun x vs H Q => ∃ (l : Addr) (xs : List V) (i : Int) (y : V), x = .ref l ∧ vs = [.int i, y] ∧ H l = some (.lst xs) ∧ xs.length < sizeLine ∧ 0 ≤ i ∧ i < 2 ^ 63 ∧ Q .non (upd H l (.lst (xs.take i.toNat ++ [y] ++ xs.drop i.toNat)))
theorem mt_insertK {X : Cx} : MtR X "list.insert" rIns := mt_insert
theorem r_ins {i : Int} (S : Sep (pt a (.lst xs) :: R) H) (h0 : 0 ≤ i) (hi : i ≤ 1000000) (hz : xs.length < 100000) (h : ∀ H', Sep (pt a (.lst (xs.take i.toNat ++ y :: xs.drop i.toNat)) :: R) H' → Q .non H') : rIns (.ref a) [.int i, y] H Q :=
  ⟨a, xs, i, y, rfl, rfl, S.hd_at, Nat.lt_of_lt_of_le hz (by decide), h0, by omega, by
    have e : xs.take i.toNat ++ [y] ++ xs.drop i.toNat = xs.take i.toNat ++ y :: xs.drop i.toNat := by simp
    rw [e]
    exact h _ (S.hd_set _)⟩
/-! ### while -/
def WhN (J : LW) (m : Nat) : L2.St → Hp → Prop := fun σ' H' => ∃ m', m' < m ∧ Nx J m' σ' H'
theorem wh_in {J : LW} {m m' : Nat} (h : m' < m) (S : Sep Ps H) (j : J m' σ Ps) : WhN J m σ H := ⟨m', h, Ps, j, S⟩
theorem wh_go {tb : TS} {J : LW} {m : Nat} (h : tb { D with nx := WhN J m, ct := WhN J m, bk := D.nx } σ H) : ∃ N : L2.St → Hp → Prop, (∀ σ' H', N σ' H' → ∃ m', m' < m ∧ Nx J m' σ' H') ∧ tb { D with nx := N, ct := N, bk := D.nx } σ H := ⟨WhN J m, fun _ _ h => h, h⟩
theorem r_while {tc : TT} {tb : TS} (J : LW) (m : Nat) (S : Sep Ps H) (h0 : J m σ Ps) (hs : ∀ m σ Ps H, J m σ Ps → Sep Ps H → tc σ H fun b H1 => if b = true then ∃ N : L2.St → Hp → Prop, (∀ σ' H', N σ' H' → ∃ m', m' < m ∧ Nx J m' σ' H') ∧ tb { D with nx := N, ct := N, bk := D.nx } σ H1 else D.nx σ H1) : tWhile tc tb D σ H :=
  ⟨Nx J, ⟨m, nx_in S h0⟩, fun m σ H ⟨Ps, j, S⟩ => hs m σ Ps H j S⟩
/-! ### compared with what is empty -/
theorem eqv_nil : ∀ ds : List PyData, PyData.eqvAll ds [] = ds.isEmpty
  | [] => by simp [PyData.eqvAll]
  | d :: ds => by simp [PyData.eqvAll]
theorem r_ne_nilL (h1 : Dp K H (.ref a) (.list ds)) (o : Okd k (.list ds)) (hk : k ≤ 64) (s : SqL K H b []) (h : Q (.bl (!ds.isEmpty)) H) : rNeA K (.ref a) (.ref b) H Q :=
  .inr ⟨_, .list [], h1, .lst s .nil, o.shaped hk, (okd_list (k := 0) (by simp)).shaped (by decide), by rw [PyData.eqv, eqv_nil]; exact h⟩
theorem r_eq_nilL (h1 : Dp K H (.ref a) (.list ds)) (o : Okd k (.list ds)) (hk : k ≤ 64) (s : SqL K H b []) (h : Q (.bl ds.isEmpty) H) : rEqA K (.ref a) (.ref b) H Q :=
  .inr ⟨_, .list [], h1, .lst s .nil, o.shaped hk, (okd_list (k := 0) (by simp)).shaped (by decide), by rw [PyData.eqv, eqv_nil]; exact h⟩
theorem r_ne_nilT (h1 : Dp K H (.ref a) (.tuple ds)) (o : Okd k (.tuple ds)) (hk : k ≤ 64) (s : SqT K H b []) (h : Q (.bl (!ds.isEmpty)) H) : rNeA K (.ref a) (.ref b) H Q :=
  .inr ⟨_, .tuple [], h1, .tup s .nil, o.shaped hk, (okd_tuple (k := 0) (by simp)).shaped (by decide), by rw [PyData.eqv, eqv_nil]; exact h⟩
/-! ### names: texts that may be laid down -/
def Nms (l : List Str) : Prop := ∀ x ∈ l, PyData.strOk x = true
theorem okd_str {k : Nat} {x : Str} (h : PyData.strOk x = true) : Okd k (.str x) := ⟨h, Nat.zero_le _⟩
theorem okd_strs {k : Nat} {l : List Str} (h : Nms l) : ∀ d ∈ l.map PyData.str, Okd k d := fun d m => by
  obtain ⟨x, hx, rfl⟩ := List.mem_map.mp m
  exact okd_str (h x hx)
theorem okd_ns {l : List Str} (h : Nms l) : Okd 1 (dNs l) := okd_list (okd_strs h)
theorem okd_lv {l : List Str} (h : Nms l) : Okd 1 (dLv l) := okd_tuple (okd_strs h)
theorem okd_lvs {o : Od} (h : Nms o.flatten) : ∀ d ∈ o.map dLv, Okd 1 d := fun d m => by
  obtain ⟨x, hx, rfl⟩ := List.mem_map.mp m
  exact okd_lv fun z mz => h z (List.mem_flatten.mpr ⟨x, hx, mz⟩)
theorem okd_od {o : Od} (h : Nms o.flatten) : Okd 2 (dOd o) := okd_tuple (okd_lvs h)
theorem okd_ods {s : List Od} (h : ∀ o ∈ s, Nms o.flatten) : ∀ d ∈ s.map dOd, Okd 2 d := fun d m => by
  obtain ⟨x, hx, rfl⟩ := List.mem_map.mp m
  exact okd_od (h x hx)
theorem okd_shp {s : List Od} (h : ∀ o ∈ s, Nms o.flatten) : Okd 3 (dShp s) := okd_tuple (okd_ods h)
theorem okd_os {s : List Od} (h : ∀ o ∈ s, Nms o.flatten) : Okd 3 (dOds s) := okd_list (okd_ods h)
/-! ### tests that are known -/
theorem iteD {p A B : Prop} [Decidable p] (hp : p) (h : A) : if decide p = true then A else B := by rw [decide_eq_true hp]; exact h
theorem iteDN {p A B : Prop} [Decidable p] (hp : ¬ p) (h : B) : if decide p = true then A else B := by rw [decide_eq_false hp]; exact h
theorem iteB {b : Bool} {A B : Prop} (hb : b = true) (h : A) : if b = true then A else B := by rw [hb]; exact h
theorem iteBN {b : Bool} {A B : Prop} (hb : b = false) (h : B) : if b = true then A else B := by rw [hb]; exact h
theorem iteND {p A B : Prop} [Decidable p] (hp : ¬ p) (h : A) : if (!decide p) = true then A else B := by rw [decide_eq_false hp]; exact h
theorem iteNDN {p A B : Prop} [Decidable p] (hp : p) (h : B) : if (!decide p) = true then A else B := by rw [decide_eq_true hp]; exact h
theorem r_notN {x : V} (h : Q (.bl (!decide (x = .non))) H) : rNotN x .non H Q := ⟨rfl, h⟩
/-! ### cut in two -/
theorem cut_pre {n : Nat} : cutV xs none (some (n : Int)) = xs.take n := by
  unfold cutV HT.sIx
  simp only [List.drop_zero, Nat.sub_zero]
  rw [if_neg (by omega), Int.toNat_natCast, List.take_eq_take_iff]
  omega
theorem cut_suf {n : Nat} : cutV xs (some (n : Int)) none = xs.drop n := by
  unfold cutV HT.sIx
  simp only
  rw [if_neg (by omega), Int.toNat_natCast]
  by_cases h : n ≤ xs.length
  · rw [Nat.min_eq_left h, List.take_of_length_le (by rw [List.length_drop]; omega)]
  · rw [Nat.min_eq_right (by omega), List.drop_eq_nil_of_le (Nat.le_refl _), List.take_nil, List.drop_eq_nil_of_le (by omega)]
/-! ### a list of data that is of the heap's own -/
def LD (K : PySem.W.Frag) (G : Hp) (a : Addr) (ds : List PyData) : Prop := ∃ vs, G a = some (.lst vs) ∧ DpAll K G vs ds
theorem LD.le {G' : Hp} (h : LD K G a ds) (l : Le G G') : LD K G' a ds := by
  obtain ⟨vs, e, d⟩ := h
  exact ⟨vs, l _ _ e, DpAll.le l _ _ d⟩
theorem LD.dp (h : LD K G a ds) : Dp K G (.ref a) (.list ds) := by
  obtain ⟨vs, e, d⟩ := h
  exact .lst (SqL.of e) d
theorem LD.sq {l : List Str} (h : LD K G a (l.map PyData.str)) : SqL K G a (l.map V.str) := dns_sq h.dp
theorem hp_LD {p : Addr} (S : Sep (pt p (.lst xs) :: hp G :: R) H) (h : DpAll K G xs ds) : ∃ G', Le G G' ∧ LD K G' p ds ∧ Sep (hp G' :: R) H := by
  obtain ⟨G', l, e, S⟩ := hp_add S
  exact ⟨G', l, ⟨xs, e, DpAll.le l _ _ h⟩, S⟩
/-- a piece of a list of data, as a list of data -/
theorem r_pre {n : Nat} (S : Sep (hp G :: R) H) (hx : Dp K G (.ref a) (.list ds)) (h : ∀ p G' H', Le G G' → LD K G' p (ds.take n) → Sep (hp G' :: R) H' → Q (.ref p) H') : kSl K Q (.ref a) none (some (n : Int)) H := by
  obtain ⟨a', vs, e, hs, hv⟩ := dp_lstInv hx
  cases e
  refine r_ksl S (hp_sqL S hs) fun p H' S => ?_
  rw [cut_pre] at S
  obtain ⟨G', le, hd, S⟩ := hp_LD S (dpall_take n hv)
  exact h p G' H' le hd S
theorem r_suf {n : Nat} (S : Sep (hp G :: R) H) (hx : Dp K G (.ref a) (.list ds)) (h : ∀ p G' H', Le G G' → LD K G' p (ds.drop n) → Sep (hp G' :: R) H' → Q (.ref p) H') : kSl K Q (.ref a) (some (n : Int)) none H := by
  obtain ⟨a', vs, e, hs, hv⟩ := dp_lstInv hx
  cases e
  refine r_ksl S (hp_sqL S hs) fun p H' S => ?_
  rw [cut_suf] at S
  obtain ⟨G', le, hd, S⟩ := hp_LD S (dpall_drop n hv)
  exact h p G' H' le hd S
/-- two lists of data, one after the other -/
theorem r_catD {es : List PyData} (S : Sep (hp G :: R) H) (h1 : LD K G a ds) (h2 : LD K G b es) (hz : ds.length + es.length ≤ 100000) (h : ∀ p G' H', Le G G' → LD K G' p (ds ++ es) → Sep (hp G' :: R) H' → Q (.ref p) H') : rAddA (.ref a) (.ref b) H Q := by
  obtain ⟨v1, e1, d1⟩ := h1
  obtain ⟨v2, e2, d2⟩ := h2
  have l1 := dpall_len d1
  have l2 := dpall_len d2
  refine r_cat S (hp_le S _ _ e1) (hp_le S _ _ e2) (by omega) fun p H' S => ?_
  obtain ⟨G', le, hd, S⟩ := hp_LD S (dpall_app d1 d2)
  exact h p G' H' le hd S
/-- one list of data made new -/
theorem r_newD (S : Sep (hp G :: R) H) (hd : DpAll K G xs ds) (hl : xs.length ≤ 1000) (h : ∀ p G' H', Le G G' → LD K G' p ds → Sep (hp G' :: R) H' → Q (.ref p) H') : kLst Q xs H :=
  q_new S hl fun p H' S => by
    obtain ⟨G', le, hd, S⟩ := hp_LD S hd
    exact h p G' H' le hd S
theorem r_newTD (S : Sep (hp G :: R) H) (hd : DpAll K G xs ds) (hl : xs.length ≤ 1000) (h : ∀ p G' H', Le G G' → Dp K G' (.ref p) (.tuple ds) → Sep (hp G' :: R) H' → Q (.ref p) H') : kTup Q xs H :=
  q_newT S hl fun p H' S => by
    obtain ⟨G', le, hd, S⟩ := hp_tup S hd
    exact h p G' H' le hd S
end
end Kt

set_option Elab.async false
set_option linter.all false
set_option maxRecDepth 100000
namespace Kt
open PySem PySem.Spec L2 PyProof.Rows PySem.Froz
/-! ### a set of texts: what it holds, and that it can be walked -/
structure SxT (P : Program) (w : World) (h : Heap) (a : Addr) (l : List Str) : Prop where
  at_ : ∃ D : SD, h.get? a = some (sObj "set" D) ∧ TxOk P w D l ∧ Ris D.2.2.place.toList ∧ (w.params.followText "set-order" = true ∨ D.2.2.led = true)
  nd : l.Nodup
section
variable {P : Program} {w : World} {A : Around} {E : Value → Shared → Prop} {s : Shared} {h h' : Heap} {a : Addr} {l : List Str}
theorem SxT.to (R : SxT P w h a l) (k : ∀ o, h.get? a = some o → h'.get? a = some o) : SxT P w h' a l := by
  obtain ⟨⟨D, e, r⟩, n⟩ := R
  exact ⟨⟨D, k _ e, r⟩, n⟩
theorem tail_ris {ep : Nat} {es : Array (Int × Value)} {t : SetTable} {wd : Bool} (r : Ris t.place.toList) : Ris (tailTx ep es t wd).2.2.place.toList := by
  unfold tailTx
  split
  · exact relayAll_ris ..
  · exact r
theorem tail_led {ep : Nat} {es : Array (Int × Value)} {t : SetTable} {wd : Bool} : (tailTx ep es t wd).2.2.led = t.led := by
  unfold tailTx
  split
  · exact relayAll_led ..
  · rfl
theorem addTx_ris {x : Int} {v : Value} {D : SD} (r : Ris D.2.2.place.toList) : Ris (addTx x v D).2.2.place.toList := by
  have q := layNew_ris D.2.2 D.1 x v r
  unfold addTx
  refine tail_ris ?_
  split <;> exact q
theorem addTx_led {x : Int} {v : Value} {D : SD} : (addTx x v D).2.2.led = D.2.2.led := by
  have q := layNew_led D.2.2 D.1 x v
  unfold addTx
  refine tail_led.trans ?_
  split <;> exact q
/-- a text that the set holds already: nothing changes -/
theorem again_x {D : SD} {k : Str} {u : Tok} {Q : Bool → Shared → Prop} (ho : s.heap.get? a = some (sObj "set" D)) (F : TxOk P w D l) (hk : k ∈ l) (hb : l.length < scanBound) (q : Q false s) : wpAny (model P w) A (setAddHashed a (.str k u) (hashStr w k)) Q E s := by
  obtain ⟨es, ep, t⟩ := D
  have dd : (sObj "set" (es, ep, t)).data = .set es ep t := rfl
  have e0 : ElemsOf (strKind P w) es.toList := F.el
  have lt0 : es.size < scanBound := by have := F.sz; simp only at this; omega
  have me := is_str (P := P) (w := w) k u
  obtain ⟨e, he, hq⟩ := (F.mem k).mp hk
  unfold setAddHashed setAddHashedIn
  refine wpAny_holding (wpAny_bind (wpAny_setState_of ho dd F.fit ?_))
  dsimp only
  rw [byScan_of rfl lt0 e0]
  simp only [↓reduceIte]
  unfold setAddByScan
  refine wpAny_bind (wpAny_bind (wpAny_rule (wpAny_bind (wpAny_setScan_of (knd := strKind P w) (k := k) me ho dd F.fit e0 ?_))))
  cases fi : List.findIdx? (fun e => (strKind P w).is k e.2) es.toList with
  | none =>
    have := List.findIdx?_eq_none_iff.mp fi e he
    rw [hq] at this
    cases this
  | some j =>
    dsimp only
    exact wpAny_pure (wpAny_pure q)
/-- one more text -/
theorem sxt_add {k : Str} {u : Tok} {Q : Bool → Shared → Prop} (R : SxT P w s.heap a l) (room : l.length + 1 < scanBound) (q : ∀ (b : Bool) h2 l2, Heap.SameBut a s.heap h2 → SxT P w h2 a l2 → (∀ x, x ∈ l2 ↔ x ∈ l ∨ x = k) → l2.length ≤ l.length + 1 → Q b { s with heap := h2 }) :
    wpAny (model P w) A (setAddHashed a (.str k u) (hashStr w k)) Q E s := by
  obtain ⟨⟨D, e, F, r, ld⟩, nd⟩ := id R
  by_cases hk : k ∈ l
  · exact again_x e F hk (by omega) (q false s.heap l (Heap.SameBut.refl a s.heap) R (fun x => ⟨.inl, fun z => z.elim id fun z => z ▸ hk⟩) (Nat.le_succ _))
  · refine add_x e F hk room ?_
    refine q true _ (k :: l) (Heap.SameBut.update ..) ⟨⟨addTx (hashStr w k) (.str k u) D, get_upd _ e rfl, add_ok u F, addTx_ris r, ld.imp id fun z => addTx_led.trans z⟩, List.nodup_cons.mpr ⟨hk, nd⟩⟩ (fun x => ?_) (Nat.le_refl _)
    rw [List.mem_cons, or_comm]
/-- the loop that fills a set with the texts of an iterator -/
theorem fill_txt {I : Addr} {fp wr : List Addr} {G : Array GenState → Array GenState → Prop} {n : Nat} {Pv : Nat → Value → Prop} {St : Nat → Shared → Prop} {R : Result → Shared → Prop}
    (W : WalksS P w A.in1 I fp wr G n Pv St) (S : Addr) (nf : S ∉ fp) (ts : List Str) (hn : n = ts.length) (hb : ts.length + 1 < scanBound) (hv : ∀ i v, Pv i v → ∃ k t, ts[i]? = some k ∧ v = .str k t) :
    ∀ (m i : Nat) (s : Shared), n - i = m → i ≤ n → St i s → (∃ l, l.length ≤ i ∧ (∀ x, x ∈ l ↔ x ∈ ts.take i) ∧ SxT P w s.heap S l) →
      (∀ s' l, Moved (S :: wr) G s s' → l.length ≤ n → (∀ x, x ∈ l ↔ x ∈ ts) → SxT P w s'.heap S l → R (.ok (.ret .none)) s') →
      codeAny (model P w) A (.builtin "set.update.loop" ⟨[.ref S, .ref I], []⟩) R s := by
  have nw : S ∉ wr := fun z => nf (W.sub _ z)
  have up : ∀ b ∈ wr, b ∈ S :: wr := fun b z => List.mem_cons_of_mem _ z
  intro m
  induction m with
  | zero =>
    intro i s em hi st ⟨l, hl, hm, hS⟩ fin
    have hin : i = n := by omega
    subst hin
    refine codeAny_builtin F.entry_set_update_loop ?_
    rw [Around.under_plainId F.plain_set_update_loop _]
    refine wpAny_bind (m := pyNext (.ref I)) (W.done s _ _ st fun s2 mv => ?_)
    rw [List.take_of_length_le (by omega)] at hm
    exact wpAny_pure (fin s2 l (mv.mono up) hl hm (hS.to fun o e => mv.heap S o nw e))
  | succ m ih =>
    intro i s em hi st ⟨l, hl, hm, hS⟩ fin
    have lt : i < n := by omega
    refine codeAny_builtin F.entry_set_update_loop ?_
    rw [Around.under_plainId F.plain_set_update_loop _]
    refine wpAny_bind (m := pyNext (.ref I)) (W.item i s _ _ lt st fun v s2 hP st2 mv => ?_)
    obtain ⟨z, t, hz, rfl⟩ := hv i v hP
    have hS2 : SxT P w s2.heap S l := hS.to fun o e => mv.heap S o nw e
    refine wpAny_bind (m := holding [Value.str z t] (setAdd S (.str z t))) (wpAny_holding ?_)
    unfold setAdd
    refine wpAny_holding (wpAny_bind ((strKind P w).pyHash (k := z) (is_str z t) ?_))
    refine sxt_add (s := { s2 with toks := s2.toks + 1 }) hS2 (by omega) fun b h2 l2 sb hS3 hm3 hl3 => ?_
    have hm4 : ∀ x, x ∈ l2 ↔ x ∈ ts.take (i + 1) := fun x => by
      rw [hm3, hm, List.take_add_one, hz]
      simp
    refine wpAny_pure ⟨plainId_quiet F.plain_set_update_loop _, ih (i + 1) _ (by omega) lt (W.frame _ s2 _ _ st2 (Nat.le_succ _) fun c hc o e => ?_) ⟨l2, by omega, hm4, hS3⟩ fun s3 l3 mv3 hl3 hm3 hS4 => ?_⟩
    · have ne : c ≠ S := fun z => nf (z ▸ hc)
      exact (sb.2 c ne).trans e
    · refine fin s3 l3 (Moved.trans W.gtrans ((mv.mono up).then_heap (Nat.le_succ _) fun c o hc e => ?_) mv3) hl3 hm3 hS4
      have ne : c ≠ S := fun z => hc (z ▸ List.mem_cons_self)
      exact (sb.2 c ne).trans e

set_option maxHeartbeats 3200000 in
theorem callSetTL {l : Addr} {vs : Array Value} (ts : List Str) {Z : Value → Shared → Prop} (h0 : A.handled = none) (hL : s.heap.IsList l vs) (hI : StrsAre vs.toList ts) (hB : ts.length + 1 < scanBound)
    (q : ∀ (h2 : Heap) (tk : Nat) (ks : List Str), SxT P w h2 s.heap.objs.size ks → ks.length ≤ ts.length → (∀ x, x ∈ ks ↔ x ∈ ts) → (∀ b o, s.heap.get? b = some o → h2.get? b = some o) → Z (.ref s.heap.objs.size) { s with heap := h2, toks := tk }) :
    wpAny (model P w) A (call (.type "set") [.ref l]) Z E s := by
  have sz : vs.size = ts.length := (Array.length_toList ..).symm.trans hI.len_eq
  obtain ⟨c, tl, m0⟩ := F.called_set.mro
  have m1 := F.called_set.made
  have m2 := F.called_set.sub
  refine wpAny_call (codeAny_of_tree ?_)
  refine wpAny_pure ⟨Code.quiet_builtin _ (by decide +kernel), codeAny_builtin F.entry_type_call ?_⟩
  rw [Around.under_plain (weight_type_call_type "set" [.ref l] []) rfl]
  have g1 := F.called_set.notType
  have g2 := F.called_set.canCreate
  have g3 := F.typeCall_set_1 (.ref l)
  repeat (any_goals (first | assumption | wp_step))
  refine codeAny_mono (code_set_led1 (.ref l) (E := E) (Q₁ := fun ob z₁ => ob = .ref s.heap.objs.size ∧ z₁ = { s with heap := s.heap.push (soOf w) }) ⟨rfl, rfl⟩) fun r z₁ hr => ?_
  cases r with
  | error e => exact hr
  | ok fl =>
    cases fl with
    | ret ob =>
      obtain ⟨rfl, rfl⟩ := hr
      have eS : (s.heap.push (soOf w)).get? s.heap.objs.size = some (soOf w) := Heap.get?_push_size _ rfl
      have tS : Shared.TypeIs { s with heap := s.heap.push (soOf w) } (.ref s.heap.objs.size) "set" := ⟨_, eS, rfl⟩
      have i1 := F.called_set.init.lookup
      have i2 := F.called_set.init.bind (.ref s.heap.objs.size)
      repeat (any_goals (first | assumption | wp_step))
      refine codeAny_mono (codeAny_call_builtin (R := wants (fun r z₂ => r = .none ∧ ∃ h2 tk ks, z₂ = { s with heap := h2, toks := tk } ∧ SxT P w h2 s.heap.objs.size ks ∧ ks.length ≤ ts.length ∧ (∀ x, x ∈ ks ↔ x ∈ ts) ∧ (∀ b o, s.heap.get? b = some o → h2.get? b = some o)) E) F.called_set.init.plain F.entry_set_init (check_set_init_1 tS ?_)) fun r₂ z₂ hr₂ => ?_
      · obtain ⟨ol, eol, col, nl, dol⟩ := hL
        obtain ⟨kc, kd, kt, ks⟩ := ol
        simp only at col dol
        subst col; subst dol
        have eo2 : (s.heap.push (soOf w)).get? l = some { cls := .type "list", dict := kd, data := .seq vs nl, slots := ks } := Heap.get?_push_of_some _ eol
        have sb1 := F.sub_list_set
        have sb2 := F.sub_list_frozenset
        have hne : (Value.type "list" == Value.type "dict") = false := by decide
        have hL1 : (s.heap.push (soOf w)).IsList l vs := ⟨_, eo2, rfl, nl, rfl⟩
        unfold Builtin.«set.__init__» noKeywords Builtin.Frozenset.updateFrom
        generalize hPI : pyIter = PI
        wp_walk
        subst hPI
        refine wpAny_pyIter_list hL1 ?_
        refine wpAny_bind (wpAny_runValue ?_)
        have ll : l < s.heap.objs.size := Heap.lt_size eol
        have hh3 : A.in1.in1.in1.handled = none := by simp [h0]
        have zz : (s.heap.push (soOf w)).objs.size = s.heap.objs.size + 1 := Heap.size_push ..
        have n1 : l ≠ (s.heap.push (soOf w)).objs.size := by rw [zz]; exact Nat.ne_of_lt (Nat.lt_succ_of_lt ll)
        have n2 : s.heap.objs.size ∉ [(s.heap.push (soOf w)).objs.size, l] := by
          rw [zz]; simp only [List.mem_cons, List.not_mem_nil, or_false, not_or]
          exact ⟨Nat.ne_of_lt (Nat.lt_succ_self _), Nat.ne_of_gt ll⟩
        have val : ∀ (i : Nat) (v : Value), vs[i]? = some v → ∃ k t, ts[i]? = some k ∧ v = .str k t := fun i v hv => by
          have hi : i < ts.length := by rw [← sz]; exact (Array.getElem?_eq_some_iff.mp hv).1
          obtain ⟨t, e⟩ := SS.strs_at hI i v (by rw [Array.getElem?_toList]; exact hv)
          exact ⟨ts[i], t, List.getElem?_eq_getElem hi, by rw [e, List.getD_eq_getElem?_getD, List.getElem?_eq_getElem hi] <;> rfl⟩
        refine fill_txt ((Walks.list hh3 _ l n1 vs).toS) s.heap.objs.size n2 ts sz hB val (vs.size - 0) 0 _ (by omega) (Nat.zero_le _) ⟨⟨_, Heap.get?_push_size _ rfl, rfl, rfl⟩, (hL1.push _)⟩ ?k0 ?k1
        case k0 =>
          refine ⟨[], Nat.le_refl 0, fun x => by simp, ⟨(#[], 0, .fresh 0 0 (!w.params.followText "set-order")), Heap.get?_push_of_some _ eS, TxOk.nil (by rfl), List.Pairwise.nil, ?_⟩, List.nodup_nil⟩
          show _ ∨ (!w.params.followText "set-order") = true
          cases w.params.followText "set-order"
          · exact .inr rfl
          · exact .inl rfl
        case k1 =>
          intro z' ks2 hm hc' hms hS'
          obtain ⟨h2, g2, d2, tk, os2⟩ := z'
          obtain rfl : g2 = s.gens := hm.gens
          obtain rfl : d2 = s.drawn := hm.drawn
          obtain rfl : os2 = s.os := hm.os
          show wpAny _ _ _ _ _ _
          refine wpAny_pure ?_
          show wpAny _ _ (ret Value.none) _ _ _
          rw [sz] at hc'
          refine wpAny_pure ⟨rfl, h2, tk, ks2, rfl, hS', hc', hms, fun b o e => ?_⟩
          have lb : b < s.heap.objs.size := Heap.lt_size e
          exact hm.heap b o (by rw [zz]; simp only [List.mem_cons, List.not_mem_nil, or_false, not_or]; exact ⟨Nat.ne_of_lt lb, Nat.ne_of_lt (Nat.lt_succ_of_lt lb)⟩) (Heap.get?_push_of_some _ (Heap.get?_push_of_some _ e))
      · cases r₂ with
        | error e => exact hr₂
        | ok fl₂ =>
          cases fl₂ with
          | ret r =>
            obtain ⟨rfl, h2, tk, ks2, rfl, hS', hc', hms, hk'⟩ := hr₂
            repeat (any_goals (first | assumption | wp_step))
            exact q _ _ _ hS' hc' hms hk'
          | _ => exact hr₂.elim
    | _ => exact hr.elim

set_option maxHeartbeats 3200000 in
theorem callSetTT {l : Addr} {vs : Array Value} (ts : List Str) {Z : Value → Shared → Prop} (h0 : A.handled = none) (hL : s.heap.IsTuple l vs) (hI : StrsAre vs.toList ts) (hB : ts.length + 1 < scanBound)
    (q : ∀ (h2 : Heap) (tk : Nat) (ks : List Str), SxT P w h2 s.heap.objs.size ks → ks.length ≤ ts.length → (∀ x, x ∈ ks ↔ x ∈ ts) → (∀ b o, s.heap.get? b = some o → h2.get? b = some o) → Z (.ref s.heap.objs.size) { s with heap := h2, toks := tk }) :
    wpAny (model P w) A (call (.type "set") [.ref l]) Z E s := by
  have sz : vs.size = ts.length := (Array.length_toList ..).symm.trans hI.len_eq
  obtain ⟨c, tl, m0⟩ := F.called_set.mro
  have m1 := F.called_set.made
  have m2 := F.called_set.sub
  refine wpAny_call (codeAny_of_tree ?_)
  refine wpAny_pure ⟨Code.quiet_builtin _ (by decide +kernel), codeAny_builtin F.entry_type_call ?_⟩
  rw [Around.under_plain (weight_type_call_type "set" [.ref l] []) rfl]
  have g1 := F.called_set.notType
  have g2 := F.called_set.canCreate
  have g3 := F.typeCall_set_1 (.ref l)
  repeat (any_goals (first | assumption | wp_step))
  refine codeAny_mono (code_set_led1 (.ref l) (E := E) (Q₁ := fun ob z₁ => ob = .ref s.heap.objs.size ∧ z₁ = { s with heap := s.heap.push (soOf w) }) ⟨rfl, rfl⟩) fun r z₁ hr => ?_
  cases r with
  | error e => exact hr
  | ok fl =>
    cases fl with
    | ret ob =>
      obtain ⟨rfl, rfl⟩ := hr
      have eS : (s.heap.push (soOf w)).get? s.heap.objs.size = some (soOf w) := Heap.get?_push_size _ rfl
      have tS : Shared.TypeIs { s with heap := s.heap.push (soOf w) } (.ref s.heap.objs.size) "set" := ⟨_, eS, rfl⟩
      have i1 := F.called_set.init.lookup
      have i2 := F.called_set.init.bind (.ref s.heap.objs.size)
      repeat (any_goals (first | assumption | wp_step))
      refine codeAny_mono (codeAny_call_builtin (R := wants (fun r z₂ => r = .none ∧ ∃ h2 tk ks, z₂ = { s with heap := h2, toks := tk } ∧ SxT P w h2 s.heap.objs.size ks ∧ ks.length ≤ ts.length ∧ (∀ x, x ∈ ks ↔ x ∈ ts) ∧ (∀ b o, s.heap.get? b = some o → h2.get? b = some o)) E) F.called_set.init.plain F.entry_set_init (check_set_init_1 tS ?_)) fun r₂ z₂ hr₂ => ?_
      · obtain ⟨ol, eol, col, nl, dol⟩ := hL
        obtain ⟨kc, kd, kt, ks⟩ := ol
        simp only at col dol
        subst col; subst dol
        have eo2 : (s.heap.push (soOf w)).get? l = some { cls := .type "tuple", dict := kd, data := .seq vs nl, slots := ks } := Heap.get?_push_of_some _ eol
        have sb1 := F.sub_tuple_set
        have sb2 := F.sub_tuple_frozenset
        have hne : (Value.type "tuple" == Value.type "dict") = false := by decide
        have hL1 : (s.heap.push (soOf w)).IsTuple l vs := ⟨_, eo2, rfl, nl, rfl⟩
        unfold Builtin.«set.__init__» noKeywords Builtin.Frozenset.updateFrom
        generalize hPI : pyIter = PI
        wp_walk
        subst hPI
        refine wpAny_pyIter_tuple hL1 ?_
        refine wpAny_bind (wpAny_runValue ?_)
        have ll : l < s.heap.objs.size := Heap.lt_size eol
        have hh3 : A.in1.in1.in1.handled = none := by simp [h0]
        have zz : (s.heap.push (soOf w)).objs.size = s.heap.objs.size + 1 := Heap.size_push ..
        have n1 : l ≠ (s.heap.push (soOf w)).objs.size := by rw [zz]; exact Nat.ne_of_lt (Nat.lt_succ_of_lt ll)
        have n2 : s.heap.objs.size ∉ [(s.heap.push (soOf w)).objs.size, l] := by
          rw [zz]; simp only [List.mem_cons, List.not_mem_nil, or_false, not_or]
          exact ⟨Nat.ne_of_lt (Nat.lt_succ_self _), Nat.ne_of_gt ll⟩
        have val : ∀ (i : Nat) (v : Value), vs[i]? = some v → ∃ k t, ts[i]? = some k ∧ v = .str k t := fun i v hv => by
          have hi : i < ts.length := by rw [← sz]; exact (Array.getElem?_eq_some_iff.mp hv).1
          obtain ⟨t, e⟩ := SS.strs_at hI i v (by rw [Array.getElem?_toList]; exact hv)
          exact ⟨ts[i], t, List.getElem?_eq_getElem hi, by rw [e, List.getD_eq_getElem?_getD, List.getElem?_eq_getElem hi] <;> rfl⟩
        refine fill_txt ((Walks.tuple hh3 _ l n1 vs).toS) s.heap.objs.size n2 ts sz hB val (vs.size - 0) 0 _ (by omega) (Nat.zero_le _) ⟨⟨_, Heap.get?_push_size _ rfl, rfl, rfl⟩, (hL1.push _)⟩ ?k0 ?k1
        case k0 =>
          refine ⟨[], Nat.le_refl 0, fun x => by simp, ⟨(#[], 0, .fresh 0 0 (!w.params.followText "set-order")), Heap.get?_push_of_some _ eS, TxOk.nil (by rfl), List.Pairwise.nil, ?_⟩, List.nodup_nil⟩
          show _ ∨ (!w.params.followText "set-order") = true
          cases w.params.followText "set-order"
          · exact .inr rfl
          · exact .inl rfl
        case k1 =>
          intro z' ks2 hm hc' hms hS'
          obtain ⟨h2, g2, d2, tk, os2⟩ := z'
          obtain rfl : g2 = s.gens := hm.gens
          obtain rfl : d2 = s.drawn := hm.drawn
          obtain rfl : os2 = s.os := hm.os
          show wpAny _ _ _ _ _ _
          refine wpAny_pure ?_
          show wpAny _ _ (ret Value.none) _ _ _
          rw [sz] at hc'
          refine wpAny_pure ⟨rfl, h2, tk, ks2, rfl, hS', hc', hms, fun b o e => ?_⟩
          have lb : b < s.heap.objs.size := Heap.lt_size e
          exact hm.heap b o (by rw [zz]; simp only [List.mem_cons, List.not_mem_nil, or_false, not_or]; exact ⟨Nat.ne_of_lt lb, Nat.ne_of_lt (Nat.lt_succ_of_lt lb)⟩) (Heap.get?_push_of_some _ (Heap.get?_push_of_some _ e))
      · cases r₂ with
        | error e => exact hr₂
        | ok fl₂ =>
          cases fl₂ with
          | ret r =>
            obtain ⟨rfl, h2, tk, ks2, rfl, hS', hc', hms, hk'⟩ := hr₂
            repeat (any_goals (first | assumption | wp_step))
            exact q _ _ _ hS' hc' hms hk'
          | _ => exact hr₂.elim
    | _ => exact hr.elim
end
end Kt

set_option Elab.async false
set_option linter.all false
set_option maxRecDepth 100000
namespace Kt
open PySem PySem.Spec L2 PyProof.Rows PySem.Froz
/-! ### what is sorted is one list -/
theorem leS_anti {a b : Str} (h : leS a b = true) (h2 : leS b a = true) : a = b := by
  rw [leS_eq] at h h2
  have e := List.le_antisymm (of_decide_eq_true h) (of_decide_eq_true h2)
  obtain ⟨⟨x⟩⟩ := a
  obtain ⟨⟨y⟩⟩ := b
  have e : x = y := e
  rw [e]
theorem sortS_perm {a b : List Str} (h : a.Perm b) : sortS a = sortS b :=
  List.Perm.eq_of_pairwise (le := fun a b => leS a b = true) (fun _ _ _ _ => leS_anti) (asc_sort a) (asc_sort b) (((sort_perm a).trans h).trans (sort_perm b).symm)
theorem sort_uniq {a b : List Str} (h : Asc a) (e : a.Perm b) : sortS b = a := by rw [← sortS_perm e, sort_asc h]
theorem perm_of_nodup : ∀ {a b : List Str}, a.Nodup → (∀ x ∈ a, x ∈ b) → b.length ≤ a.length → b.Perm a
  | [], b, _, _, hl => by
    have : b = [] := List.length_eq_zero_iff.mp (Nat.le_zero.mp hl)
    rw [this]
  | x :: a, b, nd, hs, hl => by
    obtain ⟨h1, h2⟩ := List.nodup_cons.mp nd
    have m := hs x List.mem_cons_self
    have e := List.length_erase_of_mem m
    have ih := perm_of_nodup (a := a) (b := b.erase x) h2 (fun y my => (List.mem_erase_of_ne fun (z : y = x) => h1 (z ▸ my)).mpr (hs y (List.mem_cons_of_mem _ my))) (by rw [e]; rw [List.length_cons] at hl; omega)
    exact (List.perm_cons_erase m).trans (ih.cons x)
/-- the texts, each once -/
def nubS : List Str → List Str
  | [] => []
  | x :: l => if x ∈ l then nubS l else x :: nubS l
theorem mem_nub {x : Str} : ∀ {l : List Str}, x ∈ nubS l ↔ x ∈ l
  | [] => Iff.rfl
  | y :: l => by
    unfold nubS
    split
    · rename_i h
      rw [mem_nub, List.mem_cons]
      exact ⟨.inr, fun z => z.elim (fun e => e ▸ h) id⟩
    · rw [List.mem_cons, List.mem_cons, mem_nub]
theorem nub_nd : ∀ l : List Str, (nubS l).Nodup
  | [] => List.nodup_nil
  | y :: l => by
    unfold nubS
    split
    · exact nub_nd l
    · rename_i h
      exact List.nodup_cons.mpr ⟨fun z => h (mem_nub.mp z), nub_nd l⟩
theorem nub_len : ∀ l : List Str, (nubS l).length ≤ l.length
  | [] => Nat.le_refl _
  | y :: l => by
    have := nub_len l
    unfold nubS
    split <;> rw [List.length_cons] <;> first | omega | (rw [List.length_cons]; omega)
theorem nub_of {l : List Str} (h : l.Nodup) : nubS l = l := by
  induction l with
  | nil => rfl
  | cons x l ih =>
    obtain ⟨h1, h2⟩ := List.nodup_cons.mp h
    unfold nubS
    rw [if_neg h1, ih h2]
def setS (l : List Str) : List Str := sortS (nubS l)
theorem set_eq {ks l : List Str} (nd : ks.Nodup) (hm : ∀ x, x ∈ ks ↔ x ∈ l) : sortS ks = setS l := by
  have h1 : (nubS l).Perm ks := by
    have a1 := perm_of_nodup (a := ks) (b := nubS l) nd (fun x m => mem_nub.mpr ((hm x).mp m))
    have a2 := perm_of_nodup (a := nubS l) (b := ks) (nub_nd l) (fun x m => (hm x).mpr (mem_nub.mp m))
    by_cases h : (nubS l).length ≤ ks.length
    · exact a1 h
    · exact (a2 (by omega)).symm
  exact sortS_perm h1.symm
theorem mem_set {x : Str} {l : List Str} : x ∈ setS l ↔ x ∈ l := (sort_perm _).mem_iff.trans mem_nub
theorem set_asc (l : List Str) : Asc (setS l) := asc_sort _
theorem set_nd (l : List Str) : (setS l).Nodup := (sort_perm _).nodup_iff.mpr (nub_nd l)
theorem set_len (l : List Str) : (setS l).length ≤ l.length := by
  unfold setS
  rw [(sort_perm _).length_eq]
  exact nub_len l
theorem set_ext {a b : List Str} (h : ∀ x, x ∈ a ↔ x ∈ b) : setS a = setS b := set_eq (nub_nd a) fun x => mem_nub.trans (h x)
theorem set_nodup {l : List Str} (h : l.Nodup) : setS l = sortS l := by unfold setS; rw [nub_of h]
/-! ### a set of texts as an object -/
def SetXO (P : Program) (w : World) (a : Addr) (l : List Str) : HO := .ext fun h => SxT P w h a l
def strOfV : Value → Str
  | .str x _ => x
  | _ => Str.empty
theorem each_strs : ∀ {vs : List Value}, (∀ v ∈ vs, ∃ x t, v = .str x t) → PySem.W.EachIs (fun v b => ∃ t, v = .str b t) vs (vs.map strOfV)
  | [], _ => .nil
  | v :: vs, h => by
    obtain ⟨x, t, rfl⟩ := h v List.mem_cons_self
    exact .cons ⟨t, rfl⟩ (each_strs fun u m => h u (List.mem_cons_of_mem _ m))
theorem each_vals : ∀ {vs : List Value} {bs : List Str}, PySem.W.EachIs (fun v b => ∃ t, v = Value.str b t) vs bs → Vals (bs.map V.str) vs
  | _, _, .nil => .nil
  | _, _, .cons h t => .cons h (each_vals t)
section
variable {P : Program} {w : World} {A : Around} {E : Value → Shared → Prop} {s : Shared} {a : Addr} {l : List Str}
theorem tx_keys {D : SD} (F : TxOk P w D l) (nd : l.Nodup) : (∀ v ∈ D.1.toList.map (·.2), ∃ x t, v = Value.str x t) ∧ ((D.1.toList.map (·.2)).map strOfV).Perm l := by
  have h1 : ∀ v ∈ D.1.toList.map (·.2), ∃ x t, v = Value.str x t := fun v m => by
    obtain ⟨e, he, rfl⟩ := List.mem_map.mp m
    obtain ⟨⟨k, hk, _⟩, _⟩ := F.el e he
    obtain ⟨t, ht⟩ := Value.isStrOf_shape hk
    exact ⟨k, t, ht⟩
  refine ⟨h1, perm_of_nodup nd (fun x m => ?_) ?_⟩
  · obtain ⟨e, he, hq⟩ := (F.mem x).mp m
    obtain ⟨t, ht⟩ := Value.isStrOf_shape hq
    rw [List.map_map]
    exact List.mem_map.mpr ⟨e, he, by show strOfV e.2 = x; rw [ht]; rfl⟩
  · rw [List.length_map, List.length_map, Array.length_toList, F.sz]
    exact Nat.le_refl _
set_option maxHeartbeats 2000000 in
theorem sorted_setX {Z : Value → Shared → Prop} (R : SxT P w s.heap a l) (h0 : A.handled = none) (hl : l.length ≤ 1000) (hu : A.units + 64 < cLine)
    (q : ∀ s2 p (out : List Value) (c : Nat), (∀ b o, s.heap.get? b = some o → s2.heap.get? b = some o) → s2.gens = s.gens → s2.os = s.os → s.heap.objs.size ≤ p → s2.heap.get? p = some (seqObj "list" out.toArray c) → Vals ((sortS l).map V.str) out → Z (.ref p) s2) :
    wpAny (model P w) A (call (.builtin "sorted") [.ref a]) Z E s := by
  obtain ⟨⟨D, e, F, r, ld⟩, nd⟩ := R
  have sc : (1001 : Nat) < scanBound := by unfold scanBound; decide
  have hz : D.1.size = l.length := F.sz
  refine Calls.call_function_entry kind_sorted plain_sorted entry_sorted (args_sorted1 _) ?_
  unfold Builtin.«sorted»
  refine wpAny_bind (m := checkCount "sorted" 1 1 _) (wpAny_pure ?_)
  refine wpAny_bind (collect_set (A := A.in1) h0 (es := D.1) (ep := D.2.1) (t := D.2.2) ⟨_, e, rfl, rfl⟩ F.fit (by omega) r ld fun z1 vs k1 hz1 g1 o1 pm => ?_)
  obtain ⟨hs, hp⟩ := tx_keys F nd
  have hs2 : ∀ v ∈ vs, ∃ x t, v = Value.str x t := fun v m => hs v (pm.mem_iff.mp m)
  have ee := each_strs hs2
  have pl : (vs.map strOfV).Perm l := (pm.map strOfV).trans hp
  have hvl : vs.length = l.length := by rw [← pl.length_eq, List.length_map]
  refine wpAny_bind (wpAny_newList ?_ (by rw [hvl, sizeLine_eq]; omega))
  have eL : (z1.heap.push (seqObj "list" vs.toArray 0)).get? z1.heap.objs.size = some (seqObj "list" vs.toArray 0) := Heap.get?_push_size _ rfl
  refine wpAny_bind (wpAny_holding (PySem.W.list_sort_data (enc := PyData.str) (s := { z1 with heap := z1.heap.push (seqObj "list" vs.toArray 0) }) eL ee (ee.mono fun v b ⟨t, ht⟩ => ⟨[], ht ▸ .str b t, nofun⟩) (allAlike_str _) (sortable_str _) (by rw [List.length_map, hvl, sizeLine_eq]; omega) (fun b _ => by show A.units + 1 + 1 + 0 < cLine; omega) fun out lo eo => ?_))
  obtain ⟨c, hc⟩ := sortedHeap_at (vs := vs) (out := out.toArray) eL
  refine wpAny_pure ⟨_, rfl, q { z1 with heap := sortedHeap (z1.heap.push (seqObj "list" vs.toArray 0)) z1.heap.objs.size vs out.toArray } z1.heap.objs.size out c (fun b u eb => ?_) g1 o1 hz1 hc ?_⟩
  · have q2 := k1 b u eb
    have lt := Heap.lt_size q2
    show (sortedHeap (z1.heap.push (seqObj "list" vs.toArray 0)) z1.heap.objs.size vs out.toArray).get? b = some u
    have lt2 : b < (z1.heap.push (seqObj "list" vs.toArray 0)).objs.size := by rw [size_push']; exact Nat.lt_succ_of_lt lt
    rw [sortedHeap_old (Nat.ne_of_lt lt) lt2]
    exact Heap.get?_push_of_some _ q2
  · have e3 : (vs.map strOfV).mergeSort (PySem.W.dataLe false PyData.str) = sortS l := sortS_perm pl
    rw [← e3]
    exact each_vals eo
end
section
variable {X : Cx}
theorem setX_new {P : Program} {w : World} {H : Hp} {h : Heap} {a : Addr} {l : List Str} (R : SxT P w h a l) : ObjOk P w H h a (SetXO P w a l) := by
  obtain ⟨⟨D, e, r⟩, n⟩ := id R
  exact ⟨R, ⟨_, e⟩, fun h1 h2 p k => SxT.to p k⟩
theorem setX_get {pins : List (Addr × Obj)} {σ : L2.St} {H : Hp} {s : Shared} {a : Addr} {l : List Str} (I : Inv X pins σ H s) (e : H a = some (SetXO X.prog X.w a l)) : SxT X.prog X.w s.heap a l := (I.hok a _ e).1
def rSetX (K : PySem.W.Frag) (P : Program) (w : World) : List V → Hp → VK → Prop := fun xs H Q => ∃ (a : Addr) (ts : List Str), xs = [.ref a] ∧ (SqL K H a (ts.map V.str) ∨ SqT K H a (ts.map V.str)) ∧ ts.length ≤ 1000 ∧ ∀ p ks, H p = none → ks.Nodup → (∀ x, x ∈ ks ↔ x ∈ ts) → ks.length ≤ ts.length → Q (.ref p) (upd H p (SetXO P w p ks))
theorem cr_setX (hc : X.calm = true) : CallR X (.type "set") (rSetX X.K X.prog X.w) := by
  intro pins s σ H xs us Q I r h
  obtain ⟨a, ts, rfl, hs, hl, q⟩ := h
  rw [Vals.ref1 r]
  have sc : ts.length + 1 < scanBound := Nat.lt_of_le_of_lt (Nat.add_le_add_right hl 1) (by unfold scanBound; decide)
  rcases hs with hs | hs
  · obtain ⟨its, rv, pl, hz⟩ := I.list hs
    refine callSetTL ts (I.ok.hd hc) pl.isList (by simpa using strsAre_of rv) sc fun h2 tk ks R lk hm hk => ?_
    exact ⟨.ref _, upd H s.heap.objs.size (SetXO X.prog X.w s.heap.objs.size ks), I.laid (t' := tk) hk (Nat.le_refl _) (setX_new R), rfl, q _ ks (I.hok.fresh (Nat.le_refl _)) R.nd hm lk⟩
  · obtain ⟨its, rv, pl, hz⟩ := I.tuple hs
    refine callSetTT ts (I.ok.hd hc) pl (by simpa using strsAre_of rv) sc fun h2 tk ks R lk hm hk => ?_
    exact ⟨.ref _, upd H s.heap.objs.size (SetXO X.prog X.w s.heap.objs.size ks), I.laid (t' := tk) hk (Nat.le_refl _) (setX_new R), rfl, q _ ks (I.hok.fresh (Nat.le_refl _)) R.nd hm lk⟩
def rSortSetX (P : Program) (w : World) : List V → Hp → VK → Prop := fun xs H Q => ∃ (a : Addr) (l : List Str), xs = [.ref a] ∧ H a = some (SetXO P w a l) ∧ l.length ≤ 1000 ∧ ∀ p, H p = none → Q (.ref p) (upd H p (.lst ((sortS l).map V.str)))
theorem cr_sortSetX (hc : X.calm = true) (hu : X.A.units + 64 < cLine) : CallR X (.builtin "sorted") (rSortSetX X.prog X.w) := by
  intro pins s σ H xs us Q I r h
  obtain ⟨a, l, rfl, ha, hl, q⟩ := h
  have R := setX_get I ha
  rw [Vals.ref1 r]
  refine sorted_setX R (I.ok.hd hc) hl hu fun s2 p out c k g o hp hg hv => ?_
  have hlen : ((sortS l).map V.str).length ≤ sizeLine := by rw [List.length_map, (sort_perm l).length_eq, sizeLine_eq]; omega
  have np : H p = none := I.hok.fresh hp
  have J : Inv X pins σ (upd H p (.lst ((sortS l).map V.str))) { s with heap := s2.heap, gens := s2.gens, drawn := s2.drawn, toks := s2.toks } :=
    I.call (ch := []) (Un.laid k hp np) (I.hok.laid k hp ⟨hlen, out, c, hv, hg⟩) (by rw [g]; exact I.bare) (fun _ z => nomatch z)
  have e : s2 = { s with heap := s2.heap, gens := s2.gens, drawn := s2.drawn, toks := s2.toks } := by
    cases s2
    cases s
    cases o
    rfl
  rw [e]
  exact ⟨.ref p, _, J, rfl, q p np⟩
/-- sorted of data, of a set of whole numbers, of a set of texts -/
def rSortB (K : PySem.W.Frag) (P : Program) (w : World) : List V → Hp → VK → Prop := fun xs H Q => rSortA K w xs H Q ∨ rSortSetX P w xs H Q
theorem cr_sortB (hc : X.calm = true) (hu : X.A.units + 64 < cLine) : CallR X (.builtin "sorted") (rSortB X.K X.prog X.w) := fun pins s σ H xs us Q I r h => h.elim (cr_sortA hc hu pins s σ H xs us Q I r) (cr_sortSetX hc hu pins s σ H xs us Q I r)
/-- set of whole numbers, of texts -/
def rSetB (K : PySem.W.Frag) (P : Program) (w : World) : List V → Hp → VK → Prop := fun xs H Q => rSetL K w xs H Q ∨ rSetX K P w xs H Q
theorem cr_setB (hc : X.calm = true) : CallR X (.type "set") (rSetB X.K X.prog X.w) := fun pins s σ H xs us Q I r h => h.elim (cr_setL hc pins s σ H xs us Q I r) (cr_setX hc pins s σ H xs us Q I r)
end
section
variable {K : PySem.W.Frag} {P : Program} {w : World} {H : Hp} {Q : VK} {a : Addr} {ts : List Str} {Ps : List SP}
theorem r_setX (S : Sep Ps H) (s : SqL K H a (ts.map V.str) ∨ SqT K H a (ts.map V.str)) (hl : ts.length ≤ 1000) (q : ∀ p ks H', ks.Nodup → (∀ x, x ∈ ks ↔ x ∈ ts) → ks.length ≤ ts.length → Sep (pt p (SetXO P w p ks) :: Ps) H' → Q (.ref p) H') : rSetX K P w [.ref a] H Q :=
  ⟨a, ts, rfl, s, hl, fun p ks np nd hm hk => q p ks _ nd hm hk (S.new _ np)⟩
theorem r_sortSetX {l : List Str} (S : Sep Ps H) (e : H a = some (SetXO P w a l)) (hl : l.length ≤ 1000) (q : ∀ p H', Sep (pt p (.lst ((sortS l).map V.str)) :: Ps) H' → Q (.ref p) H') : rSortSetX P w [.ref a] H Q :=
  ⟨a, l, rfl, e, hl, fun p np => q p _ (S.new _ np)⟩
end
end Kt

set_option Elab.async false
set_option linter.all false
set_option maxRecDepth 100000
namespace Kt
open PySem L2 PyProof.Rows
/-! ### statements and bodies, with their containers: false a list, true a tuple -/
mutual
inductive Stm where
  | two (w v u : Str)
  | one (w v : Str)
  | call (v f : Str) (t : Bool) (as : List Str)
  | either (t : Bool) (bs : List Bdy)
  | loop (b : Bdy)
inductive Bdy where
  | mk (t : Bool) (l : List Stm)
end
def sqD (t : Bool) (ds : List PyData) : PyData := if t = true then .tuple ds else .list ds
def dStrs (t : Bool) (l : List Str) : PyData := sqD t (l.map PyData.str)
mutual
def Stm.enc : Stm → PyData
  | .two w v u => .tuple [.str w, .str v, .str u]
  | .one w v => .tuple [.str w, .str v]
  | .call v f t as => .tuple [.str "call", .str v, .str f, dStrs t as]
  | .either t bs => .tuple [.str "either", sqD t (encBs bs)]
  | .loop b => .tuple [.str "loop", Bdy.enc b]
def Bdy.enc : Bdy → PyData
  | .mk t l => sqD t (encSs l)
def encBs : List Bdy → List PyData
  | [] => []
  | b :: bs => Bdy.enc b :: encBs bs
def encSs : List Stm → List PyData
  | [] => []
  | s :: l => Stm.enc s :: encSs l
end
theorem encBs_map : ∀ bs : List Bdy, encBs bs = bs.map Bdy.enc
  | [] => rfl
  | b :: bs => by rw [encBs, encBs_map bs]; rfl
theorem encSs_map : ∀ l : List Stm, encSs l = l.map Stm.enc
  | [] => rfl
  | s :: l => by rw [encSs, encSs_map l]; rfl
mutual
/-- how many statements, those within counted too -/
def Stm.size : Stm → Nat
  | .two _ _ _ => 1
  | .one _ _ => 1
  | .call _ _ _ _ => 1
  | .either _ bs => 1 + sizeBs bs
  | .loop b => 1 + Bdy.size b
def Bdy.size : Bdy → Nat
  | .mk _ l => sizeSs l
def sizeBs : List Bdy → Nat
  | [] => 0
  | b :: bs => Bdy.size b + sizeBs bs
def sizeSs : List Stm → Nat
  | [] => 0
  | s :: l => Stm.size s + sizeSs l
end
mutual
/-- bodies within bodies -/
def Stm.dep : Stm → Nat
  | .two _ _ _ => 0
  | .one _ _ => 0
  | .call _ _ _ _ => 0
  | .either _ bs => 1 + depBs bs
  | .loop b => 1 + Bdy.dep b
def Bdy.dep : Bdy → Nat
  | .mk _ l => depSs l
def depBs : List Bdy → Nat
  | [] => 0
  | b :: bs => max (Bdy.dep b) (depBs bs)
def depSs : List Stm → Nat
  | [] => 0
  | s :: l => max (Stm.dep s) (depSs l)
end
mutual
/-- the names that stand in a statement -/
def Stm.names : Stm → List Str
  | .two _ v u => [v, u]
  | .one _ v => [v]
  | .call v _ _ as => v :: as
  | .either _ bs => namesBs bs
  | .loop b => Bdy.names b
def Bdy.names : Bdy → List Str
  | .mk _ l => namesSs l
def namesBs : List Bdy → List Str
  | [] => []
  | b :: bs => Bdy.names b ++ namesBs bs
def namesSs : List Stm → List Str
  | [] => []
  | s :: l => Stm.names s ++ namesSs l
end
def w1S : List Str := ["new", "set", "keep", "look"]
def w2S : List Str := ["take", "cut", "put", "copy", "copycut", "copyput"]
mutual
/-- right words, and names and callees of which p holds -/
def Stm.Ok (p : Str → Prop) : Stm → Prop
  | .two w v u => w ∈ w2S ∧ p v ∧ p u
  | .one w v => w ∈ w1S ∧ p v
  | .call v f _ as => p v ∧ p f ∧ ∀ a ∈ as, p a
  | .either _ bs => bs.length ≤ 100 ∧ okBs p bs
  | .loop b => Bdy.Ok p b
def Bdy.Ok (p : Str → Prop) : Bdy → Prop
  | .mk _ l => okSs p l
def okBs (p : Str → Prop) : List Bdy → Prop
  | [] => True
  | b :: bs => Bdy.Ok p b ∧ okBs p bs
def okSs (p : Str → Prop) : List Stm → Prop
  | [] => True
  | s :: l => Stm.Ok p s ∧ okSs p l
end
theorem okBs_iff {p : Str → Prop} : ∀ {bs : List Bdy}, okBs p bs ↔ ∀ b ∈ bs, Bdy.Ok p b
  | [] => by simp [okBs]
  | b :: bs => by rw [okBs, okBs_iff, List.forall_mem_cons]
theorem okSs_iff {p : Str → Prop} : ∀ {l : List Stm}, okSs p l ↔ ∀ s ∈ l, Stm.Ok p s
  | [] => by simp [okSs]
  | s :: l => by rw [okSs, okSs_iff, List.forall_mem_cons]
def Stm.word : Stm → Str
  | .two w _ _ => w
  | .one w _ => w
  | .call _ _ _ _ => "call"
  | .either _ _ => "either"
  | .loop _ => "loop"
def Stm.inner : Stm → List Bdy
  | .two _ _ _ => []
  | .one _ _ => []
  | .call _ _ _ _ => []
  | .either _ bs => bs
  | .loop b => [b]
def Stm.own : Stm → List Str
  | .two _ v u => [v, u]
  | .one _ v => [v]
  | .call v _ _ as => v :: as
  | .either _ _ => []
  | .loop _ => []
def Bdy.list : Bdy → List Stm
  | .mk _ l => l
theorem bdy_names (b : Bdy) : Bdy.names b = namesSs b.list := by cases b; rw [Bdy.names, Bdy.list]
theorem bdy_size (b : Bdy) : Bdy.size b = sizeSs b.list := by cases b; rw [Bdy.size, Bdy.list]
theorem namesSs_app : ∀ a b : List Stm, namesSs (a ++ b) = namesSs a ++ namesSs b
  | [], b => by rw [namesSs, List.nil_append, List.nil_append]
  | s :: a, b => by rw [List.cons_append, namesSs, namesSs, namesSs_app a b, List.append_assoc]
theorem sizeSs_app : ∀ a b : List Stm, sizeSs (a ++ b) = sizeSs a + sizeSs b
  | [], b => by rw [sizeSs, List.nil_append, Nat.zero_add]
  | s :: a, b => by rw [List.cons_append, sizeSs, sizeSs, sizeSs_app a b, Nat.add_assoc]
theorem namesBs_flat : ∀ bs : List Bdy, namesBs bs = namesSs (bs.flatMap Bdy.list)
  | [] => rfl
  | b :: bs => by rw [namesBs, List.flatMap_cons, namesSs_app, namesBs_flat bs, bdy_names]
theorem sizeBs_flat : ∀ bs : List Bdy, sizeBs bs = sizeSs (bs.flatMap Bdy.list)
  | [] => rfl
  | b :: bs => by rw [sizeBs, List.flatMap_cons, sizeSs_app, sizeBs_flat bs, bdy_size]
theorem stm_names (s : Stm) : s.names = s.own ++ namesSs (s.inner.flatMap Bdy.list) := by
  cases s with
  | either t bs => rw [Stm.names, Stm.own, Stm.inner, namesBs_flat, List.nil_append]
  | loop b => rw [Stm.names, Stm.own, Stm.inner, bdy_names, List.flatMap_cons, List.flatMap_nil, List.append_nil, List.nil_append]
  | two w v u => rw [Stm.names]; rfl
  | one w v => rw [Stm.names]; rfl
  | call v f t as => rw [Stm.names]; simp [Stm.own, Stm.inner, namesSs]
theorem stm_size (s : Stm) : s.size = 1 + sizeSs (s.inner.flatMap Bdy.list) := by
  cases s with
  | either t bs => rw [Stm.size, Stm.inner, sizeBs_flat]
  | loop b => rw [Stm.size, Stm.inner, bdy_size, List.flatMap_cons, List.flatMap_nil, List.append_nil]
  | two w v u => rw [Stm.size]; rfl
  | one w v => rw [Stm.size]; rfl
  | call v f t as => rw [Stm.size]; rfl
theorem size_len : ∀ l : List Stm, l.length ≤ sizeSs l
  | [] => Nat.zero_le _
  | s :: l => by
    have := size_len l
    have := stm_size s
    rw [sizeSs, List.length_cons]
    omega
theorem inner_ok {p : Str → Prop} {s : Stm} (h : s.Ok p) : ∀ b ∈ s.inner, Bdy.Ok p b := by
  cases s with
  | either t bs => exact okBs_iff.mp (by rw [Stm.Ok] at h; exact h.2)
  | loop b =>
    intro x m
    rw [Stm.inner, List.mem_singleton] at m
    subst m
    rw [Stm.Ok] at h
    exact h
  | two w v u => nofun
  | one w v => nofun
  | call v f t as => nofun
theorem inner_len {p : Str → Prop} {s : Stm} (h : s.Ok p) : s.inner.length ≤ 100 := by
  cases s with
  | either t bs => rw [Stm.Ok] at h; exact h.1
  | loop b => exact Nat.le_of_ble_eq_true rfl
  | two w v u => exact Nat.zero_le _
  | one w v => exact Nat.zero_le _
  | call v f t as => exact Nat.zero_le _
theorem size_pre (bs : List Bdy) (i : Nat) : sizeSs ((bs.take i).flatMap Bdy.list) ≤ sizeSs (bs.flatMap Bdy.list) := by
  have e : bs.flatMap Bdy.list = (bs.take i).flatMap Bdy.list ++ (bs.drop i).flatMap Bdy.list := by rw [← List.flatMap_append, List.take_append_drop]
  rw [e, sizeSs_app]
  omega
theorem list_ok {p : Str → Prop} {b : Bdy} (h : Bdy.Ok p b) : ∀ s ∈ b.list, Stm.Ok p s := by
  cases b with
  | mk t l => exact okSs_iff.mp (by rw [Bdy.Ok] at h; exact h)
theorem bdy_enc (b : Bdy) : ∃ t, Bdy.enc b = sqD t (b.list.map Stm.enc) := by
  cases b with
  | mk t l => exact ⟨t, by rw [Bdy.enc, encSs_map]; rfl⟩
section
variable {K : PySem.W.Frag} {G H : Hp} {v : V} {t : Bool} {ds : List PyData}
theorem dp_sqInv (h : Dp K G v (sqD t ds)) : ∃ a xs, v = .ref a ∧ (SqL K G a xs ∨ SqT K G a xs) ∧ DpAll K G xs ds := by
  unfold sqD at h
  cases t with
  | true =>
    obtain ⟨a, xs, e, s, d⟩ := dp_tupInv (show Dp K G v (.tuple ds) from h)
    exact ⟨a, xs, e, .inr s, d⟩
  | false =>
    obtain ⟨a, xs, e, s, d⟩ := dp_lstInv (show Dp K G v (.list ds) from h)
    exact ⟨a, xs, e, .inl s, d⟩
theorem sq_le {a : Addr} {xs : List V} (l : Le G H) (h : SqL K G a xs ∨ SqT K G a xs) : SqL K H a xs ∨ SqT K H a xs := h.imp (SqL.le l) (SqT.le l)
end
/-! ### drawn statements: names out of nm, calls as C says; within bodies of at most three -/
mutual
def Stm.Wf (nm : List Str) (C : Bool → Str → Nat → Prop) : Bool → Stm → Prop
  | _, .two w v u => w ∈ w2S ∧ v ∈ nm ∧ u ∈ nm
  | _, .one w v => w ∈ w1S ∧ v ∈ nm
  | fr, .call v f t as => v ∈ nm ∧ (∀ a ∈ as, a ∈ nm) ∧ t = true ∧ C fr f as.length
  | fr, .either t bs => t = false ∧ 1 ≤ bs.length ∧ bs.length ≤ 3 ∧ wfBs nm C fr bs
  | _, .loop b => Bdy.Wf nm C true b
def Bdy.Wf (nm : List Str) (C : Bool → Str → Nat → Prop) : Bool → Bdy → Prop
  | fr, .mk t l => t = false ∧ l.length ≤ 3 ∧ wfSs nm C fr l
def wfBs (nm : List Str) (C : Bool → Str → Nat → Prop) : Bool → List Bdy → Prop
  | _, [] => True
  | fr, b :: bs => Bdy.Wf nm C fr b ∧ wfBs nm C fr bs
def wfSs (nm : List Str) (C : Bool → Str → Nat → Prop) : Bool → List Stm → Prop
  | _, [] => True
  | fr, s :: l => Stm.Wf nm C fr s ∧ wfSs nm C fr l
end
section
variable {nm : List Str} {C : Bool → Str → Nat → Prop} {p : Str → Prop} {fr : Bool}
theorem wfBs_iff : ∀ {bs : List Bdy}, wfBs nm C fr bs ↔ ∀ b ∈ bs, Bdy.Wf nm C fr b
  | [] => by simp [wfBs]
  | b :: bs => by rw [wfBs, wfBs_iff, List.forall_mem_cons]
theorem wfSs_iff : ∀ {l : List Stm}, wfSs nm C fr l ↔ ∀ s ∈ l, Stm.Wf nm C fr s
  | [] => by simp [wfSs]
  | s :: l => by rw [wfSs, wfSs_iff, List.forall_mem_cons]
mutual
theorem wf_ok (hn : ∀ x ∈ nm, p x) (hC : ∀ fr f n, C fr f n → p f) : ∀ (s : Stm) (fr : Bool), s.Wf nm C fr → s.Ok p
  | .two w v u, fr, h => by
    rw [Stm.Wf] at h
    rw [Stm.Ok]
    exact ⟨h.1, hn v h.2.1, hn u h.2.2⟩
  | .one w v, fr, h => by
    rw [Stm.Wf] at h
    rw [Stm.Ok]
    exact ⟨h.1, hn v h.2⟩
  | .call v f t as, fr, h => by
    rw [Stm.Wf] at h
    rw [Stm.Ok]
    exact ⟨hn v h.1, hC _ _ _ h.2.2.2, fun a m => hn a (h.2.1 a m)⟩
  | .either t bs, fr, h => by
    rw [Stm.Wf] at h
    rw [Stm.Ok]
    exact ⟨Nat.le_trans h.2.2.1 (by decide), wfBs_ok hn hC bs fr h.2.2.2⟩
  | .loop b, fr, h => by
    rw [Stm.Wf] at h
    rw [Stm.Ok]
    exact wfB_ok hn hC b true h
theorem wfB_ok (hn : ∀ x ∈ nm, p x) (hC : ∀ fr f n, C fr f n → p f) : ∀ (b : Bdy) (fr : Bool), b.Wf nm C fr → b.Ok p
  | .mk t l, fr, h => by
    rw [Bdy.Wf] at h
    rw [Bdy.Ok]
    exact wfSs_ok hn hC l fr h.2.2
theorem wfBs_ok (hn : ∀ x ∈ nm, p x) (hC : ∀ fr f n, C fr f n → p f) : ∀ (bs : List Bdy) (fr : Bool), wfBs nm C fr bs → okBs p bs
  | [], _, _ => by rw [okBs]; trivial
  | b :: bs, fr, h => by
    rw [wfBs] at h
    rw [okBs]
    exact ⟨wfB_ok hn hC b fr h.1, wfBs_ok hn hC bs fr h.2⟩
theorem wfSs_ok (hn : ∀ x ∈ nm, p x) (hC : ∀ fr f n, C fr f n → p f) : ∀ (l : List Stm) (fr : Bool), wfSs nm C fr l → okSs p l
  | [], _, _ => by rw [okSs]; trivial
  | s :: l, fr, h => by
    rw [wfSs] at h
    rw [okSs]
    exact ⟨wf_ok hn hC s fr h.1, wfSs_ok hn hC l fr h.2⟩
end
/-- as many statements as a depth lets -/
def sizeB : Nat → Nat
  | 0 => 1
  | d + 1 => 1 + 9 * sizeB d
theorem sizeB_mono : ∀ {a b : Nat}, a ≤ b → sizeB a ≤ sizeB b
  | 0, 0, _ => Nat.le_refl _
  | 0, b + 1, _ => by
    have := sizeB_mono (Nat.zero_le b)
    show 1 ≤ 1 + 9 * sizeB b
    omega
  | a + 1, b + 1, h => by
    have := sizeB_mono (Nat.le_of_succ_le_succ h)
    show 1 + 9 * sizeB a ≤ 1 + 9 * sizeB b
    omega
mutual
theorem wf_size : ∀ (s : Stm) (fr : Bool) (d : Nat), s.Wf nm C fr → s.dep ≤ d → s.size ≤ sizeB d
  | .two w v u, fr, d, _, _ => by
    rw [Stm.size]
    exact sizeB_mono (Nat.zero_le d)
  | .one w v, fr, d, _, _ => by
    rw [Stm.size]
    exact sizeB_mono (Nat.zero_le d)
  | .call v f t as, fr, d, _, _ => by
    rw [Stm.size]
    exact sizeB_mono (Nat.zero_le d)
  | .either t bs, fr, 0, h, hd => by
    rw [Stm.dep] at hd
    omega
  | .either t bs, fr, d + 1, h, hd => by
    rw [Stm.Wf] at h
    rw [Stm.dep] at hd
    rw [Stm.size]
    have := wfBs_size bs fr d h.2.2.2 (by omega)
    have h2 : bs.length * (3 * sizeB d) ≤ 3 * (3 * sizeB d) := Nat.mul_le_mul_right _ h.2.2.1
    show 1 + _ ≤ 1 + 9 * sizeB d
    omega
  | .loop b, fr, 0, h, hd => by
    rw [Stm.dep] at hd
    omega
  | .loop b, fr, d + 1, h, hd => by
    rw [Stm.Wf] at h
    rw [Stm.dep] at hd
    rw [Stm.size]
    have := wfB_size b true d h (by omega)
    show 1 + _ ≤ 1 + 9 * sizeB d
    omega
theorem wfB_size : ∀ (b : Bdy) (fr : Bool) (d : Nat), b.Wf nm C fr → b.dep ≤ d → b.size ≤ 3 * sizeB d
  | .mk t l, fr, d, h, hd => by
    rw [Bdy.Wf] at h
    rw [Bdy.dep] at hd
    rw [Bdy.size]
    exact Nat.le_trans (wfSs_size l fr d h.2.2 hd) (Nat.mul_le_mul_right _ h.2.1)
theorem wfBs_size : ∀ (bs : List Bdy) (fr : Bool) (d : Nat), wfBs nm C fr bs → depBs bs ≤ d → sizeBs bs ≤ bs.length * (3 * sizeB d)
  | [], _, _, _, _ => by rw [sizeBs]; exact Nat.zero_le _
  | b :: bs, fr, d, h, hd => by
    rw [wfBs] at h
    rw [depBs] at hd
    rw [sizeBs, List.length_cons, Nat.succ_mul]
    have := wfB_size b fr d h.1 (by omega)
    have := wfBs_size bs fr d h.2 (by omega)
    omega
theorem wfSs_size : ∀ (l : List Stm) (fr : Bool) (d : Nat), wfSs nm C fr l → depSs l ≤ d → sizeSs l ≤ l.length * sizeB d
  | [], _, _, _, _ => by rw [sizeSs]; exact Nat.zero_le _
  | s :: l, fr, d, h, hd => by
    rw [wfSs] at h
    rw [depSs] at hd
    rw [sizeSs, List.length_cons, Nat.succ_mul]
    have := wf_size s fr d h.1 (by omega)
    have := wfSs_size l fr d h.2 (by omega)
    omega
end
end
theorem depSs_le {d : Nat} : ∀ {l : List Stm}, depSs l ≤ d ↔ ∀ s ∈ l, s.dep ≤ d
  | [] => by simp [depSs]
  | s :: l => by rw [depSs, List.forall_mem_cons, ← depSs_le (l := l)]; omega
theorem depBs_le {d : Nat} : ∀ {l : List Bdy}, depBs l ≤ d ↔ ∀ s ∈ l, s.dep ≤ d
  | [] => by simp [depBs]
  | s :: l => by rw [depBs, List.forall_mem_cons, ← depBs_le (l := l)]; omega
end Kt

set_option Elab.async false
set_option linter.all false
set_option maxRecDepth 100000
namespace Kt
open PySem PySem.Spec L2 PyProof.Rows
/-! ### dicts of the top with text keys: asked at a key -/
def KHas (K : PySem.W.Frag) (w : World) (d : Addr) (x : Str) (v : V) : Prop := ∃ es n u, KDict K w d es n ∧ PySem.W.nsIn K d x = some (some u) ∧ RelV v u
def KNo (K : PySem.W.Frag) (w : World) (d : Addr) (x : Str) : Prop := ∃ es n, KDict K w d es n ∧ PySem.W.nsIn K d x = some none
def rKIn (K : PySem.W.Frag) (w : World) : R2 := fun x y H Q => ∃ z d, x = .str z ∧ y = .ref d ∧ ((∃ v, KHas K w d z v ∧ Q (.bl true) H) ∨ (KNo K w d z ∧ Q (.bl false) H))
section
variable {X : Cx}
theorem op_kin : OpR X (compareOp .In) (rKIn X.K X.w) := by
  intro pins s σ H x y v u Q I rx ry h
  obtain ⟨z, d, ex, ey, h⟩ := h
  rcases h with ⟨r, ⟨es, n, uu, D, e, _⟩, q⟩ | ⟨⟨es, n, D, e⟩, q⟩
  · exact op_in_kd D pins s σ H x y v u Q I rx ry ⟨z, _, ex, ey, e, q⟩
  · exact op_in_kd D pins s σ H x y v u Q I rx ry ⟨z, _, ex, ey, e, q⟩
def kKGet (K : PySem.W.Frag) (w : World) (Q : VK) (x y : V) (H : Hp) : Prop := ∃ d z, x = .ref d ∧ y = .str z ∧ ((∃ v, KHas K w d z v ∧ Q v H) ∨ (KNo K w d z ∧ Q .non H))
def tKGet (K : PySem.W.Frag) (w : World) (td ty : TE) : TE := fun σ H Q => td σ H fun x H1 => (∃ d, x = .ref d ∧ ∃ es n, KDict K w d es n) ∧ ty σ H1 fun y H2 => kKGet K w Q x y H2
theorem pe_kget {o e : Expr} {apos cpos : Pos} {td ty : TE} (ho : PE X o td) (he : PE X e ty) (m : M1 X o "get" apos e cpos) : PE X (.Call (.Attribute o "get" apos) [e] [] cpos) (tKGet X.K X.w td ty) := by
  refine ⟨fun pins s σ H Q I h => ?_⟩
  refine wpAny_Call_method m.base m.few m.line PySem.F.plainAttrs_dict PySem.F.slot_dict_get PySem.F.type_dict_get (thn (ho.run pins s σ H _ I h) fun u s1 ⟨x, H1, I1, rx, ⟨d, ex, es, n, D⟩, q1⟩ => ?_)
  subst ex
  obtain rfl : u = Value.ref d := rx
  have mm := PySem.W.mapOf_K (prog := X.prog) (w := X.w) I1.kIn D.at_ D.lit
  refine ⟨mm.typeIs, mm.noDict, ?_⟩
  rw [m.trees]
  refine Calls.callWith_builtin rfl (Calls.evalArgs_plain (Calls.spliced_cons (thn (he.run pins s1 σ H1 _ I1 q1) fun iv s2 ⟨y, H2, I2, ry, d2, z, e2, ey, q2⟩ => Calls.spliced_nil ?_)))
  cases e2
  subst ey
  obtain ⟨t, rfl⟩ := ry
  rcases q2 with ⟨v, ⟨es2, n2, uu, D2, e, r⟩, q⟩ | ⟨⟨es2, n2, D2, e⟩, q⟩
  · have m2 := PySem.W.mapOf_K (prog := X.prog) (w := X.w) I2.kIn D2.at_ D2.lit
    refine call_meetsIn PySem.F.slot_dict_get m2.typeIs PySem.F.entry_dict_get (PySem.F.args_dict_get_2 _ _) (meets_dict_get (PySem.strKind X.prog X.w) d (PySem.strKind_is X.prog X.w z t) D2.low) ⟨_, m2, ?_⟩
    rw [PySem.W.find_K D2.at_ e]
    exact ⟨v, H2, I2.tok _, r, q⟩
  · have m2 := PySem.W.mapOf_K (prog := X.prog) (w := X.w) I2.kIn D2.at_ D2.lit
    refine call_meetsIn PySem.F.slot_dict_get m2.typeIs PySem.F.entry_dict_get (PySem.F.args_dict_get_2 _ _) (meets_dict_get (PySem.strKind X.prog X.w) d (PySem.strKind_is X.prog X.w z t) D2.low) ⟨_, m2, ?_⟩
    rw [PySem.W.find_K D2.at_ e]
    exact ⟨.non, H2, I2.tok _, rfl, q⟩
end
section
variable {K : PySem.W.Frag} {w : World} {σ : L2.St} {H : Hp} {Q : VK} {td ty te : TE}
theorem r_kget (h : td σ H fun x H1 => (∃ d, x = .ref d ∧ ∃ es n, KDict K w d es n) ∧ ty σ H1 fun y H2 => kKGet K w Q x y H2) : tKGet K w td ty σ H Q := h
/-! ### x or y by truth -/
theorem r_orT {ta tb : TE} (h : ta σ H fun x H1 => ∃ k, TruV K x H1 k ∧ if k = true then Q x H1 else tb σ H1 Q) : tOrT K ta tb σ H Q := h
end
/-! ### xs.extend(b), b any list, any tuple -/
section
theorem ext_with {T : String} (hT : T = "list" ∨ T = "tuple") (l b : Addr) (xs ys : Array Value) (n m : Nat) (dd : Option Addr) (sl : Array (Option Value)) (door : ¬ (!xs.isEmpty && Builtin.List.listTooLong (xs.size + ys.size)) = true) (h1 : xs.size ≤ sizeLine) (h2 : xs.size + ys.size ≤ sizeLine + 1) :
    Meets (Builtin.«list.extend» ⟨[.ref l, .ref b], []⟩) (fun _ R z => z.heap.get? l = some { cls := .type "list", data := .seq xs n } ∧ z.heap.get? b = some { cls := .type T, dict := dd, data := .seq ys m, slots := sl } ∧ R (.ok (.ret Value.none)) { z with heap := z.heap.update l (Obj.mapSeq fun x => x ++ ys) }) :=
  .of_wp fun prog w A R z hh => by
    obtain ⟨hp, g, d, tk, os⟩ := z
    obtain ⟨el, eb, hq⟩ := hh
    have u1 := AutoSeq1.idx_int
    have u2 := AutoSeq1.sub_tuple_tuple
    have u3 := AutoSeq1.sub_list_list
    have u4 := AutoSeq1.sub_tuple_list
    have u5 := AutoSeq1.sub_list_tuple
    have fit : (xs ++ ys).size ≤ sizeLine + 1 := by rw [Array.size_append]; exact h2
    rcases hT with rfl | rfl
    · wp_walk using (wpAny_updateSeq el rfl (hz := h1) (_hz' := fit)), AutoSeq1.wpAny_loadPart' el, AutoSeq1.wpAny_loadPart' eb
      exact ⟨_, rfl, hq⟩
    · wp_walk using (wpAny_updateSeq el rfl (hz := h1) (_hz' := fit)), AutoSeq1.wpAny_loadPart' el, AutoSeq1.wpAny_loadPart' eb
      exact ⟨_, rfl, hq⟩
def rExtA (K : PySem.W.Frag) : V → List V → Hp → VK → Prop := fun x vs H Q => ∃ l b xs zs, x = .ref l ∧ vs = [.ref b] ∧ H l = some (.lst xs) ∧ (SqL K H b zs ∨ SqT K H b zs) ∧ xs.length + zs.length ≤ sizeLine ∧ Q .non (upd H l (.lst (xs ++ zs)))
theorem mt_extendA {X : Cx} : MtM X "list.extend" (rExtA X.K) := by
  intro pins s σ H x vs v us Q I rx rv h
  obtain ⟨l, b, xs, zs, rfl, rfl, hH, hB, hz, q⟩ := h
  cases rx
  obtain ⟨u, rfl, ru⟩ := rv.one
  cases ru
  obtain ⟨z, its, n, r, hl, e⟩ := I.lstM hH
  obtain ⟨T, hT, its2, m, dd, sl, r2, e2⟩ : ∃ T, (T = "list" ∨ T = "tuple") ∧ ∃ (its2 : List Value) (m : Nat) (dd : Option Addr) (sl : Array (Option Value)), Vals zs its2 ∧ s.heap.get? b = some { cls := .type T, dict := dd, data := .seq its2.toArray m, slots := sl } := by
    rcases hB with hB | hB
    · obtain ⟨its2, r2, ⟨⟨oc, od, dt, sl⟩, m, eo, hc, _, hd⟩, _⟩ := I.list hB
      simp only at hc hd
      subst hc hd
      exact ⟨"list", .inl rfl, its2, m, od, sl, r2, eo⟩
    · obtain ⟨its2, r2, ⟨⟨oc, od, dt, sl⟩, eo, hc, m, hd⟩, _⟩ := I.tuple hB
      simp only at hc hd
      subst hc hd
      exact ⟨"tuple", .inr rfl, its2, m, od, sl, r2, eo⟩
  have l2 := r2.length
  have fit : its.toArray.size + its2.toArray.size ≤ sizeLine := by rw [List.size_toArray, List.size_toArray]; omega
  have door : ¬ (!its.toArray.isEmpty && Builtin.List.listTooLong (its.toArray.size + its2.toArray.size)) = true := by
    rw [notLongL fit, Bool.and_false]
    exact Bool.false_ne_true
  refine call_meets F.slot_list_extend ⟨_, e, rfl⟩ F.entry_list_extend (F.args_list_extend_2 _ _) (ext_with hT l b its.toArray its2.toArray n m dd sl door (by rw [List.size_toArray]; omega) (by omega)) ⟨e, e2, ?_⟩
  refine ⟨.non, _, I.lset (its' := its ++ its2) hH e (by simp) (r.append r2) ?_, rfl, q⟩
  rw [List.length_append]
  exact hz
end
theorem mt_extendAK {X : Cx} (K : PySem.W.Frag) (hK : X.K = K := by rfl) : MtM X "list.extend" (rExtA K) := by
  subst hK
  exact mt_extendA
theorem dpall_snocInv {K : PySem.W.Frag} {G : Hp} : ∀ {ds : List PyData} {d : PyData} {xs : List V}, DpAll K G xs (ds ++ [d]) → ∃ ys y, xs = ys ++ [y] ∧ DpAll K G ys ds ∧ Dp K G y d
  | [], _, _, .cons h .nil => ⟨[], _, rfl, .nil, h⟩
  | _ :: _, _, _, .cons h t => by
    obtain ⟨ys, y, rfl, h1, h2⟩ := dpall_snocInv t
    exact ⟨_ :: ys, y, rfl, .cons h h1, h2⟩
section
variable {K : PySem.W.Frag} {H : Hp} {Q : VK} {a b : Addr} {xs zs : List V} {y : V} {Ps Qs R : List SP}
theorem r_extA (S : Sep Ps H) (r : Repl a (.lst xs) (.lst (xs ++ zs)) Ps Qs) (s : SqL K H b zs ∨ SqT K H b zs) (hl : xs.length + zs.length ≤ 100000) (q : ∀ H', Sep Qs H' → Q .non H') : rExtA K (.ref a) [.ref b] H Q :=
  ⟨a, b, xs, zs, rfl, rfl, by obtain ⟨Rs, p, _⟩ := r.pick; exact S.at_ p, s, Nat.le_trans hl (by decide), q _ (S.set r)⟩
theorem r_pop (S : Sep (pt a (.lst (xs ++ [y])) :: R) H) (q : ∀ H', Sep (pt a (.lst xs) :: R) H' → Q y H') : rPop (.ref a) [] H Q :=
  ⟨a, xs ++ [y], y, rfl, rfl, S.hd_at, by simp, q _ (by
    have e : (xs ++ [y]).dropLast = xs := by simp
    rw [e]
    exact S.hd_set _)⟩
/-- a piece of a tuple -/
def kSlA (K : PySem.W.Frag) (Q : VK) : V → Option Int → Option Int → Hp → Prop := fun x lo hi H => rSlA K x lo hi H Q
theorem r_slA {σ : L2.St} {te : TE} {tl th : TO} (h : te σ H fun x H1 => tl σ H1 fun l H2 => th σ H2 fun u H3 => kSlA K Q x l u H3) : tSl (rSlA K) te tl th σ H Q := h
theorem r_sufT {n : Nat} (S : Sep Ps H) (s : SqT K H a xs) (h0 : 0 < n) (hn : 0 < xs.length) (q : ∀ p H', Sep (pt p (.tup (xs.drop n)) :: Ps) H' → Q (.ref p) H') : kSlA K Q (.ref a) (some (n : Int)) none H := by
  have ne : HT.sIx xs.length 0 (some (n : Int)) ≠ 0 := by
    unfold HT.sIx
    simp only
    rw [if_neg (by omega), Int.toNat_natCast]
    omega
  refine ⟨a, xs, rfl, s, fun h => absurd h.1 ne, fun _ p np => ?_⟩
  rw [cut_suf]
  exact q p _ (S.new _ np)
theorem r_preT {n : Nat} (S : Sep Ps H) (s : SqT K H a xs) (hn : n < xs.length) (q : ∀ p H', Sep (pt p (.tup (xs.take n)) :: Ps) H' → Q (.ref p) H') : kSlA K Q (.ref a) none (some (n : Int)) H := by
  have ne : HT.sIx xs.length xs.length (some (n : Int)) ≠ xs.length := by
    unfold HT.sIx
    simp only
    rw [if_neg (by omega), Int.toNat_natCast]
    omega
  refine ⟨a, xs, rfl, s, fun h => absurd h.2 ne, fun _ p np => ?_⟩
  rw [cut_pre]
  exact q p _ (S.new _ np)
end
end Kt

set_option Elab.async false
set_option linter.all false
set_option maxRecDepth 100000
namespace Kt
open PySem L2 PyProof.Rows
/-! ### names: one to eight small letters -/
structure NmOk (x : Str) : Prop where
  lo : 1 ≤ x.length
  hi : x.length ≤ 8
  az : ∀ c ∈ x.cps.toList, 97 ≤ c ∧ c ≤ 122
theorem nm_by {x : Str} (h : (decide (1 ≤ x.length) && decide (x.length ≤ 8) && x.cps.toList.all fun c => decide (97 ≤ c) && decide (c ≤ 122)) = true) : NmOk x := by
  simp only [Bool.and_eq_true, decide_eq_true_eq, List.all_eq_true] at h
  exact ⟨h.1.1, h.1.2, fun c m => h.2 c m⟩
theorem nm_str {x : Str} (h : NmOk x) : PyData.strOk x = true := by
  unfold PyData.strOk
  rw [← Array.all_toList, List.all_eq_true]
  intro c m
  have := (h.az c m).2
  exact decide_eq_true (by omega)
theorem sh_txt {k n : Nat} {x : Str} (h1 : PyData.strOk x = true) (h2 : x.length ≤ n) : Sh k n (.str x) := by
  refine ⟨okd_str h1, rfl, ?_, ?_⟩
  · rw [PyData.leavesShort, List.all_eq_true]
    intro c m
    unfold PyData.strOk at h1
    rw [← Array.all_toList, List.all_eq_true] at h1
    have := of_decide_eq_true (h1 c m)
    exact decide_eq_true (Nat.lt_of_lt_of_le this (by decide))
  · rw [PyData.weight]
    exact h2
theorem sh_nm {k : Nat} {x : Str} (h : NmOk x) : Sh k 8 (.str x) := sh_txt (nm_str h) h.hi
/-! ### letters -/
def lettersS : Str := "abcdefghijklmnopqrstuvwxyz"
def lt1 (c : Nat) : Str := ⟨#[c]⟩
theorem letters_eq : lettersS.cps.toList = (List.range 26).map (97 + ·) := by decide +kernel
theorem letters_at {k : Nat} (h : k < 26) : lettersS.cps.toList[k]? = some (97 + k) := by
  rw [letters_eq, List.getElem?_map, List.getElem?_range h]
  rfl
section
variable {K : PySem.W.Frag} {σ : L2.St} {H : Hp} {Q : VK} {z a b : Str} {n : Nat} {i : Int} {p : Addr} {ys : List Str} {Ps : List SP}
theorem r_letter (h0 : 0 ≤ i) (h1 : i < 26) (q : Q (.str (lt1 (97 + i.toNat))) H) : rIx K (.str lettersS) (.int i) H Q := by
  obtain ⟨k, rfl⟩ := Int.eq_ofNat_of_zero_le h0
  exact .inr (.inr ⟨_, _, _, rfl, rfl, (show (26 : Nat) ≤ sizeLine by decide), atI_nat (letters_at (by omega)), q⟩)
theorem r_addS (hl : a.length + b.length ≤ 1000) (q : Q (.str (a ++ b)) H) : rAddA (.str a) (.str b) H Q := .inr (.inr ⟨a, b, rfl, rfl, Nat.le_trans hl (by decide), q⟩)
/-! ### join, split -/
theorem r_m1 {r : V → List V → Hp → VK → Prop} {to te : TE} (h : to σ H fun x H1 => (∃ a, x = .str a) ∧ te σ H1 fun y H2 => r x [y] H2 Q) : tM1 r to te σ H Q := h
theorem r_isS {p : Prop} (h : p) : (∃ a, V.str z = .str a) ∧ p := ⟨⟨z, rfl⟩, h⟩
def rJoin (K : PySem.W.Frag) : V → List V → Hp → VK → Prop := fun x xs H Q => ∃ a p, ∃ ys : List Str, x = .str a ∧ xs = [.ref p] ∧ (SqL K H p (ys.map V.str) ∨ SqT K H p (ys.map V.str)) ∧ (ys.map (·.length)).sum + ys.length * a.length ≤ 16777216 ∧ Q (.str (Txt.join a ys)) H
theorem pe_joinK {X : Cx} (K : PySem.W.Frag) {o e : Expr} {to te : TE} {apos pos : Pos} (ho : PE X o to) (he : PE X e te) (hK : X.K = K := by rfl) (hs : starEach [e] X.env = [(false, eval e X.env)] := by rfl) (hbase : attributeBase o "join" X.env (eval o X.env) = eval o X.env := by rfl) (hline : (apos.endLine == pos.line) = true := by rfl) :
    PE X (.Call (.Attribute o "join" apos) [e] [] pos) (tM1 (rJoin K) to te) := by
  subst hK
  exact pe_join ho he hs hbase hline
def rSplit : V → List V → Hp → VK → Prop := fun x xs H Q => ∃ a b, x = .str a ∧ xs = [.str b] ∧ (b.length == 0) = false ∧ a.length + 2 ≤ sizeLine ∧ rNewStrs (Txt.split a b) H Q
theorem pe_splitK {X : Cx} {o e : Expr} {to te : TE} {apos pos : Pos} (ho : PE X o to) (he : PE X e te) (hs : starEach [e] X.env = [(false, eval e X.env)] := by rfl) (hbase : attributeBase o "split" X.env (eval o X.env) = eval o X.env := by rfl) (hline : (apos.endLine == pos.line) = true := by rfl) :
    PE X (.Call (.Attribute o "split" apos) [e] [] pos) (tM1 rSplit to te) := pe_split ho he hs hbase hline
theorem r_split (S : Sep Ps H) (e : Txt.split a b = ys) (hb : (b.length == 0) = false) (hl : a.length ≤ 1000) (q : ∀ p H', Sep (pt p (.lst (ys.map V.str)) :: Ps) H' → Q (.ref p) H') : rSplit (.str a) [.str b] H Q :=
  ⟨a, b, rfl, rfl, hb, Nat.le_trans (Nat.add_le_add_right hl 2) (by decide), fun p np => q p _ (by rw [e]; exact S.new _ np)⟩
end
theorem join0_cps : ∀ ys : List Str, (Str.join Str.empty ys).cps.toList = (ys.map fun y => y.cps.toList).flatten
  | [] => rfl
  | [x] => by simp [Str.join]
  | x :: z :: r => by
    have ih := join0_cps (z :: r)
    have e : Str.join Str.empty (x :: z :: r) = x ++ Str.empty ++ Str.join Str.empty (z :: r) := rfl
    rw [e, List.map_cons, List.flatten_cons, ← ih]
    show ((x.cps ++ Str.empty.cps) ++ _).toList = _
    rw [Array.toList_append, Array.toList_append]
    show (x.cps.toList ++ []) ++ _ = _
    rw [List.append_nil]
theorem r_join0 {K : PySem.W.Frag} {H : Hp} {Q : VK} {p : Addr} {cs : List Nat} (s : SqL K H p ((cs.map lt1).map V.str)) (hl : cs.length ≤ 1000) (q : ∀ z : Str, z.cps.toList = cs → Q (.str z) H) : rJoin K (.str Str.empty) [.ref p] H Q := by
  have e1 : ((cs.map lt1).map (·.length)).sum = cs.length := by
    rw [List.map_map]
    have : ((fun x : Str => x.length) ∘ lt1) = fun _ => 1 := rfl
    rw [this]
    have e2 : ∀ l : List Nat, (l.map fun _ => 1).sum = l.length := fun l => by
      induction l with
      | nil => rfl
      | cons c l ih => rw [List.map_cons, List.sum_cons, ih, List.length_cons, Nat.add_comm]
    exact e2 cs
  refine ⟨_, p, cs.map lt1, rfl, rfl, .inl s, ?_, q _ ?_⟩
  · rw [e1]
    show _ + _ * 0 ≤ _
    omega
  · rw [show Txt.join Str.empty (cs.map lt1) = Str.join Str.empty (cs.map lt1) from StrLaws.glued_eq_join _ _, join0_cps, List.map_map]
    have : ((fun y : Str => y.cps.toList) ∘ lt1) = fun c => [c] := rfl
    rw [this]
    have e3 : ∀ l : List Nat, (l.map fun c => [c]).flatten = l := fun l => by
      induction l with
      | nil => rfl
      | cons c l ih => rw [List.map_cons, List.flatten_cons, ih]; rfl
    exact e3 cs
/-- a base and one letter more -/
theorem add_lt_inj {z : Str} {c d : Nat} (h : z ++ lt1 c = z ++ lt1 d) : c = d := by
  have h := congrArg (fun x : Str => x.cps.toList) h
  have h2 : z.cps.toList ++ [c] = z.cps.toList ++ [d] := by
    have e : ∀ c, (z ++ lt1 c).cps.toList = z.cps.toList ++ [c] := fun c => by
      show (z.cps ++ #[c]).toList = _
      rw [Array.toList_append]
    rw [← e, ← e]
    exact h
  exact List.singleton_inj.mp (List.append_cancel_left h2)
theorem add_lt_ok {z : Str} {c : Nat} (h : ∀ c ∈ z.cps.toList, 97 ≤ c ∧ c ≤ 122) (hl : z.length ≤ 7) (hc : 97 ≤ c ∧ c ≤ 122) : NmOk (z ++ lt1 c) := by
  have e : (z ++ lt1 c).cps.toList = z.cps.toList ++ [c] := by
    show (z.cps ++ #[c]).toList = _
    rw [Array.toList_append]
  have e2 : (z ++ lt1 c).length = z.length + 1 := by
    show (z.cps ++ #[c]).size = _
    rw [Array.size_append]
    rfl
  refine ⟨by omega, by omega, fun d m => ?_⟩
  rw [e] at m
  rcases List.mem_append.mp m with m | m
  · exact h d m
  · rw [List.mem_singleton] at m
    subst m
    exact hc
/-! ### heads of functions -/
structure Hd where
  fn : Str
  names : List Str
  pars : List Str
  res : Str
structure HdOk (h : Hd) : Prop where
  nm : ∀ x ∈ h.names, NmOk x
  nd : h.names.Nodup
  n1 : h.names ≠ []
  nl : h.names.length ≤ 8
  pm : ∀ x ∈ h.pars, x ∈ h.names
  pd : h.pars.Nodup
  pl : h.pars.length ≤ 2
  rm : h.res ∈ h.names
structure HdsOk (hs : List Hd) : Prop where
  ln : hs.length ≤ 9
  each : ∀ h ∈ hs, HdOk h ∧ NmOk h.fn
  nd : (hs.map Hd.fn).Nodup
  main : (hs.map Hd.fn).head? = some "main"
def HdAt (K : PySem.W.Frag) (G : Hp) (v : V) (h : Hd) : Prop := ∃ a ni pi, v = .ref a ∧ G a = some (.dK [(.inr "names", .ref ni), (.inr "parameters", .ref pi), (.inr "result", .str h.res)]) ∧ LD K G ni (h.names.map PyData.str) ∧ LD K G pi (h.pars.map PyData.str)
def HdsAt (K : PySem.W.Frag) (G : Hp) (kvs : List (Key × V)) (hs : List Hd) : Prop := Paired (fun kv h => kv.1 = kS h.fn ∧ HdAt K G kv.2 h) kvs hs
section
variable {K : PySem.W.Frag} {G G' H : Hp} {v : V} {h : Hd} {hs : List Hd} {kvs : List (Key × V)} {σ : L2.St} {D : Ends} {R : List SP} {d : Addr} {x : Str}
theorem HdAt.le (h1 : HdAt K G v h) (l : Le G G') : HdAt K G' v h := by
  obtain ⟨a, ni, pi, rfl, e, d1, d2⟩ := h1
  exact ⟨a, ni, pi, rfl, l _ _ e, d1.le l, d2.le l⟩
theorem HdsAt.le (h1 : HdsAt K G kvs hs) (l : Le G G') : HdsAt K G' kvs hs := paired_imp (fun a b z => ⟨z.1, z.2.le l⟩) h1
theorem HdsAt.keys (h1 : HdsAt K G kvs hs) : kvs.map Prod.fst = hs.map fun h => kS h.fn := by
  induction h1 with
  | nil => rfl
  | cons z _ ih => rw [List.map_cons, List.map_cons, z.1, ih]
theorem HdsAt.snoc {a : V} (h1 : HdsAt K G kvs hs) (h2 : HdAt K G a h) : HdsAt K G (kvs ++ [(kS h.fn, a)]) (hs ++ [h]) := Paired.snoc h1 ⟨rfl, h2⟩
theorem putK_new {l : List (Key × V)} {k : Key} (hn : k ∉ l.map Prod.fst) : putK l k v = l ++ [(k, v)] := by
  unfold putK
  rw [if_neg]
  intro q
  obtain ⟨kv, m, hd⟩ := List.any_eq_true.mp q
  exact hn (by rw [← of_decide_eq_true hd]; exact List.mem_map_of_mem m)
theorem r_dputN (S : Sep (pt d (.dK kvs) :: R) H) (hn : kS x ∉ kvs.map Prod.fst) (hl : kvs.length ≤ 100000) (q : ∀ H', Sep (pt d (.dK (kvs ++ [(kS x, v)])) :: R) H' → D.nx σ H') : kDPut D σ v (.ref d) (.str x) H :=
  ⟨d, _, rfl, .inl ⟨_, kS x, S.hd_at, rfl, Nat.lt_of_le_of_lt hl (by decide), rfl⟩, q _ (by rw [← putK_new hn]; exact S.hd_set _)⟩
theorem valV_at : ∀ {l : List (Key × V)} {k : Key} {v : V}, (l.map Prod.fst).Nodup → (k, v) ∈ l → valV l k = some v
  | e :: l, k, v, nd, m => by
    rw [List.map_cons, List.nodup_cons] at nd
    unfold valV
    rw [List.find?_cons]
    rcases List.mem_cons.mp m with rfl | m
    · simp
    · have ne : e.1 ≠ k := fun q => nd.1 (by rw [q]; exact List.mem_map_of_mem (f := Prod.fst) m)
      rw [decide_eq_false ne]
      exact valV_at nd.2 m
theorem r_dgetV {Q : VK} (e : Rd H d (.dK kvs)) (hv : valV kvs (kS x) = some v) (q : Q v H) : kDGet Q (.ref d) (.str x) H :=
  ⟨d, _, rfl, .inl ⟨_, kS x, e, rfl, hv.symm⟩, q⟩
end
theorem mergeK_nd : ∀ {l l2 : List (Key × V)}, ((l ++ l2).map Prod.fst).Nodup → mergeK l l2 = l ++ l2
  | l, [], _ => by rw [List.append_nil]; rfl
  | l, e :: l2, hn => by
    have ne : e.1 ∉ l.map Prod.fst := fun m => by
      rw [List.map_append, List.nodup_append] at hn
      exact hn.2.2 _ m e.1 (by simp) rfl
    show mergeK (putK l e.1 e.2) l2 = _
    have e1 : l ++ e :: l2 = (l ++ [e]) ++ l2 := by simp
    rw [putK_new ne, e1]
    exact mergeK_nd (by rw [← e1]; exact hn)
theorem q_pair {tk tv : TE} {r : List (TE × TE)} {σ : L2.St} {H : Hp} {Q : List (V × V) → Hp → Prop} (h : tk σ H fun x H1 => tv σ H1 fun y H2 => tPairs r σ H2 fun ps H3 => Q ((x, y) :: ps) H3) : tPairs ((tk, tv) :: r) σ H Q := h
theorem q_pairN {σ : L2.St} {H : Hp} {Q : List (V × V) → Hp → Prop} (h : Q [] H) : tPairs [] σ H Q := h
theorem mt_indexK {X : Cx} (K : PySem.W.Frag) (hK : X.K = K := by rfl) : MtR X "list.index" (rIndex K) := by
  subst hK
  exact mt_index
theorem eqV_str (x y : Str) : eqV (.str x) (.str y) = decide (x = y) := by
  show (x == y) = _
  by_cases h : x = y
  · subst h; simp
  · rw [decide_eq_false h]; exact beq_eq_false_iff_ne.mpr h
section
variable {K : PySem.W.Frag} {H : Hp} {Q : VK} {a d : Addr} {fs : List Str} {f : Str} {j : Nat} {kvs : List (Key × V)} {Ps : List SP}
theorem r_index (s : SqL K H a (fs.map V.str)) (nd : fs.Nodup) (hj : fs[j]? = some f) (q : Q (.int j) H) : rIndex K (.ref a) [.str f] H Q := by
  have h1 := List.getElem?_eq_some_iff.mp hj
  refine ⟨a, fs.map V.str, .str f, j, .str f, rfl, rfl, s, rfl, flat_strs fs, by rw [List.getElem?_map, hj]; rfl, by rw [eqV_str]; simp, fun m z hm hz => ?_, q⟩
  rw [List.getElem?_map] at hz
  cases e : fs[m]? with
  | none => rw [e] at hz; cases hz
  | some y =>
    rw [e] at hz
    cases hz
    have h2 := List.getElem?_eq_some_iff.mp e
    rw [eqV_str]
    refine decide_eq_false fun q => ?_
    have := (List.getElem_inj (h₀ := h2.1) (h₁ := h1.1) nd).mp (h2.2.trans (q.trans h1.2.symm))
    omega
theorem r_listD (S : Sep (pt d (.dK kvs) :: Ps) H) (q : ∀ p H', Sep (pt p (.lst (kvs.map fun kv => kV kv.1)) :: pt d (.dK kvs) :: Ps) H' → Q (.ref p) H') : rListD [.ref d] H Q :=
  ⟨d, kvs, rfl, S.hd_at, fun p np => q p _ (S.new _ np)⟩
end
/-! ### a dict that is read, locked or not -/
theorem rd_part {D : SP} {d : Addr} {kvs : List (Key × V)} {R : List SP} {H : Hp} (hD : ∀ g, D g → Rd g d (.dK kvs)) (S : Sep (D :: R) H) : Rd H d (.dK kvs) := by
  obtain ⟨g, l, h, _⟩ := S
  exact Rd.le l (hD g h)
def rListR : List V → Hp → VK → Prop := fun xs H Q => ∃ (a : Addr) (kvs : List (Key × V)), xs = [.ref a] ∧ Rd H a (.dK kvs) ∧ ∀ p, H p = none → Q (.ref p) (upd H p (.lst (kvs.map fun kv => kV kv.1)))
theorem cr_listR {X : Cx} (hc : X.calm = true) : CallR X (.type "list") rListR := call_listD hc
theorem r_listR {d : Addr} {kvs : List (Key × V)} {Ps : List SP} {H : Hp} {Q : VK} (S : Sep Ps H) (e : Rd H d (.dK kvs)) (q : ∀ p H', Sep (pt p (.lst (kvs.map fun kv => kV kv.1)) :: Ps) H' → Q (.ref p) H') : rListR [.ref d] H Q :=
  ⟨d, kvs, rfl, e, fun p np => q p _ (S.new _ np)⟩
end Kt

set_option Elab.async false
set_option linter.all false
set_option maxRecDepth 100000
set_option maxHeartbeats 4000000
namespace PySem
open Sem (wp)
theorem args_sum2 (a b : Value) : argsOk "sum" ⟨[a, b], []⟩ := by unfold argsOk; kernel_rfl
section
variable {prog : Program} {w : World} {A : Around} {R : Result → Shared → Prop} {I : Addr} {fp wr : List Addr} {n : Nat} {P : Nat → Value → Prop} {St : Nat → Heap → Prop}
/-- sum of lists from a list: the loop -/
theorem codeAny_sum_loopL (h0 : Heap) (W : Walks prog w A.in1 I fp wr n P St) (hw0 : ∀ b ∈ wr, h0.get? b = none) (hsz : ∀ i h, St i h → ∀ b ∈ wr, b < h.objs.size) (hfp : ∀ i h, St i h → ∀ b ∈ fp, b < h.objs.size) (L : Nat → Addr) (its : Nat → Array Value) (hval : ∀ i v, P i v → v = .ref (L i))
    (hL : ∀ i, i < n → ∃ c, IsL h0 (L i) (its i) c) (S : Addr) (hS0 : h0.get? S = none) (hSf : S ∉ fp) (pre : Nat → Array Value) (hpre : ∀ i, i < n → pre (i + 1) = pre i ++ its i) (hz : ∀ i, i ≤ n → (pre i).size ≤ sizeLine) :
    ∀ (k i : Nat) (s : Shared) (T : Addr) (cT cS : Nat), n - i = k → i ≤ n → St i s.heap → (∀ b o, h0.get? b = some o → s.heap.get? b = some o) → s.heap.get? S = some { cls := .type "list", dict := none, data := .seq #[.ref T] cS, slots := #[] } →
    IsL s.heap T (pre i) cT → T ∉ wr → T ≠ S →
    (∀ h' tk T' c, (∀ b o, h0.get? b = some o → h'.get? b = some o) → IsL h' T' (pre n) c → ((i = n ∧ T' = T) ∨ h0.get? T' = none) → R (.ok (.ret (.ref T'))) { s with heap := h', toks := tk }) →
    codeAny (model prog w) A (.builtin "sum.loop" ⟨[.ref I, .ref S, rawInt 2, rawInt 0], []⟩) R s := by
  have hSw : S ∉ wr := fun h => hSf (W.sub _ h)
  have hne : ∀ b o, h0.get? b = some o → b ∉ wr ∧ b ≠ S := fun b o e => ⟨fun m => (by rw [hw0 b m] at e; cases e), fun q => (by rw [q, hS0] at e; cases e)⟩
  intro k
  induction k with
  | zero =>
    intro i s T cT cS hk hi hst h0k hS hT hTw hTS hR
    have hin : i = n := by omega
    subst hin
    refine codeAny_builtin F.entry_sum_loop ?_
    rw [Around.under_plainId F.plain_sum_loop _]
    show wpAny _ A.in1 (seqItems? (.ref S) >>= _) _ _ s
    refine wpAny_bind (wpAny_seqItems hS rfl ?_)
    show wpAny _ A.in1 (tryCatch (pyNext (.ref I)) _ >>= _) _ _ s
    refine wpAny_bind (wpAny_tryCatch (W.done s _ _ hst fun h' tk hk' => ?_))
    exact wpAny_pure (hR h' tk T cT (fun b o e => hk' b o (hne b o e).1 (h0k b o e)) (hk' T _ hTw hT) (.inl ⟨rfl, rfl⟩))
  | succ k ih =>
    intro i s T cT cS hk hi hst h0k hS hT hTw hTS hR
    have hlt : i < n := by omega
    refine codeAny_builtin F.entry_sum_loop ?_
    rw [Around.under_plainId F.plain_sum_loop _]
    show wpAny _ A.in1 (seqItems? (.ref S) >>= _) _ _ s
    refine wpAny_bind (wpAny_seqItems hS rfl ?_)
    show wpAny _ A.in1 (tryCatch (pyNext (.ref I)) _ >>= _) _ _ s
    refine wpAny_bind (wpAny_tryCatch (W.item i s _ _ hlt hst fun v h' tk hP hst' hk' => ?_))
    obtain rfl := hval i v hP
    have hS' := hk' S _ hSw hS
    have hT' := hk' T _ hTw hT
    have h0k' : ∀ b o, h0.get? b = some o → h'.get? b = some o := fun b o e => hk' b o (hne b o e).1 (h0k b o e)
    obtain ⟨cL, hLi⟩ := hL i hlt
    have hLi' := h0k' _ _ hLi
    have hz1 := hz (i + 1) hlt
    rw [hpre i hlt, Array.size_append] at hz1
    show wpAny _ A.in1 ((holding [Value.ref (L i)] (binaryOp .Add (.ref T) (.ref (L i)))).attempt >>= _) _ _ _
    refine wpAny_bind (wpAny_attempt (wpAny_holding (_root_.PySem.P.add_list hT' hLi' ?_ hz1)))
    have hSlt : S < h'.objs.size := Heap.lt_size hS'
    have hS2 := Heap.get?_push_of_some { cls := .type "list", data := .seq (pre i ++ its i) } hS'
    show wpAny _ A.in1 (updateSeq S (fun _ => #[.ref h'.objs.size]) >>= _) _ _ _
    refine wpAny_bind (wpAny_updateSeq hS2 rfl ?_)
    have hS3 := Heap.get?_update_self (Obj.mapSeq fun _ => #[Value.ref h'.objs.size]) hS2 rfl
    refine wpAny_bind (wpAny_letGo ?_)
    have hSp : S ≠ h'.objs.size := Nat.ne_of_lt hSlt
    have keep : ∀ b o, b ≠ S → h'.get? b = some o → (((h'.push { cls := .type "list", data := .seq (pre i ++ its i) }).update S (Obj.mapSeq fun _ => #[Value.ref h'.objs.size])).update S (Obj.mapSeq fun _ => #[Value.ref h'.objs.size])).get? b = some o := fun b o hb e =>
      (Heap.get?_update_other _ _ (Ne.symm hb)).trans ((Heap.get?_update_other _ _ (Ne.symm hb)).trans (Heap.get?_push_of_some _ e))
    refine wpAny_bind (wpAny_updateSeq hS3 rfl (wpAny_pure ⟨plainId_quiet F.plain_sum_loop _, ih (i + 1) _ h'.objs.size 0 _ (by omega) hlt (W.frame _ _ _ hst' fun b hb o e => keep b o (fun h => hSf (h ▸ hb)) e) (fun b o e => keep b o (hne b o e).2 (h0k' b o e)) (Heap.get?_update_self _ hS3 rfl) ?_ ?_ (Ne.symm hSp) ?_⟩))
    · rw [hpre i hlt]
      exact (Heap.get?_update_other _ _ hSp).trans ((Heap.get?_update_other _ _ hSp).trans (Heap.get?_push_size _ rfl))
    · exact fun m => Nat.lt_irrefl _ (hsz _ _ hst' _ m)
    · intro h'' tk'' T' c'' hk'' hT'' hor
      refine hR h'' tk'' T' c'' hk'' hT'' (.inr ?_)
      rcases hor with ⟨_, rfl⟩ | q
      · cases e : h0.get? h'.objs.size with
        | none => rfl
        | some o => exact absurd (Heap.lt_size (h0k' _ _ e)) (Nat.lt_irrefl _)
      · exact q
end
section
variable {prog : Program} {w : World} {A : Around} {E : Value → Shared → Prop} {s : Shared}
theorem call_sumL {l b : Addr} {ls : List Addr} {its : Nat → Array Value} {start : Array Value} {cb : Nat} {Q : Value → Shared → Prop} (hh : A.handled = none) (hl : s.heap.IsList l (ls.map Value.ref).toArray) (hb : IsL s.heap b start cb)
    (hL : ∀ i x, ls[i]? = some x → ∃ c, IsL s.heap x (its i) c) (pre : Nat → Array Value) (hp0 : pre 0 = start) (hpre : ∀ i, i < ls.length → pre (i + 1) = pre i ++ its i) (hz : ∀ i, i ≤ ls.length → (pre i).size ≤ sizeLine)
    (h : ∀ h' tk T' c, (∀ b o, s.heap.get? b = some o → h'.get? b = some o) → IsL h' T' (pre ls.length) c → ((ls = [] ∧ T' = b) ∨ s.heap.get? T' = none) → Q (.ref T') { s with heap := h', toks := tk }) :
    wpAny (model prog w) A (call (.builtin "sum") [.ref l, .ref b]) Q E s := by
  refine call_function_tree F.kind_sum F.plain_sum F.entry_sum (args_sum2 _ _) ?_
  unfold Builtin.«sum»
  simp only [List.length_cons, List.length_nil]
  rw [if_neg (by decide)]
  refine wpAny_bind (wpAny_of_eq (show Builtin.Builtins.bindParams "sum" ["start"] 0 ⟨[.ref b], []⟩ = pure [some (.ref b)] from rfl) ?_)
  refine wpAny_bind (wpAny_pyIter_list hl ?_)
  refine wpAny_bind (wpAny_pure ?_)
  have hlt : l < s.heap.objs.size := by obtain ⟨_, e, _⟩ := hl; exact Heap.lt_size e
  have hblt : b < s.heap.objs.size := Heap.lt_size hb
  have hb1 := Heap.get?_push_of_some (h := s.heap) { cls := .type "list_iterator", data := .fields #[.ref l, .int 0 0] } hb
  simp only [List.forIn_cons, List.forIn_nil]
  refine wpAny_bind (wpAny_bind (wpAny_bind (wpAny_isInstance (T := "list") (b := false) ⟨_, hb1, rfl⟩ F.sub_list_str ?_)))
  simp only [Bool.false_eq_true, if_false]
  refine wpAny_pure (wpAny_bind (wpAny_bind (wpAny_isInstance (T := "list") (b := false) ⟨_, hb1, rfl⟩ F.sub_list_bytes ?_)))
  simp only [Bool.false_eq_true, if_false]
  refine wpAny_pure (wpAny_bind (wpAny_bind (wpAny_isInstance (T := "list") (b := false) ⟨_, hb1, rfl⟩ F.sub_list_bytearray ?_)))
  simp only [Bool.false_eq_true, if_false]
  refine wpAny_pure (wpAny_pure ?_)
  refine wpAny_bind (wpAny_newObj_type ?_)
  have hIs : s.heap.get? s.heap.objs.size = none := by
    cases e : s.heap.get? s.heap.objs.size with
    | none => rfl
    | some o => exact absurd (Heap.lt_size e) (Nat.lt_irrefl _)
  have hsz1 : (s.heap.push { cls := .type "list_iterator", data := .fields #[.ref l, .int 0 0] }).objs.size = s.heap.objs.size + 1 := Heap.size_push ..
  have hS1 : s.heap.get? (s.heap.push { cls := .type "list_iterator", data := .fields #[.ref l, .int 0 0] }).objs.size = none := by
    cases e : s.heap.get? (s.heap.push { cls := .type "list_iterator", data := .fields #[.ref l, .int 0 0] }).objs.size with
    | none => rfl
    | some o =>
      have := Heap.lt_size e
      rw [hsz1] at this
      exact absurd (Nat.lt_of_succ_lt this) (Nat.lt_irrefl _)
  have hSf : (s.heap.push { cls := .type "list_iterator", data := .fields #[.ref l, .int 0 0] }).objs.size ∉ [s.heap.objs.size, l] := by
    rw [hsz1]
    intro m
    rcases List.mem_cons.mp m with e | m
    · exact absurd e (Nat.succ_ne_self _)
    · rw [List.mem_singleton] at m
      rw [← m] at hlt
      exact Nat.lt_irrefl _ (Nat.lt_of_succ_lt hlt)
  have hb2 := Heap.get?_push_of_some { cls := .type "list", data := .seq #[Value.ref b] } hb1
  have old : ∀ c o, s.heap.get? c = some o → ((s.heap.push { cls := .type "list_iterator", data := .fields #[.ref l, .int 0 0] }).push { cls := .type "list", data := .seq #[Value.ref b] }).get? c = some o := fun c o e => Heap.get?_push_of_some _ (Heap.get?_push_of_some _ e)
  refine wpAny_pure ⟨plainId_quiet F.plain_sum_loop _, codeAny_sum_loopL s.heap (Walks.list (A := A.in1) hh s.heap.objs.size l (Nat.ne_of_lt hlt) (ls.map Value.ref).toArray) (fun c m => ?_) (fun i h st c m => ?_) (fun i h st c m => ?_) (fun i => ls.getD i 0) its (fun i v hv => ?_) (fun i hi => ?_) _ hS1 hSf pre (fun i hi => hpre i (by simpa using hi)) (fun i hi => hz i (by simpa using hi)) _ 0 _ b cb 0 rfl (Nat.zero_le _) ⟨⟨_, Heap.get?_push_of_some _ (Heap.get?_push_size _ rfl), rfl, rfl⟩, hl.push _ |>.push _⟩ old (Heap.get?_push_size _ rfl) ?_ ?_ ?_ fun h' tk T' c k1 k2 k3 => ?_⟩
  · rw [List.mem_singleton] at m
    rw [m]
    exact hIs
  · rw [List.mem_singleton] at m
    rw [m]
    obtain ⟨⟨o, e, _⟩, _⟩ := st
    exact Heap.lt_size e
  · rcases List.mem_cons.mp m with e | m
    · rw [e]
      obtain ⟨⟨o, e, _⟩, _⟩ := st
      exact Heap.lt_size e
    · rw [List.mem_singleton] at m
      rw [m]
      obtain ⟨_, ⟨o, e, _⟩⟩ := st
      exact Heap.lt_size e
  · have hv : (ls.map Value.ref).toArray[i]? = some v := hv
    rw [List.getElem?_toArray, List.getElem?_map] at hv
    cases e : ls[i]? with
    | none => rw [e] at hv; cases hv
    | some x =>
      rw [e] at hv
      cases hv
      rw [List.getD_eq_getElem?_getD, e]
      rfl
  · have hi : i < ls.length := by simpa using hi
    obtain ⟨c, e⟩ := hL i ls[i] (List.getElem?_eq_getElem hi)
    refine ⟨c, ?_⟩
    rw [List.getD_eq_getElem?_getD, List.getElem?_eq_getElem hi]
    exact e
  · rw [hp0]
    exact hb2
  · intro m
    rw [List.mem_singleton] at m
    rw [m] at hblt
    exact Nat.lt_irrefl _ hblt
  · rw [hsz1]
    intro m
    rw [m] at hblt
    exact Nat.lt_irrefl _ (Nat.lt_of_succ_lt hblt)
  · refine h h' tk T' c k1 (by simpa using k2) ?_
    rcases k3 with ⟨e, q⟩ | q
    · refine .inl ⟨?_, q⟩
      have e : 0 = ls.length := by simpa using e
      exact List.length_eq_zero_iff.mp e.symm
    · exact .inr q
end
end PySem
namespace Kt
open PySem L2 PyProof.Rows
/-- sum(lists, start) -/
def rSumL (K : PySem.W.Frag) : List V → Hp → VK → Prop := fun vs H Q => ∃ (a b : Addr) (ls : List Addr) (xss : List (List V)) (zs : List V), vs = [.ref a, .ref b] ∧ SqL K H a (ls.map V.ref) ∧ H b = some (.lst zs) ∧ Paired (fun l xs => H l = some (.lst xs)) ls xss ∧ (zs ++ xss.flatten).length ≤ sizeLine ∧
  (ls = [] → Q (.ref b) H) ∧ ∀ p, H p = none → Q (.ref p) (upd H p (.lst (zs ++ xss.flatten)))
theorem vals_app : ∀ {xs ys : List V} {us vs : List Value}, Vals xs us → Vals ys vs → Vals (xs ++ ys) (us ++ vs)
  | _, _, _, _, h1, h2 => h1.append h2
theorem vals_refs : ∀ {ls : List Addr} {us : List Value}, Vals (ls.map V.ref) us → us = ls.map Value.ref
  | [], _, h => by cases h; rfl
  | l :: ls, _, h => by
    rw [List.map_cons] at h
    cases h with
    | cons h1 h2 =>
      cases h1
      rw [vals_refs h2]
      rfl
theorem lists_at {X : Cx} {pins : List (Addr × Obj)} {σ : L2.St} {H : Hp} {s : Shared} (I : L2.Inv X pins σ H s) : ∀ {ls : List Addr} {xss : List (List V)}, Paired (fun l xs => H l = some (.lst xs)) ls xss → ∃ vss : List (List Value), vss.length = ls.length ∧ (∀ i l, ls[i]? = some l → ∃ c, IsL s.heap l (vss.getD i []).toArray c) ∧ Vals xss.flatten vss.flatten
  | _, _, .nil => ⟨[], rfl, fun i l e => by simp at e, .nil⟩
  | l :: ls, xs :: xss, .cons h t => by
    obtain ⟨vss, h1, h2, h3⟩ := lists_at I t
    obtain ⟨_, its, n, r, _, e⟩ := I.lstM h
    refine ⟨its :: vss, by rw [List.length_cons, List.length_cons, h1], fun i x ex => ?_, r.append h3⟩
    cases i with
    | zero =>
      cases ex
      exact ⟨n, e⟩
    | succ i => exact h2 i x ex
theorem cr_sumL {X : Cx} (hc : X.calm = true) : CallR X (.builtin "sum") (rSumL X.K) := by
  intro pins s σ H vs us Q I r h
  obtain ⟨a, b, ls, xss, zs, rfl, hs, hb, hp, hz, q1, q2⟩ := h
  obtain ⟨its, rv, hl, _⟩ := I.list hs
  obtain ⟨zb, itb, nb, rb, hlb, eb⟩ := I.lstM hb
  obtain rfl := vals_refs rv
  cases r with | cons r1 r2 => cases r2 with | cons r3 r4 =>
  cases r4
  cases r1
  cases r3
  obtain ⟨vss, h1, h2, h3⟩ := lists_at I hp
  have hvl := (rb.append h3).length
  have tk : ∀ i, (vss.take i).flatten.length ≤ vss.flatten.length := fun i => by
    have e : vss.flatten = (vss.take i).flatten ++ (vss.drop i).flatten := by rw [← List.flatten_append, List.take_append_drop]
    rw [e, List.length_append]
    exact Nat.le_add_right _ _
  refine call_sumL (ls := ls) (its := fun i => (vss.getD i []).toArray) (start := itb.toArray) (I.ok.hd hc) hl.isList eb h2 (fun i => (itb ++ (vss.take i).flatten).toArray) (by rw [List.take_zero, List.flatten_nil, List.append_nil]) (fun i hi => ?_) (fun i hi => ?_) fun h' tk' T' c k1 k2 k3 => ?_
  · have hi2 : i < vss.length := by rw [h1]; exact hi
    have e1 : vss.getD i [] = vss[i] := by rw [List.getD_eq_getElem?_getD, List.getElem?_eq_getElem hi2]; rfl
    have e2 : (vss.take (i + 1)).flatten = (vss.take i).flatten ++ vss[i] := by rw [List.take_add_one, List.getElem?_eq_getElem hi2, List.flatten_append]; simp
    show (itb ++ (vss.take (i + 1)).flatten).toArray = (itb ++ (vss.take i).flatten).toArray ++ (vss.getD i []).toArray
    rw [e1, e2, ← List.append_assoc]
    simp
  · rw [List.size_toArray, List.length_append]
    have e3 : (itb ++ vss.flatten).length = itb.length + vss.flatten.length := List.length_append
    have := tk i
    omega
  · rw [show ls.length = vss.length from h1.symm, List.take_length] at k2
    rcases k3 with ⟨e, rfl⟩ | k3
    · exact ⟨.ref _, H, I.kept k1, rfl, q1 e⟩
    · have hn : H T' = none := by
        cases q : H T' with
        | none => rfl
        | some o =>
          obtain ⟨u, e⟩ := objOk_get (I.hok T' o q)
          rw [k3] at e
          cases e
      exact ⟨.ref T', _, I.laidN (o := .lst (zs ++ xss.flatten)) k1 k3 hn ⟨hz, itb ++ vss.flatten, c, rb.append h3, k2⟩, rfl, q2 T' hn⟩
/-! ### over a list or a tuple -/
def iAny (K : PySem.W.Frag) (td : TE) : TI := fun σ H R => td σ H fun v H1 => ∃ a, v = .ref a ∧ (((∃ xs, SqL K H1 a xs) ∧ R (Itl K a) H1) ∨ ((∃ xs, SqT K H1 a xs) ∧ R (Itt K a) H1))
theorem pi_any {X : Cx} {tg l : Expr} {tl : TE} (hl : PE X l tl) : PI X tg l (iAny X.K tl) := by
  refine ⟨fun pins s σ H R I h => ?_⟩
  refine thn (hl.run pins s σ H _ I h) fun v s1 ⟨x, H1, I1, r1, q1⟩ => ?_
  obtain ⟨a, e, q1⟩ := q1
  subst e
  cases r1
  have fin : ∀ b ∈ [s1.heap.objs.size], FpOk X pins H1 b := fun b hb => by
    have e : b = s1.heap.objs.size := by simpa using hb
    subst e
    exact I1.fpOk (Nat.le_refl _) (I1.hok.fresh (Nat.le_refl _))
  rcases q1 with ⟨⟨xs, hq⟩, q⟩ | ⟨⟨xs, hq⟩, q⟩
  · obtain ⟨its, rv, p, hz⟩ := I1.list hq
    refine wpAny_pyIter_list p.isList ?_
    exact ⟨s1.heap.objs.size, [s1.heap.objs.size], _, _, H1, rfl, I1.kept (t' := s1.toks) fun b o e => Heap.get?_push_of_some _ e, turn_list a _, ⟨_, Heap.get?_push_size _ rfl, rfl, rfl⟩, fin, q⟩
  · obtain ⟨its, rv, p, hz⟩ := I1.tuple hq
    refine wpAny_pyIter_tuple (show s1.heap.IsTuple a its.toArray from p) ?_
    exact ⟨s1.heap.objs.size, [s1.heap.objs.size], _, _, H1, rfl, I1.kept (t' := s1.toks) fun b o e => Heap.get?_push_of_some _ e, turn_tuple a _, ⟨_, Heap.get?_push_size _ rfl, rfl, rfl⟩, fin, q⟩
theorem pi_anyK {X : Cx} (K : PySem.W.Frag) {tg l : Expr} {tl : TE} (hl : PE X l tl) (hK : X.K = K := by rfl) : PI X tg l (iAny K tl) := hK ▸ pi_any hl
section
variable {K : PySem.W.Frag} {σ : L2.St} {G H : Hp} {D : Ends} {Q : VK} {a : Addr} {xs : List V} {Ps : List SP} {g : TG} {tb : TS} {tt : TT} {te : TE} {vs : List Nat}
theorem r_iany {R : It → Hp → Prop} {tl : TE} (h : tl σ H fun x H1 => ∃ a, x = .ref a ∧ (((∃ xs, SqL K H1 a xs) ∧ R (Itl K a) H1) ∨ ((∃ xs, SqT K H1 a xs) ∧ R (Itt K a) H1))) : iAny K tl σ H R := h
theorem r_for_any (J : LW) (hsq : SqL K G a xs ∨ SqT K G a xs) (S : Sep Ps H) (h0 : J 0 σ Ps) (hl : ∀ i σ Ps H, i ≤ xs.length → J i σ Ps → Sep Ps H → Le G H)
    (hs : ∀ i x σ Ps H, xs[i]? = some x → J i σ Ps → Sep Ps H → g x σ H fun σ2 H2 => tb { D with nx := Nx J (i + 1), ct := Nx J (i + 1), bk := D.nx } σ2 H2) (hd : ∀ σ Ps H, J xs.length σ Ps → Sep Ps H → D.nx σ H) :
    ∃ a', V.ref a = .ref a' ∧ (((∃ xs, SqL K H a' xs) ∧ ForW (Itl K a') g tb D σ H) ∨ ((∃ xs, SqT K H a' xs) ∧ ForW (Itt K a') g tb D σ H)) := by
  rcases hsq with q | q
  · obtain ⟨a', e, h1, h2⟩ := r_for_list (K := K) (a := a) (D := D) J S h0 (fun i σ Ps H hi j S => SqL.le (hl i σ Ps H hi j S) q) hs hd
    exact ⟨a', e, .inl ⟨h1, h2⟩⟩
  · obtain ⟨a', e, h1, h2⟩ := r_for_tup (K := K) (a := a) (D := D) J S h0 (fun i σ Ps H hi j S => SqT.le (hl i σ Ps H hi j S) q) hs hd
    exact ⟨a', e, .inr ⟨h1, h2⟩⟩
theorem r_lc_any (J : CW) (hsq : SqL K G a xs ∨ SqT K G a xs) (S : Sep Ps H) (h0 : J 0 [] Ps) (hl : ∀ D i acc Ps H, i ≤ xs.length → J i acc Ps → Sep (pt D (.lst acc) :: Ps) H → Le G H) (hl0 : Le G H)
    (hs : ∀ D i x acc Ps H, xs[i]? = some x → J i acc Ps → Sep (pt D (.lst acc) :: Ps) H → g x (wipe σ vs) H fun σ2 H2 => wipe σ2 vs = wipe σ vs ∧ tt σ2 H2 fun b H3 =>
      if b = true then te σ2 H3 fun y H4 => ∃ acc, H4 D = some (.lst acc) ∧ acc.length < sizeLine ∧ CN J D (i + 1) (upd H4 D (.lst (acc ++ [y]))) else CN J D (i + 1) H3)
    (hd : ∀ D acc Ps H, J xs.length acc Ps → Sep (pt D (.lst acc) :: Ps) H → Q (.ref D) H) : ∃ a', V.ref a = .ref a' ∧ (((∃ xs, SqL K H a' xs) ∧ LcW (Itl K a') g tt te vs Q σ H) ∨ ((∃ xs, SqT K H a' xs) ∧ LcW (Itt K a') g tt te vs Q σ H)) := by
  rcases hsq with q | q
  · obtain ⟨a', e, h1, h2⟩ := r_lc_list (K := K) (a := a) (xs := xs) J S h0 (fun D i acc Ps H hi j S => SqL.le (hl D i acc Ps H hi j S) q) (SqL.le hl0 q) hs hd
    exact ⟨a', e, .inl ⟨h1, h2⟩⟩
  · obtain ⟨a', e, h1, h2⟩ := r_lc_tup (K := K) (a := a) (xs := xs) J S h0 (fun D i acc Ps H hi j S => SqT.le (hl D i acc Ps H hi j S) q) (SqT.le hl0 q) hs hd
    exact ⟨a', e, .inr ⟨h1, h2⟩⟩
end
/-! ### enumerate of a list; list(range(n)) -/
theorem pi_enumK {X : Cx} (K : PySem.W.Frag) {e : Expr} {ta : TA} {p pos tpos : Pos} {elts : List Expr} {kk : Nat} (hg : Gl X "enumerate") (hm : X.mg "enumerate" = none) (ha : PA X [e] ta) (hK : X.K = K := by rfl) (hs : starEach [e] X.env = [(false, eval e X.env)] := by rfl) :
    PI X (.Tuple elts kk tpos) (.Call (.Name "enumerate" p) [e] [] pos) (iEnum K ta) := hK ▸ pi_enum hg hm ha hs
section
variable {K : PySem.W.Frag} {σ : L2.St} {H : Hp} {D : Ends} {Q : VK} {a : Addr} {xs : List V} {Ps : List SP} {g : TG} {tb : TS} {tr : TA} {ta : TE}
def kEnum (K : PySem.W.Frag) (R : It → Hp → Prop) : List V → Hp → Prop := fun vs H1 => ∃ a xs, vs = [.ref a] ∧ SqL K H1 a xs ∧ R (Ite K a) H1
theorem r_ienum {R : It → Hp → Prop} (h : tr σ H (kEnum K R)) : iEnum K tr σ H R := h
theorem r_for_enum (J : LW) (S : Sep Ps H) (h0 : J 0 σ Ps) (hl : ∀ i σ Ps H, J i σ Ps → Sep Ps H → SqL K H a xs)
    (hs : ∀ i x T σ Ps H, xs[i]? = some x → J i σ Ps → Sep (pt T (.tup [.int (i : Nat), x]) :: Ps) H → g (.ref T) σ H fun σ2 H2 => tb { D with nx := Nx J (i + 1), ct := Nx J (i + 1), bk := D.nx } σ2 H2) (hd : ∀ σ Ps H, J xs.length σ Ps → Sep Ps H → D.nx σ H) :
    kEnum K (fun Jt H1 => ForW Jt g tb D σ H1) [.ref a] H := by
  refine ⟨a, xs, rfl, hl 0 σ Ps H h0 S, fun i m σ H => m = xs.length - i ∧ i ≤ xs.length ∧ Nx J i σ H, ⟨xs.length, by simp, Nat.zero_le _, Ps, h0, S⟩, ?_⟩
  rintro i m σ H ⟨rfl, hi, Ps, j, S⟩
  by_cases he : i = xs.length
  · subst he
    exact .inl ⟨⟨xs, hl _ σ Ps H j S, Nat.le_refl _⟩, hd σ Ps H j S⟩
  · have hlt : i < xs.length := by omega
    refine .inr ⟨⟨xs, xs[i], hl _ σ Ps H j S, List.getElem?_eq_getElem hlt⟩, Nx J (i + 1), fun σ' H' n => ⟨xs.length - (i + 1), by omega, rfl, by omega, n⟩, ?_⟩
    rintro x H' ⟨T, y, rfl, hT, rfl, hy⟩
    exact hs i y T σ Ps _ (hy xs (hl _ σ Ps H j S)) j (S.new _ hT)
def kLrg (Q : VK) : VK := fun x H1 => ∃ n, x = .int n ∧ (RgOk 0 n ∧ ∀ q, H1 q = none → Q (.ref q) (upd H1 q (.lst (rgV 0 n))))
theorem r_lrg (h : ta σ H (kLrg Q)) : tLstRg (tRg1 ta) σ H Q := h
theorem r_klrg {n : Nat} (S : Sep Ps H) (hn : n ≤ 100000) (h : ∀ p H', Sep (pt p (.lst ((List.range n).map fun i => V.int (i : Nat))) :: Ps) H' → Q (.ref p) H') : kLrg Q (.int n) H := by
  refine ⟨n, rfl, RgOk.of_le (Int.le_refl 0) (by omega) (by omega) (by omega), fun q nq => h q _ ?_⟩
  have e : rgV 0 (n : Int) = (List.range n).map fun i => V.int (i : Nat) := by
    unfold rgV
    rw [Int.sub_zero, Int.toNat_natCast]
    refine List.map_congr_left fun i _ => ?_
    rw [Int.zero_add]
  rw [e]
  exact S.new _ nq
end
end Kt

set_option Elab.async false
set_option linter.all false
set_option maxRecDepth 100000
namespace Kt
open PySem L2 PyProof.Rows
/-! ### comprehensions with two sources -/
section
variable {K : PySem.W.Frag} {σ σ2 : L2.St} {H : Hp} {Q : VK} {a : Addr} {xs ys : List V} {Ps : List SP} {g g1 : TG} {tt tt1 : TT} {te : TE} {wi wi1 : TI} {vs vs1 : List Nat}
/-- what a turn of the first source has to reach: the second source's own loop -/
abbrev In2 (wi1 : TI) (g1 : TG) (tt1 : TT) (te : TE) (vs1 : List Nat) (D : Addr) (N : Hp → Prop) (σ2 : L2.St) (H3 : Hp) : Prop := wi1 σ2 H3 fun J1 H4 => ∃ W1 : Nat → Nat → Hp → Prop, (∃ m, W1 0 m H4) ∧ ∀ j k H, W1 j k H →
  (J1.stop j H ∧ N H) ∨ (J1.go j H ∧ ∃ Nx1 : Hp → Prop, (∀ H', Nx1 H' → ∃ k', k' < k ∧ W1 (j + 1) k' H') ∧ ∀ x H', J1.yld j H x H' → g1 x (wipe σ2 vs1) H' fun σ3 H5 => wipe σ3 vs1 = wipe σ2 vs1 ∧ tt1 σ3 H5 fun b H6 =>
    if b = true then te σ3 H6 fun y H7 => ∃ acc, H7 D = some (.lst acc) ∧ acc.length < sizeLine ∧ Nx1 (upd H7 D (.lst (acc ++ [y]))) else Nx1 H6)
abbrev Lc2W (Jt : It) (g : TG) (tt : TT) (wi1 : TI) (g1 : TG) (tt1 : TT) (te : TE) (vs vs1 : List Nat) (Q : VK) (σ : L2.St) (H1 : Hp) : Prop := ∀ D, H1 D = none → ∃ W : Nat → Nat → Hp → Prop, (∃ m, W 0 m (upd H1 D (.lst []))) ∧ ∀ i m H, W i m H →
  (Jt.stop i H ∧ Q (.ref D) H) ∨ (Jt.go i H ∧ ∃ Nx : Hp → Prop, (∀ H', Nx H' → ∃ m', m' < m ∧ W (i + 1) m' H') ∧ ∀ x H', Jt.yld i H x H' → g x (wipe σ vs) H' fun σ2 H2 => wipe σ2 vs = wipe σ vs ∧ tt σ2 H2 fun b H3 =>
    if b = true then In2 wi1 g1 tt1 te vs1 D Nx σ2 H3 else Nx H3)
theorem r_tlc2 (h : wi σ H fun Jt H1 => Lc2W Jt g tt wi1 g1 tt1 te vs vs1 Q σ H1) : tLc2 wi g tt wi1 g1 tt1 te vs vs1 σ H Q := h
theorem r_lc2_tup (J : CW) (S : Sep Ps H) (h0 : J 0 [] Ps) (hl : ∀ D i acc Ps H, i ≤ xs.length → J i acc Ps → Sep (pt D (.lst acc) :: Ps) H → SqT K H a xs) (hl0 : SqT K H a xs)
    (hs : ∀ D i x acc Ps H, xs[i]? = some x → J i acc Ps → Sep (pt D (.lst acc) :: Ps) H → g x (wipe σ vs) H fun σ2 H2 => wipe σ2 vs = wipe σ vs ∧ tt σ2 H2 fun b H3 => if b = true then In2 wi1 g1 tt1 te vs1 D (CN J D (i + 1)) σ2 H3 else CN J D (i + 1) H3)
    (hd : ∀ D acc Ps H, J xs.length acc Ps → Sep (pt D (.lst acc) :: Ps) H → Q (.ref D) H) : ∃ a', V.ref a = .ref a' ∧ (∃ xs, SqT K H a' xs) ∧ Lc2W (Itt K a') g tt wi1 g1 tt1 te vs vs1 Q σ H := by
  refine ⟨a, rfl, ⟨xs, hl0⟩, fun D nD => ⟨fun i m H => m = xs.length - i ∧ i ≤ xs.length ∧ CN J D i H, ⟨xs.length, (Nat.sub_zero _).symm, Nat.zero_le _, [], Ps, h0, S.new _ nD⟩, ?_⟩⟩
  rintro i m H ⟨rfl, hi, c⟩
  obtain ⟨acc, Qs, j, T⟩ := id c
  have sq := hl D i acc Qs H hi j T
  rcases Nat.lt_or_ge i xs.length with lt | ge
  · refine .inr ⟨⟨xs, xs[i], sq, List.getElem?_eq_getElem lt⟩, CN J D (i + 1), fun H' c' => ⟨xs.length - (i + 1), by omega, rfl, lt, c'⟩, fun x H' ⟨e, y⟩ => ?_⟩
    subst e
    exact hs D i x acc Qs _ (y xs sq) j T
  · obtain rfl : i = xs.length := Nat.le_antisymm hi ge
    exact .inl ⟨⟨xs, sq, Nat.le_refl _⟩, hd D acc Qs H j T⟩
theorem r_in2_tup {D : Addr} {acc : List V} {N : Hp → Prop} (J : CW) (S : Sep (pt D (.lst acc) :: Ps) H) (h0 : J 0 acc Ps) (hl : ∀ i acc Ps H, i ≤ ys.length → J i acc Ps → Sep (pt D (.lst acc) :: Ps) H → SqT K H a ys)
    (hs : ∀ i x acc Ps H, ys[i]? = some x → J i acc Ps → Sep (pt D (.lst acc) :: Ps) H → g1 x (wipe σ2 vs1) H fun σ3 H5 => wipe σ3 vs1 = wipe σ2 vs1 ∧ tt1 σ3 H5 fun b H6 =>
      if b = true then te σ3 H6 fun y H7 => ∃ acc, H7 D = some (.lst acc) ∧ acc.length < sizeLine ∧ CN J D (i + 1) (upd H7 D (.lst (acc ++ [y]))) else CN J D (i + 1) H6)
    (hd : ∀ acc Ps H, J ys.length acc Ps → Sep (pt D (.lst acc) :: Ps) H → N H) : ∃ a', V.ref a = .ref a' ∧ (∃ ys, SqT K H a' ys) ∧ ∃ W1 : Nat → Nat → Hp → Prop, (∃ m, W1 0 m H) ∧ ∀ j k H, W1 j k H →
      ((Itt K a').stop j H ∧ N H) ∨ ((Itt K a').go j H ∧ ∃ Nx1 : Hp → Prop, (∀ H', Nx1 H' → ∃ k', k' < k ∧ W1 (j + 1) k' H') ∧ ∀ x H', (Itt K a').yld j H x H' → g1 x (wipe σ2 vs1) H' fun σ3 H5 => wipe σ3 vs1 = wipe σ2 vs1 ∧ tt1 σ3 H5 fun b H6 =>
        if b = true then te σ3 H6 fun y H7 => ∃ acc, H7 D = some (.lst acc) ∧ acc.length < sizeLine ∧ Nx1 (upd H7 D (.lst (acc ++ [y]))) else Nx1 H6) := by
  refine ⟨a, rfl, ⟨ys, hl 0 acc Ps H (Nat.zero_le _) h0 S⟩, fun i m H => m = ys.length - i ∧ i ≤ ys.length ∧ CN J D i H, ⟨ys.length, (Nat.sub_zero _).symm, Nat.zero_le _, acc, Ps, h0, S⟩, ?_⟩
  rintro i m H ⟨rfl, hi, c⟩
  obtain ⟨acc, Qs, j, T⟩ := id c
  have sq := hl i acc Qs H hi j T
  rcases Nat.lt_or_ge i ys.length with lt | ge
  · refine .inr ⟨⟨ys, ys[i], sq, List.getElem?_eq_getElem lt⟩, CN J D (i + 1), fun H' c' => ⟨ys.length - (i + 1), by omega, rfl, lt, c'⟩, fun x H' ⟨e, y⟩ => ?_⟩
    subst e
    exact hs i x acc Qs _ (y ys sq) j T
  · obtain rfl : i = ys.length := Nat.le_antisymm hi ge
    exact .inl ⟨⟨ys, sq, Nat.le_refl _⟩, hd acc Qs H j T⟩
end
/-! ### comprehensions that make a dict -/
section
variable {K : PySem.W.Frag} {σ : L2.St} {H : Hp} {Q : VK} {a : Addr} {xs : List V} {Ps : List SP} {g : TG} {tt : TT} {tk tv : TE} {wi : TI} {vs : List Nat}
abbrev DW := Nat → List (Key × V) → List SP → Prop
def DN (J : DW) (D : Addr) (i : Nat) : Hp → Prop := fun H => ∃ kvs Ps, J i kvs Ps ∧ Sep (pt D (.dK kvs) :: Ps) H
abbrev DcW (Jt : It) (g : TG) (tt : TT) (tk tv : TE) (vs : List Nat) (Q : VK) (σ : L2.St) (H1 : Hp) : Prop := ∀ D, H1 D = none → ∃ W : Nat → Nat → Hp → Prop, (∃ m, W 0 m (upd H1 D (.dK []))) ∧ ∀ i m H, W i m H →
  (Jt.stop i H ∧ Q (.ref D) H) ∨ (Jt.go i H ∧ ∃ Nx : Hp → Prop, (∀ H', Nx H' → ∃ m', m' < m ∧ W (i + 1) m' H') ∧ ∀ x H', Jt.yld i H x H' → g x (wipe σ vs) H' fun σ2 H2 => wipe σ2 vs = wipe σ vs ∧ tt σ2 H2 fun b H3 =>
    if b = true then tk σ2 H3 fun y H4 => tv σ2 H4 fun z H5 => ∃ kvs k, y = kV k ∧ H5 D = some (.dK kvs) ∧ kvs.length < sizeLine ∧ Nx (upd H5 D (.dK (putK kvs k z))) else Nx H3)
theorem r_tdc (h : wi σ H fun Jt H1 => DcW Jt g tt tk tv vs Q σ H1) : tDc wi g tt tk tv vs σ H Q := h
theorem r_dc_list (J : DW) (S : Sep Ps H) (h0 : J 0 [] Ps) (hl : ∀ D i kvs Ps H, i ≤ xs.length → J i kvs Ps → Sep (pt D (.dK kvs) :: Ps) H → SqL K H a xs) (hl0 : SqL K H a xs)
    (hs : ∀ D i x kvs Ps H, xs[i]? = some x → J i kvs Ps → Sep (pt D (.dK kvs) :: Ps) H → g x (wipe σ vs) H fun σ2 H2 => wipe σ2 vs = wipe σ vs ∧ tt σ2 H2 fun b H3 =>
      if b = true then tk σ2 H3 fun y H4 => tv σ2 H4 fun z H5 => ∃ kvs k, y = kV k ∧ H5 D = some (.dK kvs) ∧ kvs.length < sizeLine ∧ DN J D (i + 1) (upd H5 D (.dK (putK kvs k z))) else DN J D (i + 1) H3)
    (hd : ∀ D kvs Ps H, J xs.length kvs Ps → Sep (pt D (.dK kvs) :: Ps) H → Q (.ref D) H) : ∃ a', V.ref a = .ref a' ∧ (∃ xs, SqL K H a' xs) ∧ DcW (Itl K a') g tt tk tv vs Q σ H := by
  refine ⟨a, rfl, ⟨xs, hl0⟩, fun D nD => ⟨fun i m H => m = xs.length - i ∧ i ≤ xs.length ∧ DN J D i H, ⟨xs.length, (Nat.sub_zero _).symm, Nat.zero_le _, [], Ps, h0, S.new _ nD⟩, ?_⟩⟩
  rintro i m H ⟨rfl, hi, c⟩
  obtain ⟨kvs, Qs, j, T⟩ := id c
  have sq := hl D i kvs Qs H hi j T
  rcases Nat.lt_or_ge i xs.length with lt | ge
  · refine .inr ⟨⟨xs, xs[i], sq, List.getElem?_eq_getElem lt⟩, DN J D (i + 1), fun H' c' => ⟨xs.length - (i + 1), by omega, rfl, lt, c'⟩, fun x H' ⟨e, y⟩ => ?_⟩
    subst e
    exact hs D i x kvs Qs _ (y xs sq) j T
  · obtain rfl : i = xs.length := Nat.le_antisymm hi ge
    exact .inl ⟨⟨xs, sq, Nat.le_refl _⟩, hd D kvs Qs H j T⟩
theorem dn_in {J : DW} {D : Addr} {i : Nat} {kvs : List (Key × V)} {k : Key} {z : V} (S : Sep (pt D (.dK kvs) :: Ps) H) (hl : kvs.length < 100000) (j : J i (putK kvs k z) Ps) : ∃ kvs k', kV k = kV k' ∧ H D = some (.dK kvs) ∧ kvs.length < sizeLine ∧ DN J D i (upd H D (.dK (putK kvs k' z))) :=
  ⟨kvs, k, rfl, S.hd_at, Nat.lt_of_lt_of_le hl (by decide), putK kvs k z, Ps, j, S.hd_set _⟩
theorem valV_snd {kvs : List (Key × V)} {x : Str} : (valV kvs (kS x)).isSome = true ↔ kS x ∈ kvs.map Prod.fst := by
  induction kvs with
  | nil => exact ⟨nofun, nofun⟩
  | cons p l ih =>
    rw [List.map_cons, List.mem_cons]
    by_cases e : p.1 = kS x
    · rw [valV_pos e]
      exact ⟨fun _ => .inl e.symm, fun _ => rfl⟩
    · rw [valV_neg e, ih]
      exact ⟨.inr, fun h => h.resolve_left fun q => e q.symm⟩
theorem r_dinV {p : Str} {kvs : List (Key × V)} {C : List Str} {d : Addr} (e : Rd H d (.dK kvs)) (hC : ∀ x, kS x ∈ kvs.map Prod.fst ↔ x ∈ C) (q : Q (.bl (decide (p ∈ C))) H) : kDIn Q (.str p) (.ref d) H := by
  refine ⟨d, _, rfl, .inl ⟨kvs, kS p, e, rfl, rfl⟩, ?_⟩
  have : (valV kvs (kS p)).isSome = decide (p ∈ C) := by
    rw [Bool.eq_iff_iff, valV_snd, hC, decide_eq_true_eq]
  rw [this]
  exact q
theorem putK_keys {kvs : List (Key × V)} {k j : Key} {z : V} : j ∈ (putK kvs k z).map Prod.fst ↔ j = k ∨ j ∈ kvs.map Prod.fst := by
  unfold putK
  split
  · rename_i h
    rw [List.any_eq_true] at h
    obtain ⟨p, mp, hp⟩ := h
    have hp := of_decide_eq_true hp
    rw [List.map_map]
    have e : (Prod.fst ∘ fun kv : Key × V => if kv.1 = k then (kv.1, z) else kv) = Prod.fst := by
      funext kv
      show (if kv.1 = k then (kv.1, z) else kv).1 = kv.1
      split <;> rfl
    rw [e]
    constructor
    · exact .inr
    · rintro (rfl | h)
      · exact List.mem_map.mpr ⟨p, mp, hp⟩
      · exact h
  · rw [List.map_append, List.mem_append, List.map_cons, List.map_nil, List.mem_singleton, or_comm]
end
/-! ### downwards; dicts with tuple keys -/
section
variable {K : PySem.W.Frag} {σ : L2.St} {H : Hp} {Q : VK} {D : Ends} {d : Addr} {Ps R : List SP} {g : TG} {tb : TS} {n : Nat}
theorem r_irng3 {ta : TA} {R : It → Hp → Prop} (h : ta σ H fun vs H1 => ∃ (i j c : Int) (n : Nat), vs = [.int i, .int j, .int c] ∧ RgC i j c n ∧ R (Itc i c n) H1) : iRng3 ta σ H R := h
/-- over range(n, -1, -1): the turn i has the number n - i -/
theorem r_for_down {e : Int} (J : LW) (S : Sep Ps H) (he : e = (n : Int)) (hn : n ≤ 100000) (h0 : J 0 σ Ps)
    (hs : ∀ (i : Nat) σ Ps H, i ≤ n → J i σ Ps → Sep Ps H → g (.int ((n - i : Nat) : Int)) σ H fun σ2 H2 => tb { D with nx := Nx J (i + 1), ct := Nx J (i + 1), bk := D.nx } σ2 H2) (hd : ∀ σ Ps H, J (n + 1) σ Ps → Sep Ps H → D.nx σ H) :
    ∃ (i j c : Int) (m : Nat), [V.int e, V.int (-1), V.int (-1)] = [.int i, .int j, .int c] ∧ RgC i j c m ∧ ForW (Itc i c m) g tb D σ H := by
  subst he
  refine ⟨n, -1, -1, n + 1, rfl, ?_, for_rangeC (Nx J) ⟨Ps, h0, S⟩ (fun i σ H hi ⟨Ps, j, S⟩ => ?_) fun σ H ⟨Ps, j, S⟩ => hd σ Ps H j S⟩
  · have := RgC.neg (i := (n : Int)) (j := -1) (by omega) (by omega) (by decide) (by decide)
    rw [show ((n : Int) - -1).toNat = n + 1 by omega] at this
    exact this
  · have e : (n : Int) + (i : Nat) * (-1) = ((n - i : Nat) : Int) := by omega
    rw [e]
    exact hs i σ Ps H (by omega) j S
theorem r_dnewT (S : Sep Ps H) (q : ∀ p H', Sep (pt p (.dT []) :: Ps) H' → Q (.ref p) H') : tDNewT σ H Q := fun p np => q p _ (S.new _ np)
theorem r_dgetT {k : List Key} {kvs : List (List Key × V)} {b : Addr} {v : V} (e : H d = some (.dT kvs)) (eb : H b = some (.tup (k.map kV))) (hv : valV kvs k = some v) (q : Q v H) : kDGet Q (.ref d) (.ref b) H :=
  ⟨d, v, rfl, .inr ⟨kvs, k, b, .inl e, rfl, eb, hv.symm⟩, q⟩
theorem r_dputT {k : List Key} {kvs : List (List Key × V)} {b : Addr} {v : V} (S : Sep (pt d (.dT kvs) :: R) H) (eb : H b = some (.tup (k.map kV))) (hl : kvs.length ≤ 100000) (q : ∀ H', Sep (pt d (.dT (putK kvs k v)) :: R) H' → D.nx σ H') : kDPut D σ v (.ref d) (.ref b) H :=
  ⟨d, _, rfl, .inr ⟨kvs, k, b, S.hd_at, rfl, eb, Nat.lt_of_le_of_lt hl (by decide), rfl⟩, q _ (S.hd_set _)⟩
theorem putK_len {κ : Type} [DecidableEq κ] (kvs : List (κ × V)) (k : κ) (v : V) : (putK kvs k v).length ≤ kvs.length + 1 := length_putK kvs k v
end
/-! ### == of data -/
theorem eqv_strs : ∀ l m : List Str, PyData.eqvAll (l.map PyData.str) (m.map PyData.str) = decide (l = m)
  | [], [] => by simp [PyData.eqvAll]
  | [], y :: m => by simp [PyData.eqvAll]
  | x :: l, [] => by simp [PyData.eqvAll]
  | x :: l, y :: m => by
    rw [List.map_cons, List.map_cons, PyData.eqvAll, eqv_strs l m, PyData.eqv]
    by_cases e : x = y
    · subst e
      simp
    · have : (x == y) = false := beq_eq_false_iff_ne.mpr e
      simp [e]
theorem eqv_lv (l m : Lv) : PyData.eqv (dLv l) (dLv m) = decide (l = m) := by
  show PyData.eqv (.tuple _) (.tuple _) = _
  rw [PyData.eqv, eqv_strs]
theorem eqv_lvs : ∀ l m : Od, PyData.eqvAll (l.map dLv) (m.map dLv) = decide (l = m)
  | [], [] => by simp [PyData.eqvAll]
  | [], y :: m => by simp [PyData.eqvAll]
  | x :: l, [] => by simp [PyData.eqvAll]
  | x :: l, y :: m => by
    rw [List.map_cons, List.map_cons, PyData.eqvAll, eqv_lvs l m, eqv_lv]
    by_cases e : x = y
    · subst e
      simp
    · simp [e]
theorem eqv_od (a b : Od) : PyData.eqv (dOd a) (dOd b) = decide (a = b) := by
  show PyData.eqv (.tuple _) (.tuple _) = _
  rw [PyData.eqv, eqv_lvs]
section
variable {K : PySem.W.Frag} {H : Hp} {Q : VK} {x y : V} {k : Nat}
theorem r_eq_lv {l m : Lv} (h1 : Dp K H x (dLv l)) (h2 : Dp K H y (dLv m)) (o1 : Nms l) (o2 : Nms m) (q : Q (.bl (decide (l = m))) H) : rEqA K x y H Q :=
  .inr ⟨_, _, h1, h2, (okd_lv o1).shaped (by decide), (okd_lv o2).shaped (by decide), by rw [eqv_lv]; exact q⟩
theorem r_eq_od {l m : Od} (h1 : Dp K H x (dOd l)) (h2 : Dp K H y (dOd m)) (o1 : Nms l.flatten) (o2 : Nms m.flatten) (q : Q (.bl (decide (l = m))) H) : rEqA K x y H Q :=
  .inr ⟨_, _, h1, h2, (okd_od o1).shaped (by decide), (okd_od o2).shaped (by decide), by rw [eqv_od]; exact q⟩
theorem r_ne_od {l m : Od} (h1 : Dp K H x (dOd l)) (h2 : Dp K H y (dOd m)) (o1 : Nms l.flatten) (o2 : Nms m.flatten) (q : Q (.bl (!decide (l = m))) H) : rNeA K x y H Q :=
  .inr ⟨_, _, h1, h2, (okd_od o1).shaped (by decide), (okd_od o2).shaped (by decide), by rw [eqv_od]; exact q⟩
end
end Kt

set_option Elab.async false
set_option linter.all false
set_option maxRecDepth 100000
namespace Kt
open PySem L2 PyProof.Rows
/-! ### pieces of tuples, as long as may be; pieces from the midst of lists -/
section
variable {K : PySem.W.Frag} {H G : Hp} {Q : VK} {a : Addr} {xs : List V} {Ps R : List SP} {ds : List PyData}
theorem r_preA {n : Nat} (S : Sep Ps H) (s : SqT K H a xs) (q : ∀ p H', Sep Ps H' → SqT K H' p (xs.take n) → Q (.ref p) H') : kSlA K Q (.ref a) none (some (n : Int)) H := by
  rcases Nat.lt_or_ge n xs.length with h | h
  · exact r_preT S s h fun p H' S => q p H' S.tl (SqT.of S.hd_at)
  · have e : HT.sIx xs.length xs.length (some (n : Int)) = xs.length := by
      unfold HT.sIx
      simp only
      rw [if_neg (by omega), Int.toNat_natCast]
      omega
    refine ⟨a, xs, rfl, s, fun _ => q a H S (by rw [List.take_of_length_le h]; exact s), fun z => absurd ⟨rfl, e⟩ z⟩
theorem r_sufA {n : Nat} (S : Sep Ps H) (s : SqT K H a xs) (q : ∀ p H', Sep Ps H' → SqT K H' p (xs.drop n) → Q (.ref p) H') : kSlA K Q (.ref a) (some (n : Int)) none H := by
  by_cases h : 0 < n ∧ 0 < xs.length
  · exact r_sufT S s h.1 h.2 fun p H' S => q p H' S.tl (SqT.of S.hd_at)
  · have e : HT.sIx xs.length 0 (some (n : Int)) = 0 := by
      unfold HT.sIx
      simp only
      rw [if_neg (by omega), Int.toNat_natCast]
      omega
    have e2 : xs.drop n = xs := by
      by_cases z : n = 0
      · subst z; rfl
      · have : xs = [] := List.length_eq_zero_iff.mp (by omega)
        rw [this, List.drop_nil]
    refine ⟨a, xs, rfl, s, fun _ => q a H S (by rw [e2]; exact s), fun z => absurd ⟨e, rfl⟩ z⟩
theorem cut_mid {i j : Nat} (h : i ≤ j) : cutV xs (some (i : Int)) (some (j : Int)) = (xs.take j).drop i := by
  unfold cutV HT.sIx
  simp only
  rw [if_neg (by omega), if_neg (by omega), Int.toNat_natCast, Int.toNat_natCast, List.drop_take]
  rcases Nat.le_total i xs.length with h1 | h1
  · rw [Nat.min_eq_left h1]
    rcases Nat.le_total j xs.length with h2 | h2
    · rw [Nat.min_eq_left h2]
    · rw [Nat.min_eq_right h2, List.take_of_length_le (by rw [List.length_drop]; omega), List.take_of_length_le (by rw [List.length_drop]; omega)]
  · rw [Nat.min_eq_right h1, List.drop_eq_nil_of_le (Nat.le_refl _), List.take_nil, List.drop_eq_nil_of_le h1, List.take_nil]
theorem r_midD {i j : Nat} (S : Sep (hp G :: R) H) (hx : Dp K G (.ref a) (.list ds)) (hij : i ≤ j) (h : ∀ p G' H', Le G G' → LD K G' p ((ds.take j).drop i) → Sep (hp G' :: R) H' → Q (.ref p) H') : kSl K Q (.ref a) (some (i : Int)) (some (j : Int)) H := by
  obtain ⟨a', vs, e, hs, hv⟩ := dp_lstInv hx
  cases e
  refine r_ksl S (hp_sqL S hs) fun p H' S => ?_
  rw [cut_mid hij] at S
  obtain ⟨G', le, hd, S⟩ := hp_LD S (dpall_drop i (dpall_take j hv))
  exact h p G' H' le hd S
end
end Kt

set_option Elab.async false
set_option linter.all false
set_option maxRecDepth 100000
namespace Kt
open PySem L2 PyProof.Rows
/-! ### whole numbers and texts that the top keeps under a name -/
theorem pe_gI {X : Cx} {x : Str} {n : Int} {pos : Pos} (hg : Gl X x) (h : ∃ t, X.mg x = some (.int n t)) (hd : (x == ("__debug__" : Str)) = false := by decide) : PE X (.Name x pos) (tC (.int n)) := by
  obtain ⟨t, e⟩ := h
  exact pe_glob hg e ⟨t, rfl⟩ hd
theorem pe_gS {X : Cx} {x z : Str} {pos : Pos} (hg : Gl X x) (h : ∃ t, X.mg x = some (.str z t)) (hd : (x == ("__debug__" : Str)) = false := by decide) : PE X (.Name x pos) (tC (.str z)) := by
  obtain ⟨t, e⟩ := h
  exact pe_glob hg e ⟨t, rfl⟩ hd
def rInSg : R2 := fun x y H Q => ∃ (c : Nat) (z : Str), x = .str ⟨#[c]⟩ ∧ y = .str z ∧ Q (.bl (decide (c ∈ z.cps.toList))) H
theorem op_inSg {X : Cx} : OpR X (compareOp .In) rInSg := op_in_sign
theorem r_inSg {H : Hp} {Q : VK} {c : Nat} {z : Str} (h : Q (.bl (decide (c ∈ z.cps.toList))) H) : rInSg (.str ⟨#[c]⟩) (.str z) H Q := ⟨c, z, rfl, rfl, h⟩
theorem ty_strX {K : PySem.W.Frag} {H : Hp} {x : Str} : TyX K H (.str x) (.type "str") := .base (.str x)
theorem ty_st {K : PySem.W.Frag} {H : Hp} {a : Addr} {xs : List V} (s : SqT K H a xs) : TyX K H (.ref a) (.type "tuple") := by
  rcases s with (h | ⟨o, h⟩) | ⟨o, its, n, h1, h2, _⟩
  · exact .base (.tup h)
  · exact .fTuple h
  · exact .kTuple h1 h2
/-- isinstance(x, (T, U, ..)): the tuple has just been made -/
theorem r_isiT {K : PySem.W.Frag} {H : Hp} {Q : VK} {x : V} {tp : Addr} {ns : List String} {t : Value} {b : Bool} (e : H tp = some (.tup (ns.map V.ty))) (ty : TyX K H x t) (k : PySem.W.kitAny K t (ns.map Value.type) = some b) (q : Q (.bl b) H) : rIsiT K [x, .ref tp] H Q := by
  refine ⟨x, tp, _, t, _, b, rfl, e, ?_, ty, k, q⟩
  clear e k q ty
  induction ns with
  | nil => exact .nil
  | cons n ns ih => exact .cons (.ty n) ih
theorem r_ixD {K : PySem.W.Frag} {w : World} {H : Hp} {Q : VK} {d : Addr} {x : Str} {v : V} (h : KHas K w d x v) (q : Q v H) : rIxD K w (.ref d) (.str x) H Q := by
  obtain ⟨es, n, u, D, e, r⟩ := h
  exact ⟨d, x, v, rfl, rfl, ⟨es, n, u, D.at_, D.lit, e, r⟩, q⟩
/-! ### pieces of tuples of data -/
section
variable {K : PySem.W.Frag} {H G : Hp} {Q : VK} {a : Addr} {R : List SP} {ds : List PyData}
theorem r_sufD {n : Nat} (S : Sep (hp G :: R) H) (hx : Dp K G (.ref a) (.tuple ds)) (h0 : 0 < n) (hn : 0 < ds.length) (q : ∀ p G' H', Le G G' → Dp K G' (.ref p) (.tuple (ds.drop n)) → Sep (hp G' :: R) H' → Q (.ref p) H') : kSlA K Q (.ref a) (some (n : Int)) none H := by
  obtain ⟨a', xs, e, hs, ha⟩ := dp_tupInv hx
  cases e
  refine r_sufT S (hp_sqT S hs) h0 (by rw [dpall_len ha]; exact hn) fun p H S => ?_
  obtain ⟨G', le, hd, S⟩ := hp_tup S (dpall_drop n ha)
  exact q p G' H le hd S
theorem r_midTD {i j : Nat} (S : Sep (hp G :: R) H) (hx : Dp K G (.ref a) (.tuple ds)) (h0 : 0 < i) (hij : i ≤ j) (hn : 0 < ds.length) (q : ∀ p G' H', Le G G' → Dp K G' (.ref p) (.tuple ((ds.take j).drop i)) → Sep (hp G' :: R) H' → Q (.ref p) H') : kSlA K Q (.ref a) (some (i : Int)) (some (j : Int)) H := by
  obtain ⟨a', xs, e, hs, ha⟩ := dp_tupInv hx
  cases e
  have hl := dpall_len ha
  have ne : HT.sIx xs.length 0 (some (i : Int)) ≠ 0 := by
    unfold HT.sIx
    simp only
    rw [if_neg (by omega), Int.toNat_natCast]
    omega
  refine ⟨a, xs, rfl, hp_sqT S hs, fun h => absurd h.1 ne, fun _ p np => ?_⟩
  rw [cut_mid hij]
  obtain ⟨G', le, hd, S⟩ := hp_tup (S.new _ np) (dpall_drop i (dpall_take j ha))
  exact q p G' _ le hd S
end
/-! ### comprehensions over the signs of a text -/
section
variable {K : PySem.W.Frag} {σ : L2.St} {H : Hp} {Q : VK} {x : Str} {Ps : List SP} {g : TG} {tt : TT} {te : TE} {vs : List Nat}
def kStr (R : It → Hp → Prop) : V → Hp → Prop := fun v H1 => ∃ x, v = .str x ∧ R (Its x) H1
theorem r_istr {R : It → Hp → Prop} {te : TE} (h : te σ H (kStr R)) : iStr te σ H R := h
theorem r_lc_str (J : CW) (S : Sep Ps H) (h0 : J 0 [] Ps)
    (hs : ∀ D (i : Nat) c acc Ps H, x.cps[i]? = some c → J i acc Ps → Sep (pt D (.lst acc) :: Ps) H → g (.str ⟨#[c]⟩) (wipe σ vs) H fun σ2 H2 => wipe σ2 vs = wipe σ vs ∧ tt σ2 H2 fun b H3 =>
      if b = true then te σ2 H3 fun y H4 => ∃ acc, H4 D = some (.lst acc) ∧ acc.length < sizeLine ∧ CN J D (i + 1) (upd H4 D (.lst (acc ++ [y]))) else CN J D (i + 1) H3)
    (hd : ∀ D acc Ps H, J x.cps.size acc Ps → Sep (pt D (.lst acc) :: Ps) H → Q (.ref D) H) : kStr (fun Jt H1 => LcW Jt g tt te vs Q σ H1) (.str x) H := by
  refine ⟨x, rfl, fun D nD => ⟨fun i m H => m = x.cps.size - i ∧ i ≤ x.cps.size ∧ CN J D i H, ⟨x.cps.size, by simp, Nat.zero_le _, [], Ps, h0, S.new _ nD⟩, ?_⟩⟩
  rintro i m H ⟨rfl, hi, acc, Ps, j, S⟩
  by_cases he : i = x.cps.size
  · subst he
    exact .inl ⟨Nat.le_refl _, hd D acc Ps H j S⟩
  · have hlt : i < x.cps.size := by omega
    refine .inr ⟨hlt, CN J D (i + 1), fun H' n => ⟨x.cps.size - (i + 1), by omega, rfl, by omega, n⟩, ?_⟩
    rintro v H' ⟨rfl, c, hc, rfl⟩
    exact hs D i c acc Ps _ hc j S
end
/-! ### comprehensions over range(n - 1, -1, -1) -/
section
variable {K : PySem.W.Frag} {σ : L2.St} {H : Hp} {Q : VK} {n : Nat} {Ps : List SP} {g : TG} {tt : TT} {te : TE} {vs : List Nat}
theorem r_lc_down {e : Int} (J : CW) (S : Sep Ps H) (he : e = (n : Int) - 1) (hn : n ≤ 100000) (h0 : J 0 [] Ps)
    (hs : ∀ D (i : Nat) acc Ps H, i < n → J i acc Ps → Sep (pt D (.lst acc) :: Ps) H → g (.int ((n - 1 - i : Nat) : Int)) (wipe σ vs) H fun σ2 H2 => wipe σ2 vs = wipe σ vs ∧ tt σ2 H2 fun b H3 =>
      if b = true then te σ2 H3 fun y H4 => ∃ acc, H4 D = some (.lst acc) ∧ acc.length < sizeLine ∧ CN J D (i + 1) (upd H4 D (.lst (acc ++ [y]))) else CN J D (i + 1) H3)
    (hd : ∀ D acc Ps H, J n acc Ps → Sep (pt D (.lst acc) :: Ps) H → Q (.ref D) H) : ∃ (i j c : Int) (m : Nat), [V.int e, V.int (-1), V.int (-1)] = [.int i, .int j, .int c] ∧ RgC i j c m ∧ LcW (Itc i c m) g tt te vs Q σ H := by
  subst he
  refine ⟨(n : Int) - 1, -1, -1, n, rfl, ?_, fun D nD => ⟨fun i m H => m = n - i ∧ i ≤ n ∧ CN J D i H, ⟨n, by simp, Nat.zero_le _, [], Ps, h0, S.new _ nD⟩, ?_⟩⟩
  · have := RgC.neg (i := (n : Int) - 1) (j := -1) (by omega) (by omega) (by decide) (by decide)
    rw [show ((n : Int) - 1 - -1).toNat = n by omega] at this
    exact this
  rintro i m H ⟨rfl, hi, acc, Ps, j, S⟩
  by_cases he : i = n
  · subst he
    exact .inl ⟨Nat.le_refl _, hd D acc Ps H j S⟩
  · have hlt : i < n := by omega
    refine .inr ⟨hlt, CN J D (i + 1), fun H' c => ⟨n - (i + 1), by omega, rfl, by omega, c⟩, ?_⟩
    rintro v H' ⟨rfl, rfl⟩
    have e : (n : Int) - 1 + (i : Nat) * (-1) = ((n - 1 - i : Nat) : Int) := by omega
    rw [e]
    exact hs D i acc Ps _ hlt j S
end
/-! ### tuple + tuple, the left one may be empty -/
theorem r_catA {K : PySem.W.Frag} {H : Hp} {Q : VK} {a b : Addr} {xs ys : List V} {Ps : List SP} (S : Sep (pt b (.tup ys) :: Ps) H) (s : SqT K H a xs) (hy : ys ≠ []) (hz : xs.length + ys.length ≤ 100000) (q : ∀ p H', Sep (pt p (.tup (xs ++ ys)) :: Ps) H' → Q (.ref p) H') : rCatA K (.ref a) (.ref b) H Q := by
  refine ⟨a, b, xs, ys, rfl, rfl, s, SqT.of S.hd_at, Nat.le_trans hz (by decide), fun e => ?_, fun _ e => absurd e hy, fun _ _ p np => ?_⟩
  · subst e
    exact q b H S
  · exact q p _ ((S.new _ np).cons_mono fun _ => Sep.tl)
/-! ### a for over range(n - 1, -1, -1); one of two variables -/
section
variable {σ : L2.St} {H : Hp} {Q : VK} {D : Ends} {Ps : List SP} {g : TG} {tb : TS} {n : Nat}
theorem r_for_dn {e : Int} (J : LW) (S : Sep Ps H) (he : e = (n : Int) - 1) (hn : n ≤ 100000) (h0 : J 0 σ Ps)
    (hs : ∀ (i : Nat) σ Ps H, i < n → J i σ Ps → Sep Ps H → g (.int ((n - 1 - i : Nat) : Int)) σ H fun σ2 H2 => tb { D with nx := Nx J (i + 1), ct := Nx J (i + 1), bk := D.nx } σ2 H2) (hd : ∀ σ Ps H, J n σ Ps → Sep Ps H → D.nx σ H) :
    ∃ (i j c : Int) (m : Nat), [V.int e, V.int (-1), V.int (-1)] = [.int i, .int j, .int c] ∧ RgC i j c m ∧ ForW (Itc i c m) g tb D σ H := by
  subst he
  refine ⟨(n : Int) - 1, -1, -1, n, rfl, ?_, for_rangeC (Nx J) ⟨Ps, h0, S⟩ (fun i σ H hi ⟨Ps, j, S⟩ => ?_) fun σ H ⟨Ps, j, S⟩ => hd σ Ps H j S⟩
  · have := RgC.neg (i := (n : Int) - 1) (j := -1) (by omega) (by omega) (by decide) (by decide)
    rw [show ((n : Int) - 1 - -1).toNat = n by omega] at this
    exact this
  · have e : (n : Int) - 1 + (i : Nat) * (-1) = ((n - 1 - i : Nat) : Int) := by omega
    rw [e]
    exact hs i σ Ps H hi j S
theorem r_ifVar {b : Bool} {i j : Nat} {x y v : V} (h1 : σ[i]? = some (some x)) (h2 : σ[j]? = some (some y)) (hv : v = if b = true then x else y) (h : Q v H) : if b = true then tVar i σ H Q else tVar j σ H Q := by
  subst hv
  cases b with
  | true => exact iteT (q_var h1 h)
  | false => exact iteF (q_var h2 h)
end
end Kt

set_option Elab.async false
set_option linter.all false
set_option maxRecDepth 100000
set_option maxHeartbeats 1000000
namespace Kt
open PySem PySem.Spec L2 PyProof.Rows
/-! ### errors as values, read step by step -/
section
variable {K : PySem.W.Frag} {σ : L2.St} {H G G' : Hp} {D : Ends} {Q : VK} {a C d : Addr} {f g : Str} {v y v2 : V} {fs : List (Str × V)} {R : List SP} {te to : TE} {tr : TA} {sp : Sp}
theorem ErO.le (l : Le G H) (h : ErO G a C fs) : ErO H a C fs := h.imp (fun ⟨e, x⟩ => ⟨e, l _ _ x⟩) fun ⟨d, x, y⟩ => ⟨d, l _ _ x, l _ _ y⟩
theorem hp_add2 {p q : Addr} {o u : HO} (S : Sep (pt p o :: pt q u :: hp G :: R) H) : ∃ G', Le G G' ∧ G' p = some o ∧ G' q = some u ∧ Sep (hp G' :: R) H := by
  have S0 := Sep.unflat (As := [pt p o, pt q u, hp G]) S
  obtain ⟨g, l, ⟨g1, l1, h1, g2, l2, h2, g3, l3, h3, _⟩, r⟩ := S0
  exact ⟨g, fun a u e => (sub_some (sub_some (l3 a u (h3 a u e))).2).2, l1 p o h1, (sub_some (l2 q u h2)).2, g, l, fun _ _ e => e, r⟩
def spI (f : Str) (C : Addr) : Sp := fun vs H Q _ => ∃ (a : Addr) (v : V), vs = [.ref a, v] ∧ H a = some (exo a C none) ∧ ∀ d, H d = none → d ≠ a → Q .non (upd (upd H d (exd d [(f, v)])) a (exo a C (some d)))
def spI2 (f g : Str) (C : Addr) : Sp := fun vs H Q _ => ∃ (a : Addr) (v v2 : V), vs = [.ref a, v, v2] ∧ H a = some (exo a C none) ∧ ∀ d, H d = none → d ≠ a → Q .non (upd (upd (upd H d (exd d [(f, v)])) a (exo a C (some d))) d (exd d [(g, v2), (f, v)]))
def kMkV (C : Addr) (sp : Sp) (Q : VK) : List V → Hp → Prop := fun vs H1 => vs.length ≤ 1000 ∧ ∀ a, H1 a = none → sp (.ref a :: vs) (upd H1 a (exo a C none)) (fun v H2 => v = .non ∧ Q (.ref a) H2) E0
theorem r_mkv (h : tr σ H (kMkV C sp Q)) : tMkV C sp tr σ H Q := h
theorem upd_comm {p q : Addr} {o u : HO} (h : p ≠ q) : upd (upd H p o) q u = upd (upd H q u) p o := by
  funext b
  by_cases e : b = q
  · subst e
    rw [upd_same, upd_ne (Ne.symm h), upd_same]
  · rw [upd_ne e]
    by_cases e2 : b = p
    · subst e2
      rw [upd_same, upd_same]
    · rw [upd_ne e2, upd_ne e2, upd_ne e]
theorem r_kmkv (S : Sep (hp G :: R) H) (h : ∀ a G' H', Le G G' → ErO G' a C [(f, v)] → Sep (hp G' :: R) H' → Q (.ref a) H') : kMkV C (spI f C) Q [v] H := by
  refine ⟨by show 1 ≤ 1000; omega, fun a na => ⟨a, v, rfl, upd_same, fun d nd ne => ⟨rfl, ?_⟩⟩⟩
  have nd' : H d = none := by rw [upd_ne ne] at nd; exact nd
  have e : upd (upd (upd H a (exo a C none)) d (exd d [(f, v)])) a (exo a C (some d)) = upd (upd H d (exd d [(f, v)])) a (exo a C (some d)) := by
    rw [upd_comm (Ne.symm ne), upd_upd]
  rw [e]
  have S1 := (S.new (exd d [(f, v)]) nd').new (exo a C (some d)) (p := a) (by rw [upd_ne (Ne.symm ne)]; exact na)
  obtain ⟨G', le, e1, e2, S2⟩ := hp_add2 S1
  exact h a G' _ le (.inr ⟨d, e1, e2⟩) S2
theorem r_kmkv2 (S : Sep (hp G :: R) H) (h : ∀ a G' H', Le G G' → ErO G' a C [(g, v2), (f, v)] → Sep (hp G' :: R) H' → Q (.ref a) H') : kMkV C (spI2 f g C) Q [v, v2] H := by
  refine ⟨by show 2 ≤ 1000; omega, fun a na => ⟨a, v, v2, rfl, upd_same, fun d nd ne => ⟨rfl, ?_⟩⟩⟩
  have nd' : H d = none := by rw [upd_ne ne] at nd; exact nd
  have e : upd (upd (upd (upd H a (exo a C none)) d (exd d [(f, v)])) a (exo a C (some d))) d (exd d [(g, v2), (f, v)]) = upd (upd H d (exd d [(g, v2), (f, v)])) a (exo a C (some d)) := by
    rw [upd_comm (Ne.symm ne), upd_upd, upd_comm (Ne.symm ne), upd_upd]
  rw [e]
  have S1 := (S.new (exd d [(g, v2), (f, v)]) nd').new (exo a C (some d)) (p := a) (by rw [upd_ne (Ne.symm ne)]; exact na)
  obtain ⟨G', le, e1, e2, S2⟩ := hp_add2 S1
  exact h a G' _ le (.inr ⟨d, e1, e2⟩) S2
theorem r_mk0 (S : Sep (hp G :: R) H) (h : ∀ a G' H', Le G G' → ErO G' a C [] → Sep (hp G' :: R) H' → Q (.ref a) H') : tMk0 C σ H Q := fun a na => by
  obtain ⟨G', le, e, S⟩ := hp_add (S.new (exo a C none) na)
  exact h a G' _ le (.inl ⟨rfl, e⟩) S
theorem pe_xfldK {X : Cx} (K : PySem.W.Frag) {e : Expr} {pos : Pos} (he : PE X e te) (hK : X.K = K := by rfl) (hb : attributeBase e f X.env (eval e X.env) = eval e X.env := by rfl) : PE X (.Attribute e f pos) (tXFld K te f) := hK ▸ pe_xfld he hb
def kOst (K : PySem.W.Frag) (f : Str) (y : V) (D : Ends) (σ : L2.St) : V → Hp → Prop := fun x H2 => ∃ a C : Addr, x = .ref a ∧ OexC K C ∧ PySem.W.findIn K (.ref C) f = some none ∧
  ((H2 a = some (exo a C none) ∧ ∀ dx, H2 dx = none → dx ≠ a → D.nx σ (upd (upd H2 dx (exd dx [(f, y)])) a (exo a C (some dx)))) ∨
    ∃ (dx : Addr) (fs : List (Str × V)), H2 a = some (exo a C (some dx)) ∧ H2 dx = some (exd dx fs) ∧ fs.length ≤ 900 ∧ D.nx σ (upd H2 dx (exd dx ((f, y) :: fs))))
theorem r_ost (h : te σ H fun y H1 => to σ H1 (kOst K f y D σ)) : tOst K f to te D σ H := h
theorem r_kost1 (E : ExF K C) (n : PySem.W.findIn K (.ref C) f = some none) (e : H a = some (exo a C none)) (h : ∀ dx, H dx = none → dx ≠ a → D.nx σ (upd (upd H dx (exd dx [(f, y)])) a (exo a C (some dx)))) : kOst K f y D σ (.ref a) H := ⟨a, C, rfl, E.ox, n, .inl ⟨e, h⟩⟩
theorem r_kost2 (E : ExF K C) (n : PySem.W.findIn K (.ref C) f = some none) (e : H a = some (exo a C (some d))) (ed : H d = some (exd d fs)) (hl : fs.length ≤ 900) (h : D.nx σ (upd H d (exd d ((f, y) :: fs)))) : kOst K f y D σ (.ref a) H := ⟨a, C, rfl, E.ox, n, .inr ⟨d, fs, e, ed, hl, h⟩⟩
def kXf (K : PySem.W.Frag) (f : Str) (Q : VK) : V → Hp → Prop := fun x H1 => ∃ (a D d : Addr) (fs : List (Str × V)) (v : V), x = .ref a ∧ ExF K D ∧ PySem.W.findIn K (.ref D) f = some none ∧ H1 a = some (exo a D (some d)) ∧ H1 d = some (exd d fs) ∧ fs.lookup f = some v ∧ Q v H1
theorem r_xfld (h : te σ H (kXf K f Q)) : tXFld K te f σ H Q := h
theorem r_kxf (o : ErO H a C fs) (E : ExF K C) (n : PySem.W.findIn K (.ref C) f = some none) (l : fs.lookup f = some v) (h : Q v H) : kXf K f Q (.ref a) H := by
  rcases o with ⟨e, _⟩ | ⟨d, e1, e2⟩
  · subst e
    cases l
  · exact ⟨a, C, d, fs, v, rfl, E, n, e1, e2, l, h⟩
theorem r_isE {B : Value} {c : V} {b : Bool} (o : ErO H a C fs) (E : ExF K C) (hc : ClsV c B) (k : PySem.W.kitOne K (.ref C) B = some b) (h : Q (.bl b) H) : rIsE K [.ref a, c] H Q := ⟨a, C, fs, c, B, b, rfl, hc, o, E, k, h⟩
end
/-! ### things of any kind -/
def tyNames : List String := ["NoneType", "bool", "int", "str", "tuple", "list", "dict"]
theorem kb_int : ∀ T ∈ tyNames, kitB T "int" = some (decide (T = "int") || decide (T = "bool")) := by decide +kernel
theorem kb_bool : ∀ T ∈ tyNames, kitB T "bool" = some (decide (T = "bool")) := by decide +kernel
theorem kb_str : ∀ T ∈ tyNames, kitB T "str" = some (decide (T = "str")) := by decide +kernel
theorem kb_list : ∀ T ∈ tyNames, kitB T "list" = some (decide (T = "list")) := by decide +kernel
structure Th (K : PySem.W.Frag) (G : Hp) (v : V) (T : String) (d : PyData) : Prop where
  ty : TyX K G v (.type T)
  tn : T ∈ tyNames
  dx : Dx K G v d
  dp : d.depth ≤ 10
  sm : d.leavesShort 64 = true
  wt : d.weight ≤ 2000
  no : noF v = true
  kd : (T = "str" ∧ ∃ x : Str, v = .str x ∧ x.length ≤ 100 ∧ PyData.strOk x = true) ∨ (NoS K G v ∧ T ≠ "str")
section
variable {K : PySem.W.Frag} {G H : Hp} {v : V} {T : String} {d : PyData}
theorem rd_le {a : Addr} {u : HO} (l : Le G H) (h : Rd G a u) : Rd H a u := h.imp (fun e => l _ _ e) fun ⟨o, e⟩ => ⟨o, l _ _ e⟩
theorem Dx.le (l : Le G H) (h : Dx K G v d) : Dx K H v d := by
  cases h with
  | dp h hs hn hz => exact .dp (Dp.le l _ _ h) hs hn hz
  | dct e t => exact .dct (rd_le l e) t
theorem NoS.le (l : Le G H) (h : NoS K G v) : NoS K H v := by
  rcases h with h | h | h | ⟨a, xs, e, h⟩ | ⟨a, xs, e, h⟩ | ⟨a, kvs, e, h⟩
  · exact .inl h
  · exact .inr (.inl h)
  · exact .inr (.inr (.inl h))
  · exact .inr (.inr (.inr (.inl ⟨a, xs, e, SqL.le l h⟩)))
  · exact .inr (.inr (.inr (.inr (.inl ⟨a, xs, e, SqT.le l h⟩))))
  · exact .inr (.inr (.inr (.inr (.inr ⟨a, kvs, e, rd_le l h⟩))))
theorem Th.le (l : Le G H) (h : Th K G v T d) : Th K H v T d := ⟨ty_mono l h.ty, h.tn, h.dx.le l, h.dp, h.sm, h.wt, h.no, h.kd.imp id fun ⟨a, b⟩ => ⟨a.le l, b⟩⟩
theorem dx_sh (h : Dp K G v d) (s : Sh 10 2000 d) : Dx K G v d := .dp h s.sh s.nd (s.fits (by decide))
theorem th_non : Th K G .non "NoneType" .none := ⟨.base .non, by decide, dx_sh .non ⟨okd_non, rfl, rfl, by decide⟩, by decide, rfl, by decide, rfl, .inr ⟨.inl rfl, by decide⟩⟩
theorem th_bl (b : Bool) : Th K G (.bl b) "bool" (.bool b) := ⟨.base (.bl b), by decide, dx_sh (.bl b) ((sh_bl (k := 10) b).up (Nat.le_refl _) (by omega)), by cases b <;> decide, rfl, by cases b <;> decide, rfl, .inr ⟨.inr (.inl ⟨b, rfl⟩), by decide⟩⟩
theorem th_int {i : Int} (h : i.natAbs < 10 ^ 60) : Th K G (.int i) "int" (.int i) :=
  have s := (sh_int (k := 10) h).up (Nat.le_refl _) (show 200 ≤ 2000 by omega)
  ⟨.base (.int i), by decide, dx_sh (.int i) s, s.ok.2, s.sm, s.wt, rfl, .inr ⟨.inr (.inr (.inl ⟨i, rfl⟩)), by decide⟩⟩
theorem th_str {x : Str} (h : PyData.strOk x = true) (hl : x.length ≤ 100) : Th K G (.str x) "str" (.str x) :=
  have s := (sh_txt (k := 10) h hl).up (Nat.le_refl _) (show 100 ≤ 2000 by omega)
  ⟨.base (.str x), by decide, dx_sh (.str x) s, s.ok.2, s.sm, s.wt, rfl, .inl ⟨rfl, x, rfl, hl, h⟩⟩
theorem th_lst {a : Addr} {ds : List PyData} (h : Dp K G (.ref a) (.list ds)) (s : Sh 10 2000 (.list ds)) : Th K G (.ref a) "list" (.list ds) := by
  obtain ⟨a', xs, e, hs, _⟩ := dp_lstInv h
  cases e
  exact ⟨ty_sq hs, by decide, dx_sh h s, s.ok.2, s.sm, s.wt, rfl, .inr ⟨.inr (.inr (.inr (.inl ⟨a, xs, rfl, hs⟩))), by decide⟩⟩
theorem th_tup {a : Addr} {ds : List PyData} (h : Dp K G (.ref a) (.tuple ds)) (s : Sh 10 2000 (.tuple ds)) : Th K G (.ref a) "tuple" (.tuple ds) := by
  obtain ⟨a', xs, e, hs, _⟩ := dp_tupInv h
  cases e
  exact ⟨ty_st hs, by decide, dx_sh h s, s.ok.2, s.sm, s.wt, rfl, .inr ⟨.inr (.inr (.inr (.inr (.inl ⟨a, xs, rfl, hs⟩)))), by decide⟩⟩
theorem th_dct {a : Addr} {kvs : List (Key × V)} {ds : List (PyData × PyData)} (e : G a = some (.dK kvs)) (t : KvD kvs ds) (dp : (PyData.dict ds).depth ≤ 10) (sm : (PyData.dict ds).leavesShort 64 = true) (wt : (PyData.dict ds).weight ≤ 2000) : Th K G (.ref a) "dict" (.dict ds) :=
  ⟨.base (.dK e), by decide, .dct (.inl e) t, dp, sm, wt, rfl, .inr ⟨.inr (.inr (.inr (.inr (.inr ⟨a, kvs, rfl, .inl e⟩)))), by decide⟩⟩
theorem Th.fits (h : Th K G v T d) : d.shown.length ≤ sizeLine := by
  have h1 := PyData.shown_le 64 (by decide) d h.sm
  have h2 : (64 + 2) * d.weight ≤ 66 * 2000 := Nat.mul_le_mul (by omega) h.wt
  have e : sizeLine = 16777216 := by decide
  omega
theorem list_fits : ∀ {ds : List PyData}, (∀ d ∈ ds, d.depth ≤ 10 ∧ d.leavesShort 64 = true ∧ d.weight ≤ 2000) → PyData.depthAll ds ≤ 10 ∧ PyData.leavesShortAll 64 ds = true ∧ PyData.weightAll ds ≤ ds.length * 2001
  | [], _ => ⟨Nat.zero_le _, rfl, Nat.zero_le _⟩
  | d :: ds, h => by
    obtain ⟨h1, h2, h3⟩ := list_fits (ds := ds) fun x m => h x (List.mem_cons_of_mem _ m)
    obtain ⟨g1, g2, g3⟩ := h d List.mem_cons_self
    refine ⟨?_, ?_, ?_⟩
    · rw [PyData.depthAll]; exact Nat.max_le.mpr ⟨g1, h1⟩
    · rw [PyData.leavesShortAll, g2, h2]; rfl
    · rw [PyData.weightAll, List.length_cons, Nat.succ_mul]; omega
theorem list_shown {ds : List PyData} (h : ∀ d ∈ ds, d.depth ≤ 10 ∧ d.leavesShort 64 = true ∧ d.weight ≤ 2000) (hl : ds.length ≤ 50) : PyData.depthAll ds ≤ 50 ∧ (PyData.list ds).shown.length ≤ sizeLine := by
  obtain ⟨h1, h2, h3⟩ := list_fits h
  refine ⟨by omega, ?_⟩
  have g1 := PyData.shown_le 64 (by decide) (.list ds) (by rw [PyData.leavesShort]; exact h2)
  rw [show (PyData.list ds).weight = PyData.weightAll ds from by rw [PyData.weight]] at g1
  have h4 : ds.length * 2001 ≤ 50 * 2001 := Nat.mul_le_mul_right _ hl
  have h5 : (64 + 2) * PyData.weightAll ds ≤ 66 * (50 * 2001) := Nat.mul_le_mul (by omega) (by omega)
  have e : sizeLine = 16777216 := by decide
  omega
end
/-- repr of a thing, of a list of things -/
def cReprT (K : PySem.W.Frag) : List V → Hp → VK → Prop := fun xs H Q => cReprX K xs H Q ∨ ∃ (v : V) (T : String) (d : PyData), xs = [v] ∧ Th K H v T d ∧ Q (.str d.shown) H
theorem call_reprT {X : Cx} (hg : X.A.guards = some []) (hu : X.A.units + 64 < cLine) : CallR X (.builtin "repr") (cReprT X.K) := by
  intro pins s σ H xs us Q I r h
  rcases h with h | ⟨v, T, d, rfl, t, q⟩
  · exact call_reprX hg hu pins s σ H xs us Q I r h
  · have hf := t.fits
    have hd := t.dp
    cases t.dx with
    | dct e kv => 
      refine call_reprX hg hu pins s σ H _ us Q I r (.inr (.inr ⟨_, _, _, rfl, e, kv, ?_, hf, q⟩))
      rw [PyData.depth] at hd
      omega
    | dp h hs hn hz =>
      cases h with
      | non =>
        obtain ⟨u, rfl, r1⟩ := vals1 r
        cases r1
        rw [PyData.shown] at q
        exact PySem.P.repr_of_none ⟨.str _, H, I.tok _, ⟨_, rfl⟩, q⟩
      | bl b =>
        obtain ⟨u, rfl, r1⟩ := vals1 r
        cases r1
        rw [PyData.shown] at q
        exact PySem.P.repr_of_bool ⟨.str _, H, I.tok _, ⟨_, rfl⟩, q⟩
      | int i =>
        obtain ⟨u, rfl, t1, rfl⟩ := vals1 r
        rw [PyData.shown] at q
        rw [PyData.showable] at hs
        exact PySem.P.repr_of_int (of_decide_eq_true hs) ⟨.str _, H, I.tok _, ⟨_, rfl⟩, q⟩
      | str x =>
        obtain ⟨u, rfl, t1, rfl⟩ := vals1 r
        rw [PyData.shown] at q hf
        exact PySem.P.repr_of_str ⟨.str _, H, I.tok _, ⟨_, rfl⟩, q⟩ hf
      | lst s t' => exact call_reprA hg hu pins _ σ H _ us Q I r ⟨_, _, rfl, .lst s t', hs, hn, by omega, hf, q⟩
      | tup s t' => exact call_reprA hg hu pins _ σ H _ us Q I r ⟨_, _, rfl, .tup s t', hs, hn, by omega, hf, q⟩
section
variable {σ : L2.St} {H : Hp} {Q : VK} {te : TE} {tl th : TO} {z : Str} {lo hi : Option Int}
theorem r_slS (h : te σ H fun x H1 => tl σ H1 fun l H2 => th σ H2 fun u H3 => rSlS x l u H3 Q) : tSl rSlS te tl th σ H Q := h
theorem cutS_len : (cutS z lo hi).length ≤ z.length := by
  show (cutS z lo hi).cps.size ≤ z.cps.size
  unfold cutS
  rw [List.size_toArray, ← Array.length_toList (xs := z.cps)]
  exact Nat.le_trans (List.length_take_le' _ _) (by rw [List.length_drop]; omega)
theorem cutS_ok (h : PyData.strOk z = true) : PyData.strOk (cutS z lo hi) = true := by
  unfold PyData.strOk at h ⊢
  rw [← Array.all_toList, List.all_eq_true] at h ⊢
  intro c m
  exact h c (List.mem_of_mem_drop (List.mem_of_mem_take m))
end
/-- an odd value: one that stays, or a list that may yet change -/
def OdL (K : PySem.W.Frag) (G : Hp) (v : V) (Ps : List SP) : Prop := (∃ (T : String) (d : PyData), Ps = [] ∧ Th K G v T d ∧ T ≠ "list") ∨ ∃ (p : Addr) (xs : List V) (ds : List PyData), v = .ref p ∧ Ps = [pt p (.lst xs)] ∧ DpAll K G xs ds ∧ ds.length ≤ 2 ∧ ∀ d ∈ ds, Sh 9 300 d
theorem OdL.le {K : PySem.W.Frag} {G H : Hp} {v : V} {Ps : List SP} (l : Le G H) (h : OdL K G v Ps) : OdL K H v Ps := by
  rcases h with ⟨T, d, e, h, n⟩ | ⟨p, xs, ds, e, e2, h, n, s⟩
  · exact .inl ⟨T, d, e, h.le l, n⟩
  · exact .inr ⟨p, xs, ds, e, e2, DpAll.le l _ _ h, n, s⟩
/-- at rest, it is a thing -/
theorem OdL.rest {K : PySem.W.Frag} {G H : Hp} {v : V} {Ps R : List SP} (h : OdL K G v Ps) (S : Sep (Ps ++ hp G :: R) H) : ∃ T d G', Le G G' ∧ Th K G' v T d ∧ Sep (hp G' :: R) H := by
  rcases h with ⟨T, d, rfl, h, _⟩ | ⟨p, xs, ds, rfl, rfl, h, n, s⟩
  · exact ⟨T, d, G, Le.rfl, h, S⟩
  · obtain ⟨G', le, hd, S⟩ := hp_lst S h
    exact ⟨_, _, G', le, th_lst hd ((sh_list s).up (Nat.le_refl _) (by have : ds.length * 301 ≤ 2 * 301 := Nat.mul_le_mul_right _ n; omega)), S⟩
end Kt
namespace Kt
open PySem PySem.Spec L2 PyProof.Rows
/-- the checks of twenty error classes and their base, in one go -/
def exAll (K : PySem.W.Frag) (bmB : List Value) (c : Nat → Addr) : Bool :=
  ((List.range 21).all fun i => exOk K (c i))
  && ((List.range 20).all fun i => (List.range 20).all fun j => PySem.W.kitOne K (.ref (c i)) (.ref (c j)) == some (decide (i = j)))
  && ((List.range 20).all fun i => PySem.W.kitOne K (.ref (c i)) (.ref (c 20)) == some true)
  && ((List.range 20).all fun i => PySem.W.kitOne K (.ref (c i)) (.type "ValueError") == some true)
  && (PySem.W.kitOne K (.ref (c 20)) (.ref (c 0)) == some false)
  && ((List.range 6).all fun i => PySem.W.excIn K (c (i + 15)) bmB "ValueError.__new__")
structure ExAll (K : PySem.W.Frag) (bmB : List Value) (c : Nat → Addr) : Prop where
  ex : ∀ i, i < 21 → ExF K (c i)
  kk : ∀ i, i < 20 → ∀ j, j < 20 → PySem.W.kitOne K (.ref (c i)) (.ref (c j)) = some (decide (i = j))
  kt : ∀ i, i < 20 → PySem.W.kitOne K (.ref (c i)) (.ref (c 20)) = some true
  kv : ∀ i, i < 20 → PySem.W.kitOne K (.ref (c i)) (.type "ValueError") = some true
  tw : PySem.W.kitOne K (.ref (c 20)) (.ref (c 0)) = some false
  e0 : ∀ i, 15 ≤ i → i < 21 → PySem.W.excIn K (c i) bmB "ValueError.__new__" = true
theorem exAll_of {K : PySem.W.Frag} {bmB : List Value} {c : Nat → Addr} (h : exAll K bmB c = true) : ExAll K bmB c := by
  unfold exAll at h
  simp only [Bool.and_eq_true, List.all_eq_true, List.mem_range, beq_iff_eq] at h
  obtain ⟨⟨⟨⟨⟨a, b⟩, d⟩, e⟩, f⟩, g⟩ := h
  refine ⟨fun i hi => exf_of (a i hi), fun i hi j hj => b i hi j hj, d, e, f, fun i h1 h2 => ?_⟩
  have := g (i - 15) (by omega)
  rwa [show i - 15 + 15 = i by omega] at this
end Kt

set_option Elab.async false
set_option linter.all false
set_option maxRecDepth 100000
namespace Kt
open PySem PySem.Spec L2 PyProof.Rows
/-! ### dict(zip(xs, ys)), d.update(e) -/
theorem zip_rel {P : Program} {w : World} : ∀ {kvs : List (Key × V)} {is js : List Value}, Vals (kvs.map fun kv => kV kv.1) is → Vals (kvs.map (·.2)) js →
    ∃ rs : List (Key × Value), KV kvs rs ∧ rs.length = is.length ∧ rs.length = js.length ∧ ∀ (i : Nat) (key v : Value), is[i]? = some key → js[i]? = some v → ∃ k, rs[i]? = some (k, v) ∧ (mixKind P w).is k key = true
  | [], _, _, r, q => by
    rw [List.map_nil] at r q
    cases r
    cases q
    exact ⟨[], .nil, rfl, rfl, fun i key v h => by cases h⟩
  | p :: kvs, _, _, r, q => by
    rw [List.map_cons] at r q
    cases r with
    | @cons _ a _ as h t =>
      cases q with
      | @cons _ b _ bs h2 t2 =>
        obtain ⟨rs, c, l1, l2, q⟩ := zip_rel (P := P) (w := w) t t2
        refine ⟨(p.1, b) :: rs, .cons ⟨rfl, h2⟩ c, by simp [l1], by simp [l2], fun i key v e1 e2 => ?_⟩
        cases i with
        | zero =>
          cases e1
          cases e2
          exact ⟨p.1, rfl, kV_is h⟩
        | succ i => exact q i key v e1 e2
def tDZip (K : PySem.W.Frag) (ta : TA) : TE := fun σ H Q => ta σ H fun vs H1 => ∃ (a b : Addr) (kvs : List (Key × V)), vs = [.ref a, .ref b] ∧ SqL K H1 a (kvs.map fun kv => kV kv.1) ∧ SqL K H1 b (kvs.map (·.2)) ∧ kvs.length ≤ 100000 ∧
  ∀ p, H1 p = none → Q (.ref p) (upd H1 p (.dK (mergeK [] kvs)))
theorem pe_dzip {X : Cx} {e e2 : Expr} {ta : TA} {p p2 pos pos2 : Pos} (hcalm : X.calm = true) (hgd : Gl X "dict") (hmd : X.mg "dict" = none) (hgz : Gl X "zip") (hmz : X.mg "zip" = none) (ha : PA X [e, e2] ta)
    (hs : starEach [e, e2] X.env = (false, eval e X.env) :: starEach [e2] X.env := by rfl) (hpl : (backTo pos2 (starEach [e2] X.env)).any (·.1) = false := by rfl)
    (hs1 : starEach [.Call (.Name "zip" p2) [e, e2] [] pos2] X.env = (false, eval (.Call (.Name "zip" p2) [e, e2] [] pos2) X.env) :: starEach [] X.env := by rfl)
    (hpl1 : (backTo pos (starEach [] X.env)).any (·.1) = false := by rfl) :
    PE X (.Call (.Name "dict" p) [.Call (.Name "zip" p2) [e, e2] [] pos2] [] pos) (tDZip X.K ta) := by
  refine ⟨fun pins s σ H Q I h => ?_⟩
  refine wpAny_Call_Name_kw (ld_blt I hgd hmd boot_dict ?_ (by decide) (by decide))
  refine PyProof.Rows.callWith_type1 ?_ hs1 hpl1
  rw [hs1]
  show wpAny _ _ (spliced ((false, eval (.Call (.Name "zip" p2) [e, e2] [] pos2) X.env) :: backTo pos (starEach [] X.env))) _ _ s
  refine Calls.spliced_cons ?_
  refine wpAny_Call_Name_kw (ld_blt I hgz hmz PyProof.Rows.boot_zip ?_ (by decide) (by decide))
  refine PyProof.Rows.callWith_type1 (thn (ha.run pos2 pins s σ H _ I h) fun us s1 ⟨vs, H1, I1, r1, q1⟩ => ?_) hs hpl
  obtain ⟨a, b, kvs, ex, hqx, hqy, hl, q⟩ := q1
  subst ex
  cases r1 with
  | cons r rr =>
    cases rr with
    | cons r' rr =>
      cases rr
      cases r
      cases r'
      obtain ⟨its, rv, p1, _⟩ := I1.list hqx
      obtain ⟨its2, rv2, p2', _⟩ := I1.list hqy
      have la : a < s1.heap.objs.size := p1.lt
      have lb : b < s1.heap.objs.size := p2'.lt
      obtain ⟨rs, rel, l1, l2, hrs⟩ := zip_rel (P := X.prog) (w := X.w) rv rv2
      refine call_zip_2 p1.isList p2'.isList fun h' hz hTI hTO h1 h2 hsz hk => Calls.spliced_nil ?_
      refine call_dict_pairs (knd := mixKind X.prog X.w) (kvs := rs) (PairArg.zip _ _ _ _ _ _ _ (PySem.W.ktu_apart s1.heap.objs.size a b la lb) its.toArray its2.toArray) (I.ok.hd hcalm)
        ⟨hz, hTI, ⟨_, _, hTO⟩, h1, h2, p1.isList.at fun o e => hk _ o e, p2'.isList.at fun o e => hk _ o e⟩ ⟨?_, ?_⟩ ?_ fun h'' tk hd' hk' => ?_
      · simp [l1.symm, ← l2]
      · rintro i key v ⟨e1, e2⟩
        exact hrs i key v (by simpa using e1) (by simpa using e2)
      · have h1 := rel.length
        have : sizeLine = 16777216 := by decide
        simp only [List.size_toArray]
        omega
      · have hm : (h'.objs.size == sysModules) = false := beq_eq_false_iff_ne.mpr (Nat.ne_of_gt (Nat.lt_of_lt_of_le I1.big (by rw [hsz]; exact Nat.le_add_right _ _)))
        have hlen : (mergeK [] kvs).length ≤ sizeLine := by
          refine Nat.le_trans (length_mergeK kvs []) ?_
          have : sizeLine = 16777216 := by decide
          rw [List.length_nil]
          omega
        refine ⟨.ref h'.objs.size, upd H1 h'.objs.size (.dK (mergeK [] kvs)), I1.laid (t' := tk) (fun c o e => hk' c o (fun m => ?_) (hk c o e)) (by omega) ⟨hlen, hm, merged [] rs, KV.merge rel .nil, hd'⟩, rfl, q _ (I1.hok.fresh (by omega))⟩
        have hlt := Heap.lt_size e
        have hge : s1.heap.objs.size ≤ c := by
          simp only [List.mem_cons, List.not_mem_nil, or_false] at m
          rcases m with z | z | z | z <;> rw [z] <;> first | exact Nat.le_refl _ | exact Nat.le_add_right _ _
        exact Nat.lt_irrefl _ (Nat.lt_of_lt_of_le hlt hge)
def tDUpd (td ty : TE) : TE := fun σ H Q => td σ H fun x H1 => ∃ a, x = .ref a ∧ IsD H1 a ∧ ty σ H1 fun y H2 => ∃ b kvs more, y = .ref b ∧ a ≠ b ∧ H2 a = some (.dK kvs) ∧ Rd H2 b (.dK more) ∧ kvs.length + more.length ≤ 100000 ∧ Q .non (upd H2 a (.dK (mergeK kvs more)))
theorem pe_dupd {X : Cx} {o e : Expr} {apos cpos : Pos} {td ty : TE} (ho : PE X o td) (he : PE X e ty) (m : M1 X o "update" apos e cpos) : PE X (.Call (.Attribute o "update" apos) [e] [] cpos) (tDUpd td ty) := by
  refine ⟨fun pins s σ H Q I h => ?_⟩
  refine wpAny_Call_method m.base m.few m.line PySem.F.plainAttrs_dict PySem.F.slot_dict_update PySem.F.type_dict_update (thn (ho.run pins s σ H _ I h) fun u s1 ⟨x, H1, I1, rx, a, ex, d, q1⟩ => ?_)
  subst ex
  obtain rfl : u = Value.ref a := rx
  obtain ⟨t1, t2, _⟩ := isD_at I1 d
  refine ⟨t1, t2, ?_⟩
  rw [m.trees]
  refine Calls.callWith_builtin rfl (Calls.evalArgs_plain (Calls.spliced_cons (thn (he.run pins s1 σ H1 _ I1 q1) fun iv s2 ⟨y, H2, I2, ry, b, kvs, more, ey, ne, ea, eb, hl, q2⟩ => Calls.spliced_nil ?_)))
  subst ey
  obtain rfl : iv = Value.ref b := ry
  obtain ⟨z, hd, vs, rel, dd⟩ := dk_of I2.hok ea
  obtain ⟨z2, hd2, vs2, rel2, dd2⟩ := dk_rd I2.hok eb
  have hsz : sizeLine = 16777216 := by decide
  refine call_meetsIn PySem.F.slot_dict_update dd.typeIs PySem.F.entry_dict_update (PySem.F.args_dict_update_2 _ _) (meets_dict_update (mixKind X.prog X.w) a b ne hd2) ⟨vs, vs2, dd, dd2, by rw [← rel.length, ← rel2.length]; omega, fun h' dd' dd2' hs => ?_⟩
  have hz : (mergeK kvs more).length ≤ sizeLine := by
    have := length_mergeK more kvs
    omega
  have hex : ∃ q, h'.get? a = some q := let ⟨q, _, _, hq, _⟩ := dd'; ⟨q, hq⟩
  exact ⟨.non, _, d_write I2 (by rw [ea]; exact True.intro) hs hex (dk_new hz hd (rel2.merge rel) dd'), rfl, q2⟩
end Kt

set_option Elab.async false
set_option linter.all false
set_option maxRecDepth 100000
namespace Kt
open PySem L2 PyProof.Rows
/-! ### dicts whose keys are texts: what stands in them -/
section
variable {β : Type} {f : β → V}
def encG (f : β → V) (l : List (Str × β)) : List (Key × V) := l.map fun e => (kS e.1, f e.2)
theorem encG_len (l : List (Str × β)) : (encG f l).length = l.length := List.length_map ..
theorem encK_G (l : Rk) : encK l = encG V.int l := rfl
def lkG (l : List (Str × β)) (p : Str) : Option β := (l.find? fun e => decide (e.1 = p)).map (·.2)
theorem valV_G (l : List (Str × β)) (p : Str) : valV (encG f l) (kS p) = (lkG l p).map f := by
  unfold valV lkG encG
  rw [List.find?_map]
  have e : ((fun kv : Key × V => decide (kv.1 = kS p)) ∘ fun e : Str × β => (kS e.1, f e.2)) = fun e : Str × β => decide (e.1 = p) := by
    funext e
    exact decide_eq_decide.mpr ⟨fun h => Sum.inr.inj h, fun h => congrArg kS h⟩
  rw [e]
  cases (l.find? fun e => decide (e.1 = p)) <;> rfl
theorem lkG_mem {l : List (Str × β)} {p : Str} {y : β} (h : lkG l p = some y) : (p, y) ∈ l := by
  unfold lkG at h
  cases e : l.find? fun e => decide (e.1 = p) with
  | none => rw [e] at h; cases h
  | some z =>
    rw [e] at h
    have h1 := List.find?_some e
    have h2 := List.mem_of_find?_eq_some e
    obtain ⟨z1, z2⟩ := z
    cases h
    rw [← of_decide_eq_true h1]
    exact h2
/-- the merge of two of them -/
theorem merge_G : ∀ (m l : List (Str × β)), ∃ l', mergeK (encG f l) (encG f m) = encG f l' ∧ ((l.map Prod.fst).Nodup → (l'.map Prod.fst).Nodup) ∧ (∀ e ∈ l', e ∈ l ∨ e ∈ m) ∧ (∀ p, p ∈ l'.map Prod.fst ↔ p ∈ l.map Prod.fst ∨ p ∈ m.map Prod.fst) ∧ l'.length ≤ l.length + m.length
  | [], l => ⟨l, rfl, id, fun e h => .inl h, fun p => ⟨.inl, fun z => z.elim id fun y => by cases y⟩, by simp⟩
  | (p, v) :: m, l => by
    by_cases h : p ∈ l.map Prod.fst
    · have e1 : putK (encG f l) (kS p) (f v) = encG f (l.map fun e => if e.1 = p then (e.1, v) else e) := by
        unfold putK
        rw [if_pos]
        · unfold encG
          rw [List.map_map, List.map_map]
          refine List.map_congr_left fun e m => ?_
          show (if kS e.1 = kS p then (kS e.1, f v) else (kS e.1, f e.2)) = (kS (if e.1 = p then (e.1, v) else e).1, f (if e.1 = p then (e.1, v) else e).2)
          by_cases z : e.1 = p
          · rw [if_pos (congrArg kS z), if_pos z]
          · rw [if_neg (fun (y : kS e.1 = kS p) => z (Sum.inr.inj y)), if_neg z]
        · obtain ⟨e, me, he⟩ := List.mem_map.mp h
          exact List.any_eq_true.mpr ⟨(kS e.1, f e.2), List.mem_map.mpr ⟨e, me, rfl⟩, decide_eq_true (congrArg kS he)⟩
      have keys : (l.map fun e => if e.1 = p then (e.1, v) else e).map Prod.fst = l.map Prod.fst := by
        rw [List.map_map]
        refine List.map_congr_left fun e m => ?_
        show (if e.1 = p then (e.1, v) else e).1 = e.1
        split <;> rfl
      obtain ⟨l', a, b, c, d, g⟩ := merge_G m (l.map fun e => if e.1 = p then (e.1, v) else e)
      refine ⟨l', ?_, fun n => b (by rw [keys]; exact n), fun e he => ?_, fun q => ?_, by rw [List.length_map] at g; rw [List.length_cons]; omega⟩
      · show mergeK (putK (encG f l) (kS p) (f v)) (encG f m) = _
        rw [e1, a]
      · rcases c e he with z | z
        · obtain ⟨y, my, rfl⟩ := List.mem_map.mp z
          by_cases k : y.1 = p
          · rw [if_pos k, k]
            exact .inr List.mem_cons_self
          · rw [if_neg k]
            exact .inl my
        · exact .inr (List.mem_cons_of_mem _ z)
      · rw [d q, keys, List.map_cons, List.mem_cons]
        constructor
        · rintro (z | z)
          · exact .inl z
          · exact .inr (.inr z)
        · rintro (z | rfl | z)
          · exact .inl z
          · exact .inl h
          · exact .inr z
    · have e1 : putK (encG f l) (kS p) (f v) = encG f (l ++ [(p, v)]) := by
        unfold putK
        rw [if_neg]
        · unfold encG
          rw [List.map_append]
          rfl
        · intro q
          obtain ⟨kv, m, hd⟩ := List.any_eq_true.mp q
          obtain ⟨e, me, rfl⟩ := List.mem_map.mp m
          exact h (Sum.inr.inj (of_decide_eq_true hd) ▸ List.mem_map_of_mem (f := Prod.fst) me)
      obtain ⟨l', a, b, c, d, g⟩ := merge_G m (l ++ [(p, v)])
      refine ⟨l', ?_, fun n => b ?_, fun e he => ?_, fun q => ?_, by rw [List.length_append] at g; rw [List.length_cons]; simp at g; omega⟩
      · show mergeK (putK (encG f l) (kS p) (f v)) (encG f m) = _
        rw [e1, a]
      · rw [List.map_append]
        exact List.nodup_append.mpr ⟨n, by simp, fun x mx y my e => h (by rw [List.mem_singleton.mp my] at e; have e : x = p := e; exact e ▸ mx)⟩
      · rcases c e he with z | z
        · rcases List.mem_append.mp z with z | z
          · exact .inl z
          · exact .inr (List.mem_cons.mpr (.inl (List.mem_singleton.mp z)))
        · exact .inr (List.mem_cons_of_mem _ z)
      · rw [d q, List.map_append, List.mem_append]
        show (_ ∨ q ∈ [p]) ∨ _ ↔ _ ∨ q ∈ p :: m.map Prod.fst
        rw [List.mem_singleton, List.mem_cons, or_assoc]
end
section
variable {K : PySem.W.Frag} {σ : L2.St} {G H : Hp} {Q : VK} {d b : Addr} {kvs : List (Key × V)} {ty tx : TE} {x y z : V} {R Ps : List SP} {p : Str} {l : Rk} {ls : List (Str × Str)} {iv : Nat}
theorem encG_pr {β : Type} {f : β → V} {en : β → PyData} (hf : ∀ {v y}, Dp K G v (en y) → v = f y) : ∀ {l : List (Str × β)} {vs : List V}, DpAll K G vs (l.map fun e => PyData.tuple [.str e.1, en e.2]) → ∃ ps : List Addr, vs = ps.map V.ref ∧ Paired (fun p kv => SqT K G p [kV kv.1, kv.2]) ps (encG f l)
  | [], vs, h => by cases h; exact ⟨[], rfl, .nil⟩
  | e :: l, vs, h => by
    cases h with
    | cons h t =>
      obtain ⟨ps, rfl, pp⟩ := encG_pr (f := f) (en := en) hf t
      obtain ⟨a, xs, rfl, hs, ha⟩ := dp_tupInv (ds := [.str e.1, en e.2]) h
      cases ha with
      | cons h1 t1 =>
        cases t1 with
        | cons h2 t2 =>
          cases t2
          cases dp_strInv h1
          rw [hf h2] at hs
          exact ⟨a :: ps, rfl, .cons hs pp⟩
/-- dict(xs) of a list of pairs, keys may come twice -/
theorem r_dictG {β : Type} {f : β → V} {en : β → PyData} (hf : ∀ {v y}, Dp K G v (en y) → v = f y) {l : List (Str × β)} {a : Addr} (S : Sep (hp G :: R) H) (h : Dp K G (.ref a) (.list (l.map fun e => PyData.tuple [.str e.1, en e.2])))
    (q : ∀ p l' H', (l'.map Prod.fst).Nodup → (∀ e ∈ l', e ∈ l) → (∀ k, k ∈ l'.map Prod.fst ↔ k ∈ l.map Prod.fst) → l'.length ≤ l.length → Sep (pt p (.dK (encG f l')) :: hp G :: R) H' → Q (.ref p) H') : rDictP K [.ref a] H Q := by
  obtain ⟨a', vs, e, hs, hx⟩ := dp_lstInv h
  cases e
  obtain ⟨ps, rfl, hpp⟩ := encG_pr (f := f) (en := en) hf hx
  refine ⟨a, ps, encG f l, rfl, hp_sqL S hs, paired_imp (fun p kv => hp_sqT S) hpp, fun p np => ?_⟩
  obtain ⟨l', e, n, c, k, g⟩ := merge_G (f := f) l []
  rw [show mergeK [] (encG f l) = encG f l' from e]
  exact q p l' _ (n List.nodup_nil) (fun e m => (c e m).elim (fun z => by cases z) id) (fun x => (k x).trans ⟨fun z => z.elim (fun y => by cases y) id, .inr⟩) (by simpa using g) (S.new _ np)
def kDG (Q : VK) (d : Addr) (y z : V) (H : Hp) : Prop := ∃ o, DGet H d y o ∧ Q (o.getD z) H
theorem r_dget2 (hv : σ[iv]? = some (some (.ref d))) (e : Rd H d (.dK kvs)) (h : ty σ H fun y H2 => tx σ H2 fun z H3 => kDG Q d y z H3) : tDGet2 (tVar iv) ty tx σ H Q := q_var hv ⟨d, rfl, .inl ⟨kvs, e⟩, h⟩
theorem r_dget1 (hv : σ[iv]? = some (some (.ref d))) (e : Rd H d (.dK kvs)) (h : ty σ H fun y H2 => kDG Q d y .non H2) : tDGet1 (tVar iv) ty σ H Q := q_var hv ⟨d, rfl, .inl ⟨kvs, e⟩, h⟩
theorem r_dgS (e : Rd H d (.dK (encG V.str ls))) (q : Q (.str ((lkG ls p).getD p)) H) : kDG Q d (.str p) (.str p) H := by
  refine ⟨_, .inl ⟨_, kS p, e, rfl, rfl⟩, ?_⟩
  rw [valV_G]
  cases h : lkG ls p with
  | none => rw [h] at q; exact q
  | some y => rw [h] at q; exact q
theorem r_dgK (e : Rd H d (.dK (encK l))) (q : Q (vOptI (rkGet l p)) H) : kDG Q d (.str p) .non H := by
  refine ⟨_, .inl ⟨_, kS p, e, rfl, rfl⟩, ?_⟩
  rw [valV_enc]
  cases h : rkGet l p with
  | none => rw [h] at q; exact q
  | some y => rw [h] at q; exact q
def kDUpd (Q : VK) (d : Addr) (y : V) (H2 : Hp) : Prop := ∃ b kvs more, y = .ref b ∧ d ≠ b ∧ H2 d = some (.dK kvs) ∧ Rd H2 b (.dK more) ∧ kvs.length + more.length ≤ 100000 ∧ Q .non (upd H2 d (.dK (mergeK kvs more)))
theorem r_dupd (hv : σ[iv]? = some (some (.ref d))) (e : Rd H d (.dK kvs)) (h : ty σ H fun y H2 => kDUpd Q d y H2) : tDUpd (tVar iv) ty σ H Q := q_var hv ⟨d, rfl, .inl ⟨kvs, e⟩, h⟩
theorem r_updS {l m : List (Str × Str)} (S : Sep (pt d (.dK (encG V.str l)) :: pt b (.dK (encG V.str m)) :: R) H) (hl : l.length + m.length ≤ 1000)
    (q : ∀ l' H', ((l.map Prod.fst).Nodup → (l'.map Prod.fst).Nodup) → (∀ e ∈ l', e ∈ l ∨ e ∈ m) → l'.length ≤ l.length + m.length → Sep (pt d (.dK (encG V.str l')) :: pt b (.dK (encG V.str m)) :: R) H' → Q .non H') : kDUpd Q d (.ref b) H := by
  obtain ⟨l', e, n, c, k, g⟩ := merge_G (f := V.str) m l
  refine ⟨b, _, _, rfl, S.ne, S.hd_at, .inl S.tl.hd_at, by rw [encG_len, encG_len]; omega, ?_⟩
  rw [e]
  exact q l' _ n c g (S.hd_set _)
theorem r_dzip {ta : TA} (h : ta σ H fun vs H1 => ∃ (a b : Addr) (kvs : List (Key × V)), vs = [.ref a, .ref b] ∧ SqL K H1 a (kvs.map fun kv => kV kv.1) ∧ SqL K H1 b (kvs.map (·.2)) ∧ kvs.length ≤ 100000 ∧
  ∀ p, H1 p = none → Q (.ref p) (upd H1 p (.dK (mergeK [] kvs)))) : tDZip K ta σ H Q := h
end
/-! ### comprehensions over enumerate of a list -/
section
variable {K : PySem.W.Frag} {σ : L2.St} {H : Hp} {Q : VK} {a : Addr} {xs : List V} {Ps : List SP} {g : TG} {tt : TT} {te : TE} {vs : List Nat}
theorem r_lc_enum (J : CW) (S : Sep Ps H) (h0 : J 0 [] Ps) (hl : ∀ D i acc Ps H, J i acc Ps → Sep (pt D (.lst acc) :: Ps) H → SqL K H a xs) (hl0 : SqL K H a xs)
    (hs : ∀ D (i : Nat) x T acc Ps H, xs[i]? = some x → J i acc Ps → Sep (pt T (.tup [.int (i : Nat), x]) :: pt D (.lst acc) :: Ps) H → g (.ref T) (wipe σ vs) H fun σ2 H2 => wipe σ2 vs = wipe σ vs ∧ tt σ2 H2 fun b H3 =>
      if b = true then te σ2 H3 fun y H4 => ∃ acc, H4 D = some (.lst acc) ∧ acc.length < sizeLine ∧ CN J D (i + 1) (upd H4 D (.lst (acc ++ [y]))) else CN J D (i + 1) H3)
    (hd : ∀ D acc Ps H, J xs.length acc Ps → Sep (pt D (.lst acc) :: Ps) H → Q (.ref D) H) : kEnum K (fun Jt H1 => LcW Jt g tt te vs Q σ H1) [.ref a] H := by
  refine ⟨a, xs, rfl, hl0, fun D nD => ⟨fun i m H => m = xs.length - i ∧ i ≤ xs.length ∧ CN J D i H, ⟨xs.length, by simp, Nat.zero_le _, [], Ps, h0, S.new _ nD⟩, ?_⟩⟩
  rintro i m H ⟨rfl, hi, acc, Ps, j, S⟩
  by_cases he : i = xs.length
  · subst he
    exact .inl ⟨⟨xs, hl D _ acc Ps H j S, Nat.le_refl _⟩, hd D acc Ps H j S⟩
  · have hlt : i < xs.length := by omega
    refine .inr ⟨⟨xs, xs[i], hl D _ acc Ps H j S, List.getElem?_eq_getElem hlt⟩, CN J D (i + 1), fun H' n => ⟨xs.length - (i + 1), by omega, rfl, by omega, n⟩, ?_⟩
    rintro x H' ⟨T, y, rfl, hT, rfl, hy⟩
    exact hs D i y T acc Ps _ (hy xs (hl D _ acc Ps H j S)) j (S.new _ hT)
end
end Kt

set_option Elab.async false
set_option linter.all false
set_option maxRecDepth 100000
set_option maxHeartbeats 4000000
namespace Pf
open PySem L2 Kt
set_option hygiene false
local macro_rules | `(tactic| walk_at "mem") => `(tactic| (with_reducible (repeat (first | exact Pick.hd | apply Pick.tl)); done))
local macro_rules | `(tactic| walk_at "rep") => `(tactic| (with_reducible (repeat (first | exact Repl.hd | apply Repl.tl)); done))
local macro_rules | `(tactic| walk_at "sel") => `(tactic| ((repeat (with_reducible apply Sel.cons; (focus walk_at "mem"))); (with_reducible apply Sel.nil); (with_reducible (repeat (first | exact Dr.all | apply Dr.skip)); done)))
local macro_rules | `(tactic| walk_at "at") => `(tactic| (refine' Sep.at_ (by assumption) ?kkpk; (case kkpk => walk_at "mem")))
local macro_rules | `(tactic| walk_at "sq") => `(tactic| first | assumption | (refine' Sep.sq (by assumption) ?kkpk; (case kkpk => walk_at "mem")))
local macro_rules | `(tactic| walk_at "st") => `(tactic| first | assumption | (refine' Sep.st (by assumption) ?kkpk; (case kkpk => walk_at "mem")))
local macro_rules | `(tactic| walk_at "lk") => `(tactic| (repeat (first | (with_reducible exact lk_eq) | exact rfl | refine (lk_ne (by decide +kernel)).trans ?_)))
local macro_rules | `(tactic| walk_at "pf") => `(tactic| (repeat (first | (with_reducible exact pf_nil) | (with_reducible exact pf_eq) | (apply pf_ne; (focus decide +kernel)))))
local macro_rules | `(tactic| walk_at "ty") => `(tactic| first | exact ty_int | (refine' ty_lst ?kkh; (case kkh => walk_at "at")))
local macro_rules | `(tactic| walk_at "k1") => `(tactic| with_reducible first
  | refine q_seq ?_ | refine q_set ?_ | refine q_asg ?_ | refine q_ret ?_ | refine q_drop ?_ | refine q_next ?_ | refine q_c ?_ | refine q_op ?_ | refine q_un ?_ | refine q_nil ?_ | refine q_cons ?_ | refine q_cb ?_
  | refine q_call ?_ | refine q_ifs ?_ | refine q_if ?_ | refine q_test ?_ | refine q_tb ?_ | refine q_bl ?_ | refine q_notT ?_ | refine q_andT ?_ | refine q_orT ?_ | refine q_andV ?_ | refine q_orV ?_ | refine q_notV ?_
  | refine q_addA ?_ | refine q_subI ?_ | refine q_ltI ?_ | refine q_leI ?_ | refine q_gtI ?_ | refine q_geI ?_ | refine q_eqI ?_ | refine q_neI ?_ | refine q_abs ?_ | refine q_int ?_ | refine q_intB ?_ | refine q_max ?_ | refine q_min ?_
  | refine q_ipAdd ?_ | refine q_ipSub ?_ | refine q_gsub ?_ | refine q_augs ?_ | refine q_lst ?_ | refine q_tup ?_ | refine q_blI ?_ | refine iteT ?_ | refine iteF ?_ | refine iteNT ?_ | refine iteNF ?_
  | refine r_prop ?_ | refine r_fld ?_ | refine r_sfld ?_ | refine r_meth ?_ | refine r_make ?_ | refine r_sl ?_ | refine r_nopart ?_ | refine r_part ?_ | refine r_parti ?_ | refine r_gsl ?_ | refine r_bm ?_ | refine r_bm0 ?_ | refine r_for ?_ | refine r_ilist ?_ | refine r_irng ?_
  | refine r_gname ?_ | refine r_gcons ?_ | refine r_gnil ?_ | refine r_par ?_ | refine r_parA ?_ | refine r_chain ?_ | refine r_isN ?_ | refine r_tlc ?_ | refine r_yes ?_ | refine r_makek ?_ | refine r_neg ?_)
local macro_rules | `(tactic| walk_at "k2") => `(tactic| first
  | ((with_reducible refine' q_var ?kke ?_); (case kke => rfl))
  | ((with_reducible refine' q_aug ?kke ?_); (case kke => rfl))
  | ((with_reducible refine' q_ixL ?kks ?kke ?_); (case kks => walk_at "sq"); (case kke => first | rfl | assumption))
  | ((with_reducible refine' q_ixT ?kks ?kke ?_); (case kks => walk_at "st"); (case kke => first | rfl | assumption))
  | ((with_reducible refine' q_ixLL ?kks ?kke ?_); (case kks => walk_at "sq"); (case kke => first | rfl | assumption))
  | ((with_reducible refine' q_lenL ?kks ?_); (case kks => walk_at "sq"))
  | ((with_reducible refine' q_mulI ?kkc ?_); (case kkc => first | exact .inl (by omega) | exact .inr (by omega)))
  | ((with_reducible refine' q_modI ?kkc ?_); (case kkc => omega))
  | ((with_reducible refine' q_divI ?kkc ?_); (case kkc => exact ⟨by omega, by omega⟩))
  | ((with_reducible refine' q_powI ?kkc ?_); (case kkc => exact ⟨by decide, by decide, by decide⟩))
  | ((with_reducible refine' r_kfld ?kkS ?kkp ?kkc ?kkn ?kkl ?_); (case kkS => assumption); (case kkp => walk_at "mem"); (case kkc => walk_at "cls"); (case kkn => walk_at "na"); (case kkl => walk_at "lk"))
  | ((with_reducible refine' r_kprop ?kkS ?kkp ?_); (case kkS => assumption); (case kkp => walk_at "mem"))
  | ((with_reducible refine' r_kmeth ?kkS ?kkp ?kkl ?_); (case kkS => assumption); (case kkp => walk_at "mem"); (case kkl => walk_at "lk"))
  | ((with_reducible refine' r_calll ?kks ?_); (case kks => rfl))
  | ((with_reducible refine' r_tyl ?kks ?_); (case kks => walk_at "sq"))
  | ((with_reducible refine' r_isi (k := true) ?kkt ?kke ?_); (case kkt => walk_at "ty"); (case kke => decide +kernel))
  | ((with_reducible refine' r_isi (k := false) ?kkt ?kke ?_); (case kkt => walk_at "ty"); (case kke => decide +kernel)))
local macro_rules | `(tactic| walk_at "k3") => `(tactic| first
  | ((with_reducible refine' q_setS ?kkS ?kkr ?kke ?_); (case kkS => assumption); (case kkr => walk_at "rep"); (case kke => rfl); intro H S)
  | ((with_reducible refine' r_kset ?kkS ?kkr ?kkc ?kkn ?kkl ?kke ?_); (case kkS => assumption); (case kkr => walk_at "rep"); (case kkc => walk_at "cls"); (case kkn => walk_at "na"); (case kkl => first | exact Nat.le_of_ble_eq_true rfl | assumption | omega | (simp; done) | (simp; omega)); (case kke => walk_at "pf"); intro H S)
  | ((with_reducible refine' q_new ?kkS ?kkl ?_); (case kkS => assumption); (case kkl => first | exact Nat.le_of_ble_eq_true rfl | assumption | omega | (simp; done) | (simp; omega)); intro p H S)
  | ((with_reducible refine' q_newT ?kkS ?kkl ?_); (case kkS => assumption); (case kkl => first | exact Nat.le_of_ble_eq_true rfl | assumption | omega | (simp; done) | (simp; omega)); intro p H S)
  | ((with_reducible refine' r_knew ?kkS ?_); (case kkS => assumption); intro x dx H S)
  | ((with_reducible refine' r_knewk ?kkS ?kkl1 ?kkl2 ?_); (case kkS => assumption); (case kkl1 => rfl); (case kkl2 => rfl); intro x dx H S)
  | ((with_reducible refine' r_ksl ?kkS ?kks ?_); (case kkS => assumption); (case kks => walk_at "sq"); intro p H S)
  | ((with_reducible refine' r_list ?kkS ?kks ?_); (case kkS => assumption); (case kks => walk_at "sq"); intro p H S)
  | ((with_reducible refine' r_cat ?kkS ?kks1 ?kks2 ?kkz ?_); (case kkS => assumption); (case kks1 => walk_at "at"); (case kks2 => walk_at "at"); (case kkz => first | omega | (simp; omega)); intro p H S)
  | ((with_reducible refine' r_append ?kkS ?kkr ?kkz ?_); (case kkS => assumption); (case kkr => walk_at "rep"); (case kkz => first | omega | (simp; omega)); intro H S)
  | ((with_reducible refine' r_reverse ?kkS ?kkr ?_); (case kkS => assumption); (case kkr => walk_at "rep"); intro H S)
  | ((with_reducible refine' r_clear ?kkS ?kkr ?_); (case kkS => assumption); (case kkr => walk_at "rep"); intro H S))
local macro_rules | `(tactic| walk_at "gn") => `(tactic| repeat (first | walk_at "k1" | walk_at "k2"))
local macro_rules | `(tactic| walk_at "go") => `(tactic| repeat (first | walk_at "k1" | walk_at "k2" | walk_at "k3"))

local macro_rules | `(tactic| walk_at "sq") => `(tactic| first | assumption | (refine' Sep.sq ?kkS ?kkpk; (case kkS => assumption); (case kkpk => walk_at "mem")) | (refine' hp_sqL ?kkS ?kkx; (case kkS => assumption); (case kkx => assumption)) | (refine' hp_sqL (Sep.tl ?kkS) ?kkx; (case kkS => assumption); (case kkx => assumption)) | (refine' hp_sqL (Sep.tl (Sep.tl ?kkS)) ?kkx; (case kkS => assumption); (case kkx => assumption)))
local macro_rules | `(tactic| walk_at "st") => `(tactic| first | assumption | (refine' Sep.st ?kkS ?kkpk; (case kkS => assumption); (case kkpk => walk_at "mem")) | (refine' hp_sqT ?kkS ?kkx; (case kkS => assumption); (case kkx => assumption)) | (refine' hp_sqT (Sep.tl ?kkS) ?kkx; (case kkS => assumption); (case kkx => assumption)) | (refine' hp_sqT (Sep.tl (Sep.tl ?kkS)) ?kkx; (case kkS => assumption); (case kkx => assumption)))
local macro_rules | `(tactic| walk_at "k1") => `(tactic| with_reducible first | refine r_ienumT ?_ | refine r_tru ?_ | refine r_itup ?_ | refine r_star ?_ | refine r_par3 ?_ | refine r_parA3 ?_ | refine r_dget ?_ | refine r_din ?_ | refine r_dnotin ?_ | refine r_dput ?_)

local macro_rules | `(tactic| walk_at "k1") => `(tactic| with_reducible first | refine r_kget ?_ | refine r_orT ?_ | refine r_slA ?_ | refine r_m1 ?_ | refine r_isS ?_ | refine r_istr ?_ | refine r_mkv ?_ | refine r_ost ?_ | refine r_xfld ?_)
local macro_rules | `(tactic| walk_at "k1") => `(tactic| with_reducible refine r_slS ?_)
local macro_rules | `(tactic| walk_at "k3") => `(tactic| ((with_reducible refine' r_cat ?kkS ?kks1 ?kks2 ?kkz ?_); (case kkS => assumption); (case kks1 => walk_at "at"); (case kks2 => walk_at "at"); (case kkz => first | exact Nat.le_of_ble_eq_true rfl | (simp; done) | omega); intro p H S))
local macro_rules | `(tactic| walk_at "k3") => `(tactic| ((with_reducible refine' r_append ?kkS ?kkr ?kkz ?_); (case kkS => assumption); (case kkr => walk_at "rep"); (case kkz => first | assumption | exact Nat.le_of_ble_eq_true rfl | (simp; done) | omega); intro H S))

def top (i : Nat) : Stmt := PySem.Challenge.pw_sparetails_k10_errors_and_kinds.main.body.getD i (.Pass ⟨0, 0, 0, 0⟩)
abbrev s_is_integer : Stmt := top 4
abbrev N_is_integer : List Str := ["thing"]
abbrev s_is_name : Stmt := top 5
abbrev N_is_name : List Str := ["thing", "letter"]
abbrev s_is_number : Stmt := top 6
abbrev N_is_number : List Str := ["many", "thing"]
abbrev s_is_growing : Stmt := top 7
abbrev N_is_growing : List Str := ["thing"]
abbrev s_Wrong_init : Stmt := inClass (top 10) 0
abbrev N_Wrong_init : List Str := ["self", "place"]
abbrev s_BadStatement_init : Stmt := inClass (top 11) 0
abbrev N_BadStatement_init : List Str := ["self", "function", "address"]
abbrev s_Endless_init : Stmt := inClass (top 12) 0
abbrev N_Endless_init : List Str := ["self", "function"]
abbrev s_Unknown_init : Stmt := inClass (top 13) 0
abbrev N_Unknown_init : List Str := ["self", "name"]
abbrev s_NoCell_init : Stmt := inClass (top 14) 0
abbrev N_NoCell_init : List Str := ["self", "at"]
abbrev s_BadRoom_init : Stmt := inClass (top 15) 0
abbrev N_BadRoom_init : List Str := ["self", "size"]
abbrev s_Unfit_init : Stmt := inClass (top 17) 0
abbrev N_Unfit_init : List Str := ["self", "at"]
abbrev s_NoArray_init : Stmt := inClass (top 18) 0
abbrev N_NoArray_init : List Str := ["self", "index"]
abbrev s_Broken_init : Stmt := inClass (top 19) 0
abbrev N_Broken_init : List Str := ["self", "at"]
abbrev s_NoPlace_init : Stmt := inClass (top 20) 0
abbrev N_NoPlace_init : List Str := ["self", "place"]
abbrev s_TooMany_init : Stmt := inClass (top 21) 0
abbrev N_TooMany_init : List Str := ["self", "limit"]
abbrev s_NoFunction_init : Stmt := inClass (top 22) 0
abbrev N_NoFunction_init : List Str := ["self", "name"]
abbrev s_Full_init : Stmt := inClass (top 24) 0
abbrev N_Full_init : List Str := ["self", "limit"]
abbrev s_Refused_init : Stmt := inClass (top 26) 0
abbrev N_Refused_init : List Str := ["self", "deed"]
abbrev s_NoEntry_init : Stmt := inClass (top 27) 0
abbrev N_NoEntry_init : List Str := ["self", "many"]
abbrev s_l_bag : Stmt := top 31
abbrev N_l_bag : List Str := ["_law_script", "_law_cell"]
abbrev s_l_take : Stmt := top 32
abbrev N_l_take : List Str := ["_law_bag_here", "_law_many", "_law_cell", "_law_mixed", "_law_value", "_law_begin", "_law_second"]
abbrev s_l_alike : Stmt := top 33
abbrev N_l_alike : List Str := ["_law_found", "_law_due"]
abbrev s_l_odd : Stmt := top 34
abbrev N_l_odd : List Str := ["_law_bag_here", "_law_deep", "_law_k", "_law_some"]
abbrev s_l_is_name : Stmt := top 35
abbrev N_l_is_name : List Str := ["_law_thing_here", "_law_letter"]
abbrev s_l_errors : Stmt := top 36
abbrev N_l_errors : List Str := ["_law_x", "_law_y", "_law_some"]
abbrev s_l_flags : Stmt := top 37
abbrev N_l_flags : List Str := ["_law_e", "_law_some"]
abbrev s_l_errors_right : Stmt := top 38
abbrev N_l_errors_right : List Str := ["_law_x", "_law_y", "_law_some", "_law_at", "_law_told", "_law_k"]
abbrev s_l_thing : Stmt := top 39
abbrev N_l_thing : List Str := ["_law_bag_here", "_law_letters", "_law_word", "_law_some", "_law_k"]
abbrev s_law : Stmt := top 40
abbrev N_law : List Str := ["_law_script", "_law_bag_here", "_law_turn", "_law_thing_here", "_law_many", "_law_whole", "_law_due", "_law_shown", "_law_again", "_law_found"]
structure Txt (K : PySem.W.Frag) (mg : Str → Option Value) (f_GROWINGS : Addr) : Prop where
  z_isinstance : mg "isinstance" = none
  z_len : mg "len" = none
  z_int : mg "int" = none
  z_abs : mg "abs" = none
  z_range : mg "range" = none
  z_list : mg "list" = none
  z_all : mg "all" = none
  z_bool : mg "bool" = none
  z_str : mg "str" = none
  z_repr : mg "repr" = none
  z_ValueError : mg "ValueError" = none
  g_GROWINGS : mg "GROWINGS" = some (.ref f_GROWINGS)
abbrev Tx (K : PySem.W.Frag) (mg : Str → Option Value) (f_GROWINGS : Addr) := Txt K mg f_GROWINGS
/-- what is known of the error classes: c 0 .. c 20 -/
abbrev bmB : List Value := [.type "ValueError", .type "Exception", .type "BaseException", .type "object"]
structure Ers (K : PySem.W.Frag) (mg : Str → Option Value) (c : Nat → Addr) : Prop where
  ex : ∀ i, i < 21 → ExF K (c i)
  kk : ∀ i, i < 20 → ∀ j, j < 20 → PySem.W.kitOne K (.ref (c i)) (.ref (c j)) = some (decide (i = j))
  kt : ∀ i, i < 20 → PySem.W.kitOne K (.ref (c i)) (.ref (c 20)) = some true
  kv : ∀ i, i < 20 → PySem.W.kitOne K (.ref (c i)) (.type "ValueError") = some true
  tw : PySem.W.kitOne K (.ref (c 20)) (.ref (c 0)) = some false
  e0 : ∀ i, 15 ≤ i → i < 21 → PySem.W.excIn K (c i) bmB "ValueError.__new__" = true
  g_Wrong : mg "Wrong" = some (.ref (c 0))
  n_Wrong_place : PySem.W.findIn K (.ref (c 0)) "place" = some none
  g_Unknown : mg "Unknown" = some (.ref (c 1))
  n_Unknown_name : PySem.W.findIn K (.ref (c 1)) "name" = some none
  g_NoCell : mg "NoCell" = some (.ref (c 2))
  n_NoCell_at : PySem.W.findIn K (.ref (c 2)) "at" = some none
  g_BadRoom : mg "BadRoom" = some (.ref (c 3))
  n_BadRoom_size : PySem.W.findIn K (.ref (c 3)) "size" = some none
  g_Unfit : mg "Unfit" = some (.ref (c 4))
  n_Unfit_at : PySem.W.findIn K (.ref (c 4)) "at" = some none
  g_NoArray : mg "NoArray" = some (.ref (c 5))
  n_NoArray_index : PySem.W.findIn K (.ref (c 5)) "index" = some none
  g_Broken : mg "Broken" = some (.ref (c 6))
  n_Broken_at : PySem.W.findIn K (.ref (c 6)) "at" = some none
  g_NoPlace : mg "NoPlace" = some (.ref (c 7))
  n_NoPlace_place : PySem.W.findIn K (.ref (c 7)) "place" = some none
  g_TooMany : mg "TooMany" = some (.ref (c 8))
  n_TooMany_limit : PySem.W.findIn K (.ref (c 8)) "limit" = some none
  g_NoFunction : mg "NoFunction" = some (.ref (c 9))
  n_NoFunction_name : PySem.W.findIn K (.ref (c 9)) "name" = some none
  g_Full : mg "Full" = some (.ref (c 10))
  n_Full_limit : PySem.W.findIn K (.ref (c 10)) "limit" = some none
  g_Refused : mg "Refused" = some (.ref (c 11))
  n_Refused_deed : PySem.W.findIn K (.ref (c 11)) "deed" = some none
  g_NoEntry : mg "NoEntry" = some (.ref (c 12))
  n_NoEntry_many : PySem.W.findIn K (.ref (c 12)) "many" = some none
  g_Endless : mg "Endless" = some (.ref (c 13))
  n_Endless_function : PySem.W.findIn K (.ref (c 13)) "function" = some none
  g_BadStatement : mg "BadStatement" = some (.ref (c 14))
  n_BadStatement_function : PySem.W.findIn K (.ref (c 14)) "function" = some none
  n_BadStatement_address : PySem.W.findIn K (.ref (c 14)) "address" = some none
  g_Nothing : mg "Nothing" = some (.ref (c 15))
  g_Unlike : mg "Unlike" = some (.ref (c 16))
  g_NoDeed : mg "NoDeed" = some (.ref (c 17))
  g_NoText : mg "NoText" = some (.ref (c 18))
  g_NoCommand : mg "NoCommand" = some (.ref (c 19))
  g_TailError : mg "TailError" = some (.ref (c 20))
theorem Ers.x0 {K : PySem.W.Frag} {mg : Str → Option Value} {c : Nat → Addr} (E : Ers K mg c) {x : Str} (i : Nat) (h : 15 ≤ i) (h2 : i < 21) (g : mg x = some (.ref (c i))) : Ex0 K mg bmB x (c i) := ⟨E.e0 i h h2, E.ex i h2, g⟩
def fl (x y : V) : Nat → List (Str × V)
  | 0 => [("place", x)]
  | 1 => [("name", x)]
  | 2 => [("at", x)]
  | 3 => [("size", x)]
  | 4 => [("at", x)]
  | 5 => [("index", x)]
  | 6 => [("at", x)]
  | 7 => [("place", x)]
  | 8 => [("limit", x)]
  | 9 => [("name", x)]
  | 10 => [("limit", x)]
  | 11 => [("deed", x)]
  | 12 => [("many", x)]
  | 13 => [("function", x)]
  | 14 => [("address", y), ("function", x)]
  | _ => []
@[reducible] def eL (e : Nat → Addr) : List V := [.ref (e 0), .ref (e 1), .ref (e 2), .ref (e 3), .ref (e 4), .ref (e 5), .ref (e 6), .ref (e 7), .ref (e 8), .ref (e 9), .ref (e 10), .ref (e 11), .ref (e 12), .ref (e 13), .ref (e 14), .ref (e 15), .ref (e 16), .ref (e 17), .ref (e 18), .ref (e 19)]
theorem eL_at (e : Nat → Addr) : ∀ i, i < 20 → (eL e)[i]? = some (.ref (e i))
  | 0, _ => rfl
  | 1, _ => rfl
  | 2, _ => rfl
  | 3, _ => rfl
  | 4, _ => rfl
  | 5, _ => rfl
  | 6, _ => rfl
  | 7, _ => rfl
  | 8, _ => rfl
  | 9, _ => rfl
  | 10, _ => rfl
  | 11, _ => rfl
  | 12, _ => rfl
  | 13, _ => rfl
  | 14, _ => rfl
  | 15, _ => rfl
  | 16, _ => rfl
  | 17, _ => rfl
  | 18, _ => rfl
  | 19, _ => rfl
  | n + 20, h => absurd h (by omega)

structure Cst (mg : Str → Option Value) : Prop where
  lt : ∃ t, mg "LETTERS" = some (.str lettersS t)
  ln : ∃ t, mg "LONGEST_NAME" = some (.int 8 t)
section
variable {P : Program} {w : World} {K : PySem.W.Frag} {mg : Str → Option Value} {base : Heap} {f_GROWINGS : Addr} {c : Nat → Addr}
theorem sc_Wrong_init : FnScope N_Wrong_init ["self", "place"] (defScope s_Wrong_init) := ⟨rfl, rfl, rfl, by decide +kernel, rfl, by decide +kernel, by decide +kernel⟩
theorem ok_Wrong_init {f C : Addr} (F : Mt K C "__init__" "Wrong.__init__" s_Wrong_init ["self", "place"] f) (E : ExF K C) (n0 : PySem.W.findIn K (.ref C) "place" = some none) (g : mg "Wrong" = some (.ref C)) : Exi P w K mg base 1 "Wrong" C ["self", "place"] (spI "place" C) := by
  obtain ⟨fd, F0, b⟩ := F.fn
  refine ⟨⟨f, fd, F0.ok sc_Wrong_init (fun vs H Q E h => ?_) (fun cdv A outer s H vs Q E' hr h => ?_), b, F.at_.at_, beq_iff_eq.mp F.at_.fn⟩, E, g⟩
  · obtain ⟨a, v, rfl, _⟩ := h
    rfl
  obtain ⟨a, v, rfl, ea, q⟩ := h
  refine ⟨_, (pss_one (ps_ost (pv 0) (pv 1))), ?_⟩
  walk_at "go"
  exact r_kost1 E n0 ea q
theorem sc_Unknown_init : FnScope N_Unknown_init ["self", "name"] (defScope s_Unknown_init) := ⟨rfl, rfl, rfl, by decide +kernel, rfl, by decide +kernel, by decide +kernel⟩
theorem ok_Unknown_init {f C : Addr} (F : Mt K C "__init__" "Unknown.__init__" s_Unknown_init ["self", "name"] f) (E : ExF K C) (n0 : PySem.W.findIn K (.ref C) "name" = some none) (g : mg "Unknown" = some (.ref C)) : Exi P w K mg base 1 "Unknown" C ["self", "name"] (spI "name" C) := by
  obtain ⟨fd, F0, b⟩ := F.fn
  refine ⟨⟨f, fd, F0.ok sc_Unknown_init (fun vs H Q E h => ?_) (fun cdv A outer s H vs Q E' hr h => ?_), b, F.at_.at_, beq_iff_eq.mp F.at_.fn⟩, E, g⟩
  · obtain ⟨a, v, rfl, _⟩ := h
    rfl
  obtain ⟨a, v, rfl, ea, q⟩ := h
  refine ⟨_, (pss_one (ps_ost (pv 0) (pv 1))), ?_⟩
  walk_at "go"
  exact r_kost1 E n0 ea q
theorem sc_NoCell_init : FnScope N_NoCell_init ["self", "at"] (defScope s_NoCell_init) := ⟨rfl, rfl, rfl, by decide +kernel, rfl, by decide +kernel, by decide +kernel⟩
theorem ok_NoCell_init {f C : Addr} (F : Mt K C "__init__" "NoCell.__init__" s_NoCell_init ["self", "at"] f) (E : ExF K C) (n0 : PySem.W.findIn K (.ref C) "at" = some none) (g : mg "NoCell" = some (.ref C)) : Exi P w K mg base 1 "NoCell" C ["self", "at"] (spI "at" C) := by
  obtain ⟨fd, F0, b⟩ := F.fn
  refine ⟨⟨f, fd, F0.ok sc_NoCell_init (fun vs H Q E h => ?_) (fun cdv A outer s H vs Q E' hr h => ?_), b, F.at_.at_, beq_iff_eq.mp F.at_.fn⟩, E, g⟩
  · obtain ⟨a, v, rfl, _⟩ := h
    rfl
  obtain ⟨a, v, rfl, ea, q⟩ := h
  refine ⟨_, (pss_one (ps_ost (pv 0) (pv 1))), ?_⟩
  walk_at "go"
  exact r_kost1 E n0 ea q
theorem sc_BadRoom_init : FnScope N_BadRoom_init ["self", "size"] (defScope s_BadRoom_init) := ⟨rfl, rfl, rfl, by decide +kernel, rfl, by decide +kernel, by decide +kernel⟩
theorem ok_BadRoom_init {f C : Addr} (F : Mt K C "__init__" "BadRoom.__init__" s_BadRoom_init ["self", "size"] f) (E : ExF K C) (n0 : PySem.W.findIn K (.ref C) "size" = some none) (g : mg "BadRoom" = some (.ref C)) : Exi P w K mg base 1 "BadRoom" C ["self", "size"] (spI "size" C) := by
  obtain ⟨fd, F0, b⟩ := F.fn
  refine ⟨⟨f, fd, F0.ok sc_BadRoom_init (fun vs H Q E h => ?_) (fun cdv A outer s H vs Q E' hr h => ?_), b, F.at_.at_, beq_iff_eq.mp F.at_.fn⟩, E, g⟩
  · obtain ⟨a, v, rfl, _⟩ := h
    rfl
  obtain ⟨a, v, rfl, ea, q⟩ := h
  refine ⟨_, (pss_one (ps_ost (pv 0) (pv 1))), ?_⟩
  walk_at "go"
  exact r_kost1 E n0 ea q
theorem sc_Unfit_init : FnScope N_Unfit_init ["self", "at"] (defScope s_Unfit_init) := ⟨rfl, rfl, rfl, by decide +kernel, rfl, by decide +kernel, by decide +kernel⟩
theorem ok_Unfit_init {f C : Addr} (F : Mt K C "__init__" "Unfit.__init__" s_Unfit_init ["self", "at"] f) (E : ExF K C) (n0 : PySem.W.findIn K (.ref C) "at" = some none) (g : mg "Unfit" = some (.ref C)) : Exi P w K mg base 1 "Unfit" C ["self", "at"] (spI "at" C) := by
  obtain ⟨fd, F0, b⟩ := F.fn
  refine ⟨⟨f, fd, F0.ok sc_Unfit_init (fun vs H Q E h => ?_) (fun cdv A outer s H vs Q E' hr h => ?_), b, F.at_.at_, beq_iff_eq.mp F.at_.fn⟩, E, g⟩
  · obtain ⟨a, v, rfl, _⟩ := h
    rfl
  obtain ⟨a, v, rfl, ea, q⟩ := h
  refine ⟨_, (pss_one (ps_ost (pv 0) (pv 1))), ?_⟩
  walk_at "go"
  exact r_kost1 E n0 ea q
theorem sc_NoArray_init : FnScope N_NoArray_init ["self", "index"] (defScope s_NoArray_init) := ⟨rfl, rfl, rfl, by decide +kernel, rfl, by decide +kernel, by decide +kernel⟩
theorem ok_NoArray_init {f C : Addr} (F : Mt K C "__init__" "NoArray.__init__" s_NoArray_init ["self", "index"] f) (E : ExF K C) (n0 : PySem.W.findIn K (.ref C) "index" = some none) (g : mg "NoArray" = some (.ref C)) : Exi P w K mg base 1 "NoArray" C ["self", "index"] (spI "index" C) := by
  obtain ⟨fd, F0, b⟩ := F.fn
  refine ⟨⟨f, fd, F0.ok sc_NoArray_init (fun vs H Q E h => ?_) (fun cdv A outer s H vs Q E' hr h => ?_), b, F.at_.at_, beq_iff_eq.mp F.at_.fn⟩, E, g⟩
  · obtain ⟨a, v, rfl, _⟩ := h
    rfl
  obtain ⟨a, v, rfl, ea, q⟩ := h
  refine ⟨_, (pss_one (ps_ost (pv 0) (pv 1))), ?_⟩
  walk_at "go"
  exact r_kost1 E n0 ea q
theorem sc_Broken_init : FnScope N_Broken_init ["self", "at"] (defScope s_Broken_init) := ⟨rfl, rfl, rfl, by decide +kernel, rfl, by decide +kernel, by decide +kernel⟩
theorem ok_Broken_init {f C : Addr} (F : Mt K C "__init__" "Broken.__init__" s_Broken_init ["self", "at"] f) (E : ExF K C) (n0 : PySem.W.findIn K (.ref C) "at" = some none) (g : mg "Broken" = some (.ref C)) : Exi P w K mg base 1 "Broken" C ["self", "at"] (spI "at" C) := by
  obtain ⟨fd, F0, b⟩ := F.fn
  refine ⟨⟨f, fd, F0.ok sc_Broken_init (fun vs H Q E h => ?_) (fun cdv A outer s H vs Q E' hr h => ?_), b, F.at_.at_, beq_iff_eq.mp F.at_.fn⟩, E, g⟩
  · obtain ⟨a, v, rfl, _⟩ := h
    rfl
  obtain ⟨a, v, rfl, ea, q⟩ := h
  refine ⟨_, (pss_one (ps_ost (pv 0) (pv 1))), ?_⟩
  walk_at "go"
  exact r_kost1 E n0 ea q
theorem sc_NoPlace_init : FnScope N_NoPlace_init ["self", "place"] (defScope s_NoPlace_init) := ⟨rfl, rfl, rfl, by decide +kernel, rfl, by decide +kernel, by decide +kernel⟩
theorem ok_NoPlace_init {f C : Addr} (F : Mt K C "__init__" "NoPlace.__init__" s_NoPlace_init ["self", "place"] f) (E : ExF K C) (n0 : PySem.W.findIn K (.ref C) "place" = some none) (g : mg "NoPlace" = some (.ref C)) : Exi P w K mg base 1 "NoPlace" C ["self", "place"] (spI "place" C) := by
  obtain ⟨fd, F0, b⟩ := F.fn
  refine ⟨⟨f, fd, F0.ok sc_NoPlace_init (fun vs H Q E h => ?_) (fun cdv A outer s H vs Q E' hr h => ?_), b, F.at_.at_, beq_iff_eq.mp F.at_.fn⟩, E, g⟩
  · obtain ⟨a, v, rfl, _⟩ := h
    rfl
  obtain ⟨a, v, rfl, ea, q⟩ := h
  refine ⟨_, (pss_one (ps_ost (pv 0) (pv 1))), ?_⟩
  walk_at "go"
  exact r_kost1 E n0 ea q
theorem sc_TooMany_init : FnScope N_TooMany_init ["self", "limit"] (defScope s_TooMany_init) := ⟨rfl, rfl, rfl, by decide +kernel, rfl, by decide +kernel, by decide +kernel⟩
theorem ok_TooMany_init {f C : Addr} (F : Mt K C "__init__" "TooMany.__init__" s_TooMany_init ["self", "limit"] f) (E : ExF K C) (n0 : PySem.W.findIn K (.ref C) "limit" = some none) (g : mg "TooMany" = some (.ref C)) : Exi P w K mg base 1 "TooMany" C ["self", "limit"] (spI "limit" C) := by
  obtain ⟨fd, F0, b⟩ := F.fn
  refine ⟨⟨f, fd, F0.ok sc_TooMany_init (fun vs H Q E h => ?_) (fun cdv A outer s H vs Q E' hr h => ?_), b, F.at_.at_, beq_iff_eq.mp F.at_.fn⟩, E, g⟩
  · obtain ⟨a, v, rfl, _⟩ := h
    rfl
  obtain ⟨a, v, rfl, ea, q⟩ := h
  refine ⟨_, (pss_one (ps_ost (pv 0) (pv 1))), ?_⟩
  walk_at "go"
  exact r_kost1 E n0 ea q
theorem sc_NoFunction_init : FnScope N_NoFunction_init ["self", "name"] (defScope s_NoFunction_init) := ⟨rfl, rfl, rfl, by decide +kernel, rfl, by decide +kernel, by decide +kernel⟩
theorem ok_NoFunction_init {f C : Addr} (F : Mt K C "__init__" "NoFunction.__init__" s_NoFunction_init ["self", "name"] f) (E : ExF K C) (n0 : PySem.W.findIn K (.ref C) "name" = some none) (g : mg "NoFunction" = some (.ref C)) : Exi P w K mg base 1 "NoFunction" C ["self", "name"] (spI "name" C) := by
  obtain ⟨fd, F0, b⟩ := F.fn
  refine ⟨⟨f, fd, F0.ok sc_NoFunction_init (fun vs H Q E h => ?_) (fun cdv A outer s H vs Q E' hr h => ?_), b, F.at_.at_, beq_iff_eq.mp F.at_.fn⟩, E, g⟩
  · obtain ⟨a, v, rfl, _⟩ := h
    rfl
  obtain ⟨a, v, rfl, ea, q⟩ := h
  refine ⟨_, (pss_one (ps_ost (pv 0) (pv 1))), ?_⟩
  walk_at "go"
  exact r_kost1 E n0 ea q
theorem sc_Full_init : FnScope N_Full_init ["self", "limit"] (defScope s_Full_init) := ⟨rfl, rfl, rfl, by decide +kernel, rfl, by decide +kernel, by decide +kernel⟩
theorem ok_Full_init {f C : Addr} (F : Mt K C "__init__" "Full.__init__" s_Full_init ["self", "limit"] f) (E : ExF K C) (n0 : PySem.W.findIn K (.ref C) "limit" = some none) (g : mg "Full" = some (.ref C)) : Exi P w K mg base 1 "Full" C ["self", "limit"] (spI "limit" C) := by
  obtain ⟨fd, F0, b⟩ := F.fn
  refine ⟨⟨f, fd, F0.ok sc_Full_init (fun vs H Q E h => ?_) (fun cdv A outer s H vs Q E' hr h => ?_), b, F.at_.at_, beq_iff_eq.mp F.at_.fn⟩, E, g⟩
  · obtain ⟨a, v, rfl, _⟩ := h
    rfl
  obtain ⟨a, v, rfl, ea, q⟩ := h
  refine ⟨_, (pss_one (ps_ost (pv 0) (pv 1))), ?_⟩
  walk_at "go"
  exact r_kost1 E n0 ea q
theorem sc_Refused_init : FnScope N_Refused_init ["self", "deed"] (defScope s_Refused_init) := ⟨rfl, rfl, rfl, by decide +kernel, rfl, by decide +kernel, by decide +kernel⟩
theorem ok_Refused_init {f C : Addr} (F : Mt K C "__init__" "Refused.__init__" s_Refused_init ["self", "deed"] f) (E : ExF K C) (n0 : PySem.W.findIn K (.ref C) "deed" = some none) (g : mg "Refused" = some (.ref C)) : Exi P w K mg base 1 "Refused" C ["self", "deed"] (spI "deed" C) := by
  obtain ⟨fd, F0, b⟩ := F.fn
  refine ⟨⟨f, fd, F0.ok sc_Refused_init (fun vs H Q E h => ?_) (fun cdv A outer s H vs Q E' hr h => ?_), b, F.at_.at_, beq_iff_eq.mp F.at_.fn⟩, E, g⟩
  · obtain ⟨a, v, rfl, _⟩ := h
    rfl
  obtain ⟨a, v, rfl, ea, q⟩ := h
  refine ⟨_, (pss_one (ps_ost (pv 0) (pv 1))), ?_⟩
  walk_at "go"
  exact r_kost1 E n0 ea q
theorem sc_NoEntry_init : FnScope N_NoEntry_init ["self", "many"] (defScope s_NoEntry_init) := ⟨rfl, rfl, rfl, by decide +kernel, rfl, by decide +kernel, by decide +kernel⟩
theorem ok_NoEntry_init {f C : Addr} (F : Mt K C "__init__" "NoEntry.__init__" s_NoEntry_init ["self", "many"] f) (E : ExF K C) (n0 : PySem.W.findIn K (.ref C) "many" = some none) (g : mg "NoEntry" = some (.ref C)) : Exi P w K mg base 1 "NoEntry" C ["self", "many"] (spI "many" C) := by
  obtain ⟨fd, F0, b⟩ := F.fn
  refine ⟨⟨f, fd, F0.ok sc_NoEntry_init (fun vs H Q E h => ?_) (fun cdv A outer s H vs Q E' hr h => ?_), b, F.at_.at_, beq_iff_eq.mp F.at_.fn⟩, E, g⟩
  · obtain ⟨a, v, rfl, _⟩ := h
    rfl
  obtain ⟨a, v, rfl, ea, q⟩ := h
  refine ⟨_, (pss_one (ps_ost (pv 0) (pv 1))), ?_⟩
  walk_at "go"
  exact r_kost1 E n0 ea q
theorem sc_Endless_init : FnScope N_Endless_init ["self", "function"] (defScope s_Endless_init) := ⟨rfl, rfl, rfl, by decide +kernel, rfl, by decide +kernel, by decide +kernel⟩
theorem ok_Endless_init {f C : Addr} (F : Mt K C "__init__" "Endless.__init__" s_Endless_init ["self", "function"] f) (E : ExF K C) (n0 : PySem.W.findIn K (.ref C) "function" = some none) (g : mg "Endless" = some (.ref C)) : Exi P w K mg base 1 "Endless" C ["self", "function"] (spI "function" C) := by
  obtain ⟨fd, F0, b⟩ := F.fn
  refine ⟨⟨f, fd, F0.ok sc_Endless_init (fun vs H Q E h => ?_) (fun cdv A outer s H vs Q E' hr h => ?_), b, F.at_.at_, beq_iff_eq.mp F.at_.fn⟩, E, g⟩
  · obtain ⟨a, v, rfl, _⟩ := h
    rfl
  obtain ⟨a, v, rfl, ea, q⟩ := h
  refine ⟨_, (pss_one (ps_ost (pv 0) (pv 1))), ?_⟩
  walk_at "go"
  exact r_kost1 E n0 ea q
theorem sc_BadStatement_init : FnScope N_BadStatement_init ["self", "function", "address"] (defScope s_BadStatement_init) := ⟨rfl, rfl, rfl, by decide +kernel, rfl, by decide +kernel, by decide +kernel⟩
theorem ok_BadStatement_init {f C : Addr} (F : Mt K C "__init__" "BadStatement.__init__" s_BadStatement_init ["self", "function", "address"] f) (E : ExF K C) (n0 : PySem.W.findIn K (.ref C) "function" = some none) (n1 : PySem.W.findIn K (.ref C) "address" = some none) (g : mg "BadStatement" = some (.ref C)) : Exi P w K mg base 1 "BadStatement" C ["self", "function", "address"] (spI2 "function" "address" C) := by
  obtain ⟨fd, F0, b⟩ := F.fn
  refine ⟨⟨f, fd, F0.ok sc_BadStatement_init (fun vs H Q E h => ?_) (fun cdv A outer s H vs Q E' hr h => ?_), b, F.at_.at_, beq_iff_eq.mp F.at_.fn⟩, E, g⟩
  · obtain ⟨a, v, v2, rfl, _⟩ := h
    rfl
  obtain ⟨a, v, v2, rfl, ea, q⟩ := h
  refine ⟨_, (pss_cons (ps_ost (pv 0) (pv 1))
      (pss_one (ps_ost (pv 0) (pv 2)))), ?_⟩
  walk_at "go"
  refine r_kost1 E n0 ea fun d nd ne => ?_
  walk_at "go"
  exact r_kost2 E n1 (by rw [upd_same]) (by rw [upd_ne ne, upd_same]) (by simp) (q d nd ne)

end
end Pf

set_option Elab.async false
set_option linter.all false
set_option maxRecDepth 100000
set_option maxHeartbeats 8000000
namespace Pf
open PySem L2 Kt
set_option hygiene false
local macro_rules | `(tactic| walk_at "mem") => `(tactic| (with_reducible (repeat (first | exact Pick.hd | apply Pick.tl)); done))
local macro_rules | `(tactic| walk_at "rep") => `(tactic| (with_reducible (repeat (first | exact Repl.hd | apply Repl.tl)); done))
local macro_rules | `(tactic| walk_at "sel") => `(tactic| ((repeat (with_reducible apply Sel.cons; (focus walk_at "mem"))); (with_reducible apply Sel.nil); (with_reducible (repeat (first | exact Dr.all | apply Dr.skip)); done)))
local macro_rules | `(tactic| walk_at "at") => `(tactic| (refine' Sep.at_ (by assumption) ?kkpk; (case kkpk => walk_at "mem")))
local macro_rules | `(tactic| walk_at "sq") => `(tactic| first | assumption | (refine' Sep.sq (by assumption) ?kkpk; (case kkpk => walk_at "mem")))
local macro_rules | `(tactic| walk_at "st") => `(tactic| first | assumption | (refine' Sep.st (by assumption) ?kkpk; (case kkpk => walk_at "mem")))
local macro_rules | `(tactic| walk_at "lk") => `(tactic| (repeat (first | (with_reducible exact lk_eq) | exact rfl | refine (lk_ne (by decide +kernel)).trans ?_)))
local macro_rules | `(tactic| walk_at "pf") => `(tactic| (repeat (first | (with_reducible exact pf_nil) | (with_reducible exact pf_eq) | (apply pf_ne; (focus decide +kernel)))))
local macro_rules | `(tactic| walk_at "ty") => `(tactic| first | exact ty_int | (refine' ty_lst ?kkh; (case kkh => walk_at "at")))
local macro_rules | `(tactic| walk_at "k1") => `(tactic| with_reducible first
  | refine q_seq ?_ | refine q_set ?_ | refine q_asg ?_ | refine q_ret ?_ | refine q_drop ?_ | refine q_next ?_ | refine q_c ?_ | refine q_op ?_ | refine q_un ?_ | refine q_nil ?_ | refine q_cons ?_ | refine q_cb ?_
  | refine q_call ?_ | refine q_ifs ?_ | refine q_if ?_ | refine q_test ?_ | refine q_tb ?_ | refine q_bl ?_ | refine q_notT ?_ | refine q_andT ?_ | refine q_orT ?_ | refine q_andV ?_ | refine q_orV ?_ | refine q_notV ?_
  | refine q_addA ?_ | refine q_subI ?_ | refine q_ltI ?_ | refine q_leI ?_ | refine q_gtI ?_ | refine q_geI ?_ | refine q_eqI ?_ | refine q_neI ?_ | refine q_abs ?_ | refine q_int ?_ | refine q_intB ?_ | refine q_max ?_ | refine q_min ?_
  | refine q_ipAdd ?_ | refine q_ipSub ?_ | refine q_gsub ?_ | refine q_augs ?_ | refine q_lst ?_ | refine q_tup ?_ | refine q_blI ?_ | refine iteT ?_ | refine iteF ?_ | refine iteNT ?_ | refine iteNF ?_
  | refine r_prop ?_ | refine r_fld ?_ | refine r_sfld ?_ | refine r_meth ?_ | refine r_make ?_ | refine r_sl ?_ | refine r_nopart ?_ | refine r_part ?_ | refine r_parti ?_ | refine r_gsl ?_ | refine r_bm ?_ | refine r_bm0 ?_ | refine r_for ?_ | refine r_ilist ?_ | refine r_irng ?_
  | refine r_gname ?_ | refine r_gcons ?_ | refine r_gnil ?_ | refine r_par ?_ | refine r_parA ?_ | refine r_chain ?_ | refine r_isN ?_ | refine r_tlc ?_ | refine r_yes ?_ | refine r_makek ?_ | refine r_neg ?_)
local macro_rules | `(tactic| walk_at "k2") => `(tactic| first
  | ((with_reducible refine' q_var ?kke ?_); (case kke => rfl))
  | ((with_reducible refine' q_aug ?kke ?_); (case kke => rfl))
  | ((with_reducible refine' q_ixL ?kks ?kke ?_); (case kks => walk_at "sq"); (case kke => first | rfl | assumption))
  | ((with_reducible refine' q_ixT ?kks ?kke ?_); (case kks => walk_at "st"); (case kke => first | rfl | assumption))
  | ((with_reducible refine' q_ixLL ?kks ?kke ?_); (case kks => walk_at "sq"); (case kke => first | rfl | assumption))
  | ((with_reducible refine' q_lenL ?kks ?_); (case kks => walk_at "sq"))
  | ((with_reducible refine' q_mulI ?kkc ?_); (case kkc => first | exact .inl (by omega) | exact .inr (by omega)))
  | ((with_reducible refine' q_modI ?kkc ?_); (case kkc => omega))
  | ((with_reducible refine' q_divI ?kkc ?_); (case kkc => exact ⟨by omega, by omega⟩))
  | ((with_reducible refine' q_powI ?kkc ?_); (case kkc => exact ⟨by decide, by decide, by decide⟩))
  | ((with_reducible refine' r_kfld ?kkS ?kkp ?kkc ?kkn ?kkl ?_); (case kkS => assumption); (case kkp => walk_at "mem"); (case kkc => walk_at "cls"); (case kkn => walk_at "na"); (case kkl => walk_at "lk"))
  | ((with_reducible refine' r_kprop ?kkS ?kkp ?_); (case kkS => assumption); (case kkp => walk_at "mem"))
  | ((with_reducible refine' r_kmeth ?kkS ?kkp ?kkl ?_); (case kkS => assumption); (case kkp => walk_at "mem"); (case kkl => walk_at "lk"))
  | ((with_reducible refine' r_calll ?kks ?_); (case kks => rfl))
  | ((with_reducible refine' r_tyl ?kks ?_); (case kks => walk_at "sq"))
  | ((with_reducible refine' r_isi (k := true) ?kkt ?kke ?_); (case kkt => walk_at "ty"); (case kke => decide +kernel))
  | ((with_reducible refine' r_isi (k := false) ?kkt ?kke ?_); (case kkt => walk_at "ty"); (case kke => decide +kernel)))
local macro_rules | `(tactic| walk_at "k3") => `(tactic| first
  | ((with_reducible refine' q_setS ?kkS ?kkr ?kke ?_); (case kkS => assumption); (case kkr => walk_at "rep"); (case kke => rfl); intro H S)
  | ((with_reducible refine' r_kset ?kkS ?kkr ?kkc ?kkn ?kkl ?kke ?_); (case kkS => assumption); (case kkr => walk_at "rep"); (case kkc => walk_at "cls"); (case kkn => walk_at "na"); (case kkl => first | exact Nat.le_of_ble_eq_true rfl | assumption | omega | (simp; done) | (simp; omega)); (case kke => walk_at "pf"); intro H S)
  | ((with_reducible refine' q_new ?kkS ?kkl ?_); (case kkS => assumption); (case kkl => first | exact Nat.le_of_ble_eq_true rfl | assumption | omega | (simp; done) | (simp; omega)); intro p H S)
  | ((with_reducible refine' q_newT ?kkS ?kkl ?_); (case kkS => assumption); (case kkl => first | exact Nat.le_of_ble_eq_true rfl | assumption | omega | (simp; done) | (simp; omega)); intro p H S)
  | ((with_reducible refine' r_knew ?kkS ?_); (case kkS => assumption); intro x dx H S)
  | ((with_reducible refine' r_knewk ?kkS ?kkl1 ?kkl2 ?_); (case kkS => assumption); (case kkl1 => rfl); (case kkl2 => rfl); intro x dx H S)
  | ((with_reducible refine' r_ksl ?kkS ?kks ?_); (case kkS => assumption); (case kks => walk_at "sq"); intro p H S)
  | ((with_reducible refine' r_list ?kkS ?kks ?_); (case kkS => assumption); (case kks => walk_at "sq"); intro p H S)
  | ((with_reducible refine' r_cat ?kkS ?kks1 ?kks2 ?kkz ?_); (case kkS => assumption); (case kks1 => walk_at "at"); (case kks2 => walk_at "at"); (case kkz => first | omega | (simp; omega)); intro p H S)
  | ((with_reducible refine' r_append ?kkS ?kkr ?kkz ?_); (case kkS => assumption); (case kkr => walk_at "rep"); (case kkz => first | omega | (simp; omega)); intro H S)
  | ((with_reducible refine' r_reverse ?kkS ?kkr ?_); (case kkS => assumption); (case kkr => walk_at "rep"); intro H S)
  | ((with_reducible refine' r_clear ?kkS ?kkr ?_); (case kkS => assumption); (case kkr => walk_at "rep"); intro H S))
local macro_rules | `(tactic| walk_at "gn") => `(tactic| repeat (first | walk_at "k1" | walk_at "k2"))
local macro_rules | `(tactic| walk_at "go") => `(tactic| repeat (first | walk_at "k1" | walk_at "k2" | walk_at "k3"))

local macro_rules | `(tactic| walk_at "sq") => `(tactic| first | assumption | (refine' Sep.sq ?kkS ?kkpk; (case kkS => assumption); (case kkpk => walk_at "mem")) | (refine' hp_sqL ?kkS ?kkx; (case kkS => assumption); (case kkx => assumption)) | (refine' hp_sqL (Sep.tl ?kkS) ?kkx; (case kkS => assumption); (case kkx => assumption)) | (refine' hp_sqL (Sep.tl (Sep.tl ?kkS)) ?kkx; (case kkS => assumption); (case kkx => assumption)))
local macro_rules | `(tactic| walk_at "st") => `(tactic| first | assumption | (refine' Sep.st ?kkS ?kkpk; (case kkS => assumption); (case kkpk => walk_at "mem")) | (refine' hp_sqT ?kkS ?kkx; (case kkS => assumption); (case kkx => assumption)) | (refine' hp_sqT (Sep.tl ?kkS) ?kkx; (case kkS => assumption); (case kkx => assumption)) | (refine' hp_sqT (Sep.tl (Sep.tl ?kkS)) ?kkx; (case kkS => assumption); (case kkx => assumption)))
local macro_rules | `(tactic| walk_at "k1") => `(tactic| with_reducible first | refine r_ienumT ?_ | refine r_tru ?_ | refine r_itup ?_ | refine r_star ?_ | refine r_par3 ?_ | refine r_parA3 ?_ | refine r_dget ?_ | refine r_din ?_ | refine r_dnotin ?_ | refine r_dput ?_)

local macro_rules | `(tactic| walk_at "k1") => `(tactic| with_reducible first | refine r_kget ?_ | refine r_orT ?_ | refine r_slA ?_ | refine r_m1 ?_ | refine r_isS ?_ | refine r_istr ?_ | refine r_mkv ?_ | refine r_ost ?_ | refine r_xfld ?_)
local macro_rules | `(tactic| walk_at "k1") => `(tactic| with_reducible refine r_slS ?_)
local macro_rules | `(tactic| walk_at "k3") => `(tactic| ((with_reducible refine' r_cat ?kkS ?kks1 ?kks2 ?kkz ?_); (case kkS => assumption); (case kks1 => walk_at "at"); (case kks2 => walk_at "at"); (case kkz => first | exact Nat.le_of_ble_eq_true rfl | (simp; done) | omega); intro p H S))
local macro_rules | `(tactic| walk_at "k3") => `(tactic| ((with_reducible refine' r_append ?kkS ?kkr ?kkz ?_); (case kkS => assumption); (case kkr => walk_at "rep"); (case kkz => first | assumption | exact Nat.le_of_ble_eq_true rfl | (simp; done) | omega); intro H S))

section
variable {P : Program} {w : World} {K : PySem.W.Frag} {mg : Str → Option Value} {base : Heap} {f_GROWINGS : Addr} {c : Nat → Addr}
def rNiSg : R2 := fun x y H Q => ∃ (c : Nat) (z : Str), x = .str ⟨#[c]⟩ ∧ y = .str z ∧ Q (.bl (!decide (c ∈ z.cps.toList))) H
theorem op_niSg {X : Cx} : OpR X (compareOp .NotIn) rNiSg := op_notIn_sign
def nmB (x : Str) : Bool := decide (1 ≤ x.length) && decide (x.length ≤ 8) && x.cps.toList.all fun c => decide (97 ≤ c) && decide (c ≤ 122)
def nmV : V → Bool
  | .str x => nmB x
  | _ => false
theorem nmV_not {K : PySem.W.Frag} {G : Hp} {v : V} (h : NoS K G v) : nmV v = false := by
  rcases h with rfl | ⟨b, rfl⟩ | ⟨i, rfl⟩ | ⟨a, xs, rfl, _⟩ | ⟨a, xs, rfl, _⟩ | ⟨a, kvs, rfl, _⟩ <;> rfl
theorem lt_mem {c : Nat} : decide (c ∈ lettersS.cps.toList) = (decide (97 ≤ c) && decide (c ≤ 122)) := by
  rw [letters_eq, Bool.eq_iff_iff, Bool.and_eq_true, decide_eq_true_eq, decide_eq_true_eq, decide_eq_true_eq, List.mem_map]
  constructor
  · rintro ⟨k, mk, rfl⟩
    have := List.mem_range.mp mk
    omega
  · rintro ⟨a, b⟩
    exact ⟨c - 97, List.mem_range.mpr (by omega), by omega⟩
theorem r_isTh {K : PySem.W.Frag} {G H : Hp} {Q : VK} {v : V} {T B : String} {d : PyData} {b : Bool} (h : Th K G v T d) (l : Le G H) (k : kitB T B = some b) (q : Q (.bl b) H) : rIsiY K [v, .ty B] H Q := ⟨v, .ty B, .type T, _, b, rfl, .ty B, .inl (ty_mono l h.ty), kit_ty k, q⟩
theorem sc_is_integer : FnScope N_is_integer ["thing"] (defScope s_is_integer) := ⟨rfl, rfl, rfl, by decide +kernel, rfl, by decide +kernel, by decide +kernel⟩
def spIsInt (K : PySem.W.Frag) : Sp := fun vs H Q _ => ∃ (v : V) (T : String) (d : PyData) (G : Hp) (R : List SP), vs = [v] ∧ Th K G v T d ∧ Sep (hp G :: R) H ∧ ∀ H', Sep (hp G :: R) H' → Q (.bl (decide (T = "int"))) H'
theorem ok_is_integer {f : Addr} (F : Dt K mg "is_integer" s_is_integer ["thing"] f) (T : Tx K mg f_GROWINGS) : Df P w K mg base 1 "is_integer" f ["thing"] (spIsInt K) := by
  refine F.ok sc_is_integer (fun vs H Q E h => ?_) (fun cdv A outer s H vs Q E hr h => ?_)
  · obtain ⟨v, T, d, G, R, rfl, _⟩ := h
    rfl
  obtain ⟨v, Tn, d, G, R, rfl, th, S, q⟩ := h
  refine ⟨_, (pss_one (ps_ret (pe_and (pe_callB (r := rIsiY K) call_isiY (by rfl) T.z_isinstance (by decide +kernel) (pa_cons (pv 0) (pa_cons (pe_bltn (v := .ty "int") (by rfl) T.z_int (by decide +kernel) rfl) pa_nil))) (pe_one (pe_not (pe_callB (r := rIsiY K) call_isiY (by rfl) T.z_isinstance (by decide +kernel) (pa_cons (pv 0) (pa_cons (pe_bltn (v := .ty "bool") (by rfl) T.z_bool (by decide +kernel) rfl) pa_nil)))))))), ?_⟩
  walk_at "go"
  refine r_isTh th (hp_le S) (kb_int Tn th.tn) ?_
  walk_at "go"
  have q := q H S
  by_cases h1 : Tn = "int"
  · subst h1
    rw [show (decide (("int" : String) = "int") || decide (("int" : String) = "bool")) = true by decide]
    refine iteT ?_
    walk_at "go"
    refine r_isTh th (hp_le S) (kb_bool "int" th.tn) ?_
    walk_at "go"
    exact q
  · rw [decide_eq_false h1, Bool.false_or]
    rw [decide_eq_false h1] at q
    by_cases h2 : Tn = "bool"
    · rw [decide_eq_true h2]
      refine iteT ?_
      walk_at "go"
      refine r_isTh th (hp_le S) (kb_bool Tn th.tn) ?_
      walk_at "go"
      rw [decide_eq_true h2]
      exact q
    · rw [decide_eq_false h2]
      exact iteF q
theorem sc_is_name : FnScope N_is_name ["thing"] (defScope s_is_name) := ⟨rfl, rfl, rfl, by decide +kernel, rfl, by decide +kernel, by decide +kernel⟩
def spIsName (K : PySem.W.Frag) : Sp := fun vs H Q _ => ∃ (v : V) (T : String) (d : PyData) (G : Hp) (R : List SP), vs = [v] ∧ Th K G v T d ∧ Sep (hp G :: R) H ∧ ∀ H', Sep (hp G :: R) H' → Q (.bl (nmV v)) H'
theorem ok_is_name {f : Addr} (F : Dt K mg "is_name" s_is_name ["thing"] f) (T : Tx K mg f_GROWINGS) (C : Cst mg) : Df P w K mg base 1 "is_name" f ["thing"] (spIsName K) := by
  refine F.ok sc_is_name (fun vs H Q E h => ?_) (fun cdv A outer s H vs Q E hr h => ?_)
  · obtain ⟨v, T, d, G, R, rfl, _⟩ := h
    rfl
  obtain ⟨v, Tn, d, G, R, rfl, th, S, q⟩ := h
  refine ⟨_, (pss_cons (ps_if (PW.pt (pw_or (pt_not (pt_val (pe_callB (r := rIsiY K) call_isiY (by rfl) T.z_isinstance (by decide +kernel) (pa_cons (pv 0) (pa_cons (pe_bltn (v := .ty "str") (by rfl) T.z_str (by decide +kernel) rfl) pa_nil))))) (pw_or1 (pt_not (pt_chain (r := rLeI) (r' := rLeI) op_le op_le pe_int (pe_callB (r := cOr (cLenQ K) cLenS) call_lenA (by rfl) T.z_len (by decide +kernel) (pa_cons (pv 0) pa_nil)) (pe_gI (n := 8) rfl C.ln)))))) (pss_one (ps_ret pe_bl)) pss_nil)
      (pss_one (ps_ret (pe_callB (r := rAll K) (cr_all rfl) (by rfl) T.z_all (by decide +kernel) (pa_cons (pe_lc (own := [("letter", 1)]) rfl sc_is_name.nd (pi_str (pv 0)) (blkOk_by (own := [("letter", 1)]) (N := N_is_name) (sc := defScope s_is_name) (by decide +kernel)) (fun _ _ _ _ _ => (pg_name (i := 1) sc_is_name.nd rfl (by first | exact Or.inl rfl | exact Or.inr rfl))) (fun _ _ _ _ _ => pts_nil) (fun _ _ _ _ _ => (pe_cmpR (r := rInSg) op_inSg (pv 1) (pe_gS (z := lettersS) rfl C.lt) (by rfl)))) pa_nil))))), ?_⟩
  walk_at "go"
  refine r_isTh th (hp_le S) (kb_str Tn th.tn) ?_
  rcases th.kd with ⟨rfl, x, rfl, hl, hok0⟩ | ⟨hn, ht⟩
  rotate_left
  · rw [decide_eq_false ht]
    walk_at "go"
    have q := q H S
    rw [nmV_not hn] at q
    exact q
  rw [show decide (("str" : String) = "str") = true by decide]
  walk_at "go"
  refine q_lenS (Nat.le_trans hl (by decide)) ?_
  walk_at "go"
  have q : ∀ H', Sep (hp G :: R) H' → Q (.bl (nmB x)) H' := q
  by_cases h1 : 1 ≤ x.length
  · rw [if_pos (by simpa using (by omega : (1 : Int) ≤ (x.length : Int)))]
    walk_at "go"
    by_cases h8 : x.length ≤ 8
    · rw [decide_eq_true (by omega : (x.length : Int) ≤ 8)]
      refine iteNT ?_
      walk_at "go"
      refine r_lc_str (fun i acc Ps => acc = ((x.cps.toList.take i).map fun c => V.bl (decide (97 ≤ c) && decide (c ≤ 122))) ∧ Ps = hp G :: R) S ⟨rfl, rfl⟩ ?_ ?_
      · rintro D i c acc Ps H hc ⟨rfl, rfl⟩ S
        have hil := (Array.getElem?_eq_some_iff.mp hc).1
        have hxl : x.cps.size ≤ 8 := h8
        walk_at "go"
        refine ⟨rfl, ?_⟩
        walk_at "go"
        refine r_inSg ?_
        rw [lt_mem]
        refine cn_in S (by rw [List.length_map, List.length_take, Array.length_toList]; omega) ⟨?_, rfl⟩
        rw [List.take_add_one, show x.cps.toList[i]? = some c by simpa using hc, List.map_append]
        rfl
      · rintro D acc Ps H ⟨rfl, rfl⟩ S
        have S : Sep (pt D (.lst ((x.cps.toList.map fun c => (decide (97 ≤ c) && decide (c ≤ 122))).map V.bl)) :: hp G :: R) H := by
          rw [show x.cps.size = x.cps.toList.length from (Array.length_toList).symm, List.take_length] at S
          rw [List.map_map]
          exact S
        walk_at "go"
        refine r_all (SqL.of S.hd_at) ?_
        have := q H S.tl
        unfold nmB at this
        rw [decide_eq_true h1, decide_eq_true h8] at this
        rw [List.all_map]
        exact this
    · rw [decide_eq_false (by omega : ¬ (x.length : Int) ≤ 8)]
      refine iteNF ?_
      walk_at "go"
      have := q H S
      unfold nmB at this
      rw [decide_eq_false h8, Bool.and_false, Bool.false_and] at this
      exact this
  · rw [if_neg (by simpa using (by omega : ¬ (1 : Int) ≤ (x.length : Int)))]
    refine ⟨_, rfl, ?_⟩
    refine iteNF ?_
    walk_at "go"
    have := q H S
    unfold nmB at this
    rw [decide_eq_false h1, Bool.false_and, Bool.false_and] at this
    exact this
theorem sc_is_number : FnScope N_is_number ["many", "thing"] (defScope s_is_number) := ⟨rfl, rfl, rfl, by decide +kernel, rfl, by decide +kernel, by decide +kernel⟩
/-- whether v is a whole number from 0 to n - 1 -/
def numV (n : Int) : V → Bool
  | .int i => decide (0 ≤ i) && decide (i < n)
  | _ => false
theorem th_int_of {K : PySem.W.Frag} {G : Hp} {v : V} {d : PyData} (h : Th K G v "int" d) : ∃ i, v = .int i := ty_isInt h.ty
theorem numV_not {K : PySem.W.Frag} {G : Hp} {v : V} {T : String} {d : PyData} {n : Int} (h : Th K G v T d) (hT : T ≠ "int") : numV n v = false := by
  cases v with
  | int i =>
    exfalso
    have ty := h.ty
    generalize e : Value.type T = t at ty
    cases ty with
    | base b =>
      cases b
      exact hT (by injection e)
  | _ => rfl
def spIsNum (K : PySem.W.Frag) : Sp := fun vs H Q _ => ∃ (n : Int) (v : V) (T : String) (d : PyData) (G : Hp) (R : List SP), vs = [.int n, v] ∧ Th K G v T d ∧ Sep (hp G :: R) H ∧ ∀ H', Sep (hp G :: R) H' → Q (.bl (numV n v)) H'
theorem ok_is_number {f f1 : Addr} (F : Dt K mg "is_number" s_is_number ["many", "thing"] f) (T : Tx K mg f_GROWINGS) (D_is_integer : Df P w K mg base 1 "is_integer" f1 ["thing"] (spIsInt K)) : Df P w K mg base 2 "is_number" f ["many", "thing"] (spIsNum K) := by
  refine F.ok sc_is_number (fun vs H Q E h => ?_) (fun cdv A outer s H vs Q E hr h => ?_)
  · obtain ⟨n, v, T, d, G, R, rfl, _⟩ := h
    rfl
  obtain ⟨n, v, Tn, d, G, R, rfl, th, S, q⟩ := h
  refine ⟨_, (pss_one (ps_ret (pe_and (pe_df D_is_integer (hr.mono (by first | decide | omega)) (pa_cons (pv 1) pa_nil)) (pe_one (pe_chain (r := rLeI) (r' := rLtI) op_le op_lt pe_int (pv 1) (pv 0)))))), ?_⟩
  walk_at "go"
  refine ⟨v, Tn, d, G, R, rfl, th, S, fun H S => ?_⟩
  have q := q H S
  by_cases h1 : Tn = "int"
  · subst h1
    obtain ⟨i, rfl⟩ := th_int_of th
    rw [show decide (("int" : String) = "int") = true by decide]
    walk_at "go"
    have q : Q (.bl (decide (0 ≤ i) && decide (i < n))) H := q
    by_cases h0 : (0 : Int) ≤ i
    · rw [decide_eq_true h0] at q ⊢
      rw [if_pos rfl]
      walk_at "go"
      exact q
    · rw [decide_eq_false h0] at q ⊢
      rw [if_neg Bool.false_ne_true]
      exact q
  · rw [decide_eq_false h1]
    walk_at "go"
    rw [numV_not th h1] at q
    exact q
theorem sc_is_growing : FnScope N_is_growing ["thing"] (defScope s_is_growing) := ⟨rfl, rfl, rfl, by decide +kernel, rfl, by decide +kernel, by decide +kernel⟩
def grV : V → Bool
  | .str x => decide (x ∈ (["exact", "spare"] : List Str))
  | _ => false
theorem grV_not {K : PySem.W.Frag} {G : Hp} {v : V} (h : NoS K G v) : grV v = false := by
  rcases h with rfl | ⟨b, rfl⟩ | ⟨i, rfl⟩ | ⟨a, xs, rfl, _⟩ | ⟨a, xs, rfl, _⟩ | ⟨a, kvs, rfl, _⟩ <;> rfl
def spIsGr (K : PySem.W.Frag) : Sp := fun vs H Q _ => ∃ (v : V) (T : String) (d : PyData) (G : Hp) (R : List SP), vs = [v] ∧ Th K G v T d ∧ Sep (hp G :: R) H ∧ ∀ H', Sep (hp G :: R) H' → Q (.bl (grV v)) H'
theorem ok_is_growing {f : Addr} (F : Dt K mg "is_growing" s_is_growing ["thing"] f) (T : Tx K mg f_GROWINGS) (hG : SqT K (fun _ => none) f_GROWINGS [.str "exact", .str "spare"]) : Df P w K mg base 1 "is_growing" f ["thing"] (spIsGr K) := by
  refine F.ok sc_is_growing (fun vs H Q E h => ?_) (fun cdv A outer s H vs Q E hr h => ?_)
  · obtain ⟨v, T, d, G, R, rfl, _⟩ := h
    rfl
  obtain ⟨v, Tn, d, G, R, rfl, th, S, q⟩ := h
  refine ⟨_, (pss_one (ps_ret (pe_and (pe_callB (r := rIsiY K) call_isiY (by rfl) T.z_isinstance (by decide +kernel) (pa_cons (pv 0) (pa_cons (pe_bltn (v := .ty "str") (by rfl) T.z_str (by decide +kernel) rfl) pa_nil))) (pe_one (pe_cmpR (r := rIn K false) op_in_seq (pv 0) (pe_glob (v := .ref f_GROWINGS) rfl T.g_GROWINGS rfl) (by rfl)))))), ?_⟩
  walk_at "go"
  refine r_isTh th (hp_le S) (kb_str Tn th.tn) ?_
  have q := q H S
  rcases th.kd with ⟨rfl, x, rfl, hl, hok0⟩ | ⟨hn, ht⟩
  · rw [show decide (("str" : String) = "str") = true by decide]
    walk_at "go"
    refine r_in_strs (ns := ["exact", "spare"]) (.inr (SqT.le (fun _ _ (e : (none : Option HO) = some _) => (Option.noConfusion rfl (heq_of_eq e))) hG)) ?_
    exact q
  · rw [decide_eq_false ht]
    walk_at "go"
    rw [grV_not hn] at q
    exact q
theorem sc_l_is_name : FnScope N_l_is_name ["_law_thing_here"] (defScope s_l_is_name) := ⟨rfl, rfl, rfl, by decide +kernel, rfl, by decide +kernel, by decide +kernel⟩
theorem ok_l_is_name {f : Addr} (F : Dt K mg "_law_is_name" s_l_is_name ["_law_thing_here"] f) (T : Tx K mg f_GROWINGS) : Df P w K mg base 1 "_law_is_name" f ["_law_thing_here"] (spIsName K) := by
  refine F.ok sc_l_is_name (fun vs H Q E h => ?_) (fun cdv A outer s H vs Q E hr h => ?_)
  · obtain ⟨v, T, d, G, R, rfl, _⟩ := h
    rfl
  obtain ⟨v, Tn, d, G, R, rfl, th, S, q⟩ := h
  refine ⟨_, (pss_cons (ps_if (PW.pt (pw_or (pt_not (pt_val (pe_callB (r := rIsiY K) call_isiY (by rfl) T.z_isinstance (by decide +kernel) (pa_cons (pv 0) (pa_cons (pe_bltn (v := .ty "str") (by rfl) T.z_str (by decide +kernel) rfl) pa_nil))))) (pw_or1 (pt_not (pt_chain (r := rLtI) (r' := rLtI) op_lt op_lt pe_int (pe_callB (r := cOr (cLenQ K) cLenS) call_lenA (by rfl) T.z_len (by decide +kernel) (pa_cons (pv 0) pa_nil)) pe_int))))) (pss_one (ps_ret pe_bl)) pss_nil)
      (pss_one (ps_ret (pe_cmpR (r := rEqA K) (op_eqA hr.units) (pe_lc (own := [("_law_letter", 1)]) rfl sc_l_is_name.nd (pi_str (pv 0)) (blkOk_by (own := [("_law_letter", 1)]) (N := N_l_is_name) (sc := defScope s_l_is_name) (by decide +kernel)) (fun _ _ _ _ _ => (pg_name (i := 1) sc_l_is_name.nd rfl (by first | exact Or.inl rfl | exact Or.inr rfl))) (fun _ _ _ _ _ => (pts_one (pt_cmpR (r := rNiSg) op_niSg (pv 1) pe_str (by rfl)))) (fun _ _ _ _ _ => (pv 1))) (pe_lst pa_nil) (nomark _))))), ?_⟩
  walk_at "go"
  refine r_isTh th (hp_le S) (kb_str Tn th.tn) ?_
  rcases th.kd with ⟨rfl, x, rfl, hl, hok0⟩ | ⟨hn, ht⟩
  rotate_left
  · rw [decide_eq_false ht]
    walk_at "go"
    have q := q H S
    rw [nmV_not hn] at q
    exact q
  rw [show decide (("str" : String) = "str") = true by decide]
  walk_at "go"
  refine q_lenS (Nat.le_trans hl (by decide)) ?_
  walk_at "go"
  have q : ∀ H', Sep (hp G :: R) H' → Q (.bl (nmB x)) H' := q
  by_cases h1 : 1 ≤ x.length
  · rw [if_pos (by simpa using (by omega : (0 : Int) < (x.length : Int)))]
    walk_at "go"
    by_cases h8 : x.length ≤ 8
    · rw [decide_eq_true (by omega : (x.length : Int) < 9)]
      refine iteNT ?_
      walk_at "go"
      refine r_lc_str (fun i acc Ps => acc = (((x.cps.toList.take i).filter fun c => !(decide (97 ≤ c) && decide (c ≤ 122))).map fun c => V.str ⟨#[c]⟩) ∧ Ps = hp G :: R) S ⟨rfl, rfl⟩ ?_ ?_
      · rintro D i c acc Ps H hc ⟨rfl, rfl⟩ S
        have hil := (Array.getElem?_eq_some_iff.mp hc).1
        have hxl : x.cps.size ≤ 8 := h8
        walk_at "go"
        refine ⟨rfl, ?_⟩
        walk_at "go"
        refine ⟨c, lettersS, rfl, rfl, ?_⟩
        rw [lt_mem]
        have st : (x.cps.toList.take (i + 1)).filter (fun c => !(decide (97 ≤ c) && decide (c ≤ 122))) = (x.cps.toList.take i).filter (fun c => !(decide (97 ≤ c) && decide (c ≤ 122))) ++ (if (!(decide (97 ≤ c) && decide (c ≤ 122))) = true then [c] else []) := by
          rw [List.take_add_one, show x.cps.toList[i]? = some c by simpa using hc, List.filter_append]
          congr 1
          simp only [Option.toList, List.filter_cons, List.filter_nil]
        walk_at "go"
        cases hb : (decide (97 ≤ c) && decide (c ≤ 122)) with
        | true =>
          rw [hb] at st
          refine iteF ?_
          refine cn_out S ⟨?_, rfl⟩
          rw [st]
          simp
        | false =>
          rw [hb] at st
          refine iteT ?_
          walk_at "go"
          refine cn_in S ?_ ⟨?_, rfl⟩
          · rw [List.length_map]
            refine Nat.lt_of_le_of_lt (List.length_filter_le _ _) ?_
            rw [List.length_take, Array.length_toList]
            omega
          · rw [st]
            simp
      · rintro D acc Ps H ⟨rfl, rfl⟩ S
        have hxl : x.cps.size ≤ 8 := h8
        rw [show x.cps.size = x.cps.toList.length from (Array.length_toList).symm, List.take_length] at S
        walk_at "go"
        have hd : Dp K H (.ref D) (.list (((x.cps.toList.filter fun c => !(decide (97 ≤ c) && decide (c ≤ 122))).map fun c => (⟨#[c]⟩ : Str)).map PyData.str)) := by
          refine .lst (SqL.of (S.at_ (.tl .hd))) ?_
          have := dpall_strs (K := K) (G := H) ((x.cps.toList.filter fun c => !(decide (97 ≤ c) && decide (c ≤ 122))).map fun c => (⟨#[c]⟩ : Str))
          rw [List.map_map] at this
          exact this
        have hok : Okd 2 (.list (((x.cps.toList.filter fun c => !(decide (97 ≤ c) && decide (c ≤ 122))).map fun c => (⟨#[c]⟩ : Str)).map PyData.str)) := by
          rw [List.map_map]
          refine okd_list fun d m => ?_
          obtain ⟨c, mc, rfl⟩ := List.mem_map.mp m
          refine okd_str ?_
          unfold PyData.strOk at hok0 ⊢
          rw [← Array.all_toList, List.all_eq_true] at hok0
          have := hok0 c (List.mem_filter.mp mc).1
          simpa using this
        refine r_eq_nilL hd hok (by decide) (SqL.of S.hd_at) ?_
        have q := q H S.tl.tl
        unfold nmB at q
        rw [decide_eq_true h1, decide_eq_true h8] at q
        have e : (((x.cps.toList.filter fun c => !(decide (97 ≤ c) && decide (c ≤ 122))).map fun c => (⟨#[c]⟩ : Str)).map PyData.str).isEmpty = (true && true && x.cps.toList.all fun c => decide (97 ≤ c) && decide (c ≤ 122)) := by
          rw [Bool.eq_iff_iff, Bool.true_and, Bool.true_and, List.isEmpty_iff, List.map_eq_nil_iff, List.map_eq_nil_iff, List.filter_eq_nil_iff, List.all_eq_true]
          exact ⟨fun z c m => by have := z c m; simpa using this, fun z c m => by have := z c m; simpa using this⟩
        rw [e]
        exact q
    · rw [decide_eq_false (by omega : ¬ (x.length : Int) < 9)]
      refine iteNF ?_
      walk_at "go"
      have := q H S
      unfold nmB at this
      rw [decide_eq_false h8, Bool.and_false, Bool.false_and] at this
      exact this
  · rw [if_neg (by simpa using (by omega : ¬ (0 : Int) < (x.length : Int)))]
    refine ⟨_, rfl, ?_⟩
    refine iteNF ?_
    walk_at "go"
    have := q H S
    unfold nmB at this
    rw [decide_eq_false h1, Bool.false_and, Bool.false_and] at this
    exact this

end
end Pf

set_option Elab.async false
set_option linter.all false
set_option maxRecDepth 100000
set_option maxHeartbeats 8000000
namespace Pf
open PySem L2 Kt
set_option hygiene false
local macro_rules | `(tactic| walk_at "mem") => `(tactic| (with_reducible (repeat (first | exact Pick.hd | apply Pick.tl)); done))
local macro_rules | `(tactic| walk_at "rep") => `(tactic| (with_reducible (repeat (first | exact Repl.hd | apply Repl.tl)); done))
local macro_rules | `(tactic| walk_at "sel") => `(tactic| ((repeat (with_reducible apply Sel.cons; (focus walk_at "mem"))); (with_reducible apply Sel.nil); (with_reducible (repeat (first | exact Dr.all | apply Dr.skip)); done)))
local macro_rules | `(tactic| walk_at "at") => `(tactic| (refine' Sep.at_ (by assumption) ?kkpk; (case kkpk => walk_at "mem")))
local macro_rules | `(tactic| walk_at "sq") => `(tactic| first | assumption | (refine' Sep.sq (by assumption) ?kkpk; (case kkpk => walk_at "mem")))
local macro_rules | `(tactic| walk_at "st") => `(tactic| first | assumption | (refine' Sep.st (by assumption) ?kkpk; (case kkpk => walk_at "mem")))
local macro_rules | `(tactic| walk_at "lk") => `(tactic| (repeat (first | (with_reducible exact lk_eq) | exact rfl | refine (lk_ne (by decide +kernel)).trans ?_)))
local macro_rules | `(tactic| walk_at "pf") => `(tactic| (repeat (first | (with_reducible exact pf_nil) | (with_reducible exact pf_eq) | (apply pf_ne; (focus decide +kernel)))))
local macro_rules | `(tactic| walk_at "ty") => `(tactic| first | exact ty_int | (refine' ty_lst ?kkh; (case kkh => walk_at "at")))
local macro_rules | `(tactic| walk_at "k1") => `(tactic| with_reducible first
  | refine q_seq ?_ | refine q_set ?_ | refine q_asg ?_ | refine q_ret ?_ | refine q_drop ?_ | refine q_next ?_ | refine q_c ?_ | refine q_op ?_ | refine q_un ?_ | refine q_nil ?_ | refine q_cons ?_ | refine q_cb ?_
  | refine q_call ?_ | refine q_ifs ?_ | refine q_if ?_ | refine q_test ?_ | refine q_tb ?_ | refine q_bl ?_ | refine q_notT ?_ | refine q_andT ?_ | refine q_orT ?_ | refine q_andV ?_ | refine q_orV ?_ | refine q_notV ?_
  | refine q_addA ?_ | refine q_subI ?_ | refine q_ltI ?_ | refine q_leI ?_ | refine q_gtI ?_ | refine q_geI ?_ | refine q_eqI ?_ | refine q_neI ?_ | refine q_abs ?_ | refine q_int ?_ | refine q_intB ?_ | refine q_max ?_ | refine q_min ?_
  | refine q_ipAdd ?_ | refine q_ipSub ?_ | refine q_gsub ?_ | refine q_augs ?_ | refine q_lst ?_ | refine q_tup ?_ | refine q_blI ?_ | refine iteT ?_ | refine iteF ?_ | refine iteNT ?_ | refine iteNF ?_
  | refine r_prop ?_ | refine r_fld ?_ | refine r_sfld ?_ | refine r_meth ?_ | refine r_make ?_ | refine r_sl ?_ | refine r_nopart ?_ | refine r_part ?_ | refine r_parti ?_ | refine r_gsl ?_ | refine r_bm ?_ | refine r_bm0 ?_ | refine r_for ?_ | refine r_ilist ?_ | refine r_irng ?_
  | refine r_gname ?_ | refine r_gcons ?_ | refine r_gnil ?_ | refine r_par ?_ | refine r_parA ?_ | refine r_chain ?_ | refine r_isN ?_ | refine r_tlc ?_ | refine r_yes ?_ | refine r_makek ?_ | refine r_neg ?_)
local macro_rules | `(tactic| walk_at "k2") => `(tactic| first
  | ((with_reducible refine' q_var ?kke ?_); (case kke => rfl))
  | ((with_reducible refine' q_aug ?kke ?_); (case kke => rfl))
  | ((with_reducible refine' q_ixL ?kks ?kke ?_); (case kks => walk_at "sq"); (case kke => first | rfl | assumption))
  | ((with_reducible refine' q_ixT ?kks ?kke ?_); (case kks => walk_at "st"); (case kke => first | rfl | assumption))
  | ((with_reducible refine' q_ixLL ?kks ?kke ?_); (case kks => walk_at "sq"); (case kke => first | rfl | assumption))
  | ((with_reducible refine' q_lenL ?kks ?_); (case kks => walk_at "sq"))
  | ((with_reducible refine' q_mulI ?kkc ?_); (case kkc => first | exact .inl (by omega) | exact .inr (by omega)))
  | ((with_reducible refine' q_modI ?kkc ?_); (case kkc => omega))
  | ((with_reducible refine' q_divI ?kkc ?_); (case kkc => exact ⟨by omega, by omega⟩))
  | ((with_reducible refine' q_powI ?kkc ?_); (case kkc => exact ⟨by decide, by decide, by decide⟩))
  | ((with_reducible refine' r_kfld ?kkS ?kkp ?kkc ?kkn ?kkl ?_); (case kkS => assumption); (case kkp => walk_at "mem"); (case kkc => walk_at "cls"); (case kkn => walk_at "na"); (case kkl => walk_at "lk"))
  | ((with_reducible refine' r_kprop ?kkS ?kkp ?_); (case kkS => assumption); (case kkp => walk_at "mem"))
  | ((with_reducible refine' r_kmeth ?kkS ?kkp ?kkl ?_); (case kkS => assumption); (case kkp => walk_at "mem"); (case kkl => walk_at "lk"))
  | ((with_reducible refine' r_calll ?kks ?_); (case kks => rfl))
  | ((with_reducible refine' r_tyl ?kks ?_); (case kks => walk_at "sq"))
  | ((with_reducible refine' r_isi (k := true) ?kkt ?kke ?_); (case kkt => walk_at "ty"); (case kke => decide +kernel))
  | ((with_reducible refine' r_isi (k := false) ?kkt ?kke ?_); (case kkt => walk_at "ty"); (case kke => decide +kernel)))
local macro_rules | `(tactic| walk_at "k3") => `(tactic| first
  | ((with_reducible refine' q_setS ?kkS ?kkr ?kke ?_); (case kkS => assumption); (case kkr => walk_at "rep"); (case kke => rfl); intro H S)
  | ((with_reducible refine' r_kset ?kkS ?kkr ?kkc ?kkn ?kkl ?kke ?_); (case kkS => assumption); (case kkr => walk_at "rep"); (case kkc => walk_at "cls"); (case kkn => walk_at "na"); (case kkl => first | exact Nat.le_of_ble_eq_true rfl | assumption | omega | (simp; done) | (simp; omega)); (case kke => walk_at "pf"); intro H S)
  | ((with_reducible refine' q_new ?kkS ?kkl ?_); (case kkS => assumption); (case kkl => first | exact Nat.le_of_ble_eq_true rfl | assumption | omega | (simp; done) | (simp; omega)); intro p H S)
  | ((with_reducible refine' q_newT ?kkS ?kkl ?_); (case kkS => assumption); (case kkl => first | exact Nat.le_of_ble_eq_true rfl | assumption | omega | (simp; done) | (simp; omega)); intro p H S)
  | ((with_reducible refine' r_knew ?kkS ?_); (case kkS => assumption); intro x dx H S)
  | ((with_reducible refine' r_knewk ?kkS ?kkl1 ?kkl2 ?_); (case kkS => assumption); (case kkl1 => rfl); (case kkl2 => rfl); intro x dx H S)
  | ((with_reducible refine' r_ksl ?kkS ?kks ?_); (case kkS => assumption); (case kks => walk_at "sq"); intro p H S)
  | ((with_reducible refine' r_list ?kkS ?kks ?_); (case kkS => assumption); (case kks => walk_at "sq"); intro p H S)
  | ((with_reducible refine' r_cat ?kkS ?kks1 ?kks2 ?kkz ?_); (case kkS => assumption); (case kks1 => walk_at "at"); (case kks2 => walk_at "at"); (case kkz => first | omega | (simp; omega)); intro p H S)
  | ((with_reducible refine' r_append ?kkS ?kkr ?kkz ?_); (case kkS => assumption); (case kkr => walk_at "rep"); (case kkz => first | omega | (simp; omega)); intro H S)
  | ((with_reducible refine' r_reverse ?kkS ?kkr ?_); (case kkS => assumption); (case kkr => walk_at "rep"); intro H S)
  | ((with_reducible refine' r_clear ?kkS ?kkr ?_); (case kkS => assumption); (case kkr => walk_at "rep"); intro H S))
local macro_rules | `(tactic| walk_at "gn") => `(tactic| repeat (first | walk_at "k1" | walk_at "k2"))
local macro_rules | `(tactic| walk_at "go") => `(tactic| repeat (first | walk_at "k1" | walk_at "k2" | walk_at "k3"))

local macro_rules | `(tactic| walk_at "sq") => `(tactic| first | assumption | (refine' Sep.sq ?kkS ?kkpk; (case kkS => assumption); (case kkpk => walk_at "mem")) | (refine' hp_sqL ?kkS ?kkx; (case kkS => assumption); (case kkx => assumption)) | (refine' hp_sqL (Sep.tl ?kkS) ?kkx; (case kkS => assumption); (case kkx => assumption)) | (refine' hp_sqL (Sep.tl (Sep.tl ?kkS)) ?kkx; (case kkS => assumption); (case kkx => assumption)))
local macro_rules | `(tactic| walk_at "st") => `(tactic| first | assumption | (refine' Sep.st ?kkS ?kkpk; (case kkS => assumption); (case kkpk => walk_at "mem")) | (refine' hp_sqT ?kkS ?kkx; (case kkS => assumption); (case kkx => assumption)) | (refine' hp_sqT (Sep.tl ?kkS) ?kkx; (case kkS => assumption); (case kkx => assumption)) | (refine' hp_sqT (Sep.tl (Sep.tl ?kkS)) ?kkx; (case kkS => assumption); (case kkx => assumption)))
local macro_rules | `(tactic| walk_at "k1") => `(tactic| with_reducible first | refine r_ienumT ?_ | refine r_tru ?_ | refine r_itup ?_ | refine r_star ?_ | refine r_par3 ?_ | refine r_parA3 ?_ | refine r_dget ?_ | refine r_din ?_ | refine r_dnotin ?_ | refine r_dput ?_)

local macro_rules | `(tactic| walk_at "k1") => `(tactic| with_reducible first | refine r_kget ?_ | refine r_orT ?_ | refine r_slA ?_ | refine r_m1 ?_ | refine r_isS ?_ | refine r_istr ?_ | refine r_mkv ?_ | refine r_ost ?_ | refine r_xfld ?_)
local macro_rules | `(tactic| walk_at "k1") => `(tactic| with_reducible refine r_slS ?_)
local macro_rules | `(tactic| walk_at "k3") => `(tactic| ((with_reducible refine' r_cat ?kkS ?kks1 ?kks2 ?kkz ?_); (case kkS => assumption); (case kks1 => walk_at "at"); (case kks2 => walk_at "at"); (case kkz => first | exact Nat.le_of_ble_eq_true rfl | (simp; done) | omega); intro p H S))
local macro_rules | `(tactic| walk_at "k3") => `(tactic| ((with_reducible refine' r_append ?kkS ?kkr ?kkz ?_); (case kkS => assumption); (case kkr => walk_at "rep"); (case kkz => first | assumption | exact Nat.le_of_ble_eq_true rfl | (simp; done) | omega); intro H S))

section
variable {f_GROWINGS : Addr}
/-- the drawing bag at b -/
def bag (b : Addr) : SP := fun G => ∃ (x y z : Int) (c : Addr) (ns : List Int), 0 ≤ z ∧ Sep [pt b (.lst [.int x, .int y, .int z, .ref c]), pt c (.lst (ns.map V.int))] G
def spTake : Sp := fun vs H Q _ => ∃ (b : Addr) (n : Int) (R : List SP), vs = [.ref b, .int n] ∧ 0 < n ∧ n < 1073741824 ∧ Sep (bag b :: R) H ∧ ∀ v H', 0 ≤ v → v < n → Sep (bag b :: R) H' → Q (.int v) H'
def spBag (K : PySem.W.Frag) : Sp := fun vs H Q _ => ∃ (a : Addr) (ns : List Int) (R : List SP), vs = [.ref a] ∧ SqL K H a (ns.map V.int) ∧ ns.length ≤ 63 ∧ Sep R H ∧ ∀ b H', Sep (bag b :: R) H' → Q (.ref b) H'
theorem bag_open {b : Addr} {R : List SP} {H : Hp} (S : Sep (bag b :: R) H) : ∃ (x y z : Int) (c : Addr) (ns : List Int), 0 ≤ z ∧ Sep (pt b (.lst [.int x, .int y, .int z, .ref c]) :: pt c (.lst (ns.map V.int)) :: R) H := by
  obtain ⟨x, S⟩ := S.ex
  obtain ⟨y, S⟩ := S.ex
  obtain ⟨z, S⟩ := S.ex
  obtain ⟨c, S⟩ := S.ex
  obtain ⟨ns, S⟩ := S.ex
  obtain ⟨hz, S⟩ := S.pure
  exact ⟨x, y, z, c, ns, hz, S.flat⟩
theorem bag_shut {b : Addr} {R : List SP} {H : Hp} {x y z : Int} {c : Addr} {ns : List Int} (hz : 0 ≤ z) (S : Sep (pt b (.lst [.int x, .int y, .int z, .ref c]) :: pt c (.lst (ns.map V.int)) :: R) H) : Sep (bag b :: R) H :=
  Sep.ex_in x (Sep.ex_in y (Sep.ex_in z (Sep.ex_in c (Sep.ex_in ns (Sep.pure_in hz (Sep.unflat (As := [_, _]) S))))))
section
variable {P : Program} {w : World} {K : PySem.W.Frag} {mg : Str → Option Value} {base : Heap}
theorem sc_l_take : FnScope N_l_take ["_law_bag_here", "_law_many"] (defScope s_l_take) := ⟨rfl, rfl, rfl, by decide +kernel, rfl, by decide +kernel, by decide +kernel⟩
theorem ok_l_take {f : Addr} (F : Dt K mg "_law_take" s_l_take ["_law_bag_here", "_law_many"] f) (T : Tx K mg f_GROWINGS) : Df P w K mg base 1 "_law_take" f ["_law_bag_here", "_law_many"] spTake := by
  refine F.ok sc_l_take (fun vs H Q E h => ?_) (fun cdv A outer s H vs Q E hr h => ?_)
  · obtain ⟨b, n, R, rfl, _⟩ := h
    rfl
  obtain ⟨b, n, R, rfl, h0, h1, S, q⟩ := h
  refine ⟨_, (C8.pss_cut (ps_if (pt_cmpR (r := rEqA K) (op_eqA hr.units) (pe_ix (r := rIx K) ix_seq (pv 0) pe_int (fun _ _ => rfl)) pe_int (nomark _)) (pss_cons (ps_set (i := 2) sc_l_take.nd rfl (by first | exact Or.inl rfl | exact Or.inr rfl) pe_int)
      (C8.pss_cut (ps_if (pt_cmpR (r := rLtI) op_lt (pe_ix (r := rIx K) ix_seq (pv 0) pe_int (fun _ _ => rfl)) (pe_callB (r := cOr (cLenQ K) cLenS) call_lenA (by rfl) T.z_len (by decide +kernel) (pa_cons (pe_ix (r := rIx K) ix_seq (pv 0) pe_int (fun _ _ => rfl)) pa_nil)) (nomark _)) (pss_one (ps_set (i := 2) sc_l_take.nd rfl (by first | exact Or.inl rfl | exact Or.inr rfl) (pe_ix (r := rIx K) ix_seq (pe_ix (r := rIx K) ix_seq (pv 0) pe_int (fun _ _ => rfl)) (pe_ix (r := rIx K) ix_seq (pv 0) pe_int (fun _ _ => rfl)) (fun _ _ => rfl)))) pss_nil)
      (pss_cons (ps_augS (tget := rIxL K) (pv 0) pe_int get_list pe_int ip_add set_list)
      (C8.pss_cut (ps_if (pt_cmpR (r := rGeI) op_ge (pv 2) pe_int (nomark _)) (pss_one (ps_asg (pv 2) (pg_sub (pv 0) pe_int set_list))) pss_nil)
      (pss_cons (ps_set (i := 3) sc_l_take.nd rfl (by first | exact Or.inl rfl | exact Or.inr rfl) (pe_op (r := rAddA) op_addA (pe_op (r := rAddA) op_addA (pe_op (r := rMulA) op_mulA (pe_ix (r := rIx K) ix_seq (pv 0) pe_int (fun _ _ => rfl)) pe_int) (pe_op (r := rModI) op_mod (pe_callTy (r := cInt) call_int1 (by rfl) T.z_int (by decide +kernel) (pa_cons (pv 2) pa_nil)) pe_int)) (pe_op (r := rMulA) op_mulA pe_int (pe_ix (r := rIx K) ix_seq (pv 0) pe_int (fun _ _ => rfl)))))
      (pss_one (ps_asg (pe_op (r := rModI) op_mod (pe_callTy (r := cInt) call_int1 (by rfl) T.z_int (by decide +kernel) (pa_cons (pv 3) pa_nil)) pe_int) (pg_sub (pv 0) pe_int set_list)))))))) pss_nil)
      (pss_cons (ps_if (pt_cmpR (r := rGtI) op_gt (pe_ix (r := rIx K) ix_seq (pv 0) pe_int (fun _ _ => rfl)) pe_int (nomark _)) (pss_cons (ps_set (i := 4) sc_l_take.nd rfl (by first | exact Or.inl rfl | exact Or.inr rfl) (pe_op (r := rModI) op_mod (pe_callTy (r := cInt) call_int1 (by rfl) T.z_int (by decide +kernel) (pa_cons (pe_ix (r := rIx K) ix_seq (pv 0) pe_int (fun _ _ => rfl)) pa_nil)) (pv 1)))
      (pss_cons (ps_asg (pe_op (r := rDivI) op_fdiv (pe_ix (r := rIx K) ix_seq (pv 0) pe_int (fun _ _ => rfl)) (pv 1)) (pg_sub (pv 0) pe_int set_list))
      (pss_one (ps_ret (pv 4))))) pss_nil)
      (pss_cons (ps_set (i := 5) sc_l_take.nd rfl (by first | exact Or.inl rfl | exact Or.inr rfl) (pe_op (r := rModI) op_mod (pe_callTy (r := cInt) call_int1 (by rfl) T.z_int (by decide +kernel) (pa_cons (pe_op (r := rMulA) op_mulA (pe_op (r := rAddA) op_addA (pe_ix (r := rIx K) ix_seq (pv 0) pe_int (fun _ _ => rfl)) pe_int) pe_int) pa_nil)) pe_int))
      (pss_cons (ps_set (i := 6) sc_l_take.nd rfl (by first | exact Or.inl rfl | exact Or.inr rfl) (pe_op (r := rModI) op_mod (pe_callTy (r := cInt) call_int1 (by rfl) T.z_int (by decide +kernel) (pa_cons (pe_op (r := rMulA) op_mulA (pe_op (r := rModI) op_mod (pe_callTy (r := cInt) call_int1 (by rfl) T.z_int (by decide +kernel) (pa_cons (pe_op (r := rMulA) op_mulA (pv 5) (pv 5)) pa_nil)) pe_int) pe_int) pa_nil)) pe_int))
      (pss_cons (ps_if (pt_cmpR (r := rGtI) op_gt (pv 1) pe_int (nomark _)) (pss_one (ps_ret (pe_op (r := rModI) op_mod (pe_callTy (r := cInt) call_int1 (by rfl) T.z_int (by decide +kernel) (pa_cons (pe_op (r := rAddA) op_addA (pe_op (r := rMulA) op_mulA (pv 6) pe_int) (pv 5)) pa_nil)) (pv 1)))) pss_nil)
      (pss_one (ps_ret (pe_op (r := rModI) op_mod (pe_callTy (r := cInt) call_int1 (by rfl) T.z_int (by decide +kernel) (pa_cons (pe_op (r := rDivI) op_fdiv (pv 6) pe_int) pa_nil)) (pv 1))))))))), ?_⟩
  obtain ⟨x, y, z, c, ns, hz, S⟩ := bag_open S
  refine q_cut (Mid := fun σ H => ∃ u2 u3, σ = [some (.ref b), some (.int n), u2, u3, none, none, none] ∧ ∃ (x y z : Int) (c : Addr) (ns : List Int), 0 ≤ z ∧ Sep (pt b (.lst [.int x, .int y, .int z, .ref c]) :: pt c (.lst (ns.map V.int)) :: R) H) ?_ ?_
  · walk_at "go"
    refine q_ite (fun hx => ?_) (fun hx => ?_)
    · walk_at "go"
      refine q_cut (Mid := fun σ H => ∃ u, σ = [some (.ref b), some (.int n), some (.int u), none, none, none, none] ∧ Sep (pt b (.lst [.int x, .int y, .int z, .ref c]) :: pt c (.lst (ns.map V.int)) :: R) H) ?_ ?_
      · walk_at "go"
        refine q_ite (fun hl => ?_) (fun hl => ?_)
        · walk_at "go"
          rw [List.length_map] at hl
          obtain ⟨j, rfl⟩ := Int.eq_ofNat_of_zero_le hz
          refine q_ixL (by walk_at "sq") (atI_nat (v := V.int (ns[j]'(by omega))) (by simp)) ?_
          exact ⟨_, rfl, S⟩
        · exact ⟨_, rfl, S⟩
      rintro σ H ⟨u, rfl, S⟩
      walk_at "go"
      refine q_cut (Mid := fun σ H => σ = [some (.ref b), some (.int n), some (.int u), none, none, none, none] ∧ ∃ x', Sep (pt b (.lst [.int x', .int y, .int (z + 1), .ref c]) :: pt c (.lst (ns.map V.int)) :: R) H) ?_ ?_
      · walk_at "go"
        refine q_ite (fun hu => ?_) (fun hu => ?_)
        · walk_at "go"
          exact ⟨rfl, _, S⟩
        · exact ⟨rfl, _, S⟩
      rintro σ H ⟨rfl, x', S⟩
      walk_at "go"
      exact ⟨_, _, rfl, _, _, _, _, _, by omega, S⟩
    · exact ⟨_, _, rfl, _, _, _, _, _, hz, S⟩
  rintro σ H ⟨u2, u3, rfl, x, y, z, c, ns, hz, S⟩
  walk_at "go"
  refine q_ite (fun hx => ?_) (fun hx => ?_)
  · walk_at "go"
    exact q _ _ (Int.emod_nonneg _ (by omega)) (Int.emod_lt_of_pos _ h0) (bag_shut hz S)
  · walk_at "go"
    refine q_ite (fun hm => ?_) (fun hm => ?_)
    · walk_at "go"
      exact q _ _ (Int.emod_nonneg _ (by omega)) (Int.emod_lt_of_pos _ h0) (bag_shut hz S)
    · walk_at "go"
      exact q _ _ (Int.emod_nonneg _ (by omega)) (Int.emod_lt_of_pos _ h0) (bag_shut hz S)
theorem sc_l_bag : FnScope N_l_bag ["_law_script"] (defScope s_l_bag) := ⟨rfl, rfl, rfl, by decide +kernel, rfl, by decide +kernel, by decide +kernel⟩
theorem ok_l_bag {f : Addr} (F : Dt K mg "_law_bag" s_l_bag ["_law_script"] f) (T : Tx K mg f_GROWINGS) : Df P w K mg base 1 "_law_bag" f ["_law_script"] (spBag K) := by
  refine F.ok sc_l_bag (fun vs H Q E h => ?_) (fun cdv A outer s H vs Q E hr h => ?_)
  · obtain ⟨a, ns, R, rfl, _⟩ := h
    rfl
  obtain ⟨a, ns, R, rfl, hq, hl, S, q⟩ := h
  refine ⟨_, (pss_one (ps_ret (pe_lst (pa_cons pe_int (pa_cons pe_int (pa_cons pe_int (pa_cons (pe_lc (own := [("_law_cell", 1)]) rfl sc_l_bag.nd (pi_listK K (pe_slice (r := rSlL K) sl_list (pv 0) po_none (po_some pe_int))) (blkOk_by (own := [("_law_cell", 1)]) (N := N_l_bag) (sc := defScope s_l_bag) (by decide +kernel)) (fun _ _ _ _ _ => (pg_name (i := 1) sc_l_bag.nd rfl (by first | exact Or.inl rfl | exact Or.inr rfl))) (fun _ _ _ _ _ => pts_nil) (fun _ _ _ _ _ => (pe_callB (r := cAbs) call_abs (by rfl) T.z_abs (by decide +kernel) (pa_cons (pv 1) pa_nil)))) pa_nil))))))), ?_⟩
  walk_at "go"
  have ec : cutV (ns.map V.int) none (some (63 : Int)) = (ns.take 63).map V.int := by
    have := cut_pre (xs := ns.map V.int) (n := 63)
    rw [List.map_take]
    exact this
  rw [ec] at S
  have hm : (ns.take 63).length ≤ 63 := by simp; omega
  generalize ns.take 63 = ms at S hm
  refine r_lc_list (xs := ms.map V.int) (fun i acc Ps => ∃ zs : List Int, acc = zs.map V.int ∧ zs.length = i ∧ Ps = pt p (.lst (ms.map V.int)) :: R) S ⟨[], rfl, rfl, rfl⟩ (fun D i acc Ps H hi ⟨_, _, _, e⟩ S => by subst e; walk_at "sq") (by walk_at "sq") ?_ ?_
  · rintro D i x acc Ps H hi ⟨zs, rfl, ez, rfl⟩ S
    obtain ⟨z, hz, rfl⟩ : ∃ z, ms[i]? = some z ∧ V.int z = x := by
      rw [List.getElem?_map] at hi
      cases e : ms[i]? with
      | none => rw [e] at hi; cases hi
      | some z => rw [e] at hi; exact ⟨z, rfl, Option.some.inj hi⟩
    walk_at "go"
    refine ⟨rfl, ?_⟩
    walk_at "go"
    have hi' := (List.getElem?_eq_some_iff.mp hz).1
    refine cn_in S (by rw [List.length_map]; omega) ⟨zs ++ [if z < 0 then -z else z], by simp, by simp [ez], rfl⟩
  · rintro D acc Ps H ⟨zs, rfl, ez, rfl⟩ S
    walk_at "go"
    exact q _ _ (bag_shut (x := 0) (y := 1234567891) (z := 0) (c := D) (ns := zs) (by decide) (S.s2 (by walk_at "sel")))
end

end
section
variable {P : Program} {w : World} {K : PySem.W.Frag} {mg : Str → Option Value} {base : Heap} {f_GROWINGS : Addr} {c : Nat → Addr}
/-! ### two lists of the same things -/
def spAlikeX (K : PySem.W.Frag) : Sp := fun vs H Q _ => ∃ (a b : Addr) (xs : List V) (ds : List PyData), vs = [.ref a, .ref b] ∧ SqL K H a xs ∧ SqL K H b xs ∧ xs.all noF = true ∧ Paired (Dx K H) xs ds ∧ PyData.depthAll ds ≤ 50 ∧ (PyData.list ds).shown.length ≤ sizeLine ∧ Q (.bl true) H
theorem sc_l_alike : FnScope N_l_alike ["_law_found", "_law_due"] (defScope s_l_alike) := ⟨rfl, rfl, rfl, by decide +kernel, rfl, by decide +kernel, by decide +kernel⟩
theorem ok_l_alike {f : Addr} (F : Dt K mg "_law_alike" s_l_alike ["_law_found", "_law_due"] f) (T : Tx K mg f_GROWINGS) : Dg P w K mg base 1 "_law_alike" f ["_law_found", "_law_due"] (spAlikeX K) := by
  refine F.okG sc_l_alike (fun vs H Q E h => ?_) (fun cdv A outer s H vs Q E hg hr h => ?_)
  · obtain ⟨a, b, xs, ds, rfl, _⟩ := h
    rfl
  obtain ⟨a, b, xs, ds, rfl, h1, h2, hf, hd, hp, hz, q⟩ := h
  refine ⟨_, (pss_one (ps_ret (pe_and (pe_cmpR (r := rEqId K) (op_eqId (Nat.lt_of_le_of_lt (Nat.le_add_right _ _) hr.units)) (pv 0) (pv 1) (nomark _)) (pe_one (pe_cmpR (r := rEqA K) (op_eqA hr.units) (pe_callB (r := cReprT K) (call_reprT hg hr.units) (by rfl) T.z_repr (by decide +kernel) (pa_cons (pv 0) pa_nil)) (pe_callB (r := cReprT K) (call_reprT hg hr.units) (by rfl) T.z_repr (by decide +kernel) (pa_cons (pv 1) pa_nil)) (nomark _)))))), ?_⟩
  walk_at "go"
  refine ⟨a, b, xs, rfl, rfl, h1, h2, hf, ?_⟩
  walk_at "go"
  refine .inl (.inr (.inl ⟨a, xs, ds, rfl, h1, hd, hp, hz, ?_⟩))
  walk_at "go"
  refine .inl (.inr (.inl ⟨b, xs, ds, rfl, h2, hd, hp, hz, ?_⟩))
  refine .inl ⟨rfl, ?_⟩
  rw [decide_eq_true (rfl : V.str (PyData.list ds).shown = V.str (PyData.list ds).shown)]
  exact q
/-! ### odd values -/
def dpN : Nat → List PyData
  | 0 => []
  | n + 1 => [.list (dpN n)]
theorem sh_dp3 : ∀ d ∈ dpN 3, Sh 9 300 d := fun d m => by
  obtain rfl : d = .list [.list [.list []]] := by simpa [dpN] using m
  exact ⟨⟨by decide, by decide⟩, by decide, by decide, by decide⟩
theorem flat_sh {d : PyData} (h : (d = .int 0 ∨ d = .str "a")) : Sh 9 300 d := by
  rcases h with rfl | rfl
  · exact (sh_int (by decide)).up (Nat.le_refl _) (by decide)
  · exact (sh_txt (n := 1) (by decide +kernel) (by decide)).up (Nat.le_refl _) (by decide)
def spOdd (K : PySem.W.Frag) : Sp := fun vs H Q _ => ∃ (b : Addr) (G : Hp) (R : List SP), vs = [.ref b] ∧ Sep (hp G :: bag b :: R) H ∧ ∀ v Ps G' H', Le G G' → OdL K G' v Ps → Sep (Ps ++ hp G' :: bag b :: R) H' → Q v H'
theorem sc_l_odd : FnScope N_l_odd ["_law_bag_here"] (defScope s_l_odd) := ⟨rfl, rfl, rfl, by decide +kernel, rfl, by decide +kernel, by decide +kernel⟩
theorem ok_l_odd {f f1 : Addr} (F : Dt K mg "_law_odd" s_l_odd ["_law_bag_here"] f) (T : Tx K mg f_GROWINGS) (D_l_take : Df P w K mg base 1 "_law_take" f1 ["_law_bag_here", "_law_many"] spTake) : Df P w K mg base 2 "_law_odd" f ["_law_bag_here"] (spOdd K) := by
  refine F.ok sc_l_odd (fun vs H Q E h => ?_) (fun cdv A outer s H vs Q E hr h => ?_)
  · obtain ⟨b, G, R, rfl, _⟩ := h
    rfl
  obtain ⟨b, G, R, rfl, S, q⟩ := h
  refine ⟨_, (pss_cons (ps_set (i := 1) sc_l_odd.nd rfl (by first | exact Or.inl rfl | exact Or.inr rfl) (pe_lst pa_nil))
      (pss_cons (ps_for PassesOwn.never rfl (pi_range1 rfl T.z_range (pa_cons pe_int pa_nil)) (pg_name (i := 2) sc_l_odd.nd rfl (by first | exact Or.inl rfl | exact Or.inr rfl)) (pss_one (ps_set (i := 1) sc_l_odd.nd rfl (by first | exact Or.inl rfl | exact Or.inr rfl) (pe_lst (pa_cons (pv 1) pa_nil)))))
      (pss_cons (ps_set (i := 3) sc_l_odd.nd rfl (by first | exact Or.inl rfl | exact Or.inr rfl) (pe_lst (pa_cons pe_non (pa_cons pe_bl (pa_cons pe_bl (pa_cons pe_int (pa_cons pe_int (pa_cons (pe_un un_neg pe_int) (pa_cons (pe_op (r := rPowI) op_pow pe_int pe_int) (pa_cons pe_str (pa_cons pe_str (pa_cons pe_str (pa_cons (pe_tup pa_nil) (pa_cons (pe_lst pa_nil) (pa_cons pe_dnewK (pa_cons (pe_lst (pa_cons pe_int pa_nil)) (pa_cons (pe_tup (pa_cons pe_int pa_nil)) (pa_cons (pe_tup (pa_cons pe_str pa_nil)) (pa_cons (pe_disp (pps_cons pe_str pe_int pps_nil) rfl rfl (by simp) (by decide)) (pa_cons (pv 1) pa_nil))))))))))))))))))))
      (pss_one (ps_ret (pe_ix (r := rIx K) ix_seq (pv 3) (pe_df D_l_take (hr.mono (by first | decide | omega)) (pa_cons (pv 0) (pa_cons pe_int pa_nil))) (fun _ _ => rfl))))))), ?_⟩
  walk_at "go"
  refine r_for_rng (fun i σ Ps => ∃ (p : Addr) (u u2 : Option V) (xs : List V) (Gi : Hp), σ = [some (.ref b), some (.ref p), u, u2] ∧ Le G Gi ∧ DpAll K Gi xs (dpN i) ∧ Ps = pt p (.lst xs) :: hp Gi :: bag b :: R) S (by decide) (by decide) ⟨_, _, _, _, _, rfl, Le.rfl, .nil, rfl⟩ ?_ ?_
  · rintro i σ Ps H hi ⟨p, u, u2, xs, Gi, rfl, le, hx, rfl⟩ S
    obtain ⟨p0, ep⟩ : ∃ z, z = p := ⟨p, rfl⟩
    subst ep
    walk_at "go"
    have S2 : Sep (pt p0 (.lst xs) :: hp Gi :: pt p (.lst [.ref p0]) :: bag b :: R) H := S.s4 (by walk_at "sel")
    obtain ⟨G2, le2, hd, S2⟩ := hp_lst S2 hx
    exact ⟨_, ⟨_, _, _, _, _, rfl, le.tr le2, .cons hd .nil, rfl⟩, S2.swap⟩
  · rintro σ Ps H ⟨p, u, u2, xs, Gi, rfl, le, hx, rfl⟩ S
    walk_at "go"
    refine r_dnew S fun pd H S => ?_
    walk_at "go"
    refine r_dispP S fun pe H S => ?_
    refine q_pair ?_
    walk_at "go"
    refine q_pairN ⟨by walk_at "at", [(.inr "a", .int 0)], rfl, by simp, ?_⟩
    have e : mergeK [] [((.inr "a" : Key), V.int 0)] = [(.inr "a", .int 0)] := by rfl
    rw [e]
    have S := S.hd_set (.dK [(.inr "a", .int 0)])
    have e39 : ((10 : Int) ^ (39 : Int).toNat) = 10 ^ 39 := rfl
    have e0 : encK [] = ([] : List (Key × V)) := rfl
    obtain ⟨p0, ep0⟩ : ∃ z, z = p := ⟨p, rfl⟩
    walk_at "go"
    rw [e39, e0] at S
    generalize he : [V.non, .bl true, .bl false, .int 0, .int 1, .int (-1), .int (10 ^ 39), .str "", .str "a", .str "0", _, _, _, _, _, _, _, _] = es at S
    have hes : es.length = 18 := by rw [← he]; rfl
    refine ⟨b, 18, _, rfl, by decide, by decide, S.s1 (A := bag b) (by walk_at "sel"), fun n H n0 n1 S => ?_⟩
    obtain ⟨v, hv, hm⟩ := at_i (xs := es) n0 (by omega)
    refine q_ixL (by walk_at "sq") hv ?_
    rw [← he] at hm
    simp only [List.mem_cons, List.not_mem_nil, or_false] at hm
    have S0 : Unit → Sep (hp Gi :: bag b :: R) H := fun _ => S.s2 (by walk_at "sel")
    rcases hm with rfl | rfl | rfl | rfl | rfl | rfl | rfl | rfl | rfl | rfl | rfl | rfl | rfl | rfl | rfl | rfl | rfl | rfl
    · exact q _ [] Gi _ le (.inl ⟨_, _, rfl, th_non, by decide⟩) (S0 ())
    · exact q _ [] Gi _ le (.inl ⟨_, _, rfl, th_bl true, by decide⟩) (S0 ())
    · exact q _ [] Gi _ le (.inl ⟨_, _, rfl, th_bl false, by decide⟩) (S0 ())
    · exact q _ [] Gi _ le (.inl ⟨_, _, rfl, th_int (by decide), by decide⟩) (S0 ())
    · exact q _ [] Gi _ le (.inl ⟨_, _, rfl, th_int (by decide), by decide⟩) (S0 ())
    · exact q _ [] Gi _ le (.inl ⟨_, _, rfl, th_int (by decide), by decide⟩) (S0 ())
    · exact q _ [] Gi _ le (.inl ⟨_, _, rfl, th_int (by decide), by decide⟩) (S0 ())
    · exact q _ [] Gi _ le (.inl ⟨_, _, rfl, th_str (by decide +kernel) (by decide +kernel), by decide⟩) (S0 ())
    · exact q _ [] Gi _ le (.inl ⟨_, _, rfl, th_str (by decide +kernel) (by decide +kernel), by decide⟩) (S0 ())
    · exact q _ [] Gi _ le (.inl ⟨_, _, rfl, th_str (by decide +kernel) (by decide +kernel), by decide⟩) (S0 ())
    · have S2 : Sep (pt _ (.tup []) :: hp Gi :: bag b :: R) H := S.s3 (by walk_at "sel")
      obtain ⟨G2, le2, hd, S3⟩ := hp_tup (ds := []) S2 .nil
      exact q _ [] G2 _ (le.tr le2) (.inl ⟨_, _, rfl, th_tup hd ⟨⟨by decide, by decide⟩, by decide, by decide, by decide⟩, by decide⟩) S3
    · have S2 : Sep (pt _ (.lst []) :: hp Gi :: bag b :: R) H := S.s3 (by walk_at "sel")
      exact q _ [_] Gi _ le (.inr ⟨_, [], [], rfl, rfl, .nil, by decide, fun d m => by cases m⟩) S2
    · have S2 : Sep (pt _ (.dK []) :: hp Gi :: bag b :: R) H := S.s3 (by walk_at "sel")
      obtain ⟨G2, le2, e2, S3⟩ := hp_add S2
      exact q _ [] G2 _ (le.tr le2) (.inl ⟨_, _, rfl, th_dct (ds := []) e2 .nil (by decide) (by decide) (by decide), by decide⟩) S3
    · have S2 : Sep (pt _ (.lst [.int 0]) :: hp Gi :: bag b :: R) H := S.s3 (by walk_at "sel")
      exact q _ [_] Gi _ le (.inr ⟨_, [.int 0], [.int 0], rfl, rfl, .cons (.int 0) .nil, by decide, fun d m => flat_sh (.inl (by simpa using m))⟩) S2
    · have S2 : Sep (pt _ (.tup [.int 0]) :: hp Gi :: bag b :: R) H := S.s3 (by walk_at "sel")
      obtain ⟨G2, le2, hd, S3⟩ := hp_tup (ds := [.int 0]) S2 (.cons (.int 0) .nil)
      exact q _ [] G2 _ (le.tr le2) (.inl ⟨_, _, rfl, th_tup hd ⟨⟨by decide, by decide⟩, by decide, by decide, by decide⟩, by decide⟩) S3
    · have S2 : Sep (pt _ (.tup [.str "a"]) :: hp Gi :: bag b :: R) H := S.s3 (by walk_at "sel")
      obtain ⟨G2, le2, hd, S3⟩ := hp_tup (ds := [.str "a"]) S2 (.cons (.str "a") .nil)
      exact q _ [] G2 _ (le.tr le2) (.inl ⟨_, _, rfl, th_tup hd ⟨⟨by decide +kernel, by decide +kernel⟩, by decide +kernel, by decide +kernel, by decide +kernel⟩, by decide⟩) S3
    · have S2 : Sep (pt _ (.dK [(.inr "a", .int 0)]) :: hp Gi :: bag b :: R) H := S.s3 (by walk_at "sel")
      obtain ⟨G2, le2, e2, S3⟩ := hp_add S2
      exact q _ [] G2 _ (le.tr le2) (.inl ⟨_, _, rfl, th_dct (ds := [(.str "a", .int 0)]) e2 (.cons ⟨.str "a" (by decide +kernel), .int 0 (by decide)⟩ .nil) (by decide +kernel) (by decide +kernel) (by decide +kernel), by decide⟩) S3
    · have S2 : Sep (pt _ (.lst xs) :: hp Gi :: bag b :: R) H := S.s3 (by walk_at "sel")
      exact q _ [_] Gi _ le (.inr ⟨_, xs, dpN 3, rfl, rfl, hx, by decide, sh_dp3⟩) S2

end
end Pf

set_option Elab.async false
set_option linter.all false
set_option maxRecDepth 100000
set_option maxHeartbeats 8000000
namespace Pf
open PySem L2 Kt
set_option hygiene false
local macro_rules | `(tactic| walk_at "mem") => `(tactic| (with_reducible (repeat (first | exact Pick.hd | apply Pick.tl)); done))
local macro_rules | `(tactic| walk_at "rep") => `(tactic| (with_reducible (repeat (first | exact Repl.hd | apply Repl.tl)); done))
local macro_rules | `(tactic| walk_at "sel") => `(tactic| ((repeat (with_reducible apply Sel.cons; (focus walk_at "mem"))); (with_reducible apply Sel.nil); (with_reducible (repeat (first | exact Dr.all | apply Dr.skip)); done)))
local macro_rules | `(tactic| walk_at "at") => `(tactic| (refine' Sep.at_ (by assumption) ?kkpk; (case kkpk => walk_at "mem")))
local macro_rules | `(tactic| walk_at "sq") => `(tactic| first | assumption | (refine' Sep.sq (by assumption) ?kkpk; (case kkpk => walk_at "mem")))
local macro_rules | `(tactic| walk_at "st") => `(tactic| first | assumption | (refine' Sep.st (by assumption) ?kkpk; (case kkpk => walk_at "mem")))
local macro_rules | `(tactic| walk_at "lk") => `(tactic| (repeat (first | (with_reducible exact lk_eq) | exact rfl | refine (lk_ne (by decide +kernel)).trans ?_)))
local macro_rules | `(tactic| walk_at "pf") => `(tactic| (repeat (first | (with_reducible exact pf_nil) | (with_reducible exact pf_eq) | (apply pf_ne; (focus decide +kernel)))))
local macro_rules | `(tactic| walk_at "ty") => `(tactic| first | exact ty_int | (refine' ty_lst ?kkh; (case kkh => walk_at "at")))
local macro_rules | `(tactic| walk_at "k1") => `(tactic| with_reducible first
  | refine q_seq ?_ | refine q_set ?_ | refine q_asg ?_ | refine q_ret ?_ | refine q_drop ?_ | refine q_next ?_ | refine q_c ?_ | refine q_op ?_ | refine q_un ?_ | refine q_nil ?_ | refine q_cons ?_ | refine q_cb ?_
  | refine q_call ?_ | refine q_ifs ?_ | refine q_if ?_ | refine q_test ?_ | refine q_tb ?_ | refine q_bl ?_ | refine q_notT ?_ | refine q_andT ?_ | refine q_orT ?_ | refine q_andV ?_ | refine q_orV ?_ | refine q_notV ?_
  | refine q_addA ?_ | refine q_subI ?_ | refine q_ltI ?_ | refine q_leI ?_ | refine q_gtI ?_ | refine q_geI ?_ | refine q_eqI ?_ | refine q_neI ?_ | refine q_abs ?_ | refine q_int ?_ | refine q_intB ?_ | refine q_max ?_ | refine q_min ?_
  | refine q_ipAdd ?_ | refine q_ipSub ?_ | refine q_gsub ?_ | refine q_augs ?_ | refine q_lst ?_ | refine q_tup ?_ | refine q_blI ?_ | refine iteT ?_ | refine iteF ?_ | refine iteNT ?_ | refine iteNF ?_
  | refine r_prop ?_ | refine r_fld ?_ | refine r_sfld ?_ | refine r_meth ?_ | refine r_make ?_ | refine r_sl ?_ | refine r_nopart ?_ | refine r_part ?_ | refine r_parti ?_ | refine r_gsl ?_ | refine r_bm ?_ | refine r_bm0 ?_ | refine r_for ?_ | refine r_ilist ?_ | refine r_irng ?_
  | refine r_gname ?_ | refine r_gcons ?_ | refine r_gnil ?_ | refine r_par ?_ | refine r_parA ?_ | refine r_chain ?_ | refine r_isN ?_ | refine r_tlc ?_ | refine r_yes ?_ | refine r_makek ?_ | refine r_neg ?_)
local macro_rules | `(tactic| walk_at "k2") => `(tactic| first
  | ((with_reducible refine' q_var ?kke ?_); (case kke => rfl))
  | ((with_reducible refine' q_aug ?kke ?_); (case kke => rfl))
  | ((with_reducible refine' q_ixL ?kks ?kke ?_); (case kks => walk_at "sq"); (case kke => first | rfl | assumption))
  | ((with_reducible refine' q_ixT ?kks ?kke ?_); (case kks => walk_at "st"); (case kke => first | rfl | assumption))
  | ((with_reducible refine' q_ixLL ?kks ?kke ?_); (case kks => walk_at "sq"); (case kke => first | rfl | assumption))
  | ((with_reducible refine' q_lenL ?kks ?_); (case kks => walk_at "sq"))
  | ((with_reducible refine' q_mulI ?kkc ?_); (case kkc => first | exact .inl (by omega) | exact .inr (by omega)))
  | ((with_reducible refine' q_modI ?kkc ?_); (case kkc => omega))
  | ((with_reducible refine' q_divI ?kkc ?_); (case kkc => exact ⟨by omega, by omega⟩))
  | ((with_reducible refine' q_powI ?kkc ?_); (case kkc => exact ⟨by decide, by decide, by decide⟩))
  | ((with_reducible refine' r_kfld ?kkS ?kkp ?kkc ?kkn ?kkl ?_); (case kkS => assumption); (case kkp => walk_at "mem"); (case kkc => walk_at "cls"); (case kkn => walk_at "na"); (case kkl => walk_at "lk"))
  | ((with_reducible refine' r_kprop ?kkS ?kkp ?_); (case kkS => assumption); (case kkp => walk_at "mem"))
  | ((with_reducible refine' r_kmeth ?kkS ?kkp ?kkl ?_); (case kkS => assumption); (case kkp => walk_at "mem"); (case kkl => walk_at "lk"))
  | ((with_reducible refine' r_calll ?kks ?_); (case kks => rfl))
  | ((with_reducible refine' r_tyl ?kks ?_); (case kks => walk_at "sq"))
  | ((with_reducible refine' r_isi (k := true) ?kkt ?kke ?_); (case kkt => walk_at "ty"); (case kke => decide +kernel))
  | ((with_reducible refine' r_isi (k := false) ?kkt ?kke ?_); (case kkt => walk_at "ty"); (case kke => decide +kernel)))
local macro_rules | `(tactic| walk_at "k3") => `(tactic| first
  | ((with_reducible refine' q_setS ?kkS ?kkr ?kke ?_); (case kkS => assumption); (case kkr => walk_at "rep"); (case kke => rfl); intro H S)
  | ((with_reducible refine' r_kset ?kkS ?kkr ?kkc ?kkn ?kkl ?kke ?_); (case kkS => assumption); (case kkr => walk_at "rep"); (case kkc => walk_at "cls"); (case kkn => walk_at "na"); (case kkl => first | exact Nat.le_of_ble_eq_true rfl | assumption | omega | (simp; done) | (simp; omega)); (case kke => walk_at "pf"); intro H S)
  | ((with_reducible refine' q_new ?kkS ?kkl ?_); (case kkS => assumption); (case kkl => first | exact Nat.le_of_ble_eq_true rfl | assumption | omega | (simp; done) | (simp; omega)); intro p H S)
  | ((with_reducible refine' q_newT ?kkS ?kkl ?_); (case kkS => assumption); (case kkl => first | exact Nat.le_of_ble_eq_true rfl | assumption | omega | (simp; done) | (simp; omega)); intro p H S)
  | ((with_reducible refine' r_knew ?kkS ?_); (case kkS => assumption); intro x dx H S)
  | ((with_reducible refine' r_knewk ?kkS ?kkl1 ?kkl2 ?_); (case kkS => assumption); (case kkl1 => rfl); (case kkl2 => rfl); intro x dx H S)
  | ((with_reducible refine' r_ksl ?kkS ?kks ?_); (case kkS => assumption); (case kks => walk_at "sq"); intro p H S)
  | ((with_reducible refine' r_list ?kkS ?kks ?_); (case kkS => assumption); (case kks => walk_at "sq"); intro p H S)
  | ((with_reducible refine' r_cat ?kkS ?kks1 ?kks2 ?kkz ?_); (case kkS => assumption); (case kks1 => walk_at "at"); (case kks2 => walk_at "at"); (case kkz => first | omega | (simp; omega)); intro p H S)
  | ((with_reducible refine' r_append ?kkS ?kkr ?kkz ?_); (case kkS => assumption); (case kkr => walk_at "rep"); (case kkz => first | omega | (simp; omega)); intro H S)
  | ((with_reducible refine' r_reverse ?kkS ?kkr ?_); (case kkS => assumption); (case kkr => walk_at "rep"); intro H S)
  | ((with_reducible refine' r_clear ?kkS ?kkr ?_); (case kkS => assumption); (case kkr => walk_at "rep"); intro H S))
local macro_rules | `(tactic| walk_at "gn") => `(tactic| repeat (first | walk_at "k1" | walk_at "k2"))
local macro_rules | `(tactic| walk_at "go") => `(tactic| repeat (first | walk_at "k1" | walk_at "k2" | walk_at "k3"))

local macro_rules | `(tactic| walk_at "sq") => `(tactic| first | assumption | (refine' Sep.sq ?kkS ?kkpk; (case kkS => assumption); (case kkpk => walk_at "mem")) | (refine' hp_sqL ?kkS ?kkx; (case kkS => assumption); (case kkx => assumption)) | (refine' hp_sqL (Sep.tl ?kkS) ?kkx; (case kkS => assumption); (case kkx => assumption)) | (refine' hp_sqL (Sep.tl (Sep.tl ?kkS)) ?kkx; (case kkS => assumption); (case kkx => assumption)))
local macro_rules | `(tactic| walk_at "st") => `(tactic| first | assumption | (refine' Sep.st ?kkS ?kkpk; (case kkS => assumption); (case kkpk => walk_at "mem")) | (refine' hp_sqT ?kkS ?kkx; (case kkS => assumption); (case kkx => assumption)) | (refine' hp_sqT (Sep.tl ?kkS) ?kkx; (case kkS => assumption); (case kkx => assumption)) | (refine' hp_sqT (Sep.tl (Sep.tl ?kkS)) ?kkx; (case kkS => assumption); (case kkx => assumption)))
local macro_rules | `(tactic| walk_at "k1") => `(tactic| with_reducible first | refine r_ienumT ?_ | refine r_tru ?_ | refine r_itup ?_ | refine r_star ?_ | refine r_par3 ?_ | refine r_parA3 ?_ | refine r_dget ?_ | refine r_din ?_ | refine r_dnotin ?_ | refine r_dput ?_)

local macro_rules | `(tactic| walk_at "k1") => `(tactic| with_reducible first | refine r_kget ?_ | refine r_orT ?_ | refine r_slA ?_ | refine r_m1 ?_ | refine r_isS ?_ | refine r_istr ?_ | refine r_mkv ?_ | refine r_ost ?_ | refine r_xfld ?_)
local macro_rules | `(tactic| walk_at "k1") => `(tactic| with_reducible refine r_slS ?_)
local macro_rules | `(tactic| walk_at "k3") => `(tactic| ((with_reducible refine' r_cat ?kkS ?kks1 ?kks2 ?kkz ?_); (case kkS => assumption); (case kks1 => walk_at "at"); (case kks2 => walk_at "at"); (case kkz => first | exact Nat.le_of_ble_eq_true rfl | (simp; done) | omega); intro p H S))
local macro_rules | `(tactic| walk_at "k3") => `(tactic| ((with_reducible refine' r_append ?kkS ?kkr ?kkz ?_); (case kkS => assumption); (case kkr => walk_at "rep"); (case kkz => first | assumption | exact Nat.le_of_ble_eq_true rfl | (simp; done) | omega); intro H S))

section
variable {P : Program} {w : World} {K : PySem.W.Frag} {mg : Str → Option Value} {base : Heap} {f_GROWINGS : Addr} {c : Nat → Addr}
abbrev l30 : Str := "abcdefghijklmnopqrstuvwxyzA_1 "
theorem l30_len : l30.cps.toList.length = 30 := by decide +kernel
theorem l30_all : ∀ c ∈ l30.cps.toList, c < 128 := by decide +kernel
theorem l30_at {k : Nat} (h : k < 30) : ∃ c, l30.cps.toList[k]? = some c ∧ c < 128 := by
  have hk : k < l30.cps.toList.length := by rw [l30_len]; exact h
  exact ⟨_, List.getElem?_eq_getElem hk, l30_all _ (List.getElem_mem hk)⟩
theorem r_letter30 {K : PySem.W.Frag} {H : Hp} {Q : VK} {i : Int} (h0 : 0 ≤ i) (h1 : i < 30) (q : ∀ c, c < 128 → Q (.str (lt1 c)) H) : rIx K (.str l30) (.int i) H Q := by
  obtain ⟨k, rfl⟩ := Int.eq_ofNat_of_zero_le h0
  obtain ⟨c, hc, hl⟩ := l30_at (k := k) (by omega)
  exact .inr (.inr ⟨_, _, _, rfl, rfl, (show (30 : Nat) ≤ sizeLine by decide), atI_nat hc, q c hl⟩)
def spThing (K : PySem.W.Frag) : Sp := fun vs H Q _ => ∃ (b : Addr) (G : Hp) (R : List SP), vs = [.ref b] ∧ Sep (hp G :: bag b :: R) H ∧ ∀ v T d G' H', Le G G' → Th K G' v T d → Sep (hp G' :: bag b :: R) H' → Q v H'
theorem sc_l_thing : FnScope N_l_thing ["_law_bag_here"] (defScope s_l_thing) := ⟨rfl, rfl, rfl, by decide +kernel, rfl, by decide +kernel, by decide +kernel⟩
theorem ok_l_thing {f f1 f2 : Addr} (F : Dt K mg "_law_thing" s_l_thing ["_law_bag_here"] f) (T : Tx K mg f_GROWINGS) (D_l_take : Df P w K mg base 1 "_law_take" f1 ["_law_bag_here", "_law_many"] spTake) (D_l_odd : Df P w K mg base 2 "_law_odd" f2 ["_law_bag_here"] (spOdd K)) : Df P w K mg base 3 "_law_thing" f ["_law_bag_here"] (spThing K) := by
  refine F.ok sc_l_thing (fun vs H Q E h => ?_) (fun cdv A outer s H vs Q E hr h => ?_)
  · obtain ⟨b, G, R, rfl, _⟩ := h
    rfl
  obtain ⟨b, G, R, rfl, S, q⟩ := h
  refine ⟨_, (pss_cons (ps_set (i := 1) sc_l_thing.nd rfl (by first | exact Or.inl rfl | exact Or.inr rfl) pe_str)
      (pss_cons (ps_set (i := 2) sc_l_thing.nd rfl (by first | exact Or.inl rfl | exact Or.inr rfl) (pe_joinK K pe_str (pe_lc (own := [("_law_k", 4)]) rfl sc_l_thing.nd (pi_range1 rfl T.z_range (pa_cons (pe_df D_l_take (hr.mono (by first | decide | omega)) (pa_cons (pv 0) (pa_cons pe_int pa_nil))) pa_nil)) (blkOk_by (own := [("_law_k", 4)]) (N := N_l_thing) (sc := defScope s_l_thing) (by decide +kernel)) (fun _ _ _ _ _ => (pg_name (i := 4) sc_l_thing.nd rfl (by first | exact Or.inl rfl | exact Or.inr rfl))) (fun _ _ _ _ _ => pts_nil) (fun _ _ _ _ _ => (pe_ix (r := rIx K) ix_seq (pv 1) (pe_df D_l_take (hr.mono (by first | decide | omega)) (pa_cons (pv 0) (pa_cons (pe_ix (r := rIx K) ix_seq (pe_lst (pa_cons pe_int (pa_cons pe_int (pa_cons pe_int pa_nil)))) (pe_df D_l_take (hr.mono (by first | decide | omega)) (pa_cons (pv 0) (pa_cons pe_int pa_nil))) (fun _ _ => rfl)) pa_nil))) (fun _ _ => rfl))))))
      (pss_cons (ps_set (i := 3) sc_l_thing.nd rfl (by first | exact Or.inl rfl | exact Or.inr rfl) (pe_lst (pa_cons pe_str (pa_cons pe_str (pa_cons pe_str (pa_cons pe_str (pa_cons pe_str (pa_cons (pv 2) (pa_cons (pe_slice (r := rSlS) sl_str (pv 2) po_none (po_some pe_int)) (pa_cons (pe_df D_l_odd (hr.mono (by first | decide | omega)) (pa_cons (pv 0) pa_nil)) (pa_cons (pe_df D_l_take (hr.mono (by first | decide | omega)) (pa_cons (pv 0) (pa_cons pe_int pa_nil))) (pa_cons (pe_un un_neg pe_int) (pa_cons pe_bl pa_nil)))))))))))))
      (pss_one (ps_ret (pe_ix (r := rIx K) ix_seq (pe_op (r := rAddA) op_addA (pv 3) (pe_lst (pa_cons (pe_lst (pa_cons pe_str pa_nil)) pa_nil))) (pe_df D_l_take (hr.mono (by first | decide | omega)) (pa_cons (pv 0) (pa_cons pe_int pa_nil))) (fun _ _ => rfl))))))), ?_⟩
  walk_at "go"
  refine ⟨b, 10, _, rfl, by decide, by decide, S.swap, fun n H n0 n1 S => ?_⟩
  have S := S.swap
  refine r_lc_rng (fun i acc Ps => ∃ cs : List Nat, acc = (cs.map lt1).map V.str ∧ cs.length = i ∧ (∀ c ∈ cs, c < 128) ∧ Ps = hp G :: bag b :: R) S (by omega) (by omega) ⟨[], rfl, rfl, nofun, rfl⟩ ?_ ?_
  · rintro D i acc Ps H hi ⟨cs, rfl, hc, haz, rfl⟩ S
    walk_at "go"
    refine ⟨rfl, ?_⟩
    walk_at "go"
    refine ⟨b, 3, _, rfl, by decide, by decide, S.s1 (A := bag b) (by walk_at "sel"), fun u H u0 u1 S => ?_⟩
    obtain ⟨k, rfl⟩ := Int.eq_ofNat_of_zero_le u0
    have hk : ∃ m : Int, atI [V.int 26, V.int 26, V.int 30] (k : Int) = some (.int m) ∧ 0 < m ∧ m ≤ 30 := by
      have : k = 0 ∨ k = 1 ∨ k = 2 := by omega
      rcases this with rfl | rfl | rfl
      · exact ⟨26, rfl, by decide, by decide⟩
      · exact ⟨26, rfl, by decide, by decide⟩
      · exact ⟨30, rfl, by decide, by decide⟩
    obtain ⟨m, hm, m0, m1⟩ := hk
    refine q_ixL (by walk_at "sq") hm ?_
    walk_at "go"
    refine ⟨b, m, _, rfl, m0, by omega, S.s1 (A := bag b) (by walk_at "sel"), fun u H u0 u1 S => ?_⟩
    refine r_letter30 u0 (by omega) fun c hc1 => ?_
    refine cn_in (S.s3 (A := pt D (.lst ((cs.map lt1).map V.str))) (B := hp G) (C := bag b) (by walk_at "sel")) (by rw [List.length_map, List.length_map]; omega) ⟨cs ++ [c], by simp, by rw [List.length_append, hc]; rfl, fun c' mm => ?_, rfl⟩
    rcases List.mem_append.mp mm with mm | mm
    · exact haz c' mm
    · rw [List.mem_singleton] at mm
      omega
  · rintro D acc Ps H ⟨cs, rfl, hc, haz, rfl⟩ S
    refine r_join0 (by walk_at "sq") (by omega) fun z hz => ?_
    have hzl : z.length ≤ 10 := by
      show z.cps.size ≤ 10
      rw [← Array.length_toList, hz]
      omega
    have hzo : PyData.strOk z = true := by
      unfold PyData.strOk
      rw [← Array.all_toList, List.all_eq_true, hz]
      intro c m
      have := haz c m
      exact decide_eq_true (by omega)
    have S := S.tl
    walk_at "go"
    refine ⟨z, rfl, Nat.le_trans hzl (by decide), ?_⟩
    have hwl : (cutS z none (some 8)).length ≤ 10 := Nat.le_trans cutS_len hzl
    have hwo : PyData.strOk (cutS z none (some 8)) = true := cutS_ok hzo
    generalize cutS z none (some 8) = z2 at hwl hwo
    walk_at "go"
    refine ⟨b, G, _, rfl, S, fun v Ps G1 H le1 hv S => ?_⟩
    obtain ⟨To, d, G2, le2, th, S⟩ := hv.rest S
    walk_at "go"
    refine ⟨b, 9, _, rfl, by decide, by decide, S.swap, fun t H t0 t1 S => ?_⟩
    walk_at "go"
    generalize he : [V.str "exact", .str "spare", .str "exac", .str "spares", .str "", .str z, .str z2, v, .int t, .int (-1), .bl true] ++ _ = es at S
    have hes : es.length = 12 := by rw [← he]; rfl
    refine ⟨b, 12, _, rfl, by decide, by decide, S.s1 (A := bag b) (by walk_at "sel"), fun n H n0 n1 S => ?_⟩
    obtain ⟨v', hv, hm⟩ := at_i (xs := es) n0 (by omega)
    refine q_ixL (by walk_at "sq") hv ?_
    rw [← he] at hm
    simp only [List.cons_append, List.nil_append, List.mem_cons, List.not_mem_nil, or_false] at hm
    have S0 : Unit → Sep (hp G2 :: bag b :: R) H := fun _ => S.s2 (by walk_at "sel")
    have le := le1.tr le2
    rcases hm with rfl | rfl | rfl | rfl | rfl | rfl | rfl | rfl | rfl | rfl | rfl | rfl
    · exact q _ _ _ G2 _ le (th_str (by decide +kernel) (by decide +kernel)) (S0 ())
    · exact q _ _ _ G2 _ le (th_str (by decide +kernel) (by decide +kernel)) (S0 ())
    · exact q _ _ _ G2 _ le (th_str (by decide +kernel) (by decide +kernel)) (S0 ())
    · exact q _ _ _ G2 _ le (th_str (by decide +kernel) (by decide +kernel)) (S0 ())
    · exact q _ _ _ G2 _ le (th_str (by decide +kernel) (by decide +kernel)) (S0 ())
    · exact q _ _ _ G2 _ le (th_str hzo (by omega)) (S0 ())
    · exact q _ _ _ G2 _ le (th_str hwo (by omega)) (S0 ())
    · exact q _ _ _ G2 _ le th (S0 ())
    · exact q _ _ _ G2 _ le (th_int (by omega)) (S0 ())
    · exact q _ _ _ G2 _ le (th_int (by decide)) (S0 ())
    · exact q _ _ _ G2 _ le (th_bl true) (S0 ())
    · have S2 : Sep (pt _ (.lst [.str "spare"]) :: hp G2 :: bag b :: R) H := S.s3 (by walk_at "sel")
      obtain ⟨G3, le3, hd, S3⟩ := hp_lst (ds := [.str "spare"]) S2 (.cons (.str "spare") .nil)
      exact q _ _ _ G3 _ (le.tr le3) (th_lst hd ⟨⟨by decide +kernel, by decide +kernel⟩, by decide +kernel, by decide +kernel, by decide +kernel⟩) S3

end
end Pf

set_option Elab.async false
set_option linter.all false
set_option maxRecDepth 100000
set_option maxHeartbeats 8000000
namespace Pf
open PySem L2 Kt
set_option hygiene false
local macro_rules | `(tactic| walk_at "mem") => `(tactic| (with_reducible (repeat (first | exact Pick.hd | apply Pick.tl)); done))
local macro_rules | `(tactic| walk_at "rep") => `(tactic| (with_reducible (repeat (first | exact Repl.hd | apply Repl.tl)); done))
local macro_rules | `(tactic| walk_at "sel") => `(tactic| ((repeat (with_reducible apply Sel.cons; (focus walk_at "mem"))); (with_reducible apply Sel.nil); (with_reducible (repeat (first | exact Dr.all | apply Dr.skip)); done)))
local macro_rules | `(tactic| walk_at "at") => `(tactic| (refine' Sep.at_ (by assumption) ?kkpk; (case kkpk => walk_at "mem")))
local macro_rules | `(tactic| walk_at "sq") => `(tactic| first | assumption | (refine' Sep.sq (by assumption) ?kkpk; (case kkpk => walk_at "mem")))
local macro_rules | `(tactic| walk_at "st") => `(tactic| first | assumption | (refine' Sep.st (by assumption) ?kkpk; (case kkpk => walk_at "mem")))
local macro_rules | `(tactic| walk_at "lk") => `(tactic| (repeat (first | (with_reducible exact lk_eq) | exact rfl | refine (lk_ne (by decide +kernel)).trans ?_)))
local macro_rules | `(tactic| walk_at "pf") => `(tactic| (repeat (first | (with_reducible exact pf_nil) | (with_reducible exact pf_eq) | (apply pf_ne; (focus decide +kernel)))))
local macro_rules | `(tactic| walk_at "ty") => `(tactic| first | exact ty_int | (refine' ty_lst ?kkh; (case kkh => walk_at "at")))
local macro_rules | `(tactic| walk_at "k1") => `(tactic| with_reducible first
  | refine q_seq ?_ | refine q_set ?_ | refine q_asg ?_ | refine q_ret ?_ | refine q_drop ?_ | refine q_next ?_ | refine q_c ?_ | refine q_op ?_ | refine q_un ?_ | refine q_nil ?_ | refine q_cons ?_ | refine q_cb ?_
  | refine q_call ?_ | refine q_ifs ?_ | refine q_if ?_ | refine q_test ?_ | refine q_tb ?_ | refine q_bl ?_ | refine q_notT ?_ | refine q_andT ?_ | refine q_orT ?_ | refine q_andV ?_ | refine q_orV ?_ | refine q_notV ?_
  | refine q_addA ?_ | refine q_subI ?_ | refine q_ltI ?_ | refine q_leI ?_ | refine q_gtI ?_ | refine q_geI ?_ | refine q_eqI ?_ | refine q_neI ?_ | refine q_abs ?_ | refine q_int ?_ | refine q_intB ?_ | refine q_max ?_ | refine q_min ?_
  | refine q_ipAdd ?_ | refine q_ipSub ?_ | refine q_gsub ?_ | refine q_augs ?_ | refine q_lst ?_ | refine q_tup ?_ | refine q_blI ?_ | refine iteT ?_ | refine iteF ?_ | refine iteNT ?_ | refine iteNF ?_
  | refine r_prop ?_ | refine r_fld ?_ | refine r_sfld ?_ | refine r_meth ?_ | refine r_make ?_ | refine r_sl ?_ | refine r_nopart ?_ | refine r_part ?_ | refine r_parti ?_ | refine r_gsl ?_ | refine r_bm ?_ | refine r_bm0 ?_ | refine r_for ?_ | refine r_ilist ?_ | refine r_irng ?_
  | refine r_gname ?_ | refine r_gcons ?_ | refine r_gnil ?_ | refine r_par ?_ | refine r_parA ?_ | refine r_chain ?_ | refine r_isN ?_ | refine r_tlc ?_ | refine r_yes ?_ | refine r_makek ?_ | refine r_neg ?_)
local macro_rules | `(tactic| walk_at "k2") => `(tactic| first
  | ((with_reducible refine' q_var ?kke ?_); (case kke => rfl))
  | ((with_reducible refine' q_aug ?kke ?_); (case kke => rfl))
  | ((with_reducible refine' q_ixL ?kks ?kke ?_); (case kks => walk_at "sq"); (case kke => first | rfl | assumption))
  | ((with_reducible refine' q_ixT ?kks ?kke ?_); (case kks => walk_at "st"); (case kke => first | rfl | assumption))
  | ((with_reducible refine' q_ixLL ?kks ?kke ?_); (case kks => walk_at "sq"); (case kke => first | rfl | assumption))
  | ((with_reducible refine' q_lenL ?kks ?_); (case kks => walk_at "sq"))
  | ((with_reducible refine' q_mulI ?kkc ?_); (case kkc => first | exact .inl (by omega) | exact .inr (by omega)))
  | ((with_reducible refine' q_modI ?kkc ?_); (case kkc => omega))
  | ((with_reducible refine' q_divI ?kkc ?_); (case kkc => exact ⟨by omega, by omega⟩))
  | ((with_reducible refine' q_powI ?kkc ?_); (case kkc => exact ⟨by decide, by decide, by decide⟩))
  | ((with_reducible refine' r_kfld ?kkS ?kkp ?kkc ?kkn ?kkl ?_); (case kkS => assumption); (case kkp => walk_at "mem"); (case kkc => walk_at "cls"); (case kkn => walk_at "na"); (case kkl => walk_at "lk"))
  | ((with_reducible refine' r_kprop ?kkS ?kkp ?_); (case kkS => assumption); (case kkp => walk_at "mem"))
  | ((with_reducible refine' r_kmeth ?kkS ?kkp ?kkl ?_); (case kkS => assumption); (case kkp => walk_at "mem"); (case kkl => walk_at "lk"))
  | ((with_reducible refine' r_calll ?kks ?_); (case kks => rfl))
  | ((with_reducible refine' r_tyl ?kks ?_); (case kks => walk_at "sq"))
  | ((with_reducible refine' r_isi (k := true) ?kkt ?kke ?_); (case kkt => walk_at "ty"); (case kke => decide +kernel))
  | ((with_reducible refine' r_isi (k := false) ?kkt ?kke ?_); (case kkt => walk_at "ty"); (case kke => decide +kernel)))
local macro_rules | `(tactic| walk_at "k3") => `(tactic| first
  | ((with_reducible refine' q_setS ?kkS ?kkr ?kke ?_); (case kkS => assumption); (case kkr => walk_at "rep"); (case kke => rfl); intro H S)
  | ((with_reducible refine' r_kset ?kkS ?kkr ?kkc ?kkn ?kkl ?kke ?_); (case kkS => assumption); (case kkr => walk_at "rep"); (case kkc => walk_at "cls"); (case kkn => walk_at "na"); (case kkl => first | exact Nat.le_of_ble_eq_true rfl | assumption | omega | (simp; done) | (simp; omega)); (case kke => walk_at "pf"); intro H S)
  | ((with_reducible refine' q_new ?kkS ?kkl ?_); (case kkS => assumption); (case kkl => first | exact Nat.le_of_ble_eq_true rfl | assumption | omega | (simp; done) | (simp; omega)); intro p H S)
  | ((with_reducible refine' q_newT ?kkS ?kkl ?_); (case kkS => assumption); (case kkl => first | exact Nat.le_of_ble_eq_true rfl | assumption | omega | (simp; done) | (simp; omega)); intro p H S)
  | ((with_reducible refine' r_knew ?kkS ?_); (case kkS => assumption); intro x dx H S)
  | ((with_reducible refine' r_knewk ?kkS ?kkl1 ?kkl2 ?_); (case kkS => assumption); (case kkl1 => rfl); (case kkl2 => rfl); intro x dx H S)
  | ((with_reducible refine' r_ksl ?kkS ?kks ?_); (case kkS => assumption); (case kks => walk_at "sq"); intro p H S)
  | ((with_reducible refine' r_list ?kkS ?kks ?_); (case kkS => assumption); (case kks => walk_at "sq"); intro p H S)
  | ((with_reducible refine' r_cat ?kkS ?kks1 ?kks2 ?kkz ?_); (case kkS => assumption); (case kks1 => walk_at "at"); (case kks2 => walk_at "at"); (case kkz => first | omega | (simp; omega)); intro p H S)
  | ((with_reducible refine' r_append ?kkS ?kkr ?kkz ?_); (case kkS => assumption); (case kkr => walk_at "rep"); (case kkz => first | omega | (simp; omega)); intro H S)
  | ((with_reducible refine' r_reverse ?kkS ?kkr ?_); (case kkS => assumption); (case kkr => walk_at "rep"); intro H S)
  | ((with_reducible refine' r_clear ?kkS ?kkr ?_); (case kkS => assumption); (case kkr => walk_at "rep"); intro H S))
local macro_rules | `(tactic| walk_at "gn") => `(tactic| repeat (first | walk_at "k1" | walk_at "k2"))
local macro_rules | `(tactic| walk_at "go") => `(tactic| repeat (first | walk_at "k1" | walk_at "k2" | walk_at "k3"))

local macro_rules | `(tactic| walk_at "sq") => `(tactic| first | assumption | (refine' Sep.sq ?kkS ?kkpk; (case kkS => assumption); (case kkpk => walk_at "mem")) | (refine' hp_sqL ?kkS ?kkx; (case kkS => assumption); (case kkx => assumption)) | (refine' hp_sqL (Sep.tl ?kkS) ?kkx; (case kkS => assumption); (case kkx => assumption)) | (refine' hp_sqL (Sep.tl (Sep.tl ?kkS)) ?kkx; (case kkS => assumption); (case kkx => assumption)))
local macro_rules | `(tactic| walk_at "st") => `(tactic| first | assumption | (refine' Sep.st ?kkS ?kkpk; (case kkS => assumption); (case kkpk => walk_at "mem")) | (refine' hp_sqT ?kkS ?kkx; (case kkS => assumption); (case kkx => assumption)) | (refine' hp_sqT (Sep.tl ?kkS) ?kkx; (case kkS => assumption); (case kkx => assumption)) | (refine' hp_sqT (Sep.tl (Sep.tl ?kkS)) ?kkx; (case kkS => assumption); (case kkx => assumption)))
local macro_rules | `(tactic| walk_at "k1") => `(tactic| with_reducible first | refine r_ienumT ?_ | refine r_tru ?_ | refine r_itup ?_ | refine r_star ?_ | refine r_par3 ?_ | refine r_parA3 ?_ | refine r_dget ?_ | refine r_din ?_ | refine r_dnotin ?_ | refine r_dput ?_)

local macro_rules | `(tactic| walk_at "k1") => `(tactic| with_reducible first | refine r_kget ?_ | refine r_orT ?_ | refine r_slA ?_ | refine r_m1 ?_ | refine r_isS ?_ | refine r_istr ?_ | refine r_mkv ?_ | refine r_ost ?_ | refine r_xfld ?_)
local macro_rules | `(tactic| walk_at "k1") => `(tactic| with_reducible refine r_slS ?_)
local macro_rules | `(tactic| walk_at "k3") => `(tactic| ((with_reducible refine' r_cat ?kkS ?kks1 ?kks2 ?kkz ?_); (case kkS => assumption); (case kks1 => walk_at "at"); (case kks2 => walk_at "at"); (case kkz => first | exact Nat.le_of_ble_eq_true rfl | (simp; done) | omega); intro p H S))
local macro_rules | `(tactic| walk_at "k3") => `(tactic| ((with_reducible refine' r_append ?kkS ?kkr ?kkz ?_); (case kkS => assumption); (case kkr => walk_at "rep"); (case kkz => first | assumption | exact Nat.le_of_ble_eq_true rfl | (simp; done) | omega); intro H S))

section
variable {P : Program} {w : World} {K : PySem.W.Frag} {mg : Str → Option Value} {base : Heap} {f_GROWINGS : Addr} {c : Nat → Addr}
theorem sc_l_errors : FnScope N_l_errors ["_law_x", "_law_y"] (defScope s_l_errors) := ⟨rfl, rfl, rfl, by decide +kernel, rfl, by decide +kernel, by decide +kernel⟩
def spErrors (c : Nat → Addr) : Sp := fun vs H Q _ => ∃ (x y : V) (G : Hp) (R : List SP), vs = [x, y] ∧ Sep (hp G :: R) H ∧ ∀ (e : Nat → Addr) (L : Addr) (G' H' : Hp), Le G G' → (∀ i, i < 20 → ErO G' (e i) (c i) (fl x y i)) → Sep (pt L (.lst (eL e)) :: hp G' :: R) H' → Q (.ref L) H'
theorem ok_l_errors {f : Addr} (F : Dt K mg "_law_errors" s_l_errors ["_law_x", "_law_y"] f) (T : Tx K mg f_GROWINGS) (E : Ers K mg c)
    (M_Wrong : Exi P w K mg base 1 "Wrong" (c 0) ["self", "place"] (spI "place" (c 0)))
    (M_Unknown : Exi P w K mg base 1 "Unknown" (c 1) ["self", "name"] (spI "name" (c 1)))
    (M_NoCell : Exi P w K mg base 1 "NoCell" (c 2) ["self", "at"] (spI "at" (c 2)))
    (M_BadRoom : Exi P w K mg base 1 "BadRoom" (c 3) ["self", "size"] (spI "size" (c 3)))
    (M_Unfit : Exi P w K mg base 1 "Unfit" (c 4) ["self", "at"] (spI "at" (c 4)))
    (M_NoArray : Exi P w K mg base 1 "NoArray" (c 5) ["self", "index"] (spI "index" (c 5)))
    (M_Broken : Exi P w K mg base 1 "Broken" (c 6) ["self", "at"] (spI "at" (c 6)))
    (M_NoPlace : Exi P w K mg base 1 "NoPlace" (c 7) ["self", "place"] (spI "place" (c 7)))
    (M_TooMany : Exi P w K mg base 1 "TooMany" (c 8) ["self", "limit"] (spI "limit" (c 8)))
    (M_NoFunction : Exi P w K mg base 1 "NoFunction" (c 9) ["self", "name"] (spI "name" (c 9)))
    (M_Full : Exi P w K mg base 1 "Full" (c 10) ["self", "limit"] (spI "limit" (c 10)))
    (M_Refused : Exi P w K mg base 1 "Refused" (c 11) ["self", "deed"] (spI "deed" (c 11)))
    (M_NoEntry : Exi P w K mg base 1 "NoEntry" (c 12) ["self", "many"] (spI "many" (c 12)))
    (M_Endless : Exi P w K mg base 1 "Endless" (c 13) ["self", "function"] (spI "function" (c 13)))
    (M_BadStatement : Exi P w K mg base 1 "BadStatement" (c 14) ["self", "function", "address"] (spI2 "function" "address" (c 14)))
    : Df P w K mg base 3 "_law_errors" f ["_law_x", "_law_y"] (spErrors c) := by
  refine F.ok sc_l_errors (fun vs H Q E h => ?_) (fun cdv A outer s H vs Q E' hr h => ?_)
  · obtain ⟨x, y, G, R, rfl, _⟩ := h
    rfl
  obtain ⟨x, y, G, R, rfl, S, q⟩ := h
  refine ⟨_, (pss_cons (ps_set (i := 2) sc_l_errors.nd rfl (by first | exact Or.inl rfl | exact Or.inr rfl) (pe_lst (pa_cons (pe_exi M_Wrong (hr.mono (by decide)) (pa_cons (pv 0) pa_nil)) (pa_cons (pe_exi M_Unknown (hr.mono (by decide)) (pa_cons (pv 0) pa_nil)) (pa_cons (pe_exi M_NoCell (hr.mono (by decide)) (pa_cons (pv 0) pa_nil)) (pa_cons (pe_exi M_BadRoom (hr.mono (by decide)) (pa_cons (pv 0) pa_nil)) (pa_cons (pe_exi M_Unfit (hr.mono (by decide)) (pa_cons (pv 0) pa_nil)) (pa_cons (pe_exi M_NoArray (hr.mono (by decide)) (pa_cons (pv 0) pa_nil)) (pa_cons (pe_exi M_Broken (hr.mono (by decide)) (pa_cons (pv 0) pa_nil)) (pa_cons (pe_exi M_NoPlace (hr.mono (by decide)) (pa_cons (pv 0) pa_nil)) (pa_cons (pe_exi M_TooMany (hr.mono (by decide)) (pa_cons (pv 0) pa_nil)) pa_nil)))))))))))
      (pss_cons (ps_set (i := 2) sc_l_errors.nd rfl (by first | exact Or.inl rfl | exact Or.inr rfl) (pe_op (r := rAddA) op_addA (pv 2) (pe_lst (pa_cons (pe_exi M_NoFunction (hr.mono (by decide)) (pa_cons (pv 0) pa_nil)) (pa_cons (pe_exi M_Full (hr.mono (by decide)) (pa_cons (pv 0) pa_nil)) (pa_cons (pe_exi M_Refused (hr.mono (by decide)) (pa_cons (pv 0) pa_nil)) (pa_cons (pe_exi M_NoEntry (hr.mono (by decide)) (pa_cons (pv 0) pa_nil)) (pa_cons (pe_exi M_Endless (hr.mono (by decide)) (pa_cons (pv 0) pa_nil)) (pa_cons (pe_exi M_BadStatement (hr.mono (by decide)) (pa_cons (pv 0) (pa_cons (pv 1) pa_nil))) pa_nil)))))))))
      (pss_one (ps_ret (pe_op (r := rAddA) op_addA (pv 2) (pe_lst (pa_cons (pe_ex0 PySem.F.excBase_ValueError (E.x0 15 (by decide) (by decide) E.g_Nothing)) (pa_cons (pe_ex0 PySem.F.excBase_ValueError (E.x0 16 (by decide) (by decide) E.g_Unlike)) (pa_cons (pe_ex0 PySem.F.excBase_ValueError (E.x0 17 (by decide) (by decide) E.g_NoDeed)) (pa_cons (pe_ex0 PySem.F.excBase_ValueError (E.x0 18 (by decide) (by decide) E.g_NoText)) (pa_cons (pe_ex0 PySem.F.excBase_ValueError (E.x0 19 (by decide) (by decide) E.g_NoCommand)) pa_nil))))))))))), ?_⟩
  walk_at "go"
  obtain ⟨G0, hG0⟩ : ∃ z, z = G := ⟨G, rfl⟩
  subst hG0
  refine r_kmkv S fun a0 G1 H l0 e0 S => ?_
  walk_at "go"
  refine r_kmkv S fun a1 G2 H l1 e1 S => ?_
  walk_at "go"
  refine r_kmkv S fun a2 G3 H l2 e2 S => ?_
  walk_at "go"
  refine r_kmkv S fun a3 G4 H l3 e3 S => ?_
  walk_at "go"
  refine r_kmkv S fun a4 G5 H l4 e4 S => ?_
  walk_at "go"
  refine r_kmkv S fun a5 G6 H l5 e5 S => ?_
  walk_at "go"
  refine r_kmkv S fun a6 G7 H l6 e6 S => ?_
  walk_at "go"
  refine r_kmkv S fun a7 G8 H l7 e7 S => ?_
  walk_at "go"
  refine r_kmkv S fun a8 G9 H l8 e8 S => ?_
  walk_at "go"
  have S : Sep (hp G9 :: pt p _ :: R) H := S.s2 (by walk_at "sel")
  refine r_kmkv S fun a9 G10 H l9 e9 S => ?_
  walk_at "go"
  refine r_kmkv S fun a10 G11 H l10 e10 S => ?_
  walk_at "go"
  refine r_kmkv S fun a11 G12 H l11 e11 S => ?_
  walk_at "go"
  refine r_kmkv S fun a12 G13 H l12 e12 S => ?_
  walk_at "go"
  refine r_kmkv S fun a13 G14 H l13 e13 S => ?_
  walk_at "go"
  refine r_kmkv2 S fun a14 G15 H l14 e14 S => ?_
  walk_at "go"
  have S : Sep (hp G15 :: pt p _ :: R) H := S.s2 (by walk_at "sel")
  refine r_mk0 S fun a15 G16 H l15 e15 S => ?_
  walk_at "go"
  refine r_mk0 S fun a16 G17 H l16 e16 S => ?_
  walk_at "go"
  refine r_mk0 S fun a17 G18 H l17 e17 S => ?_
  walk_at "go"
  refine r_mk0 S fun a18 G19 H l18 e18 S => ?_
  walk_at "go"
  refine r_mk0 S fun a19 G20 H l19 e19 S => ?_
  walk_at "go"
  have m19 := l19
  have m18 := l18.tr m19
  have m17 := l17.tr m18
  have m16 := l16.tr m17
  have m15 := l15.tr m16
  have m14 := l14.tr m15
  have m13 := l13.tr m14
  have m12 := l12.tr m13
  have m11 := l11.tr m12
  have m10 := l10.tr m11
  have m9 := l9.tr m10
  have m8 := l8.tr m9
  have m7 := l7.tr m8
  have m6 := l6.tr m7
  have m5 := l5.tr m6
  have m4 := l4.tr m5
  have m3 := l3.tr m4
  have m2 := l2.tr m3
  have m1 := l1.tr m2
  have m0 := l0.tr m1
  refine q (fun i => [a0, a1, a2, a3, a4, a5, a6, a7, a8, a9, a10, a11, a12, a13, a14, a15, a16, a17, a18, a19].getD i 0) p G20 H m0 (fun i hi => ?_) (by have S2 := S.s2 (A := pt p _) (B := hp G20) (Rs := R) (by walk_at "sel"); exact S2)
  match i, hi with
  | 0, _ => exact e0.le m1
  | 1, _ => exact e1.le m2
  | 2, _ => exact e2.le m3
  | 3, _ => exact e3.le m4
  | 4, _ => exact e4.le m5
  | 5, _ => exact e5.le m6
  | 6, _ => exact e6.le m7
  | 7, _ => exact e7.le m8
  | 8, _ => exact e8.le m9
  | 9, _ => exact e9.le m10
  | 10, _ => exact e10.le m11
  | 11, _ => exact e11.le m12
  | 12, _ => exact e12.le m13
  | 13, _ => exact e13.le m14
  | 14, _ => exact e14.le m15
  | 15, _ => exact e15.le m16
  | 16, _ => exact e16.le m17
  | 17, _ => exact e17.le m18
  | 18, _ => exact e18.le m19
  | 19, _ => exact e19
  | n + 20, h => exact absurd h (by omega)
theorem sc_l_flags : FnScope N_l_flags ["_law_e"] (defScope s_l_flags) := ⟨rfl, rfl, rfl, by decide +kernel, rfl, by decide +kernel, by decide +kernel⟩
def flg (i : Nat) : List Bool := [decide (i = 0), decide (i = 1), decide (i = 2), decide (i = 3), decide (i = 4), decide (i = 5), decide (i = 6), decide (i = 7), decide (i = 8), decide (i = 9), decide (i = 10), decide (i = 11), decide (i = 12), decide (i = 13), decide (i = 14), decide (i = 15), decide (i = 16), decide (i = 17), decide (i = 18), decide (i = 19)]
def spFlags (c : Nat → Addr) : Sp := fun vs H Q _ => ∃ (a : Addr) (i : Nat) (fs : List (Str × V)) (G : Hp) (R : List SP), vs = [.ref a] ∧ i < 20 ∧ ErO G a (c i) fs ∧ Sep (hp G :: R) H ∧ ∀ L H', Sep (pt L (.lst ((flg i).map V.bl)) :: hp G :: R) H' → Q (.ref L) H'
theorem ok_l_flags {f : Addr} (F : Dt K mg "_law_flags" s_l_flags ["_law_e"] f) (T : Tx K mg f_GROWINGS) (E : Ers K mg c) : Df P w K mg base 1 "_law_flags" f ["_law_e"] (spFlags c) := by
  refine F.ok sc_l_flags (fun vs H Q E h => ?_) (fun cdv A outer s H vs Q E' hr h => ?_)
  · obtain ⟨a, i, fs, G, R, rfl, _⟩ := h
    rfl
  obtain ⟨a, i, fs, G, R, rfl, hi, ho, S, q⟩ := h
  refine ⟨_, (pss_cons (ps_set (i := 1) sc_l_flags.nd rfl (by first | exact Or.inl rfl | exact Or.inr rfl) (pe_lst (pa_cons (pe_callB (r := rIsE K) call_isE (by rfl) T.z_isinstance (by decide +kernel) (pa_cons (pv 0) (pa_cons (pe_glob (v := .ref (c 0)) rfl E.g_Wrong rfl) pa_nil))) (pa_cons (pe_callB (r := rIsE K) call_isE (by rfl) T.z_isinstance (by decide +kernel) (pa_cons (pv 0) (pa_cons (pe_glob (v := .ref (c 1)) rfl E.g_Unknown rfl) pa_nil))) (pa_cons (pe_callB (r := rIsE K) call_isE (by rfl) T.z_isinstance (by decide +kernel) (pa_cons (pv 0) (pa_cons (pe_glob (v := .ref (c 2)) rfl E.g_NoCell rfl) pa_nil))) (pa_cons (pe_callB (r := rIsE K) call_isE (by rfl) T.z_isinstance (by decide +kernel) (pa_cons (pv 0) (pa_cons (pe_glob (v := .ref (c 3)) rfl E.g_BadRoom rfl) pa_nil))) pa_nil))))))
      (pss_cons (ps_set (i := 1) sc_l_flags.nd rfl (by first | exact Or.inl rfl | exact Or.inr rfl) (pe_op (r := rAddA) op_addA (pv 1) (pe_lst (pa_cons (pe_callB (r := rIsE K) call_isE (by rfl) T.z_isinstance (by decide +kernel) (pa_cons (pv 0) (pa_cons (pe_glob (v := .ref (c 4)) rfl E.g_Unfit rfl) pa_nil))) (pa_cons (pe_callB (r := rIsE K) call_isE (by rfl) T.z_isinstance (by decide +kernel) (pa_cons (pv 0) (pa_cons (pe_glob (v := .ref (c 5)) rfl E.g_NoArray rfl) pa_nil))) (pa_cons (pe_callB (r := rIsE K) call_isE (by rfl) T.z_isinstance (by decide +kernel) (pa_cons (pv 0) (pa_cons (pe_glob (v := .ref (c 6)) rfl E.g_Broken rfl) pa_nil))) (pa_cons (pe_callB (r := rIsE K) call_isE (by rfl) T.z_isinstance (by decide +kernel) (pa_cons (pv 0) (pa_cons (pe_glob (v := .ref (c 7)) rfl E.g_NoPlace rfl) pa_nil))) pa_nil)))))))
      (pss_cons (ps_set (i := 1) sc_l_flags.nd rfl (by first | exact Or.inl rfl | exact Or.inr rfl) (pe_op (r := rAddA) op_addA (pv 1) (pe_lst (pa_cons (pe_callB (r := rIsE K) call_isE (by rfl) T.z_isinstance (by decide +kernel) (pa_cons (pv 0) (pa_cons (pe_glob (v := .ref (c 8)) rfl E.g_TooMany rfl) pa_nil))) (pa_cons (pe_callB (r := rIsE K) call_isE (by rfl) T.z_isinstance (by decide +kernel) (pa_cons (pv 0) (pa_cons (pe_glob (v := .ref (c 9)) rfl E.g_NoFunction rfl) pa_nil))) (pa_cons (pe_callB (r := rIsE K) call_isE (by rfl) T.z_isinstance (by decide +kernel) (pa_cons (pv 0) (pa_cons (pe_glob (v := .ref (c 10)) rfl E.g_Full rfl) pa_nil))) (pa_cons (pe_callB (r := rIsE K) call_isE (by rfl) T.z_isinstance (by decide +kernel) (pa_cons (pv 0) (pa_cons (pe_glob (v := .ref (c 11)) rfl E.g_Refused rfl) pa_nil))) pa_nil)))))))
      (pss_cons (ps_set (i := 1) sc_l_flags.nd rfl (by first | exact Or.inl rfl | exact Or.inr rfl) (pe_op (r := rAddA) op_addA (pv 1) (pe_lst (pa_cons (pe_callB (r := rIsE K) call_isE (by rfl) T.z_isinstance (by decide +kernel) (pa_cons (pv 0) (pa_cons (pe_glob (v := .ref (c 12)) rfl E.g_NoEntry rfl) pa_nil))) (pa_cons (pe_callB (r := rIsE K) call_isE (by rfl) T.z_isinstance (by decide +kernel) (pa_cons (pv 0) (pa_cons (pe_glob (v := .ref (c 13)) rfl E.g_Endless rfl) pa_nil))) (pa_cons (pe_callB (r := rIsE K) call_isE (by rfl) T.z_isinstance (by decide +kernel) (pa_cons (pv 0) (pa_cons (pe_glob (v := .ref (c 14)) rfl E.g_BadStatement rfl) pa_nil))) pa_nil))))))
      (pss_cons (ps_set (i := 1) sc_l_flags.nd rfl (by first | exact Or.inl rfl | exact Or.inr rfl) (pe_op (r := rAddA) op_addA (pv 1) (pe_lst (pa_cons (pe_callB (r := rIsE K) call_isE (by rfl) T.z_isinstance (by decide +kernel) (pa_cons (pv 0) (pa_cons (pe_glob (v := .ref (c 15)) rfl E.g_Nothing rfl) pa_nil))) (pa_cons (pe_callB (r := rIsE K) call_isE (by rfl) T.z_isinstance (by decide +kernel) (pa_cons (pv 0) (pa_cons (pe_glob (v := .ref (c 16)) rfl E.g_Unlike rfl) pa_nil))) (pa_cons (pe_callB (r := rIsE K) call_isE (by rfl) T.z_isinstance (by decide +kernel) (pa_cons (pv 0) (pa_cons (pe_glob (v := .ref (c 17)) rfl E.g_NoDeed rfl) pa_nil))) (pa_cons (pe_callB (r := rIsE K) call_isE (by rfl) T.z_isinstance (by decide +kernel) (pa_cons (pv 0) (pa_cons (pe_glob (v := .ref (c 18)) rfl E.g_NoText rfl) pa_nil))) pa_nil)))))))
      (pss_one (ps_ret (pe_op (r := rAddA) op_addA (pv 1) (pe_lst (pa_cons (pe_callB (r := rIsE K) call_isE (by rfl) T.z_isinstance (by decide +kernel) (pa_cons (pv 0) (pa_cons (pe_glob (v := .ref (c 19)) rfl E.g_NoCommand rfl) pa_nil))) pa_nil)))))))))), ?_⟩
  have key : ∀ (H : Hp) (Q : VK) (j : Nat), j < 20 → Le G H → Q (.bl (decide (i = j))) H → rIsE K [.ref a, .ref (c j)] H Q := fun H Q j hj l q => r_isE (ho.le l) (E.ex i (by omega)) (.own _) (E.kk i hi j hj) q
  walk_at "go"
  refine key _ _ 0 (by decide) (hp_le (R := R) (S.s1 (by walk_at "sel"))) ?_
  walk_at "go"
  refine key _ _ 1 (by decide) (hp_le (R := R) (S.s1 (by walk_at "sel"))) ?_
  walk_at "go"
  refine key _ _ 2 (by decide) (hp_le (R := R) (S.s1 (by walk_at "sel"))) ?_
  walk_at "go"
  refine key _ _ 3 (by decide) (hp_le (R := R) (S.s1 (by walk_at "sel"))) ?_
  walk_at "go"
  refine key _ _ 4 (by decide) (hp_le (R := R) (S.s1 (by walk_at "sel"))) ?_
  walk_at "go"
  refine key _ _ 5 (by decide) (hp_le (R := R) (S.s1 (by walk_at "sel"))) ?_
  walk_at "go"
  refine key _ _ 6 (by decide) (hp_le (R := R) (S.s1 (by walk_at "sel"))) ?_
  walk_at "go"
  refine key _ _ 7 (by decide) (hp_le (R := R) (S.s1 (by walk_at "sel"))) ?_
  walk_at "go"
  refine key _ _ 8 (by decide) (hp_le (R := R) (S.s1 (by walk_at "sel"))) ?_
  walk_at "go"
  refine key _ _ 9 (by decide) (hp_le (R := R) (S.s1 (by walk_at "sel"))) ?_
  walk_at "go"
  refine key _ _ 10 (by decide) (hp_le (R := R) (S.s1 (by walk_at "sel"))) ?_
  walk_at "go"
  refine key _ _ 11 (by decide) (hp_le (R := R) (S.s1 (by walk_at "sel"))) ?_
  walk_at "go"
  refine key _ _ 12 (by decide) (hp_le (R := R) (S.s1 (by walk_at "sel"))) ?_
  walk_at "go"
  refine key _ _ 13 (by decide) (hp_le (R := R) (S.s1 (by walk_at "sel"))) ?_
  walk_at "go"
  refine key _ _ 14 (by decide) (hp_le (R := R) (S.s1 (by walk_at "sel"))) ?_
  walk_at "go"
  refine key _ _ 15 (by decide) (hp_le (R := R) (S.s1 (by walk_at "sel"))) ?_
  walk_at "go"
  refine key _ _ 16 (by decide) (hp_le (R := R) (S.s1 (by walk_at "sel"))) ?_
  walk_at "go"
  refine key _ _ 17 (by decide) (hp_le (R := R) (S.s1 (by walk_at "sel"))) ?_
  walk_at "go"
  refine key _ _ 18 (by decide) (hp_le (R := R) (S.s1 (by walk_at "sel"))) ?_
  walk_at "go"
  refine key _ _ 19 (by decide) (hp_le (R := R) (S.s1 (by walk_at "sel"))) ?_
  walk_at "go"
  have S2 := S.s2 (A := pt p _) (B := hp G) (Rs := R) (by walk_at "sel")
  exact q p H S2

end
end Pf

set_option Elab.async false
set_option linter.all false
set_option maxRecDepth 100000
set_option maxHeartbeats 8000000
namespace Pf
open PySem L2 Kt
set_option hygiene false
local macro_rules | `(tactic| walk_at "mem") => `(tactic| (with_reducible (repeat (first | exact Pick.hd | apply Pick.tl)); done))
local macro_rules | `(tactic| walk_at "rep") => `(tactic| (with_reducible (repeat (first | exact Repl.hd | apply Repl.tl)); done))
local macro_rules | `(tactic| walk_at "sel") => `(tactic| ((repeat (with_reducible apply Sel.cons; (focus walk_at "mem"))); (with_reducible apply Sel.nil); (with_reducible (repeat (first | exact Dr.all | apply Dr.skip)); done)))
local macro_rules | `(tactic| walk_at "at") => `(tactic| (refine' Sep.at_ (by assumption) ?kkpk; (case kkpk => walk_at "mem")))
local macro_rules | `(tactic| walk_at "sq") => `(tactic| first | assumption | (refine' Sep.sq (by assumption) ?kkpk; (case kkpk => walk_at "mem")))
local macro_rules | `(tactic| walk_at "st") => `(tactic| first | assumption | (refine' Sep.st (by assumption) ?kkpk; (case kkpk => walk_at "mem")))
local macro_rules | `(tactic| walk_at "lk") => `(tactic| (repeat (first | (with_reducible exact lk_eq) | exact rfl | refine (lk_ne (by decide +kernel)).trans ?_)))
local macro_rules | `(tactic| walk_at "pf") => `(tactic| (repeat (first | (with_reducible exact pf_nil) | (with_reducible exact pf_eq) | (apply pf_ne; (focus decide +kernel)))))
local macro_rules | `(tactic| walk_at "ty") => `(tactic| first | exact ty_int | (refine' ty_lst ?kkh; (case kkh => walk_at "at")))
local macro_rules | `(tactic| walk_at "k1") => `(tactic| with_reducible first
  | refine q_seq ?_ | refine q_set ?_ | refine q_asg ?_ | refine q_ret ?_ | refine q_drop ?_ | refine q_next ?_ | refine q_c ?_ | refine q_op ?_ | refine q_un ?_ | refine q_nil ?_ | refine q_cons ?_ | refine q_cb ?_
  | refine q_call ?_ | refine q_ifs ?_ | refine q_if ?_ | refine q_test ?_ | refine q_tb ?_ | refine q_bl ?_ | refine q_notT ?_ | refine q_andT ?_ | refine q_orT ?_ | refine q_andV ?_ | refine q_orV ?_ | refine q_notV ?_
  | refine q_addA ?_ | refine q_subI ?_ | refine q_ltI ?_ | refine q_leI ?_ | refine q_gtI ?_ | refine q_geI ?_ | refine q_eqI ?_ | refine q_neI ?_ | refine q_abs ?_ | refine q_int ?_ | refine q_intB ?_ | refine q_max ?_ | refine q_min ?_
  | refine q_ipAdd ?_ | refine q_ipSub ?_ | refine q_gsub ?_ | refine q_augs ?_ | refine q_lst ?_ | refine q_tup ?_ | refine q_blI ?_ | refine iteT ?_ | refine iteF ?_ | refine iteNT ?_ | refine iteNF ?_
  | refine r_prop ?_ | refine r_fld ?_ | refine r_sfld ?_ | refine r_meth ?_ | refine r_make ?_ | refine r_sl ?_ | refine r_nopart ?_ | refine r_part ?_ | refine r_parti ?_ | refine r_gsl ?_ | refine r_bm ?_ | refine r_bm0 ?_ | refine r_for ?_ | refine r_ilist ?_ | refine r_irng ?_
  | refine r_gname ?_ | refine r_gcons ?_ | refine r_gnil ?_ | refine r_par ?_ | refine r_parA ?_ | refine r_chain ?_ | refine r_isN ?_ | refine r_tlc ?_ | refine r_yes ?_ | refine r_makek ?_ | refine r_neg ?_)
local macro_rules | `(tactic| walk_at "k2") => `(tactic| first
  | ((with_reducible refine' q_var ?kke ?_); (case kke => rfl))
  | ((with_reducible refine' q_aug ?kke ?_); (case kke => rfl))
  | ((with_reducible refine' q_ixL ?kks ?kke ?_); (case kks => walk_at "sq"); (case kke => first | rfl | assumption))
  | ((with_reducible refine' q_ixT ?kks ?kke ?_); (case kks => walk_at "st"); (case kke => first | rfl | assumption))
  | ((with_reducible refine' q_ixLL ?kks ?kke ?_); (case kks => walk_at "sq"); (case kke => first | rfl | assumption))
  | ((with_reducible refine' q_lenL ?kks ?_); (case kks => walk_at "sq"))
  | ((with_reducible refine' q_mulI ?kkc ?_); (case kkc => first | exact .inl (by omega) | exact .inr (by omega)))
  | ((with_reducible refine' q_modI ?kkc ?_); (case kkc => omega))
  | ((with_reducible refine' q_divI ?kkc ?_); (case kkc => exact ⟨by omega, by omega⟩))
  | ((with_reducible refine' q_powI ?kkc ?_); (case kkc => exact ⟨by decide, by decide, by decide⟩))
  | ((with_reducible refine' r_kfld ?kkS ?kkp ?kkc ?kkn ?kkl ?_); (case kkS => assumption); (case kkp => walk_at "mem"); (case kkc => walk_at "cls"); (case kkn => walk_at "na"); (case kkl => walk_at "lk"))
  | ((with_reducible refine' r_kprop ?kkS ?kkp ?_); (case kkS => assumption); (case kkp => walk_at "mem"))
  | ((with_reducible refine' r_kmeth ?kkS ?kkp ?kkl ?_); (case kkS => assumption); (case kkp => walk_at "mem"); (case kkl => walk_at "lk"))
  | ((with_reducible refine' r_calll ?kks ?_); (case kks => rfl))
  | ((with_reducible refine' r_tyl ?kks ?_); (case kks => walk_at "sq"))
  | ((with_reducible refine' r_isi (k := true) ?kkt ?kke ?_); (case kkt => walk_at "ty"); (case kke => decide +kernel))
  | ((with_reducible refine' r_isi (k := false) ?kkt ?kke ?_); (case kkt => walk_at "ty"); (case kke => decide +kernel)))
local macro_rules | `(tactic| walk_at "k3") => `(tactic| first
  | ((with_reducible refine' q_setS ?kkS ?kkr ?kke ?_); (case kkS => assumption); (case kkr => walk_at "rep"); (case kke => rfl); intro H S)
  | ((with_reducible refine' r_kset ?kkS ?kkr ?kkc ?kkn ?kkl ?kke ?_); (case kkS => assumption); (case kkr => walk_at "rep"); (case kkc => walk_at "cls"); (case kkn => walk_at "na"); (case kkl => first | exact Nat.le_of_ble_eq_true rfl | assumption | omega | (simp; done) | (simp; omega)); (case kke => walk_at "pf"); intro H S)
  | ((with_reducible refine' q_new ?kkS ?kkl ?_); (case kkS => assumption); (case kkl => first | exact Nat.le_of_ble_eq_true rfl | assumption | omega | (simp; done) | (simp; omega)); intro p H S)
  | ((with_reducible refine' q_newT ?kkS ?kkl ?_); (case kkS => assumption); (case kkl => first | exact Nat.le_of_ble_eq_true rfl | assumption | omega | (simp; done) | (simp; omega)); intro p H S)
  | ((with_reducible refine' r_knew ?kkS ?_); (case kkS => assumption); intro x dx H S)
  | ((with_reducible refine' r_knewk ?kkS ?kkl1 ?kkl2 ?_); (case kkS => assumption); (case kkl1 => rfl); (case kkl2 => rfl); intro x dx H S)
  | ((with_reducible refine' r_ksl ?kkS ?kks ?_); (case kkS => assumption); (case kks => walk_at "sq"); intro p H S)
  | ((with_reducible refine' r_list ?kkS ?kks ?_); (case kkS => assumption); (case kks => walk_at "sq"); intro p H S)
  | ((with_reducible refine' r_cat ?kkS ?kks1 ?kks2 ?kkz ?_); (case kkS => assumption); (case kks1 => walk_at "at"); (case kks2 => walk_at "at"); (case kkz => first | omega | (simp; omega)); intro p H S)
  | ((with_reducible refine' r_append ?kkS ?kkr ?kkz ?_); (case kkS => assumption); (case kkr => walk_at "rep"); (case kkz => first | omega | (simp; omega)); intro H S)
  | ((with_reducible refine' r_reverse ?kkS ?kkr ?_); (case kkS => assumption); (case kkr => walk_at "rep"); intro H S)
  | ((with_reducible refine' r_clear ?kkS ?kkr ?_); (case kkS => assumption); (case kkr => walk_at "rep"); intro H S))
local macro_rules | `(tactic| walk_at "gn") => `(tactic| repeat (first | walk_at "k1" | walk_at "k2"))
local macro_rules | `(tactic| walk_at "go") => `(tactic| repeat (first | walk_at "k1" | walk_at "k2" | walk_at "k3"))

local macro_rules | `(tactic| walk_at "sq") => `(tactic| first | assumption | (refine' Sep.sq ?kkS ?kkpk; (case kkS => assumption); (case kkpk => walk_at "mem")) | (refine' hp_sqL ?kkS ?kkx; (case kkS => assumption); (case kkx => assumption)) | (refine' hp_sqL (Sep.tl ?kkS) ?kkx; (case kkS => assumption); (case kkx => assumption)) | (refine' hp_sqL (Sep.tl (Sep.tl ?kkS)) ?kkx; (case kkS => assumption); (case kkx => assumption)))
local macro_rules | `(tactic| walk_at "st") => `(tactic| first | assumption | (refine' Sep.st ?kkS ?kkpk; (case kkS => assumption); (case kkpk => walk_at "mem")) | (refine' hp_sqT ?kkS ?kkx; (case kkS => assumption); (case kkx => assumption)) | (refine' hp_sqT (Sep.tl ?kkS) ?kkx; (case kkS => assumption); (case kkx => assumption)) | (refine' hp_sqT (Sep.tl (Sep.tl ?kkS)) ?kkx; (case kkS => assumption); (case kkx => assumption)))
local macro_rules | `(tactic| walk_at "k1") => `(tactic| with_reducible first | refine r_ienumT ?_ | refine r_tru ?_ | refine r_itup ?_ | refine r_star ?_ | refine r_par3 ?_ | refine r_parA3 ?_ | refine r_dget ?_ | refine r_din ?_ | refine r_dnotin ?_ | refine r_dput ?_)

local macro_rules | `(tactic| walk_at "k1") => `(tactic| with_reducible first | refine r_kget ?_ | refine r_orT ?_ | refine r_slA ?_ | refine r_m1 ?_ | refine r_isS ?_ | refine r_istr ?_ | refine r_mkv ?_ | refine r_ost ?_ | refine r_xfld ?_)
local macro_rules | `(tactic| walk_at "k1") => `(tactic| with_reducible refine r_slS ?_)
local macro_rules | `(tactic| walk_at "k3") => `(tactic| ((with_reducible refine' r_cat ?kkS ?kks1 ?kks2 ?kkz ?_); (case kkS => assumption); (case kks1 => walk_at "at"); (case kks2 => walk_at "at"); (case kkz => first | exact Nat.le_of_ble_eq_true rfl | (simp; done) | omega); intro p H S))
local macro_rules | `(tactic| walk_at "k3") => `(tactic| ((with_reducible refine' r_append ?kkS ?kkr ?kkz ?_); (case kkS => assumption); (case kkr => walk_at "rep"); (case kkz => first | assumption | exact Nat.le_of_ble_eq_true rfl | (simp; done) | omega); intro H S))

section
variable {P : Program} {w : World} {K : PySem.W.Frag} {mg : Str → Option Value} {base : Heap} {f_GROWINGS : Addr} {c : Nat → Addr}
theorem dx_bl {K : PySem.W.Frag} {H : Hp} : ∀ bs : List Bool, Paired (Dx K H) (bs.map V.bl) (bs.map PyData.bool)
  | [] => .nil
  | b :: bs => .cons ((th_bl (K := K) (G := H) b).dx) (dx_bl bs)
theorem dp_bl {K : PySem.W.Frag} {H : Hp} : ∀ bs : List Bool, DpAll K H (bs.map V.bl) (bs.map PyData.bool)
  | [] => .nil
  | b :: bs => .cons (.bl b) (dp_bl bs)
theorem okd_bls (bs : List Bool) : Okd 2 (.list (bs.map PyData.bool)) := okd_list fun d m => by
  obtain ⟨b, _, rfl⟩ := List.mem_map.mp m
  exact okd_bl b
theorem flg_eq (i : Nat) : flg i = (List.range 20).map fun j => decide (i = j) := rfl
def ts (x y : V) : List V := [x, x, x, x, x, x, x, x, x, x, x, x, x, x, x, y]
def dts (x y : PyData) : List PyData := [x, x, x, x, x, x, x, x, x, x, x, x, x, x, x, y]
theorem sh_more {ds : List PyData} (hn : ds.length ≤ 2) (hs : ∀ d ∈ ds, Sh 9 300 d) : Sh 10 2000 (.list (ds ++ [.str "more"])) := by
  refine (sh_list (k := 9) (W := 300) fun d m => ?_).up (Nat.le_refl _) ?_
  · rcases List.mem_append.mp m with m | m
    · exact hs d m
    · rw [List.mem_singleton.mp m]
      exact (sh_txt (n := 4) (by decide +kernel) (by decide +kernel)).up (Nat.le_refl _) (by decide)
  · rw [List.length_append, List.length_singleton]
    have : (ds.length + 1) * (300 + 1) ≤ 3 * 301 := Nat.mul_le_mul (by omega) (Nat.le_refl _)
    omega
def spErrRight (K : PySem.W.Frag) : Sp := fun vs H Q _ => ∃ (x y : V) (Px Py : List SP) (G : Hp) (R : List SP), vs = [x, y] ∧ OdL K G x Px ∧ OdL K G y Py ∧ Sep (Px ++ (Py ++ hp G :: R)) H ∧ ∀ G' H', Le G G' → Sep (hp G' :: R) H' → Q (.bl true) H'
theorem sc_l_errors_right : FnScope N_l_errors_right ["_law_x", "_law_y"] (defScope s_l_errors_right) := ⟨rfl, rfl, rfl, by decide +kernel, rfl, by decide +kernel, by decide +kernel⟩
theorem ok_l_errors_right {f f1 f2 f3 : Addr} (F : Dt K mg "_law_errors_right" s_l_errors_right ["_law_x", "_law_y"] f) (T : Tx K mg f_GROWINGS) (E : Ers K mg c) (D_l_errors : Df P w K mg base 3 "_law_errors" f1 ["_law_x", "_law_y"] (spErrors c))
    (D_l_flags : Df P w K mg base 1 "_law_flags" f2 ["_law_e"] (spFlags c)) (D_l_alike : Dg P w K mg base 1 "_law_alike" f3 ["_law_found", "_law_due"] (spAlikeX K)) : Dg P w K mg base 4 "_law_errors_right" f ["_law_x", "_law_y"] (spErrRight K) := by
  refine F.okG sc_l_errors_right (fun vs H Q E h => ?_) (fun cdv A outer s H vs Q E' hg hr h => ?_)
  · obtain ⟨x, y, Px, Py, G, R, rfl, _⟩ := h
    rfl
  obtain ⟨x, y, Px, Py, G, R, rfl, hx, hy, S, q⟩ := h
  refine ⟨_, (pss_cons (ps_set (i := 2) sc_l_errors_right.nd rfl (by first | exact Or.inl rfl | exact Or.inr rfl) (pe_df D_l_errors (hr.mono (by first | decide | omega)) (pa_cons (pv 0) (pa_cons (pv 1) pa_nil))))
      (pss_cons (ps_for PassesOwn.never rfl (pi_range1 rfl T.z_range (pa_cons pe_int pa_nil)) (pg_name (i := 3) sc_l_errors_right.nd rfl (by first | exact Or.inl rfl | exact Or.inr rfl)) (pss_cons (ps_if (PW.pt (pw_or (pt_cmpR (r := rNeA K) (op_neA hr.units) (pe_df D_l_flags (hr.mono (by first | decide | omega)) (pa_cons (pe_ix (r := rIx K) ix_seq (pv 2) (pv 3) (fun _ _ => rfl)) pa_nil)) (pe_lc (own := [("_law_k", 5)]) rfl sc_l_errors_right.nd (pi_range1 rfl T.z_range (pa_cons pe_int pa_nil)) (blkOk_by (own := [("_law_k", 5)]) (N := N_l_errors_right) (sc := defScope s_l_errors_right) (by decide +kernel)) (fun _ _ _ _ _ => (pg_name (i := 5) sc_l_errors_right.nd rfl (by first | exact Or.inl rfl | exact Or.inr rfl))) (fun _ _ _ _ _ => pts_nil) (fun _ _ _ _ _ => (pe_cmpR (r := rEqA K) (op_eqA hr.units) (pv 5) (pv 3) (nomark _)))) (nomark _)) (pw_or1 (pt_not (pt_val (pe_callB (r := cOr (rIsE K) (rIsiY K)) (CallR.or call_isE call_isiY) (by rfl) T.z_isinstance (by decide +kernel) (pa_cons (pe_ix (r := rIx K) ix_seq (pv 2) (pv 3) (fun _ _ => rfl)) (pa_cons (pe_glob (v := .ref (c 20)) rfl E.g_TailError rfl) pa_nil)))))))) (pss_one (ps_ret pe_bl)) pss_nil)
      (pss_one (ps_if (pt_not (pt_val (pe_callB (r := cOr (rIsE K) (rIsiY K)) (CallR.or call_isE call_isiY) (by rfl) T.z_isinstance (by decide +kernel) (pa_cons (pe_ix (r := rIx K) ix_seq (pv 2) (pv 3) (fun _ _ => rfl)) (pa_cons (pe_bltn (v := .ty "ValueError") (by rfl) T.z_ValueError (by decide +kernel) rfl) pa_nil))))) (pss_one (ps_ret pe_bl)) pss_nil))))
      (pss_cons (ps_set (i := 4) sc_l_errors_right.nd rfl (by first | exact Or.inl rfl | exact Or.inr rfl) (pe_lst (pa_cons (pe_xfldK K (pe_ix (r := rIx K) ix_seq (pv 2) pe_int (fun _ _ => rfl))) (pa_cons (pe_xfldK K (pe_ix (r := rIx K) ix_seq (pv 2) pe_int (fun _ _ => rfl))) (pa_cons (pe_xfldK K (pe_ix (r := rIx K) ix_seq (pv 2) pe_int (fun _ _ => rfl))) (pa_cons (pe_xfldK K (pe_ix (r := rIx K) ix_seq (pv 2) pe_int (fun _ _ => rfl))) (pa_cons (pe_xfldK K (pe_ix (r := rIx K) ix_seq (pv 2) pe_int (fun _ _ => rfl))) (pa_cons (pe_xfldK K (pe_ix (r := rIx K) ix_seq (pv 2) pe_int (fun _ _ => rfl))) (pa_cons (pe_xfldK K (pe_ix (r := rIx K) ix_seq (pv 2) pe_int (fun _ _ => rfl))) pa_nil)))))))))
      (pss_cons (ps_set (i := 4) sc_l_errors_right.nd rfl (by first | exact Or.inl rfl | exact Or.inr rfl) (pe_op (r := rAddA) op_addA (pv 4) (pe_lst (pa_cons (pe_xfldK K (pe_ix (r := rIx K) ix_seq (pv 2) pe_int (fun _ _ => rfl))) (pa_cons (pe_xfldK K (pe_ix (r := rIx K) ix_seq (pv 2) pe_int (fun _ _ => rfl))) (pa_cons (pe_xfldK K (pe_ix (r := rIx K) ix_seq (pv 2) pe_int (fun _ _ => rfl))) (pa_cons (pe_xfldK K (pe_ix (r := rIx K) ix_seq (pv 2) pe_int (fun _ _ => rfl))) (pa_cons (pe_xfldK K (pe_ix (r := rIx K) ix_seq (pv 2) pe_int (fun _ _ => rfl))) (pa_cons (pe_xfldK K (pe_ix (r := rIx K) ix_seq (pv 2) pe_int (fun _ _ => rfl))) pa_nil)))))))))
      (pss_cons (ps_expr (pe_bmK K PySem.F.plainAttrs_list PySem.F.slot_list_append PySem.F.type_list_append mt_append (pv 4) (pa_cons (pe_xfldK K (pe_ix (r := rIx K) ix_seq (pv 2) pe_int (fun _ _ => rfl))) pa_nil)))
      (pss_cons (ps_set (i := 4) sc_l_errors_right.nd rfl (by first | exact Or.inl rfl | exact Or.inr rfl) (pe_op (r := rAddA) op_addA (pv 4) (pe_lst (pa_cons (pe_xfldK K (pe_ix (r := rIx K) ix_seq (pv 2) pe_int (fun _ _ => rfl))) (pa_cons (pe_xfldK K (pe_ix (r := rIx K) ix_seq (pv 2) pe_int (fun _ _ => rfl))) pa_nil)))))
      (C8.pss_cut (ps_if (pt_val (pe_callB (r := cOr (rIsE K) (rIsiY K)) (CallR.or call_isE call_isiY) (by rfl) T.z_isinstance (by decide +kernel) (pa_cons (pv 0) (pa_cons (pe_bltn (v := .ty "list") (by rfl) T.z_list (by decide +kernel) rfl) pa_nil)))) (pss_one (ps_expr (pe_bmK K PySem.F.plainAttrs_list PySem.F.slot_list_append PySem.F.type_list_append mt_append (pv 0) (pa_cons pe_str pa_nil)))) pss_nil)
      (C8.pss_cut (ps_if (pt_val (pe_callB (r := cOr (rIsE K) (rIsiY K)) (CallR.or call_isE call_isiY) (by rfl) T.z_isinstance (by decide +kernel) (pa_cons (pv 1) (pa_cons (pe_bltn (v := .ty "list") (by rfl) T.z_list (by decide +kernel) rfl) pa_nil)))) (pss_one (ps_expr (pe_bmK K PySem.F.plainAttrs_list PySem.F.slot_list_append PySem.F.type_list_append mt_append (pv 1) (pa_cons pe_str pa_nil)))) pss_nil)
      (pss_one (ps_ret (pe_and (pe_dg D_l_alike hg (hr.mono (by decide)) (pa_cons (pv 4) (pa_cons (pe_op (r := rAddA) op_addA (pe_op (r := rMulA) op_mulA (pe_lst (pa_cons (pv 0) pa_nil)) pe_int) (pe_lst (pa_cons (pv 0) (pa_cons (pv 1) pa_nil)))) pa_nil))) (pe_one (pe_not (pe_callB (r := cOr (rIsE K) (rIsiY K)) (CallR.or call_isE call_isiY) (by rfl) T.z_isinstance (by decide +kernel) (pa_cons (pe_ex0 PySem.F.excBase_ValueError (E.x0 20 (by decide) (by decide) E.g_TailError)) (pa_cons (pe_glob (v := .ref (c 0)) rfl E.g_Wrong rfl) pa_nil)))))))))))))))), ?_⟩
  have S : Sep (Sep Px :: Sep Py :: hp G :: R) H := S.unflat.cons_mono fun _ => Sep.unflat
  walk_at "go"
  refine ⟨x, y, G, Sep Px :: Sep Py :: R, rfl, S.s3 (A := hp G) (B := Sep Px) (C := Sep Py) (by walk_at "sel"), fun e L G1 H le1 ho S => ?_⟩
  walk_at "go"
  refine r_for_rng (fun i σ Ps => ∃ u3 u4 u5, σ = [some x, some y, some (.ref L), u3, u4, u5] ∧ Ps = pt L (.lst (eL e)) :: hp G1 :: Sep Px :: Sep Py :: R) S (by decide) (by decide) ⟨_, _, _, rfl, rfl⟩ ?_ ?_
  · rintro i σ Ps H hi ⟨u3, u4, u5, rfl, rfl⟩ S
    have hi : i < 20 := hi
    walk_at "go"
    refine q_ixL (SqL.of S.hd_at) (atI_nat (eL_at e i hi)) ?_
    walk_at "go"
    refine ⟨e i, i, _, G1, _, rfl, hi, ho i hi, S.swap, fun L2 H S => ?_⟩
    walk_at "go"
    refine r_lc_rng (n := 20) (fun k acc Ps => acc = ((List.range k).map fun j : Nat => V.bl (decide ((j : Int) = (i : Int)))) ∧ Ps = pt L2 (.lst ((flg i).map V.bl)) :: hp G1 :: pt L (.lst (eL e)) :: Sep Px :: Sep Py :: R) S (by decide) (by decide) ⟨rfl, rfl⟩ ?_ ?_
    · rintro D k acc Ps H hk ⟨rfl, rfl⟩ S
      walk_at "go"
      refine ⟨rfl, ?_⟩
      walk_at "go"
      have hk : k < 20 := hk
      refine cn_in S (by rw [List.length_map, List.length_range]; omega) ⟨?_, rfl⟩
      rw [List.range_succ, List.map_append]
      rfl
    · rintro D acc Ps H ⟨rfl, rfl⟩ S
      have ea : ((List.range (20 : Int).toNat).map fun j : Nat => V.bl (decide ((j : Int) = (i : Int)))) = (flg i).map V.bl := by
        rw [flg_eq, List.map_map]
        refine List.map_congr_left fun j _ => ?_
        show V.bl _ = V.bl _
        congr 1
        exact decide_eq_decide.mpr ⟨fun h => by omega, fun h => by omega⟩
      rw [ea] at S
      walk_at "go"
      refine r_ne_same (k := 2) (d := .list ((flg i).map PyData.bool)) (.lst (SqL.of (S.at_ (.tl .hd))) (dp_bl _)) (.lst (SqL.of S.hd_at) (dp_bl _)) (okd_bls _) (by decide) ?_
      have S : Sep (pt L (.lst (eL e)) :: hp G1 :: Sep Px :: Sep Py :: R) H := S.s4 (by walk_at "sel")
      have le := hp_le S.tl
      walk_at "go"
      refine q_ixL (SqL.of S.hd_at) (atI_nat (eL_at e i hi)) ?_
      walk_at "go"
      refine .inl (r_isE ((ho i hi).le le) (E.ex i (by omega)) (.own _) (E.kt i hi) ?_)
      walk_at "go"
      refine q_ixL (SqL.of S.hd_at) (atI_nat (eL_at e i hi)) ?_
      walk_at "go"
      refine .inl (r_isE ((ho i hi).le le) (E.ex i (by omega)) (.ty _) (E.kv i hi) ?_)
      walk_at "go"
      exact ⟨_, ⟨_, _, _, rfl, rfl⟩, S⟩
  rintro σ Ps H ⟨u3, u4, u5, rfl, rfl⟩ S
  have key : ∀ (H : Hp) (Q : VK) (i : Nat) (f : Str) (v : V), i < 20 → Le G1 H → PySem.W.findIn K (.ref (c i)) f = some none → (fl x y i).lookup f = some v → Q v H → kXf K f Q (.ref (e i)) H := fun H Q i f v hi l n lk q => r_kxf ((ho i hi).le l) (E.ex i (by omega)) n lk q
  walk_at "go"
  refine key _ _ 0 "place" x (by decide) (hp_le (S.s1 (A := hp G1) (by walk_at "sel"))) E.n_Wrong_place (by first | exact lk_eq | exact (lk_ne (by decide +kernel)).trans lk_eq) ?_
  walk_at "go"
  refine key _ _ 1 "name" x (by decide) (hp_le (S.s1 (A := hp G1) (by walk_at "sel"))) E.n_Unknown_name (by first | exact lk_eq | exact (lk_ne (by decide +kernel)).trans lk_eq) ?_
  walk_at "go"
  refine key _ _ 2 "at" x (by decide) (hp_le (S.s1 (A := hp G1) (by walk_at "sel"))) E.n_NoCell_at (by first | exact lk_eq | exact (lk_ne (by decide +kernel)).trans lk_eq) ?_
  walk_at "go"
  refine key _ _ 3 "size" x (by decide) (hp_le (S.s1 (A := hp G1) (by walk_at "sel"))) E.n_BadRoom_size (by first | exact lk_eq | exact (lk_ne (by decide +kernel)).trans lk_eq) ?_
  walk_at "go"
  refine key _ _ 4 "at" x (by decide) (hp_le (S.s1 (A := hp G1) (by walk_at "sel"))) E.n_Unfit_at (by first | exact lk_eq | exact (lk_ne (by decide +kernel)).trans lk_eq) ?_
  walk_at "go"
  refine key _ _ 5 "index" x (by decide) (hp_le (S.s1 (A := hp G1) (by walk_at "sel"))) E.n_NoArray_index (by first | exact lk_eq | exact (lk_ne (by decide +kernel)).trans lk_eq) ?_
  walk_at "go"
  refine key _ _ 6 "at" x (by decide) (hp_le (S.s1 (A := hp G1) (by walk_at "sel"))) E.n_Broken_at (by first | exact lk_eq | exact (lk_ne (by decide +kernel)).trans lk_eq) ?_
  walk_at "go"
  refine key _ _ 7 "place" x (by decide) (hp_le (S.s1 (A := hp G1) (by walk_at "sel"))) E.n_NoPlace_place (by first | exact lk_eq | exact (lk_ne (by decide +kernel)).trans lk_eq) ?_
  walk_at "go"
  refine key _ _ 8 "limit" x (by decide) (hp_le (S.s1 (A := hp G1) (by walk_at "sel"))) E.n_TooMany_limit (by first | exact lk_eq | exact (lk_ne (by decide +kernel)).trans lk_eq) ?_
  walk_at "go"
  refine key _ _ 9 "name" x (by decide) (hp_le (S.s1 (A := hp G1) (by walk_at "sel"))) E.n_NoFunction_name (by first | exact lk_eq | exact (lk_ne (by decide +kernel)).trans lk_eq) ?_
  walk_at "go"
  refine key _ _ 10 "limit" x (by decide) (hp_le (S.s1 (A := hp G1) (by walk_at "sel"))) E.n_Full_limit (by first | exact lk_eq | exact (lk_ne (by decide +kernel)).trans lk_eq) ?_
  walk_at "go"
  refine key _ _ 11 "deed" x (by decide) (hp_le (S.s1 (A := hp G1) (by walk_at "sel"))) E.n_Refused_deed (by first | exact lk_eq | exact (lk_ne (by decide +kernel)).trans lk_eq) ?_
  walk_at "go"
  refine key _ _ 12 "many" x (by decide) (hp_le (S.s1 (A := hp G1) (by walk_at "sel"))) E.n_NoEntry_many (by first | exact lk_eq | exact (lk_ne (by decide +kernel)).trans lk_eq) ?_
  walk_at "go"
  refine key _ _ 13 "function" x (by decide) (hp_le (S.s1 (A := hp G1) (by walk_at "sel"))) E.n_Endless_function (by first | exact lk_eq | exact (lk_ne (by decide +kernel)).trans lk_eq) ?_
  walk_at "go"
  refine key _ _ 14 "function" x (by decide) (hp_le (S.s1 (A := hp G1) (by walk_at "sel"))) E.n_BadStatement_function (by first | exact lk_eq | exact (lk_ne (by decide +kernel)).trans lk_eq) ?_
  walk_at "go"
  refine key _ _ 14 "address" y (by decide) (hp_le (S.s1 (A := hp G1) (by walk_at "sel"))) E.n_BadStatement_address (by first | exact lk_eq | exact (lk_ne (by decide +kernel)).trans lk_eq) ?_
  walk_at "go"
  have S2 := S.s4 (A := pt p _) (B := hp G1) (C := Sep Px) (D := Sep Py) (Rs := R) (by walk_at "sel")
  have S : Sep (pt p (.lst (ts x y)) :: hp G1 :: Sep Px :: Sep Py :: R) H := S2
  obtain ⟨D, eD⟩ : ∃ z, z = p := ⟨p, rfl⟩
  subst eD
  refine q_cut (Mid := fun σ H => ∃ Tx dx G2 u3 u5, σ = [some x, some y, some (.ref L), u3, some (.ref D), u5] ∧ Le G1 G2 ∧ Th K G2 x Tx dx ∧ Sep (pt D (.lst (ts x y)) :: hp G2 :: Sep Py :: R) H) ?_ ?_
  · walk_at "go"
    rcases hx with ⟨T', d, rfl, th, hT⟩ | ⟨p', xs', ds, rfl, rfl, hd, hn, hs⟩
    · refine .inr (r_isTh th (le1.tr (hp_le (S.s1 (A := hp G1) (by walk_at "sel")))) (kb_list T' th.tn) ?_)
      rw [decide_eq_false hT]
      walk_at "go"
      exact ⟨T', d, G1, _, _, rfl, Le.rfl, th.le le1, S.s3 (A := pt D _) (B := hp G1) (C := Sep Py) (Rs := R) (by walk_at "sel")⟩
    · have S : Sep (pt p' (.lst xs') :: pt D (.lst (ts (.ref p') y)) :: hp G1 :: Sep Py :: R) H := (S.s4 (A := Sep [pt p' (.lst xs')]) (B := pt D (.lst (ts (.ref p') y))) (C := hp G1) (D := Sep Py) (Rs := R) (by walk_at "sel")).flat
      refine .inr ⟨.ref p', .ty "list", .type "list", _, true, rfl, .ty "list", .inl (ty_sq (SqL.of S.hd_at)), kit_ty (by decide +kernel), ?_⟩
      have hl : xs'.length < 100000 := by rw [dpall_len hd]; omega
      walk_at "go"
      have S := S.s4 (A := pt p' _) (B := hp G1) (C := pt D _) (D := Sep Py) (Rs := R) (by walk_at "sel")
      obtain ⟨G2, le2, hd2, S⟩ := hp_lst S (dpall_snoc (DpAll.le le1 _ _ hd) (.str "more"))
      exact ⟨_, _, G2, _, _, rfl, le2, th_lst hd2 (sh_more hn hs), S.swap⟩
  rintro σ H ⟨Tx, dx, G2, u3, u5, rfl, le2, thx, S⟩
  have le12 := le1.tr le2
  refine q_cut (Mid := fun σ H => ∃ Ty dy G3 u3 u5, σ = [some x, some y, some (.ref L), u3, some (.ref D), u5] ∧ Le G2 G3 ∧ Th K G3 y Ty dy ∧ Sep (pt D (.lst (ts x y)) :: hp G3 :: R) H) ?_ ?_
  · walk_at "go"
    rcases hy with ⟨T', d, rfl, th, hT⟩ | ⟨p', xs', ds, rfl, rfl, hd, hn, hs⟩
    · refine .inr (r_isTh th (le12.tr (hp_le (S.s1 (A := hp G2) (by walk_at "sel")))) (kb_list T' th.tn) ?_)
      rw [decide_eq_false hT]
      walk_at "go"
      exact ⟨T', d, G2, _, _, rfl, Le.rfl, th.le le12, S.s2 (A := pt D _) (B := hp G2) (Rs := R) (by walk_at "sel")⟩
    · have S : Sep (pt p' (.lst xs') :: pt D (.lst (ts x (.ref p'))) :: hp G2 :: R) H := (S.s3 (A := Sep [pt p' (.lst xs')]) (B := pt D (.lst (ts x (.ref p')))) (C := hp G2) (Rs := R) (by walk_at "sel")).flat
      refine .inr ⟨.ref p', .ty "list", .type "list", _, true, rfl, .ty "list", .inl (ty_sq (SqL.of S.hd_at)), kit_ty (by decide +kernel), ?_⟩
      have hl : xs'.length < 100000 := by rw [dpall_len hd]; omega
      walk_at "go"
      have S := S.s3 (A := pt p' _) (B := hp G2) (C := pt D _) (Rs := R) (by walk_at "sel")
      obtain ⟨G2, le2, hd2, S⟩ := hp_lst S (dpall_snoc (DpAll.le le12 _ _ hd) (.str "more"))
      exact ⟨_, _, G2, _, _, rfl, le2, th_lst hd2 (sh_more hn hs), S.swap⟩
  rintro σ H ⟨Ty, dy, G3, u3, u5, rfl, le3, thy, S⟩
  have thx := thx.le le3
  walk_at "go"
  refine r_rep2 S S.hd_at (by decide) (by decide) (by simp) fun pr H S => ?_
  walk_at "go"
  have S2 := S.s3 (A := pt p _) (B := pt D (.lst (ts x y))) (C := hp G3) (Rs := R) (by walk_at "sel")
  have S : Sep (pt p (.lst (ts x y)) :: pt D (.lst (ts x y)) :: hp G3 :: R) H := S2
  have le := hp_le S.tl.tl
  refine ⟨D, p, ts x y, dts dx dy, rfl, SqL.of (S.at_ (.tl .hd)), SqL.of S.hd_at, ?_, ?_, ?_⟩
  · simp only [ts, List.all_cons, List.all_nil, thx.no, thy.no, Bool.and_true]
  · have hx1 := (thx.le le).dx
    have hy1 := (thy.le le).dx
    exact .cons hx1 (.cons hx1 (.cons hx1 (.cons hx1 (.cons hx1 (.cons hx1 (.cons hx1 (.cons hx1 (.cons hx1 (.cons hx1 (.cons hx1 (.cons hx1 (.cons hx1 (.cons hx1 (.cons hx1 (.cons hy1 .nil)))))))))))))))
  · obtain ⟨f1, f2⟩ := list_shown (ds := dts dx dy) (fun d m => by
      have : d = dx ∨ d = dy := by
        simp only [dts, List.mem_cons, List.not_mem_nil, or_false] at m
        revert m
        by_cases h1 : d = dx
        · exact fun _ => .inl h1
        · by_cases h2 : d = dy
          · exact fun _ => .inr h2
          · simp [h1, h2]
      rcases this with rfl | rfl
      · exact ⟨thx.dp, thx.sm, thx.wt⟩
      · exact ⟨thy.dp, thy.sm, thy.wt⟩) (by show 16 ≤ 50; decide)
    refine ⟨f1, f2, ?_⟩
    walk_at "go"
    have S : Sep (hp G3 :: R) H := S.s1 (by walk_at "sel")
    refine r_mk0 S fun a4 G4 H le4 e4 S => ?_
    walk_at "go"
    refine .inl (r_isE (e4.le (hp_le S)) (E.ex 20 (by decide)) (.own _) E.tw ?_)
    walk_at "go"
    exact q G4 H ((le1.tr le2).tr (le3.tr le4)) S

end
end Pf

set_option Elab.async false
set_option linter.all false
set_option maxRecDepth 100000
set_option maxHeartbeats 8000000
namespace Pf
open PySem L2 Kt
set_option hygiene false
local macro_rules | `(tactic| walk_at "mem") => `(tactic| (with_reducible (repeat (first | exact Pick.hd | apply Pick.tl)); done))
local macro_rules | `(tactic| walk_at "rep") => `(tactic| (with_reducible (repeat (first | exact Repl.hd | apply Repl.tl)); done))
local macro_rules | `(tactic| walk_at "sel") => `(tactic| ((repeat (with_reducible apply Sel.cons; (focus walk_at "mem"))); (with_reducible apply Sel.nil); (with_reducible (repeat (first | exact Dr.all | apply Dr.skip)); done)))
local macro_rules | `(tactic| walk_at "at") => `(tactic| (refine' Sep.at_ (by assumption) ?kkpk; (case kkpk => walk_at "mem")))
local macro_rules | `(tactic| walk_at "sq") => `(tactic| first | assumption | (refine' Sep.sq (by assumption) ?kkpk; (case kkpk => walk_at "mem")))
local macro_rules | `(tactic| walk_at "st") => `(tactic| first | assumption | (refine' Sep.st (by assumption) ?kkpk; (case kkpk => walk_at "mem")))
local macro_rules | `(tactic| walk_at "lk") => `(tactic| (repeat (first | (with_reducible exact lk_eq) | exact rfl | refine (lk_ne (by decide +kernel)).trans ?_)))
local macro_rules | `(tactic| walk_at "pf") => `(tactic| (repeat (first | (with_reducible exact pf_nil) | (with_reducible exact pf_eq) | (apply pf_ne; (focus decide +kernel)))))
local macro_rules | `(tactic| walk_at "ty") => `(tactic| first | exact ty_int | (refine' ty_lst ?kkh; (case kkh => walk_at "at")))
local macro_rules | `(tactic| walk_at "k1") => `(tactic| with_reducible first
  | refine q_seq ?_ | refine q_set ?_ | refine q_asg ?_ | refine q_ret ?_ | refine q_drop ?_ | refine q_next ?_ | refine q_c ?_ | refine q_op ?_ | refine q_un ?_ | refine q_nil ?_ | refine q_cons ?_ | refine q_cb ?_
  | refine q_call ?_ | refine q_ifs ?_ | refine q_if ?_ | refine q_test ?_ | refine q_tb ?_ | refine q_bl ?_ | refine q_notT ?_ | refine q_andT ?_ | refine q_orT ?_ | refine q_andV ?_ | refine q_orV ?_ | refine q_notV ?_
  | refine q_addA ?_ | refine q_subI ?_ | refine q_ltI ?_ | refine q_leI ?_ | refine q_gtI ?_ | refine q_geI ?_ | refine q_eqI ?_ | refine q_neI ?_ | refine q_abs ?_ | refine q_int ?_ | refine q_intB ?_ | refine q_max ?_ | refine q_min ?_
  | refine q_ipAdd ?_ | refine q_ipSub ?_ | refine q_gsub ?_ | refine q_augs ?_ | refine q_lst ?_ | refine q_tup ?_ | refine q_blI ?_ | refine iteT ?_ | refine iteF ?_ | refine iteNT ?_ | refine iteNF ?_
  | refine r_prop ?_ | refine r_fld ?_ | refine r_sfld ?_ | refine r_meth ?_ | refine r_make ?_ | refine r_sl ?_ | refine r_nopart ?_ | refine r_part ?_ | refine r_parti ?_ | refine r_gsl ?_ | refine r_bm ?_ | refine r_bm0 ?_ | refine r_for ?_ | refine r_ilist ?_ | refine r_irng ?_
  | refine r_gname ?_ | refine r_gcons ?_ | refine r_gnil ?_ | refine r_par ?_ | refine r_parA ?_ | refine r_chain ?_ | refine r_isN ?_ | refine r_tlc ?_ | refine r_yes ?_ | refine r_makek ?_ | refine r_neg ?_)
local macro_rules | `(tactic| walk_at "k2") => `(tactic| first
  | ((with_reducible refine' q_var ?kke ?_); (case kke => rfl))
  | ((with_reducible refine' q_aug ?kke ?_); (case kke => rfl))
  | ((with_reducible refine' q_ixL ?kks ?kke ?_); (case kks => walk_at "sq"); (case kke => first | rfl | assumption))
  | ((with_reducible refine' q_ixT ?kks ?kke ?_); (case kks => walk_at "st"); (case kke => first | rfl | assumption))
  | ((with_reducible refine' q_ixLL ?kks ?kke ?_); (case kks => walk_at "sq"); (case kke => first | rfl | assumption))
  | ((with_reducible refine' q_lenL ?kks ?_); (case kks => walk_at "sq"))
  | ((with_reducible refine' q_mulI ?kkc ?_); (case kkc => first | exact .inl (by omega) | exact .inr (by omega)))
  | ((with_reducible refine' q_modI ?kkc ?_); (case kkc => omega))
  | ((with_reducible refine' q_divI ?kkc ?_); (case kkc => exact ⟨by omega, by omega⟩))
  | ((with_reducible refine' q_powI ?kkc ?_); (case kkc => exact ⟨by decide, by decide, by decide⟩))
  | ((with_reducible refine' r_kfld ?kkS ?kkp ?kkc ?kkn ?kkl ?_); (case kkS => assumption); (case kkp => walk_at "mem"); (case kkc => walk_at "cls"); (case kkn => walk_at "na"); (case kkl => walk_at "lk"))
  | ((with_reducible refine' r_kprop ?kkS ?kkp ?_); (case kkS => assumption); (case kkp => walk_at "mem"))
  | ((with_reducible refine' r_kmeth ?kkS ?kkp ?kkl ?_); (case kkS => assumption); (case kkp => walk_at "mem"); (case kkl => walk_at "lk"))
  | ((with_reducible refine' r_calll ?kks ?_); (case kks => rfl))
  | ((with_reducible refine' r_tyl ?kks ?_); (case kks => walk_at "sq"))
  | ((with_reducible refine' r_isi (k := true) ?kkt ?kke ?_); (case kkt => walk_at "ty"); (case kke => decide +kernel))
  | ((with_reducible refine' r_isi (k := false) ?kkt ?kke ?_); (case kkt => walk_at "ty"); (case kke => decide +kernel)))
local macro_rules | `(tactic| walk_at "k3") => `(tactic| first
  | ((with_reducible refine' q_setS ?kkS ?kkr ?kke ?_); (case kkS => assumption); (case kkr => walk_at "rep"); (case kke => rfl); intro H S)
  | ((with_reducible refine' r_kset ?kkS ?kkr ?kkc ?kkn ?kkl ?kke ?_); (case kkS => assumption); (case kkr => walk_at "rep"); (case kkc => walk_at "cls"); (case kkn => walk_at "na"); (case kkl => first | exact Nat.le_of_ble_eq_true rfl | assumption | omega | (simp; done) | (simp; omega)); (case kke => walk_at "pf"); intro H S)
  | ((with_reducible refine' q_new ?kkS ?kkl ?_); (case kkS => assumption); (case kkl => first | exact Nat.le_of_ble_eq_true rfl | assumption | omega | (simp; done) | (simp; omega)); intro p H S)
  | ((with_reducible refine' q_newT ?kkS ?kkl ?_); (case kkS => assumption); (case kkl => first | exact Nat.le_of_ble_eq_true rfl | assumption | omega | (simp; done) | (simp; omega)); intro p H S)
  | ((with_reducible refine' r_knew ?kkS ?_); (case kkS => assumption); intro x dx H S)
  | ((with_reducible refine' r_knewk ?kkS ?kkl1 ?kkl2 ?_); (case kkS => assumption); (case kkl1 => rfl); (case kkl2 => rfl); intro x dx H S)
  | ((with_reducible refine' r_ksl ?kkS ?kks ?_); (case kkS => assumption); (case kks => walk_at "sq"); intro p H S)
  | ((with_reducible refine' r_list ?kkS ?kks ?_); (case kkS => assumption); (case kks => walk_at "sq"); intro p H S)
  | ((with_reducible refine' r_cat ?kkS ?kks1 ?kks2 ?kkz ?_); (case kkS => assumption); (case kks1 => walk_at "at"); (case kks2 => walk_at "at"); (case kkz => first | omega | (simp; omega)); intro p H S)
  | ((with_reducible refine' r_append ?kkS ?kkr ?kkz ?_); (case kkS => assumption); (case kkr => walk_at "rep"); (case kkz => first | omega | (simp; omega)); intro H S)
  | ((with_reducible refine' r_reverse ?kkS ?kkr ?_); (case kkS => assumption); (case kkr => walk_at "rep"); intro H S)
  | ((with_reducible refine' r_clear ?kkS ?kkr ?_); (case kkS => assumption); (case kkr => walk_at "rep"); intro H S))
local macro_rules | `(tactic| walk_at "gn") => `(tactic| repeat (first | walk_at "k1" | walk_at "k2"))
local macro_rules | `(tactic| walk_at "go") => `(tactic| repeat (first | walk_at "k1" | walk_at "k2" | walk_at "k3"))

local macro_rules | `(tactic| walk_at "sq") => `(tactic| first | assumption | (refine' Sep.sq ?kkS ?kkpk; (case kkS => assumption); (case kkpk => walk_at "mem")) | (refine' hp_sqL ?kkS ?kkx; (case kkS => assumption); (case kkx => assumption)) | (refine' hp_sqL (Sep.tl ?kkS) ?kkx; (case kkS => assumption); (case kkx => assumption)) | (refine' hp_sqL (Sep.tl (Sep.tl ?kkS)) ?kkx; (case kkS => assumption); (case kkx => assumption)))
local macro_rules | `(tactic| walk_at "st") => `(tactic| first | assumption | (refine' Sep.st ?kkS ?kkpk; (case kkS => assumption); (case kkpk => walk_at "mem")) | (refine' hp_sqT ?kkS ?kkx; (case kkS => assumption); (case kkx => assumption)) | (refine' hp_sqT (Sep.tl ?kkS) ?kkx; (case kkS => assumption); (case kkx => assumption)) | (refine' hp_sqT (Sep.tl (Sep.tl ?kkS)) ?kkx; (case kkS => assumption); (case kkx => assumption)))
local macro_rules | `(tactic| walk_at "k1") => `(tactic| with_reducible first | refine r_ienumT ?_ | refine r_tru ?_ | refine r_itup ?_ | refine r_star ?_ | refine r_par3 ?_ | refine r_parA3 ?_ | refine r_dget ?_ | refine r_din ?_ | refine r_dnotin ?_ | refine r_dput ?_)

local macro_rules | `(tactic| walk_at "k1") => `(tactic| with_reducible first | refine r_kget ?_ | refine r_orT ?_ | refine r_slA ?_ | refine r_m1 ?_ | refine r_isS ?_ | refine r_istr ?_ | refine r_mkv ?_ | refine r_ost ?_ | refine r_xfld ?_)
local macro_rules | `(tactic| walk_at "k1") => `(tactic| with_reducible refine r_slS ?_)
local macro_rules | `(tactic| walk_at "k3") => `(tactic| ((with_reducible refine' r_cat ?kkS ?kks1 ?kks2 ?kkz ?_); (case kkS => assumption); (case kks1 => walk_at "at"); (case kks2 => walk_at "at"); (case kkz => first | exact Nat.le_of_ble_eq_true rfl | (simp; done) | omega); intro p H S))
local macro_rules | `(tactic| walk_at "k3") => `(tactic| ((with_reducible refine' r_append ?kkS ?kkr ?kkz ?_); (case kkS => assumption); (case kkr => walk_at "rep"); (case kkz => first | assumption | exact Nat.le_of_ble_eq_true rfl | (simp; done) | omega); intro H S))

section
variable {P : Program} {w : World} {K : PySem.W.Frag} {mg : Str → Option Value} {base : Heap} {f_GROWINGS : Addr} {c : Nat → Addr}
def spLaw (K : PySem.W.Frag) : Sp := fun vs H Q _ => ∃ (a : Addr) (ns : List Int), vs = [.ref a] ∧ SqL K H a (ns.map V.int) ∧ ns.length ≤ 63 ∧ ∀ H', Q (.bl true) H'
theorem r_whole {K : PySem.W.Frag} {G H : Hp} {Q : VK} {v : V} {Tn : String} {d : PyData} {σ : L2.St} {i : Nat} (th : Th K G v Tn d) (l : Le G H) (hi : σ[i]? = some (some v)) (q : Q (.bl (decide (Tn = "int"))) H) :
    rIsiY K [v, .ty "int"] H fun x H1 => ∃ c, x = V.bl c ∧ if c = true then tNotV (tCB (rIsiY K) (tCons (tVar i) (tCons (tC (V.ty "bool")) tNil))) σ H1 Q else Q (.bl false) H1 := by
  refine r_isTh th l (kb_int Tn th.tn) ⟨_, rfl, ?_⟩
  by_cases h1 : Tn = "int"
  · subst h1
    rw [show (decide (("int" : String) = "int") || decide (("int" : String) = "bool")) = true by decide]
    refine iteT (q_notV ?_)
    refine q_cb (q_cons (q_var hi (q_cons (q_c (q_nil ?_)))))
    exact r_isTh th l (kb_bool "int" th.tn) ⟨_, rfl, q⟩
  · rw [decide_eq_false h1, Bool.false_or]
    rw [decide_eq_false h1] at q
    by_cases h2 : Tn = "bool"
    · rw [decide_eq_true h2]
      refine iteT (q_notV ?_)
      refine q_cb (q_cons (q_var hi (q_cons (q_c (q_nil ?_)))))
      refine r_isTh th l (kb_bool Tn th.tn) ⟨_, rfl, ?_⟩
      rw [decide_eq_true h2]
      exact q
    · rw [decide_eq_false h2]
      exact iteF q
theorem r_numIf {K : PySem.W.Frag} {G H : Hp} {Q : VK} {v : V} {Tn : String} {d : PyData} {σ : L2.St} {i j : Nat} {m : Int} (th : Th K G v Tn d) (hi : σ[i]? = some (some v)) (hj : σ[j]? = some (some (.int m))) (q : Q (.bl (numV m v)) H) :
    if decide (Tn = "int") = true then tChain rLeI rLtI (tC (V.int 0)) (tVar i) (tVar j) σ H Q else Q (.bl false) H := by
  by_cases h1 : Tn = "int"
  · subst h1
    obtain ⟨z, rfl⟩ := th_int_of th
    rw [show decide (("int" : String) = "int") = true by decide]
    refine iteT (r_chain (q_c (q_var hi (q_leI ⟨_, rfl, ?_⟩))))
    have q : Q (.bl (decide (0 ≤ z) && decide (z < m))) H := q
    by_cases h0 : (0 : Int) ≤ z
    · rw [decide_eq_true h0] at q ⊢
      exact iteT (q_var hj (q_ltI q))
    · rw [decide_eq_false h0] at q ⊢
      exact iteF q
  · rw [decide_eq_false h1]
    rw [numV_not th h1] at q
    exact iteF q
theorem r_grIn {K : PySem.W.Frag} {G H : Hp} {Q : VK} {v : V} {Tn : String} {d : PyData} {p : Addr} (th : Th K G v Tn d) (l : Le G H) (hp : H p = some (.tup [.str "exact", .str "spare"])) (q : Q (.bl (grV v)) H) : rInTx K v (.ref p) H Q := by
  refine ⟨p, ["exact", "spare"], rfl, SqT.of hp, ?_⟩
  rcases th.kd with ⟨rfl, z, rfl, _⟩ | ⟨hn, _⟩
  · exact .inl ⟨z, rfl, q⟩
  · rw [grV_not hn] at q
    exact .inr ⟨hn.le l, q⟩
theorem sc_law : FnScope N_law ["_law_script"] (defScope s_law) := ⟨rfl, rfl, rfl, by decide +kernel, rfl, by decide +kernel, by decide +kernel⟩
theorem ok_law {f f1 f2 f3 f4 f5 f6 f7 f8 f9 f10 f11 : Addr} {fd : FuncData} (F : Fun K "law" "law" s_law f fd) (T : Tx K mg f_GROWINGS) (D_l_bag : Df P w K mg base 1 "_law_bag" f1 ["_law_script"] (spBag K)) (D_l_take : Df P w K mg base 1 "_law_take" f2 ["_law_bag_here", "_law_many"] spTake)
    (D_l_odd : Df P w K mg base 2 "_law_odd" f3 ["_law_bag_here"] (spOdd K)) (D_l_errors_right : Dg P w K mg base 4 "_law_errors_right" f4 ["_law_x", "_law_y"] (spErrRight K)) (D_l_thing : Df P w K mg base 3 "_law_thing" f5 ["_law_bag_here"] (spThing K))
    (D_l_is_name : Df P w K mg base 1 "_law_is_name" f6 ["_law_thing_here"] (spIsName K)) (D_is_integer : Df P w K mg base 1 "is_integer" f7 ["thing"] (spIsInt K)) (D_is_name : Df P w K mg base 1 "is_name" f8 ["thing"] (spIsName K)) (D_is_number : Df P w K mg base 2 "is_number" f9 ["many", "thing"] (spIsNum K)) (D_is_growing : Df P w K mg base 1 "is_growing" f10 ["thing"] (spIsGr K))
    (D_l_alike : Dg P w K mg base 1 "_law_alike" f11 ["_law_found", "_law_due"] (spAlikeX K)) : FnG P w K mg base 6 f fd ["_law_script"] (spLaw K) := by
  refine fnG_ok F sc_law (fun vs H Q E h => ?_) (fun cdv A outer s H vs Q E hg hr h => ?_)
  · obtain ⟨a, ns, rfl, _⟩ := h
    rfl
  obtain ⟨a, ns, rfl, hq, hl, q⟩ := h
  refine ⟨_, (pss_cons (ps_set (i := 1) sc_law.nd rfl (by first | exact Or.inl rfl | exact Or.inr rfl) (pe_df D_l_bag (hr.mono (by first | decide | omega)) (pa_cons (pv 0) pa_nil)))
      (pss_cons (ps_for PassesOwn.never rfl (pi_range1 rfl T.z_range (pa_cons pe_int pa_nil)) (pg_name (i := 2) sc_law.nd rfl (by first | exact Or.inl rfl | exact Or.inr rfl)) (pss_one (ps_if (PW.pt (pw_or (pt_not (pt_val (pe_dg D_l_errors_right hg (hr.mono (by decide)) (pa_cons (pe_lst (pa_cons (pe_df D_l_take (hr.mono (by first | decide | omega)) (pa_cons (pv 1) (pa_cons pe_int pa_nil))) pa_nil)) (pa_cons (pe_df D_l_odd (hr.mono (by first | decide | omega)) (pa_cons (pv 1) pa_nil)) pa_nil))))) (pw_or1 (pt_not (pt_val (pe_dg D_l_errors_right hg (hr.mono (by decide)) (pa_cons (pe_df D_l_odd (hr.mono (by first | decide | omega)) (pa_cons (pv 1) pa_nil)) (pa_cons (pe_lst (pa_cons pe_int (pa_cons pe_int pa_nil))) pa_nil)))))))) (pss_one (ps_ret pe_bl)) pss_nil)))
      (pss_cons (ps_for PassesOwn.never rfl (pi_range1 rfl T.z_range (pa_cons pe_int pa_nil)) (pg_name (i := 2) sc_law.nd rfl (by first | exact Or.inl rfl | exact Or.inr rfl)) (pss_cons (ps_par (i := 3) (j := 4) rfl sc_law.nd rfl rfl (by decide) rfl rfl (pa_cons (pe_df D_l_thing (hr.mono (by first | decide | omega)) (pa_cons (pv 1) pa_nil)) (pa_cons (pe_ix (r := rIx K) ix_seq (pe_lst (pa_cons (pe_df D_l_take (hr.mono (by first | decide | omega)) (pa_cons (pv 1) (pa_cons pe_int pa_nil))) (pa_cons (pe_op (r := rPowI) op_pow pe_int pe_int) pa_nil))) (pe_callTy (r := cInt) call_int1 (by rfl) T.z_int (by decide +kernel) (pa_cons (pe_cmpR (r := rEqA K) (op_eqA hr.units) (pe_df D_l_take (hr.mono (by first | decide | omega)) (pa_cons (pv 1) (pa_cons pe_int pa_nil))) pe_int (nomark _)) pa_nil)) (fun _ _ => rfl)) pa_nil)) rfl)
      (pss_cons (ps_set (i := 5) sc_law.nd rfl (by first | exact Or.inl rfl | exact Or.inr rfl) (pe_and (pe_callB (r := rIsiY K) call_isiY (by rfl) T.z_isinstance (by decide +kernel) (pa_cons (pv 3) (pa_cons (pe_bltn (v := .ty "int") (by rfl) T.z_int (by decide +kernel) rfl) pa_nil))) (pe_one (pe_not (pe_callB (r := rIsiY K) call_isiY (by rfl) T.z_isinstance (by decide +kernel) (pa_cons (pv 3) (pa_cons (pe_bltn (v := .ty "bool") (by rfl) T.z_bool (by decide +kernel) rfl) pa_nil)))))))
      (pss_cons (ps_par (i := 6) (j := 7) rfl sc_law.nd rfl rfl (by decide) rfl rfl (pa_cons (pe_lst (pa_cons (pv 5) (pa_cons (pe_df D_l_is_name (hr.mono (by first | decide | omega)) (pa_cons (pv 3) pa_nil)) (pa_cons (pe_and (pv 5) (pe_one (pe_chain (r := rLeI) (r' := rLtI) op_le op_lt pe_int (pv 3) (pv 4)))) (pa_cons (pe_cmpR (r := rInTx K) (op_inTx (Nat.lt_of_le_of_lt (Nat.add_le_add_left (by decide) _) hr.units)) (pv 3) (pe_tup (pa_cons pe_str (pa_cons pe_str pa_nil))) (by rfl)) pa_nil))))) (pa_cons (pe_callB (r := cReprT K) (call_reprT hg hr.units) (by rfl) T.z_repr (by decide +kernel) (pa_cons (pv 3) pa_nil)) pa_nil)) rfl)
      (pss_one (ps_for PassesOwn.never rfl (pi_range1 rfl T.z_range (pa_cons pe_int pa_nil)) (pg_name (i := 8) sc_law.nd rfl (by first | exact Or.inl rfl | exact Or.inr rfl)) (pss_cons (ps_set (i := 9) sc_law.nd rfl (by first | exact Or.inl rfl | exact Or.inr rfl) (pe_lst (pa_cons (pe_df D_is_integer (hr.mono (by first | decide | omega)) (pa_cons (pv 3) pa_nil)) (pa_cons (pe_df D_is_name (hr.mono (by first | decide | omega)) (pa_cons (pv 3) pa_nil)) (pa_cons (pe_df D_is_number (hr.mono (by first | decide | omega)) (pa_cons (pv 4) (pa_cons (pv 3) pa_nil))) (pa_cons (pe_df D_is_growing (hr.mono (by first | decide | omega)) (pa_cons (pv 3) pa_nil)) pa_nil))))))
      (pss_one (ps_if (PW.pt (pw_or (pt_not (pt_val (pe_dg D_l_alike hg (hr.mono (by decide)) (pa_cons (pv 9) (pa_cons (pv 6) pa_nil))))) (pw_or1 (pt_cmpR (r := rNeA K) (op_neA hr.units) (pe_callB (r := cReprT K) (call_reprT hg hr.units) (by rfl) T.z_repr (by decide +kernel) (pa_cons (pv 3) pa_nil)) (pv 7) (nomark _))))) (pss_one (ps_ret pe_bl)) pss_nil)))))))))
      (pss_one (ps_ret pe_bl))))), ?_⟩
  have S0 : Sep [] H := trivial
  walk_at "go"
  refine ⟨a, ns, [], rfl, hq, hl, S0, fun b H S => ?_⟩
  clear S0 hl hq
  have S := hp_nil S
  walk_at "go"
  refine r_for_rng (fun i σ Ps => ∃ u2 u3 u4 u5 u6 u7 u8 u9 G, σ = [some (.ref a), some (.ref b), u2, u3, u4, u5, u6, u7, u8, u9] ∧ Ps = [hp G, bag b]) S (by decide) (by decide) ⟨_, _, _, _, _, _, _, _, _, rfl, rfl⟩ ?_ ?_
  · rintro i σ Ps H hi ⟨u2, u3, u4, u5, u6, u7, u8, u9, G, rfl, rfl⟩ S
    walk_at "go"
    refine ⟨b, 9, _, rfl, by decide, by decide, S.swap, fun t H t0 t1 S => ?_⟩
    walk_at "go"
    obtain ⟨p0, ep⟩ : ∃ z, z = p := ⟨p, rfl⟩
    subst ep
    refine ⟨b, G, [pt p0 (.lst [.int t])], rfl, S.s3 (by walk_at "sel"), fun v Ps G1 H le1 hv S => ?_⟩
    walk_at "go"
    refine ⟨.ref p0, v, [pt p0 (.lst [.int t])], Ps, G1, [bag b], rfl, .inr ⟨p0, [.int t], [.int t], rfl, rfl, (.cons (.int t) .nil), Nat.le_succ 1, fun d m => ?_⟩, hv, ?_, fun G2 H le2 S => ?_⟩
    · rw [List.mem_singleton.mp m]
      exact (sh_int (by omega)).up (Nat.le_refl _) (by decide)
    · have S1 : Sep (Sep Ps :: hp G1 :: bag b :: [pt p0 (.lst [.int t])]) H := S.unflat
      have S2 : Sep (pt p0 (.lst [.int t]) :: Sep Ps :: hp G1 :: bag b :: []) H := S1.s4 (by walk_at "sel")
      exact S2.cons_mono fun _ h => h.flat (As := Ps) (Rs := [hp G1, bag b])
    walk_at "go"
    refine ⟨b, G2, [], rfl, S, fun v2 Ps2 G3 H le3 hv2 S => ?_⟩
    have S : Sep (Sep Ps2 :: hp G3 :: bag b :: []) H := S.unflat
    walk_at "go"
    obtain ⟨p1, ep⟩ : ∃ z, z = p := ⟨p, rfl⟩
    subst ep
    refine ⟨v2, .ref p1, Ps2, [pt p1 (.lst [.int 0, .int 1])], G3, [bag b], rfl, hv2, .inr ⟨p1, [.int 0, .int 1], [.int 0, .int 1], rfl, rfl, .cons (.int 0) (.cons (.int 1) .nil), by decide, fun d m => ?_⟩, ?_, fun G4 H le4 S => ?_⟩
    · have : d = .int 0 ∨ d = .int 1 := by simpa using m
      rcases this with rfl | rfl
      · exact (sh_int (by decide)).up (Nat.le_refl _) (by decide)
      · exact (sh_int (by decide)).up (Nat.le_refl _) (by decide)
    · have S2 : Sep (Sep Ps2 :: pt p1 (.lst [.int 0, .int 1]) :: hp G3 :: bag b :: []) H := S.s4 (by walk_at "sel")
      exact S2.flat
    walk_at "go"
    exact ⟨_, ⟨_, _, _, _, _, _, _, _, _, rfl, rfl⟩, S⟩
  rintro σ Ps H ⟨u2, u3, u4, u5, u6, u7, u8, u9, G, rfl, rfl⟩ S
  walk_at "go"
  refine r_for_rng (fun i σ Ps => ∃ u2 u3 u4 u5 u6 u7 u8 u9 G, σ = [some (.ref a), some (.ref b), u2, u3, u4, u5, u6, u7, u8, u9] ∧ Ps = [hp G, bag b]) S (by decide) (by decide) ⟨_, _, _, _, _, _, _, _, _, rfl, rfl⟩ ?_ ?_
  · rintro i σ Ps H hi ⟨u2, u3, u4, u5, u6, u7, u8, u9, G, rfl, rfl⟩ S
    walk_at "go"
    refine ⟨b, G, [], rfl, S, fun v Tn d G1 H le1 th S => ?_⟩
    walk_at "go"
    refine ⟨b, 9, _, rfl, by decide, by decide, S.swap, fun t H t0 t1 S => ?_⟩
    walk_at "go"
    refine ⟨b, 9, _, rfl, by decide, by decide, S.s1 (A := bag b) (by walk_at "sel"), fun t2 H t20 t21 S => ?_⟩
    walk_at "go"
    have hk : ∃ m : Int, atI [V.int t, V.int (10 ^ (39 : Int).toNat)] (if decide (t2 = 0) = true then 1 else 0) = some (.int m) := by
      by_cases h0 : t2 = 0
      · rw [decide_eq_true h0]; exact ⟨_, rfl⟩
      · rw [decide_eq_false h0]; exact ⟨_, rfl⟩
    obtain ⟨m, hm⟩ := hk
    refine q_ixL (by walk_at "sq") hm ?_
    have S : Sep (hp G1 :: bag b :: []) H := S.s2 (by walk_at "sel")
    walk_at "go"
    refine r_whole th (hp_le S) rfl ?_
    walk_at "go"
    refine ⟨v, Tn, d, G1, [bag b], rfl, th, S, fun H S => ?_⟩
    walk_at "go"
    refine r_numIf th rfl rfl ?_
    walk_at "go"
    refine r_grIn th (hp_le (S.s1 (A := hp G1) (by walk_at "sel"))) S.hd_at ?_
    walk_at "go"
    refine .inr ⟨v, Tn, d, rfl, th.le (hp_le (S.s1 (A := hp G1) (by walk_at "sel"))), ?_⟩
    walk_at "go"
    obtain ⟨D, eD⟩ : ∃ z, z = p := ⟨p, rfl⟩
    subst eD
    have S2 := S.s3 (A := pt D _) (B := hp G1) (C := bag b) (Rs := []) (by walk_at "sel")
    have S : Sep (pt D (.lst ([decide (Tn = "int"), nmV v, numV m v, grV v].map V.bl)) :: hp G1 :: bag b :: []) H := S2
    clear S2
    refine r_for_rng (fun k σ Ps => ∃ u8 u9, σ = [some (.ref a), some (.ref b), some (.int i), some v, some (.int m), some (.bl (decide (Tn = "int"))), some (.ref D), some (.str d.shown), u8, u9] ∧ Ps = [pt D (.lst ([decide (Tn = "int"), nmV v, numV m v, grV v].map V.bl)), hp G1, bag b]) S (by decide) (by decide) ⟨_, _, rfl, rfl⟩ ?_ ?_
    · rintro k σ Ps H hk ⟨u8, u9, rfl, rfl⟩ S
      walk_at "go"
      refine ⟨v, Tn, d, G1, _, rfl, th, S.swap, fun H S => ?_⟩
      walk_at "go"
      refine ⟨v, Tn, d, G1, _, rfl, th, S, fun H S => ?_⟩
      walk_at "go"
      refine ⟨m, v, Tn, d, G1, _, rfl, th, S, fun H S => ?_⟩
      walk_at "go"
      refine ⟨v, Tn, d, G1, _, rfl, th, S, fun H S => ?_⟩
      walk_at "go"
      have S2 := S.s4 (A := pt p _) (B := pt D (.lst ([decide (Tn = "int"), nmV v, numV m v, grV v].map V.bl))) (C := hp G1) (D := bag b) (Rs := []) (by walk_at "sel")
      have S : Sep (pt p (.lst ([decide (Tn = "int"), nmV v, numV m v, grV v].map V.bl)) :: pt D (.lst ([decide (Tn = "int"), nmV v, numV m v, grV v].map V.bl)) :: hp G1 :: bag b :: []) H := S2
      clear S2
      obtain ⟨f1, f2⟩ := list_shown (ds := [decide (Tn = "int"), nmV v, numV m v, grV v].map PyData.bool) (fun d hd => by
        obtain ⟨x, _, rfl⟩ := List.mem_map.mp hd
        cases x <;> decide) (by show 4 ≤ 50; decide)
      have hfl : ([decide (Tn = "int"), nmV v, numV m v, grV v].map V.bl).all noF = true := rfl
      refine ⟨p, D, _, _, rfl, SqL.of S.hd_at, SqL.of (S.at_ (.tl .hd)), hfl, dx_bl _, f1, f2, ?_⟩
      walk_at "go"
      refine .inr ⟨v, Tn, d, rfl, th.le (hp_le (S.s1 (A := hp G1) (by walk_at "sel"))), ?_⟩
      walk_at "go"
      refine .inl ⟨rfl, ?_⟩
      rw [decide_eq_true (rfl : V.str d.shown = V.str d.shown)]
      walk_at "go"
      exact ⟨_, ⟨_, _, rfl, rfl⟩, S.tl⟩
    · rintro σ Ps H ⟨u8, u9, rfl, rfl⟩ S
      exact ⟨_, ⟨_, _, _, _, _, _, _, _, _, rfl, rfl⟩, S.tl⟩
  · rintro σ Ps H ⟨u2, u3, u4, u5, u6, u7, u8, u9, G, rfl, rfl⟩ S
    walk_at "go"
    exact q H

end
end Pf

set_option Elab.async false
set_option linter.all false
set_option maxRecDepth 100000
set_option maxHeartbeats 16000000
namespace Pf
open PySem L2 Kt
theorem vals_app {vs ws : List V} {us zs : List Value} (r1 : Vals vs us) (r2 : Vals ws zs) : Vals (vs ++ ws) (us ++ zs) := by
  induction r1 with
  | nil => exact r2
  | cons h _ ih => exact .cons h ih
theorem all_mk {l : PySem.W.OpenLaw} {w : World} {K : PySem.W.Frag} {h : Heap} {mg : Str → Option Value} {fa : Addr} (X : K.In h) (G : h.Ns mainGlobals mg) (hfa : mg "law" = some (.ref fa))
    {f_is_integer f_is_name f_is_number f_is_growing f_l_bag f_l_take f_l_alike f_l_odd f_l_is_name f_l_errors f_l_flags f_l_errors_right f_l_thing f_law c_Wrong f_Wrong_init c_Unknown f_Unknown_init c_NoCell f_NoCell_init c_BadRoom f_BadRoom_init c_Unfit f_Unfit_init c_NoArray f_NoArray_init c_Broken f_Broken_init c_NoPlace f_NoPlace_init c_TooMany f_TooMany_init c_NoFunction f_NoFunction_init c_Full f_Full_init c_Refused f_Refused_init c_NoEntry f_NoEntry_init c_Endless f_Endless_init c_BadStatement f_BadStatement_init c_Nothing c_Unlike c_NoDeed c_NoText c_NoCommand c_TailError f_GROWINGS : Addr} {od1 an1 od2 an2 od3 an3 od4 an4 od5 an5 od6 an6 od7 an7 od8 an8 od9 an9 od10 an10 od11 an11 od12 an12 od13 an13 od14 an14 od15 an15 od16 an16 od17 an17 od18 an18 od19 an19 od20 an20 od21 an21 od22 an22 od23 an23 od24 an24 od25 an25 od26 an26 od27 an27 od28 an28 od29 an29 od_GROWINGS : Option Addr} {sl1 sl2 sl3 sl4 sl5 sl6 sl7 sl8 sl9 sl10 sl11 sl12 sl13 sl14 sl15 sl16 sl17 sl18 sl19 sl20 sl21 sl22 sl23 sl24 sl25 sl26 sl27 sl28 sl29 sl_GROWINGS : Array (Option Value)} {oc1 kV1 dc1 pm1 cd1 ct1 oc2 kV2 dc2 pm2 cd2 ct2 oc3 kV3 dc3 pm3 cd3 ct3 oc4 kV4 dc4 pm4 cd4 ct4 oc5 kV5 dc5 pm5 cd5 ct5 oc6 kV6 dc6 pm6 cd6 ct6 oc7 kV7 dc7 pm7 cd7 ct7 oc8 kV8 dc8 pm8 cd8 ct8 oc9 kV9 dc9 pm9 cd9 ct9 oc10 kV10 dc10 pm10 cd10 ct10 oc11 kV11 dc11 pm11 cd11 ct11 oc12 kV12 dc12 pm12 cd12 ct12 oc13 kV13 dc13 pm13 cd13 ct13 oc14 kV14 dc14 pm14 cd14 ct14 oc15 kV15 dc15 pm15 cd15 ct15 oc16 kV16 dc16 pm16 cd16 ct16 oc17 kV17 dc17 pm17 cd17 ct17 oc18 kV18 dc18 pm18 cd18 ct18 oc19 kV19 dc19 pm19 cd19 ct19 oc20 kV20 dc20 pm20 cd20 ct20 oc21 kV21 dc21 pm21 cd21 ct21 oc22 kV22 dc22 pm22 cd22 ct22 oc23 kV23 dc23 pm23 cd23 ct23 oc24 kV24 dc24 pm24 cd24 ct24 oc25 kV25 dc25 pm25 cd25 ct25 oc26 kV26 dc26 pm26 cd26 ct26 oc27 kV27 dc27 pm27 cd27 ct27 oc28 kV28 dc28 pm28 cd28 ct28 oc29 kV29 dc29 pm29 cd29 ct29 : Value}
    {tk_GROWINGS_0 tk_GROWINGS_1 nn_GROWINGS tv_LETTERS tv_LONGEST_NAME : Nat}
    (a_is_integer : PySem.W.nsIn K mainGlobals "is_integer" = some (some (.ref f_is_integer)))
    (l1 : K.lookup f_is_integer = some ⟨oc1, od1, .func (PySem.W.fnOf "is_integer" "is_integer" (defArgs s_is_integer) (defBody s_is_integer) (defScope s_is_integer) .none kV1 dc1 pm1 an1 cd1 ct1), sl1⟩)
    (c1 : PySem.W.codeIn K cd1 "is_integer" = true)
    (k1 : PySem.W.keepIn K (.ref f_is_integer) = true)
    (a_is_name : PySem.W.nsIn K mainGlobals "is_name" = some (some (.ref f_is_name)))
    (l2 : K.lookup f_is_name = some ⟨oc2, od2, .func (PySem.W.fnOf "is_name" "is_name" (defArgs s_is_name) (defBody s_is_name) (defScope s_is_name) .none kV2 dc2 pm2 an2 cd2 ct2), sl2⟩)
    (c2 : PySem.W.codeIn K cd2 "is_name" = true)
    (k2 : PySem.W.keepIn K (.ref f_is_name) = true)
    (a_is_number : PySem.W.nsIn K mainGlobals "is_number" = some (some (.ref f_is_number)))
    (l3 : K.lookup f_is_number = some ⟨oc3, od3, .func (PySem.W.fnOf "is_number" "is_number" (defArgs s_is_number) (defBody s_is_number) (defScope s_is_number) .none kV3 dc3 pm3 an3 cd3 ct3), sl3⟩)
    (c3 : PySem.W.codeIn K cd3 "is_number" = true)
    (k3 : PySem.W.keepIn K (.ref f_is_number) = true)
    (a_is_growing : PySem.W.nsIn K mainGlobals "is_growing" = some (some (.ref f_is_growing)))
    (l4 : K.lookup f_is_growing = some ⟨oc4, od4, .func (PySem.W.fnOf "is_growing" "is_growing" (defArgs s_is_growing) (defBody s_is_growing) (defScope s_is_growing) .none kV4 dc4 pm4 an4 cd4 ct4), sl4⟩)
    (c4 : PySem.W.codeIn K cd4 "is_growing" = true)
    (k4 : PySem.W.keepIn K (.ref f_is_growing) = true)
    (a_l_bag : PySem.W.nsIn K mainGlobals "_law_bag" = some (some (.ref f_l_bag)))
    (l5 : K.lookup f_l_bag = some ⟨oc5, od5, .func (PySem.W.fnOf "_law_bag" "_law_bag" (defArgs s_l_bag) (defBody s_l_bag) (defScope s_l_bag) .none kV5 dc5 pm5 an5 cd5 ct5), sl5⟩)
    (c5 : PySem.W.codeIn K cd5 "_law_bag" = true)
    (k5 : PySem.W.keepIn K (.ref f_l_bag) = true)
    (a_l_take : PySem.W.nsIn K mainGlobals "_law_take" = some (some (.ref f_l_take)))
    (l6 : K.lookup f_l_take = some ⟨oc6, od6, .func (PySem.W.fnOf "_law_take" "_law_take" (defArgs s_l_take) (defBody s_l_take) (defScope s_l_take) .none kV6 dc6 pm6 an6 cd6 ct6), sl6⟩)
    (c6 : PySem.W.codeIn K cd6 "_law_take" = true)
    (k6 : PySem.W.keepIn K (.ref f_l_take) = true)
    (a_l_alike : PySem.W.nsIn K mainGlobals "_law_alike" = some (some (.ref f_l_alike)))
    (l7 : K.lookup f_l_alike = some ⟨oc7, od7, .func (PySem.W.fnOf "_law_alike" "_law_alike" (defArgs s_l_alike) (defBody s_l_alike) (defScope s_l_alike) .none kV7 dc7 pm7 an7 cd7 ct7), sl7⟩)
    (c7 : PySem.W.codeIn K cd7 "_law_alike" = true)
    (k7 : PySem.W.keepIn K (.ref f_l_alike) = true)
    (a_l_odd : PySem.W.nsIn K mainGlobals "_law_odd" = some (some (.ref f_l_odd)))
    (l8 : K.lookup f_l_odd = some ⟨oc8, od8, .func (PySem.W.fnOf "_law_odd" "_law_odd" (defArgs s_l_odd) (defBody s_l_odd) (defScope s_l_odd) .none kV8 dc8 pm8 an8 cd8 ct8), sl8⟩)
    (c8 : PySem.W.codeIn K cd8 "_law_odd" = true)
    (k8 : PySem.W.keepIn K (.ref f_l_odd) = true)
    (a_l_is_name : PySem.W.nsIn K mainGlobals "_law_is_name" = some (some (.ref f_l_is_name)))
    (l9 : K.lookup f_l_is_name = some ⟨oc9, od9, .func (PySem.W.fnOf "_law_is_name" "_law_is_name" (defArgs s_l_is_name) (defBody s_l_is_name) (defScope s_l_is_name) .none kV9 dc9 pm9 an9 cd9 ct9), sl9⟩)
    (c9 : PySem.W.codeIn K cd9 "_law_is_name" = true)
    (k9 : PySem.W.keepIn K (.ref f_l_is_name) = true)
    (a_l_errors : PySem.W.nsIn K mainGlobals "_law_errors" = some (some (.ref f_l_errors)))
    (l10 : K.lookup f_l_errors = some ⟨oc10, od10, .func (PySem.W.fnOf "_law_errors" "_law_errors" (defArgs s_l_errors) (defBody s_l_errors) (defScope s_l_errors) .none kV10 dc10 pm10 an10 cd10 ct10), sl10⟩)
    (c10 : PySem.W.codeIn K cd10 "_law_errors" = true)
    (k10 : PySem.W.keepIn K (.ref f_l_errors) = true)
    (a_l_flags : PySem.W.nsIn K mainGlobals "_law_flags" = some (some (.ref f_l_flags)))
    (l11 : K.lookup f_l_flags = some ⟨oc11, od11, .func (PySem.W.fnOf "_law_flags" "_law_flags" (defArgs s_l_flags) (defBody s_l_flags) (defScope s_l_flags) .none kV11 dc11 pm11 an11 cd11 ct11), sl11⟩)
    (c11 : PySem.W.codeIn K cd11 "_law_flags" = true)
    (k11 : PySem.W.keepIn K (.ref f_l_flags) = true)
    (a_l_errors_right : PySem.W.nsIn K mainGlobals "_law_errors_right" = some (some (.ref f_l_errors_right)))
    (l12 : K.lookup f_l_errors_right = some ⟨oc12, od12, .func (PySem.W.fnOf "_law_errors_right" "_law_errors_right" (defArgs s_l_errors_right) (defBody s_l_errors_right) (defScope s_l_errors_right) .none kV12 dc12 pm12 an12 cd12 ct12), sl12⟩)
    (c12 : PySem.W.codeIn K cd12 "_law_errors_right" = true)
    (k12 : PySem.W.keepIn K (.ref f_l_errors_right) = true)
    (a_l_thing : PySem.W.nsIn K mainGlobals "_law_thing" = some (some (.ref f_l_thing)))
    (l13 : K.lookup f_l_thing = some ⟨oc13, od13, .func (PySem.W.fnOf "_law_thing" "_law_thing" (defArgs s_l_thing) (defBody s_l_thing) (defScope s_l_thing) .none kV13 dc13 pm13 an13 cd13 ct13), sl13⟩)
    (c13 : PySem.W.codeIn K cd13 "_law_thing" = true)
    (k13 : PySem.W.keepIn K (.ref f_l_thing) = true)
    (a_law : PySem.W.nsIn K mainGlobals "law" = some (some (.ref f_law)))
    (l14 : K.lookup f_law = some ⟨oc14, od14, .func (PySem.W.fnOf "law" "law" (defArgs s_law) (defBody s_law) (defScope s_law) .none kV14 dc14 pm14 an14 cd14 ct14), sl14⟩)
    (c14 : PySem.W.codeIn K cd14 "law" = true)
    (k14 : PySem.W.keepIn K (.ref f_law) = true)
    (aC_Wrong : PySem.W.nsIn K mainGlobals "Wrong" = some (some (.ref c_Wrong)))
    (n_Wrong_place : PySem.W.findIn K (.ref c_Wrong) "place" = some none)
    (a_Wrong_init : PySem.W.findIn K (.ref c_Wrong) "__init__" = some (some (.ref f_Wrong_init)))
    (i_Wrong_init : PySem.W.isFn K (.ref f_Wrong_init) = true)
    (l15 : K.lookup f_Wrong_init = some ⟨oc15, od15, .func (PySem.W.fnOf "__init__" "Wrong.__init__" (defArgs s_Wrong_init) (defBody s_Wrong_init) (defScope s_Wrong_init) .none kV15 dc15 pm15 an15 cd15 ct15), sl15⟩)
    (c15 : PySem.W.codeIn K cd15 "Wrong.__init__" = true)
    (k15 : PySem.W.keepIn K (.ref f_Wrong_init) = true)
    (aC_Unknown : PySem.W.nsIn K mainGlobals "Unknown" = some (some (.ref c_Unknown)))
    (n_Unknown_name : PySem.W.findIn K (.ref c_Unknown) "name" = some none)
    (a_Unknown_init : PySem.W.findIn K (.ref c_Unknown) "__init__" = some (some (.ref f_Unknown_init)))
    (i_Unknown_init : PySem.W.isFn K (.ref f_Unknown_init) = true)
    (l16 : K.lookup f_Unknown_init = some ⟨oc16, od16, .func (PySem.W.fnOf "__init__" "Unknown.__init__" (defArgs s_Unknown_init) (defBody s_Unknown_init) (defScope s_Unknown_init) .none kV16 dc16 pm16 an16 cd16 ct16), sl16⟩)
    (c16 : PySem.W.codeIn K cd16 "Unknown.__init__" = true)
    (k16 : PySem.W.keepIn K (.ref f_Unknown_init) = true)
    (aC_NoCell : PySem.W.nsIn K mainGlobals "NoCell" = some (some (.ref c_NoCell)))
    (n_NoCell_at : PySem.W.findIn K (.ref c_NoCell) "at" = some none)
    (a_NoCell_init : PySem.W.findIn K (.ref c_NoCell) "__init__" = some (some (.ref f_NoCell_init)))
    (i_NoCell_init : PySem.W.isFn K (.ref f_NoCell_init) = true)
    (l17 : K.lookup f_NoCell_init = some ⟨oc17, od17, .func (PySem.W.fnOf "__init__" "NoCell.__init__" (defArgs s_NoCell_init) (defBody s_NoCell_init) (defScope s_NoCell_init) .none kV17 dc17 pm17 an17 cd17 ct17), sl17⟩)
    (c17 : PySem.W.codeIn K cd17 "NoCell.__init__" = true)
    (k17 : PySem.W.keepIn K (.ref f_NoCell_init) = true)
    (aC_BadRoom : PySem.W.nsIn K mainGlobals "BadRoom" = some (some (.ref c_BadRoom)))
    (n_BadRoom_size : PySem.W.findIn K (.ref c_BadRoom) "size" = some none)
    (a_BadRoom_init : PySem.W.findIn K (.ref c_BadRoom) "__init__" = some (some (.ref f_BadRoom_init)))
    (i_BadRoom_init : PySem.W.isFn K (.ref f_BadRoom_init) = true)
    (l18 : K.lookup f_BadRoom_init = some ⟨oc18, od18, .func (PySem.W.fnOf "__init__" "BadRoom.__init__" (defArgs s_BadRoom_init) (defBody s_BadRoom_init) (defScope s_BadRoom_init) .none kV18 dc18 pm18 an18 cd18 ct18), sl18⟩)
    (c18 : PySem.W.codeIn K cd18 "BadRoom.__init__" = true)
    (k18 : PySem.W.keepIn K (.ref f_BadRoom_init) = true)
    (aC_Unfit : PySem.W.nsIn K mainGlobals "Unfit" = some (some (.ref c_Unfit)))
    (n_Unfit_at : PySem.W.findIn K (.ref c_Unfit) "at" = some none)
    (a_Unfit_init : PySem.W.findIn K (.ref c_Unfit) "__init__" = some (some (.ref f_Unfit_init)))
    (i_Unfit_init : PySem.W.isFn K (.ref f_Unfit_init) = true)
    (l19 : K.lookup f_Unfit_init = some ⟨oc19, od19, .func (PySem.W.fnOf "__init__" "Unfit.__init__" (defArgs s_Unfit_init) (defBody s_Unfit_init) (defScope s_Unfit_init) .none kV19 dc19 pm19 an19 cd19 ct19), sl19⟩)
    (c19 : PySem.W.codeIn K cd19 "Unfit.__init__" = true)
    (k19 : PySem.W.keepIn K (.ref f_Unfit_init) = true)
    (aC_NoArray : PySem.W.nsIn K mainGlobals "NoArray" = some (some (.ref c_NoArray)))
    (n_NoArray_index : PySem.W.findIn K (.ref c_NoArray) "index" = some none)
    (a_NoArray_init : PySem.W.findIn K (.ref c_NoArray) "__init__" = some (some (.ref f_NoArray_init)))
    (i_NoArray_init : PySem.W.isFn K (.ref f_NoArray_init) = true)
    (l20 : K.lookup f_NoArray_init = some ⟨oc20, od20, .func (PySem.W.fnOf "__init__" "NoArray.__init__" (defArgs s_NoArray_init) (defBody s_NoArray_init) (defScope s_NoArray_init) .none kV20 dc20 pm20 an20 cd20 ct20), sl20⟩)
    (c20 : PySem.W.codeIn K cd20 "NoArray.__init__" = true)
    (k20 : PySem.W.keepIn K (.ref f_NoArray_init) = true)
    (aC_Broken : PySem.W.nsIn K mainGlobals "Broken" = some (some (.ref c_Broken)))
    (n_Broken_at : PySem.W.findIn K (.ref c_Broken) "at" = some none)
    (a_Broken_init : PySem.W.findIn K (.ref c_Broken) "__init__" = some (some (.ref f_Broken_init)))
    (i_Broken_init : PySem.W.isFn K (.ref f_Broken_init) = true)
    (l21 : K.lookup f_Broken_init = some ⟨oc21, od21, .func (PySem.W.fnOf "__init__" "Broken.__init__" (defArgs s_Broken_init) (defBody s_Broken_init) (defScope s_Broken_init) .none kV21 dc21 pm21 an21 cd21 ct21), sl21⟩)
    (c21 : PySem.W.codeIn K cd21 "Broken.__init__" = true)
    (k21 : PySem.W.keepIn K (.ref f_Broken_init) = true)
    (aC_NoPlace : PySem.W.nsIn K mainGlobals "NoPlace" = some (some (.ref c_NoPlace)))
    (n_NoPlace_place : PySem.W.findIn K (.ref c_NoPlace) "place" = some none)
    (a_NoPlace_init : PySem.W.findIn K (.ref c_NoPlace) "__init__" = some (some (.ref f_NoPlace_init)))
    (i_NoPlace_init : PySem.W.isFn K (.ref f_NoPlace_init) = true)
    (l22 : K.lookup f_NoPlace_init = some ⟨oc22, od22, .func (PySem.W.fnOf "__init__" "NoPlace.__init__" (defArgs s_NoPlace_init) (defBody s_NoPlace_init) (defScope s_NoPlace_init) .none kV22 dc22 pm22 an22 cd22 ct22), sl22⟩)
    (c22 : PySem.W.codeIn K cd22 "NoPlace.__init__" = true)
    (k22 : PySem.W.keepIn K (.ref f_NoPlace_init) = true)
    (aC_TooMany : PySem.W.nsIn K mainGlobals "TooMany" = some (some (.ref c_TooMany)))
    (n_TooMany_limit : PySem.W.findIn K (.ref c_TooMany) "limit" = some none)
    (a_TooMany_init : PySem.W.findIn K (.ref c_TooMany) "__init__" = some (some (.ref f_TooMany_init)))
    (i_TooMany_init : PySem.W.isFn K (.ref f_TooMany_init) = true)
    (l23 : K.lookup f_TooMany_init = some ⟨oc23, od23, .func (PySem.W.fnOf "__init__" "TooMany.__init__" (defArgs s_TooMany_init) (defBody s_TooMany_init) (defScope s_TooMany_init) .none kV23 dc23 pm23 an23 cd23 ct23), sl23⟩)
    (c23 : PySem.W.codeIn K cd23 "TooMany.__init__" = true)
    (k23 : PySem.W.keepIn K (.ref f_TooMany_init) = true)
    (aC_NoFunction : PySem.W.nsIn K mainGlobals "NoFunction" = some (some (.ref c_NoFunction)))
    (n_NoFunction_name : PySem.W.findIn K (.ref c_NoFunction) "name" = some none)
    (a_NoFunction_init : PySem.W.findIn K (.ref c_NoFunction) "__init__" = some (some (.ref f_NoFunction_init)))
    (i_NoFunction_init : PySem.W.isFn K (.ref f_NoFunction_init) = true)
    (l24 : K.lookup f_NoFunction_init = some ⟨oc24, od24, .func (PySem.W.fnOf "__init__" "NoFunction.__init__" (defArgs s_NoFunction_init) (defBody s_NoFunction_init) (defScope s_NoFunction_init) .none kV24 dc24 pm24 an24 cd24 ct24), sl24⟩)
    (c24 : PySem.W.codeIn K cd24 "NoFunction.__init__" = true)
    (k24 : PySem.W.keepIn K (.ref f_NoFunction_init) = true)
    (aC_Full : PySem.W.nsIn K mainGlobals "Full" = some (some (.ref c_Full)))
    (n_Full_limit : PySem.W.findIn K (.ref c_Full) "limit" = some none)
    (a_Full_init : PySem.W.findIn K (.ref c_Full) "__init__" = some (some (.ref f_Full_init)))
    (i_Full_init : PySem.W.isFn K (.ref f_Full_init) = true)
    (l25 : K.lookup f_Full_init = some ⟨oc25, od25, .func (PySem.W.fnOf "__init__" "Full.__init__" (defArgs s_Full_init) (defBody s_Full_init) (defScope s_Full_init) .none kV25 dc25 pm25 an25 cd25 ct25), sl25⟩)
    (c25 : PySem.W.codeIn K cd25 "Full.__init__" = true)
    (k25 : PySem.W.keepIn K (.ref f_Full_init) = true)
    (aC_Refused : PySem.W.nsIn K mainGlobals "Refused" = some (some (.ref c_Refused)))
    (n_Refused_deed : PySem.W.findIn K (.ref c_Refused) "deed" = some none)
    (a_Refused_init : PySem.W.findIn K (.ref c_Refused) "__init__" = some (some (.ref f_Refused_init)))
    (i_Refused_init : PySem.W.isFn K (.ref f_Refused_init) = true)
    (l26 : K.lookup f_Refused_init = some ⟨oc26, od26, .func (PySem.W.fnOf "__init__" "Refused.__init__" (defArgs s_Refused_init) (defBody s_Refused_init) (defScope s_Refused_init) .none kV26 dc26 pm26 an26 cd26 ct26), sl26⟩)
    (c26 : PySem.W.codeIn K cd26 "Refused.__init__" = true)
    (k26 : PySem.W.keepIn K (.ref f_Refused_init) = true)
    (aC_NoEntry : PySem.W.nsIn K mainGlobals "NoEntry" = some (some (.ref c_NoEntry)))
    (n_NoEntry_many : PySem.W.findIn K (.ref c_NoEntry) "many" = some none)
    (a_NoEntry_init : PySem.W.findIn K (.ref c_NoEntry) "__init__" = some (some (.ref f_NoEntry_init)))
    (i_NoEntry_init : PySem.W.isFn K (.ref f_NoEntry_init) = true)
    (l27 : K.lookup f_NoEntry_init = some ⟨oc27, od27, .func (PySem.W.fnOf "__init__" "NoEntry.__init__" (defArgs s_NoEntry_init) (defBody s_NoEntry_init) (defScope s_NoEntry_init) .none kV27 dc27 pm27 an27 cd27 ct27), sl27⟩)
    (c27 : PySem.W.codeIn K cd27 "NoEntry.__init__" = true)
    (k27 : PySem.W.keepIn K (.ref f_NoEntry_init) = true)
    (aC_Endless : PySem.W.nsIn K mainGlobals "Endless" = some (some (.ref c_Endless)))
    (n_Endless_function : PySem.W.findIn K (.ref c_Endless) "function" = some none)
    (a_Endless_init : PySem.W.findIn K (.ref c_Endless) "__init__" = some (some (.ref f_Endless_init)))
    (i_Endless_init : PySem.W.isFn K (.ref f_Endless_init) = true)
    (l28 : K.lookup f_Endless_init = some ⟨oc28, od28, .func (PySem.W.fnOf "__init__" "Endless.__init__" (defArgs s_Endless_init) (defBody s_Endless_init) (defScope s_Endless_init) .none kV28 dc28 pm28 an28 cd28 ct28), sl28⟩)
    (c28 : PySem.W.codeIn K cd28 "Endless.__init__" = true)
    (k28 : PySem.W.keepIn K (.ref f_Endless_init) = true)
    (aC_BadStatement : PySem.W.nsIn K mainGlobals "BadStatement" = some (some (.ref c_BadStatement)))
    (n_BadStatement_function : PySem.W.findIn K (.ref c_BadStatement) "function" = some none)
    (n_BadStatement_address : PySem.W.findIn K (.ref c_BadStatement) "address" = some none)
    (a_BadStatement_init : PySem.W.findIn K (.ref c_BadStatement) "__init__" = some (some (.ref f_BadStatement_init)))
    (i_BadStatement_init : PySem.W.isFn K (.ref f_BadStatement_init) = true)
    (l29 : K.lookup f_BadStatement_init = some ⟨oc29, od29, .func (PySem.W.fnOf "__init__" "BadStatement.__init__" (defArgs s_BadStatement_init) (defBody s_BadStatement_init) (defScope s_BadStatement_init) .none kV29 dc29 pm29 an29 cd29 ct29), sl29⟩)
    (c29 : PySem.W.codeIn K cd29 "BadStatement.__init__" = true)
    (k29 : PySem.W.keepIn K (.ref f_BadStatement_init) = true)
    (aC_Nothing : PySem.W.nsIn K mainGlobals "Nothing" = some (some (.ref c_Nothing)))
    (aC_Unlike : PySem.W.nsIn K mainGlobals "Unlike" = some (some (.ref c_Unlike)))
    (aC_NoDeed : PySem.W.nsIn K mainGlobals "NoDeed" = some (some (.ref c_NoDeed)))
    (aC_NoText : PySem.W.nsIn K mainGlobals "NoText" = some (some (.ref c_NoText)))
    (aC_NoCommand : PySem.W.nsIn K mainGlobals "NoCommand" = some (some (.ref c_NoCommand)))
    (aC_TailError : PySem.W.nsIn K mainGlobals "TailError" = some (some (.ref c_TailError)))
    (dd_ex : exAll K bmB (fun i => ([c_Wrong, c_Unknown, c_NoCell, c_BadRoom, c_Unfit, c_NoArray, c_Broken, c_NoPlace, c_TooMany, c_NoFunction, c_Full, c_Refused, c_NoEntry, c_Endless, c_BadStatement, c_Nothing, c_Unlike, c_NoDeed, c_NoText, c_NoCommand, c_TailError] : List Addr).getD i 0) = true)
    (a_GROWINGS : PySem.W.nsIn K mainGlobals "GROWINGS" = some (some (.ref f_GROWINGS)))
    (lk_GROWINGS : K.lookup f_GROWINGS = some ⟨.type "tuple", od_GROWINGS, .seq #[.str "exact" tk_GROWINGS_0, .str "spare" tk_GROWINGS_1] nn_GROWINGS, sl_GROWINGS⟩)
    (a_LETTERS : PySem.W.nsIn K mainGlobals "LETTERS" = some (some (.str lettersS tv_LETTERS)))
    (a_LONGEST_NAME : PySem.W.nsIn K mainGlobals "LONGEST_NAME" = some (some (.int 8 tv_LONGEST_NAME)))
    (z_isinstance : PySem.W.nsIn K mainGlobals "isinstance" = some none)
    (z_len : PySem.W.nsIn K mainGlobals "len" = some none)
    (z_int : PySem.W.nsIn K mainGlobals "int" = some none)
    (z_abs : PySem.W.nsIn K mainGlobals "abs" = some none)
    (z_range : PySem.W.nsIn K mainGlobals "range" = some none)
    (z_list : PySem.W.nsIn K mainGlobals "list" = some none)
    (z_all : PySem.W.nsIn K mainGlobals "all" = some none)
    (z_bool : PySem.W.nsIn K mainGlobals "bool" = some none)
    (z_str : PySem.W.nsIn K mainGlobals "str" = some none)
    (z_repr : PySem.W.nsIn K mainGlobals "repr" = some none)
    (z_ValueError : PySem.W.nsIn K mainGlobals "ValueError" = some none) :
    ∃ fd : FuncData, (∀ (s : Shared) (v : Value), BindsTo s fd ⟨[v], []⟩ [("_law_script", v)]) ∧ ∀ base : Heap, K.In base → base.Ns mainGlobals mg → FnG l.prog w K mg base 6 fa fd ["_law_script"] (spLaw K) := by
    have e := hfa.symm.trans (PySem.W.mg_of X G a_law)
    cases e
    have T : Txt K mg f_GROWINGS := ⟨PySem.W.mg_none_of X G z_isinstance, PySem.W.mg_none_of X G z_len, PySem.W.mg_none_of X G z_int, PySem.W.mg_none_of X G z_abs, PySem.W.mg_none_of X G z_range, PySem.W.mg_none_of X G z_list, PySem.W.mg_none_of X G z_all, PySem.W.mg_none_of X G z_bool, PySem.W.mg_none_of X G z_str, PySem.W.mg_none_of X G z_repr, PySem.W.mg_none_of X G z_ValueError, PySem.W.mg_of X G a_GROWINGS⟩
    have F1 := fun_mk (st := s_is_integer) l1 c1 k1
    have b1 := F1.binds (ps := ["thing"]) fun _ _ _ _ _ _ us hl => match us, hl with | [_], _ => rfl
    have Y_is_integer : Dt K mg "is_integer" s_is_integer ["thing"] f_is_integer := ⟨⟨_, F1, b1⟩, PySem.W.mg_of X G a_is_integer⟩
    have F2 := fun_mk (st := s_is_name) l2 c2 k2
    have b2 := F2.binds (ps := ["thing"]) fun _ _ _ _ _ _ us hl => match us, hl with | [_], _ => rfl
    have Y_is_name : Dt K mg "is_name" s_is_name ["thing"] f_is_name := ⟨⟨_, F2, b2⟩, PySem.W.mg_of X G a_is_name⟩
    have F3 := fun_mk (st := s_is_number) l3 c3 k3
    have b3 := F3.binds (ps := ["many", "thing"]) fun _ _ _ _ _ _ us hl => match us, hl with | [_, _], _ => rfl
    have Y_is_number : Dt K mg "is_number" s_is_number ["many", "thing"] f_is_number := ⟨⟨_, F3, b3⟩, PySem.W.mg_of X G a_is_number⟩
    have F4 := fun_mk (st := s_is_growing) l4 c4 k4
    have b4 := F4.binds (ps := ["thing"]) fun _ _ _ _ _ _ us hl => match us, hl with | [_], _ => rfl
    have Y_is_growing : Dt K mg "is_growing" s_is_growing ["thing"] f_is_growing := ⟨⟨_, F4, b4⟩, PySem.W.mg_of X G a_is_growing⟩
    have F5 := fun_mk (st := s_l_bag) l5 c5 k5
    have b5 := F5.binds (ps := ["_law_script"]) fun _ _ _ _ _ _ us hl => match us, hl with | [_], _ => rfl
    have Y_l_bag : Dt K mg "_law_bag" s_l_bag ["_law_script"] f_l_bag := ⟨⟨_, F5, b5⟩, PySem.W.mg_of X G a_l_bag⟩
    have F6 := fun_mk (st := s_l_take) l6 c6 k6
    have b6 := F6.binds (ps := ["_law_bag_here", "_law_many"]) fun _ _ _ _ _ _ us hl => match us, hl with | [_, _], _ => rfl
    have Y_l_take : Dt K mg "_law_take" s_l_take ["_law_bag_here", "_law_many"] f_l_take := ⟨⟨_, F6, b6⟩, PySem.W.mg_of X G a_l_take⟩
    have F7 := fun_mk (st := s_l_alike) l7 c7 k7
    have b7 := F7.binds (ps := ["_law_found", "_law_due"]) fun _ _ _ _ _ _ us hl => match us, hl with | [_, _], _ => rfl
    have Y_l_alike : Dt K mg "_law_alike" s_l_alike ["_law_found", "_law_due"] f_l_alike := ⟨⟨_, F7, b7⟩, PySem.W.mg_of X G a_l_alike⟩
    have F8 := fun_mk (st := s_l_odd) l8 c8 k8
    have b8 := F8.binds (ps := ["_law_bag_here"]) fun _ _ _ _ _ _ us hl => match us, hl with | [_], _ => rfl
    have Y_l_odd : Dt K mg "_law_odd" s_l_odd ["_law_bag_here"] f_l_odd := ⟨⟨_, F8, b8⟩, PySem.W.mg_of X G a_l_odd⟩
    have F9 := fun_mk (st := s_l_is_name) l9 c9 k9
    have b9 := F9.binds (ps := ["_law_thing_here"]) fun _ _ _ _ _ _ us hl => match us, hl with | [_], _ => rfl
    have Y_l_is_name : Dt K mg "_law_is_name" s_l_is_name ["_law_thing_here"] f_l_is_name := ⟨⟨_, F9, b9⟩, PySem.W.mg_of X G a_l_is_name⟩
    have F10 := fun_mk (st := s_l_errors) l10 c10 k10
    have b10 := F10.binds (ps := ["_law_x", "_law_y"]) fun _ _ _ _ _ _ us hl => match us, hl with | [_, _], _ => rfl
    have Y_l_errors : Dt K mg "_law_errors" s_l_errors ["_law_x", "_law_y"] f_l_errors := ⟨⟨_, F10, b10⟩, PySem.W.mg_of X G a_l_errors⟩
    have F11 := fun_mk (st := s_l_flags) l11 c11 k11
    have b11 := F11.binds (ps := ["_law_e"]) fun _ _ _ _ _ _ us hl => match us, hl with | [_], _ => rfl
    have Y_l_flags : Dt K mg "_law_flags" s_l_flags ["_law_e"] f_l_flags := ⟨⟨_, F11, b11⟩, PySem.W.mg_of X G a_l_flags⟩
    have F12 := fun_mk (st := s_l_errors_right) l12 c12 k12
    have b12 := F12.binds (ps := ["_law_x", "_law_y"]) fun _ _ _ _ _ _ us hl => match us, hl with | [_, _], _ => rfl
    have Y_l_errors_right : Dt K mg "_law_errors_right" s_l_errors_right ["_law_x", "_law_y"] f_l_errors_right := ⟨⟨_, F12, b12⟩, PySem.W.mg_of X G a_l_errors_right⟩
    have F13 := fun_mk (st := s_l_thing) l13 c13 k13
    have b13 := F13.binds (ps := ["_law_bag_here"]) fun _ _ _ _ _ _ us hl => match us, hl with | [_], _ => rfl
    have Y_l_thing : Dt K mg "_law_thing" s_l_thing ["_law_bag_here"] f_l_thing := ⟨⟨_, F13, b13⟩, PySem.W.mg_of X G a_l_thing⟩
    have F14 := fun_mk (st := s_law) l14 c14 k14
    have b14 := F14.binds (ps := ["_law_script"]) fun _ _ _ _ _ _ us hl => match us, hl with | [_], _ => rfl
    have gWrong : mg "Wrong" = some (.ref c_Wrong) := PySem.W.mg_of X G aC_Wrong
    have F15 := fun_mk (st := s_Wrong_init) l15 c15 k15
    have b15 := F15.binds (ps := ["self", "place"]) fun _ _ _ _ _ _ us hl => match us, hl with | [_, _], _ => rfl
    have Y_Wrong_init : Mt K c_Wrong "__init__" "Wrong.__init__" s_Wrong_init ["self", "place"] f_Wrong_init := ⟨⟨_, F15, b15⟩, ⟨a_Wrong_init, i_Wrong_init, k15⟩⟩
    have gUnknown : mg "Unknown" = some (.ref c_Unknown) := PySem.W.mg_of X G aC_Unknown
    have F16 := fun_mk (st := s_Unknown_init) l16 c16 k16
    have b16 := F16.binds (ps := ["self", "name"]) fun _ _ _ _ _ _ us hl => match us, hl with | [_, _], _ => rfl
    have Y_Unknown_init : Mt K c_Unknown "__init__" "Unknown.__init__" s_Unknown_init ["self", "name"] f_Unknown_init := ⟨⟨_, F16, b16⟩, ⟨a_Unknown_init, i_Unknown_init, k16⟩⟩
    have gNoCell : mg "NoCell" = some (.ref c_NoCell) := PySem.W.mg_of X G aC_NoCell
    have F17 := fun_mk (st := s_NoCell_init) l17 c17 k17
    have b17 := F17.binds (ps := ["self", "at"]) fun _ _ _ _ _ _ us hl => match us, hl with | [_, _], _ => rfl
    have Y_NoCell_init : Mt K c_NoCell "__init__" "NoCell.__init__" s_NoCell_init ["self", "at"] f_NoCell_init := ⟨⟨_, F17, b17⟩, ⟨a_NoCell_init, i_NoCell_init, k17⟩⟩
    have gBadRoom : mg "BadRoom" = some (.ref c_BadRoom) := PySem.W.mg_of X G aC_BadRoom
    have F18 := fun_mk (st := s_BadRoom_init) l18 c18 k18
    have b18 := F18.binds (ps := ["self", "size"]) fun _ _ _ _ _ _ us hl => match us, hl with | [_, _], _ => rfl
    have Y_BadRoom_init : Mt K c_BadRoom "__init__" "BadRoom.__init__" s_BadRoom_init ["self", "size"] f_BadRoom_init := ⟨⟨_, F18, b18⟩, ⟨a_BadRoom_init, i_BadRoom_init, k18⟩⟩
    have gUnfit : mg "Unfit" = some (.ref c_Unfit) := PySem.W.mg_of X G aC_Unfit
    have F19 := fun_mk (st := s_Unfit_init) l19 c19 k19
    have b19 := F19.binds (ps := ["self", "at"]) fun _ _ _ _ _ _ us hl => match us, hl with | [_, _], _ => rfl
    have Y_Unfit_init : Mt K c_Unfit "__init__" "Unfit.__init__" s_Unfit_init ["self", "at"] f_Unfit_init := ⟨⟨_, F19, b19⟩, ⟨a_Unfit_init, i_Unfit_init, k19⟩⟩
    have gNoArray : mg "NoArray" = some (.ref c_NoArray) := PySem.W.mg_of X G aC_NoArray
    have F20 := fun_mk (st := s_NoArray_init) l20 c20 k20
    have b20 := F20.binds (ps := ["self", "index"]) fun _ _ _ _ _ _ us hl => match us, hl with | [_, _], _ => rfl
    have Y_NoArray_init : Mt K c_NoArray "__init__" "NoArray.__init__" s_NoArray_init ["self", "index"] f_NoArray_init := ⟨⟨_, F20, b20⟩, ⟨a_NoArray_init, i_NoArray_init, k20⟩⟩
    have gBroken : mg "Broken" = some (.ref c_Broken) := PySem.W.mg_of X G aC_Broken
    have F21 := fun_mk (st := s_Broken_init) l21 c21 k21
    have b21 := F21.binds (ps := ["self", "at"]) fun _ _ _ _ _ _ us hl => match us, hl with | [_, _], _ => rfl
    have Y_Broken_init : Mt K c_Broken "__init__" "Broken.__init__" s_Broken_init ["self", "at"] f_Broken_init := ⟨⟨_, F21, b21⟩, ⟨a_Broken_init, i_Broken_init, k21⟩⟩
    have gNoPlace : mg "NoPlace" = some (.ref c_NoPlace) := PySem.W.mg_of X G aC_NoPlace
    have F22 := fun_mk (st := s_NoPlace_init) l22 c22 k22
    have b22 := F22.binds (ps := ["self", "place"]) fun _ _ _ _ _ _ us hl => match us, hl with | [_, _], _ => rfl
    have Y_NoPlace_init : Mt K c_NoPlace "__init__" "NoPlace.__init__" s_NoPlace_init ["self", "place"] f_NoPlace_init := ⟨⟨_, F22, b22⟩, ⟨a_NoPlace_init, i_NoPlace_init, k22⟩⟩
    have gTooMany : mg "TooMany" = some (.ref c_TooMany) := PySem.W.mg_of X G aC_TooMany
    have F23 := fun_mk (st := s_TooMany_init) l23 c23 k23
    have b23 := F23.binds (ps := ["self", "limit"]) fun _ _ _ _ _ _ us hl => match us, hl with | [_, _], _ => rfl
    have Y_TooMany_init : Mt K c_TooMany "__init__" "TooMany.__init__" s_TooMany_init ["self", "limit"] f_TooMany_init := ⟨⟨_, F23, b23⟩, ⟨a_TooMany_init, i_TooMany_init, k23⟩⟩
    have gNoFunction : mg "NoFunction" = some (.ref c_NoFunction) := PySem.W.mg_of X G aC_NoFunction
    have F24 := fun_mk (st := s_NoFunction_init) l24 c24 k24
    have b24 := F24.binds (ps := ["self", "name"]) fun _ _ _ _ _ _ us hl => match us, hl with | [_, _], _ => rfl
    have Y_NoFunction_init : Mt K c_NoFunction "__init__" "NoFunction.__init__" s_NoFunction_init ["self", "name"] f_NoFunction_init := ⟨⟨_, F24, b24⟩, ⟨a_NoFunction_init, i_NoFunction_init, k24⟩⟩
    have gFull : mg "Full" = some (.ref c_Full) := PySem.W.mg_of X G aC_Full
    have F25 := fun_mk (st := s_Full_init) l25 c25 k25
    have b25 := F25.binds (ps := ["self", "limit"]) fun _ _ _ _ _ _ us hl => match us, hl with | [_, _], _ => rfl
    have Y_Full_init : Mt K c_Full "__init__" "Full.__init__" s_Full_init ["self", "limit"] f_Full_init := ⟨⟨_, F25, b25⟩, ⟨a_Full_init, i_Full_init, k25⟩⟩
    have gRefused : mg "Refused" = some (.ref c_Refused) := PySem.W.mg_of X G aC_Refused
    have F26 := fun_mk (st := s_Refused_init) l26 c26 k26
    have b26 := F26.binds (ps := ["self", "deed"]) fun _ _ _ _ _ _ us hl => match us, hl with | [_, _], _ => rfl
    have Y_Refused_init : Mt K c_Refused "__init__" "Refused.__init__" s_Refused_init ["self", "deed"] f_Refused_init := ⟨⟨_, F26, b26⟩, ⟨a_Refused_init, i_Refused_init, k26⟩⟩
    have gNoEntry : mg "NoEntry" = some (.ref c_NoEntry) := PySem.W.mg_of X G aC_NoEntry
    have F27 := fun_mk (st := s_NoEntry_init) l27 c27 k27
    have b27 := F27.binds (ps := ["self", "many"]) fun _ _ _ _ _ _ us hl => match us, hl with | [_, _], _ => rfl
    have Y_NoEntry_init : Mt K c_NoEntry "__init__" "NoEntry.__init__" s_NoEntry_init ["self", "many"] f_NoEntry_init := ⟨⟨_, F27, b27⟩, ⟨a_NoEntry_init, i_NoEntry_init, k27⟩⟩
    have gEndless : mg "Endless" = some (.ref c_Endless) := PySem.W.mg_of X G aC_Endless
    have F28 := fun_mk (st := s_Endless_init) l28 c28 k28
    have b28 := F28.binds (ps := ["self", "function"]) fun _ _ _ _ _ _ us hl => match us, hl with | [_, _], _ => rfl
    have Y_Endless_init : Mt K c_Endless "__init__" "Endless.__init__" s_Endless_init ["self", "function"] f_Endless_init := ⟨⟨_, F28, b28⟩, ⟨a_Endless_init, i_Endless_init, k28⟩⟩
    have gBadStatement : mg "BadStatement" = some (.ref c_BadStatement) := PySem.W.mg_of X G aC_BadStatement
    have F29 := fun_mk (st := s_BadStatement_init) l29 c29 k29
    have b29 := F29.binds (ps := ["self", "function", "address"]) fun _ _ _ _ _ _ us hl => match us, hl with | [_, _, _], _ => rfl
    have Y_BadStatement_init : Mt K c_BadStatement "__init__" "BadStatement.__init__" s_BadStatement_init ["self", "function", "address"] f_BadStatement_init := ⟨⟨_, F29, b29⟩, ⟨a_BadStatement_init, i_BadStatement_init, k29⟩⟩
    have gNothing : mg "Nothing" = some (.ref c_Nothing) := PySem.W.mg_of X G aC_Nothing
    have gUnlike : mg "Unlike" = some (.ref c_Unlike) := PySem.W.mg_of X G aC_Unlike
    have gNoDeed : mg "NoDeed" = some (.ref c_NoDeed) := PySem.W.mg_of X G aC_NoDeed
    have gNoText : mg "NoText" = some (.ref c_NoText) := PySem.W.mg_of X G aC_NoText
    have gNoCommand : mg "NoCommand" = some (.ref c_NoCommand) := PySem.W.mg_of X G aC_NoCommand
    have gTailError : mg "TailError" = some (.ref c_TailError) := PySem.W.mg_of X G aC_TailError
    have hT_GROWINGS : SqT K (fun _ => none) f_GROWINGS [.str "exact", .str "spare"] := .inr ⟨_, _, _, lk_GROWINGS, rfl, rfl, (by show 2 ≤ sizeLine; decide), .cons ⟨_, rfl⟩ (.cons ⟨_, rfl⟩ (.nil))⟩
    have V_LETTERS : ∃ t, mg "LETTERS" = some (.str lettersS t) := ⟨_, PySem.W.mg_of X G a_LETTERS⟩
    have V_LONGEST_NAME : ∃ t, mg "LONGEST_NAME" = some (.int 8 t) := ⟨_, PySem.W.mg_of X G a_LONGEST_NAME⟩
    refine ⟨PySem.W.fnOf "law" "law" (defArgs s_law) (defBody s_law) (defScope s_law) .none kV14 dc14 pm14 an14 cd14 ct14, fun s v => .of_eq rfl, fun base _ _ => ?_⟩
    have EA := exAll_of dd_ex
    have E : Ers K mg (fun i => ([c_Wrong, c_Unknown, c_NoCell, c_BadRoom, c_Unfit, c_NoArray, c_Broken, c_NoPlace, c_TooMany, c_NoFunction, c_Full, c_Refused, c_NoEntry, c_Endless, c_BadStatement, c_Nothing, c_Unlike, c_NoDeed, c_NoText, c_NoCommand, c_TailError] : List Addr).getD i 0) := { ex := EA.ex, kk := EA.kk, kt := EA.kt, kv := EA.kv, tw := EA.tw, e0 := EA.e0, g_Wrong := gWrong, g_Unknown := gUnknown, g_NoCell := gNoCell, g_BadRoom := gBadRoom, g_Unfit := gUnfit, g_NoArray := gNoArray, g_Broken := gBroken, g_NoPlace := gNoPlace, g_TooMany := gTooMany, g_NoFunction := gNoFunction, g_Full := gFull, g_Refused := gRefused, g_NoEntry := gNoEntry, g_Endless := gEndless, g_BadStatement := gBadStatement, g_Nothing := gNothing, g_Unlike := gUnlike, g_NoDeed := gNoDeed, g_NoText := gNoText, g_NoCommand := gNoCommand, g_TailError := gTailError, n_Wrong_place := n_Wrong_place, n_Unknown_name := n_Unknown_name, n_NoCell_at := n_NoCell_at, n_BadRoom_size := n_BadRoom_size, n_Unfit_at := n_Unfit_at, n_NoArray_index := n_NoArray_index, n_Broken_at := n_Broken_at, n_NoPlace_place := n_NoPlace_place, n_TooMany_limit := n_TooMany_limit, n_NoFunction_name := n_NoFunction_name, n_Full_limit := n_Full_limit, n_Refused_deed := n_Refused_deed, n_NoEntry_many := n_NoEntry_many, n_Endless_function := n_Endless_function, n_BadStatement_function := n_BadStatement_function, n_BadStatement_address := n_BadStatement_address }
    have C : Cst mg := ⟨V_LETTERS, V_LONGEST_NAME⟩
    have M_Wrong := ok_Wrong_init (P := l.prog) (w := w) (base := base) Y_Wrong_init (EA.ex 0 (by decide)) n_Wrong_place gWrong
    have M_Unknown := ok_Unknown_init (P := l.prog) (w := w) (base := base) Y_Unknown_init (EA.ex 1 (by decide)) n_Unknown_name gUnknown
    have M_NoCell := ok_NoCell_init (P := l.prog) (w := w) (base := base) Y_NoCell_init (EA.ex 2 (by decide)) n_NoCell_at gNoCell
    have M_BadRoom := ok_BadRoom_init (P := l.prog) (w := w) (base := base) Y_BadRoom_init (EA.ex 3 (by decide)) n_BadRoom_size gBadRoom
    have M_Unfit := ok_Unfit_init (P := l.prog) (w := w) (base := base) Y_Unfit_init (EA.ex 4 (by decide)) n_Unfit_at gUnfit
    have M_NoArray := ok_NoArray_init (P := l.prog) (w := w) (base := base) Y_NoArray_init (EA.ex 5 (by decide)) n_NoArray_index gNoArray
    have M_Broken := ok_Broken_init (P := l.prog) (w := w) (base := base) Y_Broken_init (EA.ex 6 (by decide)) n_Broken_at gBroken
    have M_NoPlace := ok_NoPlace_init (P := l.prog) (w := w) (base := base) Y_NoPlace_init (EA.ex 7 (by decide)) n_NoPlace_place gNoPlace
    have M_TooMany := ok_TooMany_init (P := l.prog) (w := w) (base := base) Y_TooMany_init (EA.ex 8 (by decide)) n_TooMany_limit gTooMany
    have M_NoFunction := ok_NoFunction_init (P := l.prog) (w := w) (base := base) Y_NoFunction_init (EA.ex 9 (by decide)) n_NoFunction_name gNoFunction
    have M_Full := ok_Full_init (P := l.prog) (w := w) (base := base) Y_Full_init (EA.ex 10 (by decide)) n_Full_limit gFull
    have M_Refused := ok_Refused_init (P := l.prog) (w := w) (base := base) Y_Refused_init (EA.ex 11 (by decide)) n_Refused_deed gRefused
    have M_NoEntry := ok_NoEntry_init (P := l.prog) (w := w) (base := base) Y_NoEntry_init (EA.ex 12 (by decide)) n_NoEntry_many gNoEntry
    have M_Endless := ok_Endless_init (P := l.prog) (w := w) (base := base) Y_Endless_init (EA.ex 13 (by decide)) n_Endless_function gEndless
    have M_BadStatement := ok_BadStatement_init (P := l.prog) (w := w) (base := base) Y_BadStatement_init (EA.ex 14 (by decide)) n_BadStatement_function n_BadStatement_address gBadStatement
    have D_is_integer := ok_is_integer (P := l.prog) (w := w) (base := base) Y_is_integer T
    have D_is_name := ok_is_name (P := l.prog) (w := w) (base := base) Y_is_name T C
    have D_is_number := ok_is_number Y_is_number T D_is_integer
    have D_is_growing := ok_is_growing (P := l.prog) (w := w) (base := base) Y_is_growing T hT_GROWINGS
    have D_l_is_name := ok_l_is_name (P := l.prog) (w := w) (base := base) Y_l_is_name T
    have D_l_take := ok_l_take (P := l.prog) (w := w) (base := base) Y_l_take T
    have D_l_bag := ok_l_bag (P := l.prog) (w := w) (base := base) Y_l_bag T
    have D_l_alike := ok_l_alike (P := l.prog) (w := w) (base := base) Y_l_alike T
    have D_l_odd := ok_l_odd Y_l_odd T D_l_take
    have D_l_thing := ok_l_thing Y_l_thing T D_l_take D_l_odd
    have D_l_errors := ok_l_errors (c := (fun i => ([c_Wrong, c_Unknown, c_NoCell, c_BadRoom, c_Unfit, c_NoArray, c_Broken, c_NoPlace, c_TooMany, c_NoFunction, c_Full, c_Refused, c_NoEntry, c_Endless, c_BadStatement, c_Nothing, c_Unlike, c_NoDeed, c_NoText, c_NoCommand, c_TailError] : List Addr).getD i 0)) Y_l_errors T E M_Wrong M_Unknown M_NoCell M_BadRoom M_Unfit M_NoArray M_Broken M_NoPlace M_TooMany M_NoFunction M_Full M_Refused M_NoEntry M_Endless M_BadStatement
    have D_l_flags := ok_l_flags (P := l.prog) (w := w) (base := base) Y_l_flags T E
    have D_l_errors_right := ok_l_errors_right Y_l_errors_right T E D_l_errors D_l_flags D_l_alike
    exact ok_law F14 T D_l_bag D_l_take D_l_odd D_l_errors_right D_l_thing D_l_is_name D_is_integer D_is_name D_is_number D_is_growing D_l_alike
theorem walk {l : PySem.W.OpenLaw} {q : Program} {loose : List Str} {XP : (Str → Option Value) → Heap → Prop} {YP : World → Heap → Prop} {d : DefRec} {K : Params → PySem.W.Frag} (hn : l.most = some 63) (hdf : d.params.defaults = [])
    (hY : ∀ (w : World) (h : Heap), YP w h → (K w.params).In h)
    (F : ∀ (w : World) (mg : Str → Option Value) (fa : Addr) (h : Heap), (K w.params).In h → h.Ns mainGlobals mg → mg d.name = some (.ref fa) →
      ∃ fd : FuncData, (∀ (s : Shared) (u : Value), BindsTo s fd ⟨[u], []⟩ [("_law_script", u)]) ∧ ∀ base : Heap, (K w.params).In base → base.Ns mainGlobals mg → FnG l.prog w (K w.params) mg base 6 fa fd ["_law_script"] (spLaw (K w.params))) :
    PySem.W.WalkO q loose XP YP l.row.toRowW d [] (fun f vs => PySem.call f vs) :=
  walk_G (n := 63) (k := 6) (x := "_law_script") (sp := fun w => spLaw (K w.params)) hn (by decide) hdf ⟨rfl, by decide, by decide⟩ hY F (fun _ H a ns hl _ _ hS => ⟨a, ns, rfl, hS, hl, fun _ => rfl⟩)
end Pf

open PySem PySem.W PyProof.Rows in
set_option maxRecDepth 100000 in
set_option maxHeartbeats 0 in
theorem PySem.Challenge.cw_sparetails_k10_errors_and_kinds_holds : PySem.Challenge.rw_sparetails_k10_errors_and_kinds.Holds := by
  w_on; o_law; k_head; (case hw => w_witness2)
  k_fill
  refine Pf.walk (l := PySem.Challenge.rw_sparetails_k10_errors_and_kinds) rfl rfl (fun w h Y => PySem.W.kIn_of Y) ?F
  case F =>
    intro w mg fa h KX G hmg
    refine' Pf.all_mk KX G hmg ?a_is_integer ?l1 ?c1 ?k1 ?a_is_name ?l2 ?c2 ?k2 ?a_is_number ?l3 ?c3 ?k3 ?a_is_growing ?l4 ?c4 ?k4 ?a_l_bag ?l5 ?c5 ?k5 ?a_l_take ?l6 ?c6 ?k6 ?a_l_alike ?l7 ?c7 ?k7 ?a_l_odd ?l8 ?c8 ?k8 ?a_l_is_name ?l9 ?c9 ?k9 ?a_l_errors ?l10 ?c10 ?k10 ?a_l_flags ?l11 ?c11 ?k11 ?a_l_errors_right ?l12 ?c12 ?k12 ?a_l_thing ?l13 ?c13 ?k13 ?a_law ?l14 ?c14 ?k14 ?aC_Wrong ?n_Wrong_place ?a_Wrong_init ?i_Wrong_init ?l15 ?c15 ?k15 ?aC_Unknown ?n_Unknown_name ?a_Unknown_init ?i_Unknown_init ?l16 ?c16 ?k16 ?aC_NoCell ?n_NoCell_at ?a_NoCell_init ?i_NoCell_init ?l17 ?c17 ?k17 ?aC_BadRoom ?n_BadRoom_size ?a_BadRoom_init ?i_BadRoom_init ?l18 ?c18 ?k18 ?aC_Unfit ?n_Unfit_at ?a_Unfit_init ?i_Unfit_init ?l19 ?c19 ?k19 ?aC_NoArray ?n_NoArray_index ?a_NoArray_init ?i_NoArray_init ?l20 ?c20 ?k20 ?aC_Broken ?n_Broken_at ?a_Broken_init ?i_Broken_init ?l21 ?c21 ?k21 ?aC_NoPlace ?n_NoPlace_place ?a_NoPlace_init ?i_NoPlace_init ?l22 ?c22 ?k22 ?aC_TooMany ?n_TooMany_limit ?a_TooMany_init ?i_TooMany_init ?l23 ?c23 ?k23 ?aC_NoFunction ?n_NoFunction_name ?a_NoFunction_init ?i_NoFunction_init ?l24 ?c24 ?k24 ?aC_Full ?n_Full_limit ?a_Full_init ?i_Full_init ?l25 ?c25 ?k25 ?aC_Refused ?n_Refused_deed ?a_Refused_init ?i_Refused_init ?l26 ?c26 ?k26 ?aC_NoEntry ?n_NoEntry_many ?a_NoEntry_init ?i_NoEntry_init ?l27 ?c27 ?k27 ?aC_Endless ?n_Endless_function ?a_Endless_init ?i_Endless_init ?l28 ?c28 ?k28 ?aC_BadStatement ?n_BadStatement_function ?n_BadStatement_address ?a_BadStatement_init ?i_BadStatement_init ?l29 ?c29 ?k29 ?aC_Nothing ?aC_Unlike ?aC_NoDeed ?aC_NoText ?aC_NoCommand ?aC_TailError ?dd_ex ?a_GROWINGS ?lk_GROWINGS ?a_LETTERS ?a_LONGEST_NAME ?z_isinstance ?z_len ?z_int ?z_abs ?z_range ?z_list ?z_all ?z_bool ?z_str ?z_repr ?z_ValueError
    (case a_is_integer => k_is)
    (case l1 => k_is)
    (case c1 => k_is)
    (case k1 => k_is)
    (case a_is_name => k_is)
    (case l2 => k_is)
    (case c2 => k_is)
    (case k2 => k_is)
    (case a_is_number => k_is)
    (case l3 => k_is)
    (case c3 => k_is)
    (case k3 => k_is)
    (case a_is_growing => k_is)
    (case l4 => k_is)
    (case c4 => k_is)
    (case k4 => k_is)
    (case a_l_bag => k_is)
    (case l5 => k_is)
    (case c5 => k_is)
    (case k5 => k_is)
    (case a_l_take => k_is)
    (case l6 => k_is)
    (case c6 => k_is)
    (case k6 => k_is)
    (case a_l_alike => k_is)
    (case l7 => k_is)
    (case c7 => k_is)
    (case k7 => k_is)
    (case a_l_odd => k_is)
    (case l8 => k_is)
    (case c8 => k_is)
    (case k8 => k_is)
    (case a_l_is_name => k_is)
    (case l9 => k_is)
    (case c9 => k_is)
    (case k9 => k_is)
    (case a_l_errors => k_is)
    (case l10 => k_is)
    (case c10 => k_is)
    (case k10 => k_is)
    (case a_l_flags => k_is)
    (case l11 => k_is)
    (case c11 => k_is)
    (case k11 => k_is)
    (case a_l_errors_right => k_is)
    (case l12 => k_is)
    (case c12 => k_is)
    (case k12 => k_is)
    (case a_l_thing => k_is)
    (case l13 => k_is)
    (case c13 => k_is)
    (case k13 => k_is)
    (case a_law => k_is)
    (case l14 => k_is)
    (case c14 => k_is)
    (case k14 => k_is)
    (case aC_Wrong => k_is)
    (case n_Wrong_place => k_is)
    (case a_Wrong_init => k_is)
    (case i_Wrong_init => k_is)
    (case l15 => k_is)
    (case c15 => k_is)
    (case k15 => k_is)
    (case aC_Unknown => k_is)
    (case n_Unknown_name => k_is)
    (case a_Unknown_init => k_is)
    (case i_Unknown_init => k_is)
    (case l16 => k_is)
    (case c16 => k_is)
    (case k16 => k_is)
    (case aC_NoCell => k_is)
    (case n_NoCell_at => k_is)
    (case a_NoCell_init => k_is)
    (case i_NoCell_init => k_is)
    (case l17 => k_is)
    (case c17 => k_is)
    (case k17 => k_is)
    (case aC_BadRoom => k_is)
    (case n_BadRoom_size => k_is)
    (case a_BadRoom_init => k_is)
    (case i_BadRoom_init => k_is)
    (case l18 => k_is)
    (case c18 => k_is)
    (case k18 => k_is)
    (case aC_Unfit => k_is)
    (case n_Unfit_at => k_is)
    (case a_Unfit_init => k_is)
    (case i_Unfit_init => k_is)
    (case l19 => k_is)
    (case c19 => k_is)
    (case k19 => k_is)
    (case aC_NoArray => k_is)
    (case n_NoArray_index => k_is)
    (case a_NoArray_init => k_is)
    (case i_NoArray_init => k_is)
    (case l20 => k_is)
    (case c20 => k_is)
    (case k20 => k_is)
    (case aC_Broken => k_is)
    (case n_Broken_at => k_is)
    (case a_Broken_init => k_is)
    (case i_Broken_init => k_is)
    (case l21 => k_is)
    (case c21 => k_is)
    (case k21 => k_is)
    (case aC_NoPlace => k_is)
    (case n_NoPlace_place => k_is)
    (case a_NoPlace_init => k_is)
    (case i_NoPlace_init => k_is)
    (case l22 => k_is)
    (case c22 => k_is)
    (case k22 => k_is)
    (case aC_TooMany => k_is)
    (case n_TooMany_limit => k_is)
    (case a_TooMany_init => k_is)
    (case i_TooMany_init => k_is)
    (case l23 => k_is)
    (case c23 => k_is)
    (case k23 => k_is)
    (case aC_NoFunction => k_is)
    (case n_NoFunction_name => k_is)
    (case a_NoFunction_init => k_is)
    (case i_NoFunction_init => k_is)
    (case l24 => k_is)
    (case c24 => k_is)
    (case k24 => k_is)
    (case aC_Full => k_is)
    (case n_Full_limit => k_is)
    (case a_Full_init => k_is)
    (case i_Full_init => k_is)
    (case l25 => k_is)
    (case c25 => k_is)
    (case k25 => k_is)
    (case aC_Refused => k_is)
    (case n_Refused_deed => k_is)
    (case a_Refused_init => k_is)
    (case i_Refused_init => k_is)
    (case l26 => k_is)
    (case c26 => k_is)
    (case k26 => k_is)
    (case aC_NoEntry => k_is)
    (case n_NoEntry_many => k_is)
    (case a_NoEntry_init => k_is)
    (case i_NoEntry_init => k_is)
    (case l27 => k_is)
    (case c27 => k_is)
    (case k27 => k_is)
    (case aC_Endless => k_is)
    (case n_Endless_function => k_is)
    (case a_Endless_init => k_is)
    (case i_Endless_init => k_is)
    (case l28 => k_is)
    (case c28 => k_is)
    (case k28 => k_is)
    (case aC_BadStatement => k_is)
    (case n_BadStatement_function => k_is)
    (case n_BadStatement_address => k_is)
    (case a_BadStatement_init => k_is)
    (case i_BadStatement_init => k_is)
    (case l29 => k_is)
    (case c29 => k_is)
    (case k29 => k_is)
    (case aC_Nothing => k_is)
    (case aC_Unlike => k_is)
    (case aC_NoDeed => k_is)
    (case aC_NoText => k_is)
    (case aC_NoCommand => k_is)
    (case aC_TailError => k_is)
    (case dd_ex => first | kernel_rfl | exact rfl)
    (case a_GROWINGS => k_is)
    (case lk_GROWINGS => k_is)
    (case a_LETTERS => k_is)
    (case a_LONGEST_NAME => k_is)
    (case z_isinstance => k_is)
    (case z_len => k_is)
    (case z_int => k_is)
    (case z_abs => k_is)
    (case z_range => k_is)
    (case z_list => k_is)
    (case z_all => k_is)
    (case z_bool => k_is)
    (case z_str => k_is)
    (case z_repr => k_is)
    (case z_ValueError => k_is)


