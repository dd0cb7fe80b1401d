import PyProof.Rows.All
import Wide.All
import OpenK.AllK
import Wide.FinOn
import HandS.Base
import HandS.Call
import HandS.List
import HandS.Comp
import HandS.Ends
import HandS.Words
import HandS.ForMost
import HandS.Style
import HandS.NoneIn
import HandS.IsInst
import HandS.Wide
import HandS.More
import HandS.Codes
import HandS.SlotsOwn
import HandS.Property
import HandS.MakeKwOnly
import HandS.CallLocal
import HandS.EndBits
import PyProof.ReprLen
import HandS.OwnEq
import HandS.Zip
import KE.KIsAll
import KE.KExcIs
import HandS.Exc
import HandS.ExcOwn
import HandS.TryOnly
import HandS.WordsExc
import PyProof.Draws
import PyProof.WalksMore
import KE.SortData
import HandS.Star
import HandS.SetFor
import HandS.Strs
import HandS.Deep
import HandS.Iter
import HandS.Walk
import HandS.SetTxt0
import HandS.DictComp
import HandS.Flow
import HandS.Text
import HandS.Conv
import HandS.HeadHook3
import HandS.TupAny
import PyProof.SumWalk
import PyProof.ListOps
import HandS.ExcValue
import KE.KDictZip
import PyProof.DictUpdate
import PySem.Challenge.RW_sparetails_k50_orders_told
set_option Elab.async false
set_option linter.all false
set_option maxRecDepth 100000
namespace Kt
open PySem L2
/-! ### what is known of the heap, part by part -/
abbrev SP := Hp → Prop
def Le (G H : Hp) : Prop := ∀ a o, G a = some o → H a = some o
def sub (H G : Hp) : Hp := fun a => if (G a).isSome = true then none else H a
def Sep : List SP → Hp → Prop
  | [], _ => True
  | P :: Ps, H => ∃ G, Le G H ∧ P G ∧ Sep Ps (sub H G)
def pt (a : Addr) (o : HO) : SP := fun G => G a = some o
theorem sub_of {H G : Hp} {a : Addr} (h : G a = none) : sub H G a = H a := by
  unfold sub; rw [h]; rfl
theorem sub_in {H G : Hp} {a : Addr} {o : HO} (h : G a = some o) : sub H G a = none := by
  unfold sub; rw [h]; rfl
theorem sub_some {H G : Hp} {a : Addr} {o : HO} (h : sub H G a = some o) : G a = none ∧ H a = some o := by
  cases e : G a with
  | none => rw [sub_of e] at h; exact ⟨rfl, h⟩
  | some u => rw [sub_in e] at h; cases h
theorem Sep.mono : ∀ {Ps : List SP} {H H' : Hp}, Le H H' → Sep Ps H → Sep Ps H'
  | [], _, _, _, _ => trivial
  | P :: Ps, H, H', l, ⟨G, h1, h2, h3⟩ => ⟨G, fun a o e => l a o (h1 a o e), h2, Sep.mono (fun a o e => by
      obtain ⟨e1, e2⟩ := sub_some e
      rw [sub_of e1]; exact l a o e2) h3⟩
theorem Sep.tl {P : SP} {Ps : List SP} {H : Hp} : Sep (P :: Ps) H → Sep Ps H := fun ⟨G, _, _, h⟩ => h.mono fun a o e => (sub_some e).2
theorem Sep.swap {P Q : SP} {Ps : List SP} {H : Hp} : Sep (P :: Q :: Ps) H → Sep (Q :: P :: Ps) H := fun ⟨G1, l1, p1, G2, l2, p2, h⟩ => by
  have d : ∀ a o, G1 a = some o → G2 a = none := fun a o e => by
    cases e2 : G2 a with
    | none => rfl
    | some u => have := l2 a u e2; rw [sub_in e] at this; cases this
  refine ⟨G2, fun a o e => (sub_some (l2 a o e)).2, p2, G1, fun a o e => ?_, p1, h.mono fun a o e => ?_⟩
  · rw [sub_of (d a o e)]; exact l1 a o e
  · obtain ⟨e1, e2⟩ := sub_some e
    obtain ⟨e3, e4⟩ := sub_some e2
    rw [sub_of e3, sub_of e1]; exact e4
theorem Sep.cons_mono {P : SP} {Ps Qs : List SP} {H : Hp} (f : ∀ H', Sep Ps H' → Sep Qs H') : Sep (P :: Ps) H → Sep (P :: Qs) H := fun ⟨G, h1, h2, h3⟩ => ⟨G, h1, h2, f _ h3⟩
theorem Sep.hd_mono {P Q : SP} {Ps : List SP} {H : Hp} (f : ∀ G, P G → Q G) : Sep (P :: Ps) H → Sep (Q :: Ps) H := fun ⟨G, h1, h2, h3⟩ => ⟨G, h1, f _ h2, h3⟩
/-- one part to the front -/
inductive Pick (A : SP) : List SP → List SP → Prop where
  | hd {Ps : List SP} : Pick A (A :: Ps) Ps
  | tl {P : SP} {Ps Qs : List SP} : Pick A Ps Qs → Pick A (P :: Ps) (P :: Qs)
theorem Pick.go {A : SP} {Ps Qs : List SP} (p : Pick A Ps Qs) : ∀ {H : Hp}, Sep Ps H → Sep (A :: Qs) H := by
  induction p with
  | hd => exact fun h => h
  | tl _ ih => exact fun h => (h.cons_mono fun _ => ih).swap
theorem Pick.back {A : SP} {Ps Qs : List SP} (p : Pick A Ps Qs) : ∀ {H : Hp}, Sep (A :: Qs) H → Sep Ps H := by
  induction p with
  | hd => exact fun h => h
  | tl _ ih => exact fun h => h.swap.cons_mono fun _ => ih
inductive Dr : List SP → List SP → Prop where
  | all {Ps : List SP} : Dr Ps Ps
  | skip {P : SP} {Ps Qs : List SP} : Dr Ps Qs → Dr (P :: Ps) Qs
theorem Dr.go {Ps Qs : List SP} (p : Dr Ps Qs) : ∀ {H : Hp}, Sep Ps H → Sep Qs H := by
  induction p with
  | all => exact fun h => h
  | skip _ ih => exact fun h => ih h.tl
inductive Sel : List SP → List SP → List SP → Prop where
  | nil {Ps Qs : List SP} : Dr Ps Qs → Sel [] Ps Qs
  | cons {A : SP} {As Ps Qs Rs : List SP} : Pick A Ps Qs → Sel As Qs Rs → Sel (A :: As) Ps Rs
theorem Sel.go {As Ps Rs : List SP} (p : Sel As Ps Rs) : ∀ {H : Hp}, Sep Ps H → Sep (As ++ Rs) H := by
  induction p with
  | nil d => exact fun h => d.go h
  | cons p _ ih => exact fun h => (p.go h).cons_mono fun _ => ih
theorem Sep.sel {As Ps Rs : List SP} {H : Hp} (h : Sep Ps H) (p : Sel As Ps Rs) : Sep (As ++ Rs) H := p.go h
theorem Sep.s1 {A : SP} {Ps Rs : List SP} {H : Hp} (h : Sep Ps H) (p : Sel [A] Ps Rs) : Sep (A :: Rs) H := h.sel p
theorem Sep.s2 {A B : SP} {Ps Rs : List SP} {H : Hp} (h : Sep Ps H) (p : Sel [A, B] Ps Rs) : Sep (A :: B :: Rs) H := h.sel p
theorem Sep.s3 {A B C : SP} {Ps Rs : List SP} {H : Hp} (h : Sep Ps H) (p : Sel [A, B, C] Ps Rs) : Sep (A :: B :: C :: Rs) H := h.sel p
theorem Sep.s4 {A B C D : SP} {Ps Rs : List SP} {H : Hp} (h : Sep Ps H) (p : Sel [A, B, C, D] Ps Rs) : Sep (A :: B :: C :: D :: Rs) H := h.sel p
theorem Sep.s5 {A B C D E : SP} {Ps Rs : List SP} {H : Hp} (h : Sep Ps H) (p : Sel [A, B, C, D, E] Ps Rs) : Sep (A :: B :: C :: D :: E :: Rs) H := h.sel p
theorem Sep.s6 {A B C D E F : SP} {Ps Rs : List SP} {H : Hp} (h : Sep Ps H) (p : Sel [A, B, C, D, E, F] Ps Rs) : Sep (A :: B :: C :: D :: E :: F :: Rs) H := h.sel p
theorem Sep.s7 {A B C D E F G : SP} {Ps Rs : List SP} {H : Hp} (h : Sep Ps H) (p : Sel [A, B, C, D, E, F, G] Ps Rs) : Sep (A :: B :: C :: D :: E :: F :: G :: Rs) H := h.sel p
theorem Sep.s8 {A B C D E F G I : SP} {Ps Rs : List SP} {H : Hp} (h : Sep Ps H) (p : Sel [A, B, C, D, E, F, G, I] Ps Rs) : Sep (A :: B :: C :: D :: E :: F :: G :: I :: Rs) H := h.sel p
theorem Sep.pk {A : SP} {Ps Qs : List SP} {H : Hp} (h : Sep Ps H) (p : Pick A Ps Qs) : Sep (A :: Qs) H := p.go h
/-- one part looked up, put otherwise -/
inductive Repl (a : Addr) (o o' : HO) : List SP → List SP → Prop where
  | hd {Ps : List SP} : Repl a o o' (pt a o :: Ps) (pt a o' :: Ps)
  | tl {P : SP} {Ps Qs : List SP} : Repl a o o' Ps Qs → Repl a o o' (P :: Ps) (P :: Qs)
theorem Repl.pick {a : Addr} {o o' : HO} {Ps Qs : List SP} (r : Repl a o o' Ps Qs) : ∃ Rs, Pick (pt a o) Ps Rs ∧ Pick (pt a o') Qs Rs := by
  induction r with
  | hd => exact ⟨_, .hd, .hd⟩
  | tl _ ih => obtain ⟨Rs, h1, h2⟩ := ih; exact ⟨_, .tl h1, .tl h2⟩
theorem Sep.hd_at {a : Addr} {o : HO} {Ps : List SP} {H : Hp} : Sep (pt a o :: Ps) H → H a = some o := fun ⟨_, l, h, _⟩ => l a o h
theorem Sep.at_ {a : Addr} {o : HO} {Ps Qs : List SP} {H : Hp} (h : Sep Ps H) (p : Pick (pt a o) Ps Qs) : H a = some o := (p.go h).hd_at
theorem Sep.hd_set {a : Addr} {o : HO} {Ps : List SP} {H : Hp} (o' : HO) : Sep (pt a o :: Ps) H → Sep (pt a o' :: Ps) (upd H a o') := fun ⟨G, l, h, s⟩ => by
  have h' : G a = some o := h
  refine ⟨upd G a o', fun b u e => ?_, upd_same, s.mono fun b u e => ?_⟩
  · by_cases hb : b = a
    · subst hb; rw [upd_same] at e ⊢; exact e
    · rw [upd_ne hb] at e ⊢; exact l b u e
  · obtain ⟨e1, e2⟩ := sub_some e
    have hb : b ≠ a := fun q => by rw [q, h'] at e1; cases e1
    rw [sub_of (by rw [upd_ne hb]; exact e1), upd_ne hb]; exact e2
theorem Sep.set {a : Addr} {o o' : HO} {Ps Qs : List SP} {H : Hp} (h : Sep Ps H) (r : Repl a o o' Ps Qs) : Sep Qs (upd H a o') := by
  obtain ⟨Rs, h1, h2⟩ := r.pick
  exact h2.back ((h1.go h).hd_set o')
theorem Sep.new {p : Addr} {Ps : List SP} {H : Hp} (o : HO) (h : Sep Ps H) (n : H p = none) : Sep (pt p o :: Ps) (upd H p o) := by
  refine ⟨fun b => if b = p then some o else none, fun b u e => ?_, if_pos rfl, h.mono fun b u e => ?_⟩
  · by_cases hb : b = p
    · subst hb; rw [upd_same]; simpa using e
    · simp [hb] at e
  · have hb : b ≠ p := fun q => by rw [q, n] at e; cases e
    rw [sub_of (by simp [hb]), upd_ne hb]; exact e
/-- several parts as one -/
theorem Sep.flat : ∀ {As Rs : List SP} {H : Hp}, Sep (Sep As :: Rs) H → Sep (As ++ Rs) H
  | [], Rs, H, h => h.tl
  | A :: As, Rs, H, ⟨G, l, ⟨G1, l1, a, t⟩, r⟩ => by
    refine ⟨G1, fun b o e => l b o (l1 b o e), a, Sep.flat ⟨sub G G1, fun b o e => ?_, t, r.mono fun b o e => ?_⟩⟩
    · obtain ⟨e1, e2⟩ := sub_some e
      rw [sub_of e1]; exact l b o e2
    · obtain ⟨e1, e2⟩ := sub_some e
      have g1 : G1 b = none := by
        cases q : G1 b with
        | none => rfl
        | some u => have := l1 b u q; rw [e1] at this; cases this
      have g2 : sub G G1 b = none := by rw [sub_of g1]; exact e1
      rw [sub_of g2, sub_of g1]; exact e2
theorem Sep.unflat : ∀ {As Rs : List SP} {H : Hp}, Sep (As ++ Rs) H → Sep (Sep As :: Rs) H
  | [], Rs, H, h => ⟨fun _ => none, fun _ _ (e : (none : Option HO) = some _) => (Option.noConfusion rfl (heq_of_eq e)), trivial, Sep.mono (H := H) (fun a o e => by rw [sub_of rfl]; exact e) h⟩
  | A :: As, Rs, H, ⟨G1, l1, a, t⟩ => by
    obtain ⟨G2, l2, b, r⟩ := Sep.unflat (As := As) (Rs := Rs) t
    have d : ∀ x o, G2 x = some o → G1 x = none := fun x o e => (sub_some (l2 x o e)).1
    refine ⟨fun x => if (G1 x).isSome = true then G1 x else G2 x, fun x o e => ?_, ⟨G1, fun x o e => ?_, a, b.mono fun x o e => ?_⟩, r.mono fun x o e => ?_⟩
    · cases q : G1 x with
      | none => simp only [q] at e; exact (sub_some (l2 x o (by simpa using e))).2
      | some u => simp only [q] at e; rw [← e]; exact l1 x u q
    · simp [e]
    · have g := d x o e
      rw [sub_of g]; simp [g, e]
    · obtain ⟨e1, e2⟩ := sub_some e
      obtain ⟨e3, e4⟩ := sub_some e2
      rw [sub_of (by simp [e3, e1])]; exact e4
theorem Sep.ex {α : Type} {P : α → SP} {Ps : List SP} {H : Hp} : Sep ((fun G => ∃ x, P x G) :: Ps) H → ∃ x, Sep (P x :: Ps) H := fun ⟨G, l, ⟨x, h⟩, t⟩ => ⟨x, G, l, h, t⟩
theorem Sep.ex_in {α : Type} {P : α → SP} {Ps : List SP} {H : Hp} (x : α) : Sep (P x :: Ps) H → Sep ((fun G => ∃ x, P x G) :: Ps) H := fun ⟨G, l, h, t⟩ => ⟨G, l, ⟨x, h⟩, t⟩
theorem Sep.pure {p : Prop} {P : SP} {Ps : List SP} {H : Hp} : Sep ((fun G => p ∧ P G) :: Ps) H → p ∧ Sep (P :: Ps) H := fun ⟨G, l, ⟨x, h⟩, t⟩ => ⟨x, G, l, h, t⟩
theorem Sep.pure_in {p : Prop} {P : SP} {Ps : List SP} {H : Hp} (x : p) : Sep (P :: Ps) H → Sep ((fun G => p ∧ P G) :: Ps) H := fun ⟨G, l, h, t⟩ => ⟨G, l, ⟨x, h⟩, t⟩
/-- two known objects stand apart -/
theorem Sep.ne {a b : Addr} {o u : HO} {Ps : List SP} {H : Hp} : Sep (pt a o :: pt b u :: Ps) H → a ≠ b := fun ⟨G, l, h, G2, l2, h2, _⟩ e => by
  subst e
  have q := l2 a u h2
  rw [sub_in (show G a = some o from h)] at q
  cases q
/-- what is kept beside -/
theorem Sep.le_nil {H : Hp} : Sep [] H := trivial
end Kt

set_option Elab.async false
set_option linter.all false
set_option maxRecDepth 100000
namespace Kt
open PySem L2 PyProof.Rows
/-! ### defs of the text by name -/
/-- the def x of the top stands at f -/
structure Dt (K : PySem.W.Frag) (mg : Str → Option Value) (x : Str) (st : Stmt) (ps : List Str) (f : Addr) : Prop where
  fn : ∃ fd, Fun K x x st f fd ∧ Binds K fd ps []
  at_ : mg x = some (.ref f)
structure Df (P : Program) (w : World) (K : PySem.W.Frag) (mg : Str → Option Value) (base : Heap) (k : Nat) (x : Str) (f : Addr) (ps : List Str) (sp : Sp) : Prop where
  fn : ∃ fd, FnOk P w K mg base CX0 k f fd ps sp ∧ Binds K fd ps []
  at_ : mg x = some (.ref f)
  kp : PySem.W.keepIn K (.ref f) = true
section
variable {P : Program} {w : World} {K : PySem.W.Frag} {mg : Str → Option Value} {base : Heap}
theorem Dt.ok {x : Str} {st : Stmt} {f : Addr} {N ps : List Str} {k : Nat} {sp : Sp} (T : Dt K mg x st ps f) (S : FnScope N ps (defScope st)) (len : ∀ vs H Q E, sp vs H Q E → vs.length = ps.length)
    (hbody : ∀ (cdv : Value) (A : Around) (outer : List Env) (s : Shared) (H : Hp) (vs : List V) (Q : VK) (E : XK), Room k (A.deeper (envOfC x (defScope st) s.heap.objs.size f cdv)) → sp vs H Q E →
      ∃ t, PSs (cxOf CX0 P w K mg base N x (defScope st) f cdv A outer s H E).nox (defBody st) t ∧ t { nx := fun _ H' => Q .non H', rt := Q } (start N vs) H) : Df P w K mg base (k + 1) x f ps sp := by
  obtain ⟨fd, F, b⟩ := T.fn
  exact ⟨⟨fd, F.ok S len hbody, b⟩, T.at_, F.kp⟩
end
section
variable {X : Cx} {k : Nat} {x : Str} {f : Addr} {ps : List Str} {sp : Sp} {e : Expr} {es : List Expr} {t : TA} {p pos : Pos}
theorem pe_df (D : Df X.prog X.w X.K X.mg X.base k x f ps sp) (hr : Room k X.A) (ha : PA X (e :: es) t) (hg : Gl X x := by rfl) (hd : (x == ("__debug__" : Str)) = false := by decide)
    (he : starEach (e :: es) X.env = (false, eval e X.env) :: starEach es X.env := by rfl) (hpl : (backTo pos (starEach es X.env)).any (·.1) = false := by rfl) : PE X (.Call (.Name x p) (e :: es) [] pos) (tCall sp [] E0 t) := by
  obtain ⟨fd, F, b⟩ := D.fn
  exact pe_call F hr hg D.at_ D.kp b .nil pass0 ha hd he hpl
theorem pe_df0 (D : Df X.prog X.w X.K X.mg X.base k x f [] sp) (hr : Room k X.A) (hg : Gl X x := by rfl) (hd : (x == ("__debug__" : Str)) = false := by decide) : PE X (.Call (.Name x p) [] [] pos) (tCall sp [] E0 tNil) := by
  obtain ⟨fd, F, b⟩ := D.fn
  exact pe_call0 F hr hg D.at_ D.kp b .nil pass0 hd
end
/-! ### xs[i] as it is read ahead of xs[i] op= .. -/
section
variable {X : Cx}
theorem get_list : PGet X (rIxL X.K) := by
  intro pins s σ H x y v u Q I rx ry h
  obtain ⟨p, xs, i, z, rfl, rfl, hq, he, q⟩ := h
  cases rx
  obtain ⟨t, rfl⟩ := ry
  obtain ⟨its, r, pl, hz⟩ := I.list hq
  obtain ⟨j, h1, h2, h3, h4, h5⟩ := atI_get he
  obtain ⟨w, ew, rw'⟩ := r.get h2
  have hl := r.length
  have hn := line63
  have fin : EP X pins σ Q w s := ⟨z, H, I, rw', q⟩
  by_cases h0 : 0 ≤ i
  · have hj : i.toNat = j := by
      rw [seqIndex_of h0 h5] at h1
      exact Option.some.inj h1
    exact wpAny_getItem_list pl.isList h0 (by omega) (by rw [hj]; simpa using ew) fin
  · have hj : (i + (its.toArray.size : Int)).toNat = j := by
      rw [seqIndex_neg (by omega) h4] at h1
      rw [List.size_toArray, ← hl]
      exact Option.some.inj h1
    exact wpAny_getItem_list_neg pl.isList (by omega) (by rw [List.size_toArray] <;> omega) (by omega) (by rw [hj]; simpa using ew) fin
/-! ### operators that serve several kinds -/
def rOr (r r' : R2) : R2 := fun x y H Q => r x y H Q ∨ r' x y H Q
theorem op_or {f : Value → Value → Sem Value} {r r' : R2} (h : OpR X f r) (h' : OpR X f r') : OpR X f (rOr r r') := OpR.or h h'
def rAddI : R2 := rI0 fun i j => .int (i + j)
def rSubI : R2 := rI0 fun i j => .int (i - j)
def rStrA : R2 := fun x y H Q => ∃ i j, x = .str i ∧ y = .str j ∧ i.length + j.length ≤ sizeLine ∧ Q (.str (i ++ j)) H
def rAddA : R2 := rOr rAddI (rOr rCat rStrA)
theorem op_addA : OpR X (binaryOp .Add) rAddA := op_or op_add (op_or op_cat op_add_str)
def rMulI : R2 := rI CMul fun i j => .int (i * j)
def rMulA : R2 := rOr rMulI rRep
theorem op_mulA : OpR X (binaryOp .Mult) rMulA := op_or op_mul op_rep
def rModI : R2 := rI (fun _ j => 0 < j) fun i j => .int (i % j)
def rDivI : R2 := rI CDiv fun i j => .int (i / j)
def rPowI : R2 := rI CPow fun i j => .int (i ^ j.toNat)
def rEqA (K : PySem.W.Frag) : R2 := rOr rEq (rEqD K)
def rNeA (K : PySem.W.Frag) : R2 := rOr rNe (rNeD K)
theorem op_eqA (hu : X.A.units + 64 < cLine) : OpR X (compareOp .Eq) (rEqA X.K) := op_or op_eq (op_eqD hu)
theorem op_neA (hu : X.A.units + 64 < cLine) : OpR X (compareOp .NotEq) (rNeA X.K) := op_or op_ne (op_neD hu)
def rLtI : R2 := rI0 fun i j => .bl (decide (i < j))
def rLeI : R2 := rI0 fun i j => .bl (decide (i ≤ j))
def rGtI : R2 := rI0 fun i j => .bl (decide (j < i))
def rGeI : R2 := rI0 fun i j => .bl (decide (j ≤ i))
def rIsN : R2 := fun x y H Q => y = .non ∧ Q (.bl (decide (x = .non))) H
def rNotN : R2 := fun x y H Q => y = .non ∧ Q (.bl (!decide (x = .non))) H
def cAbs : List V → Hp → VK → Prop := fun xs H Q => ∃ i, xs = [.int i] ∧ Q (.int (if i < 0 then -i else i)) H
def cInt : List V → Hp → VK → Prop := fun xs H Q => (∃ i, xs = [.int i] ∧ Q (.int i) H) ∨ ∃ k, xs = [.bl k] ∧ Q (.int (if k then 1 else 0)) H
def cMax2 : List V → Hp → VK → Prop := fun xs H Q => ∃ i j, xs = [.int i, .int j] ∧ Q (.int (if j > i then j else i)) H
def cMin2 : List V → Hp → VK → Prop := fun xs H Q => ∃ i j, xs = [.int i, .int j] ∧ Q (.int (if j < i then j else i)) H
def cLenQ (K : PySem.W.Frag) : List V → Hp → VK → Prop := fun xs H Q => ∃ p ys, xs = [.ref p] ∧ (SqL K H p ys ∨ SqT K H p ys) ∧ Q (.int ys.length) H
def cLenS : List V → Hp → VK → Prop := fun xs H Q => ∃ z, xs = [.str z] ∧ z.length ≤ sizeLine ∧ Q (.int z.length) H
def cOr (r r' : List V → Hp → VK → Prop) : List V → Hp → VK → Prop := fun xs H Q => r xs H Q ∨ r' xs H Q
def cList (K : PySem.W.Frag) : List V → Hp → VK → Prop := fun xs H Q => ∃ p ys, xs = [.ref p] ∧ (SqL K H p ys ∨ SqT K H p ys) ∧ ∀ l, H l = none → Q (.ref l) (upd H l (.lst ys))
theorem call_lenA : CallR X (.builtin "len") (cOr (cLenQ X.K) cLenS) := CallR.or call_len_seq call_len_str
theorem call_absA : CallR X (.builtin "abs") cAbs := call_abs
theorem call_intA : CallR X (.type "int") cInt := call_int1
theorem call_listA : CallR X (.type "list") (cList X.K) := call_list_of
end
/-! ### readings, step by step -/
section
variable {K : PySem.W.Frag} {σ : L2.St} {H : Hp} {D : Ends} {Q : VK} {QA : List V → Hp → Prop} {QT : Bool → Hp → Prop} {i : Nat} {v x y : V} {ta tb te : TE} {t u : TS} {tt tu : TT} {tr : TA} {r r' : R2} {g : TG} {n m : Int} {b c : Bool} {Ps Qs : List SP} {a : Addr} {o : HO} {xs ys : List V}
theorem q_seq (h : t { D with nx := u D } σ H) : tSeq t u D σ H := h
theorem q_set (h : te σ H fun x H1 => D.nx (σ.set i (some x)) H1) : tAsg te (gName i) D σ H := h
theorem q_asg (h : te σ H fun x H1 => g x σ H1 D.nx) : tAsg te g D σ H := h
theorem q_ret (h : te σ H D.rt) : tRet te D σ H := h
theorem q_drop (h : te σ H fun _ H1 => D.nx σ H1) : tDrop te D σ H := h
theorem q_next (h : D.nx σ H) : tNext D σ H := h
theorem q_var (e : σ[i]? = some (some v)) (h : Q v H) : tVar i σ H Q := ⟨v, e, h⟩
theorem q_c (h : Q v H) : tC v σ H Q := h
theorem q_op (h : ta σ H fun x H1 => tb σ H1 fun y H2 => r x y H2 Q) : tOp r ta tb σ H Q := h
theorem q_un {f : V → Hp → VK → Prop} (h : ta σ H fun x H1 => f x H1 Q) : tUn f ta σ H Q := h
theorem q_nil (h : QA [] H) : tNil σ H QA := h
theorem q_cons (h : te σ H fun x H1 => tr σ H1 fun xs H2 => QA (x :: xs) H2) : tCons te tr σ H QA := h
theorem q_cb {f : List V → Hp → VK → Prop} (h : tr σ H fun vs H1 => f vs H1 Q) : tCB f tr σ H Q := h
theorem q_call {sp : Sp} {E : XK} (h : tr σ H fun vs H1 => sp vs H1 Q E) : tCall sp [] E tr σ H Q := by
  have e : ∀ vs : List V, vs ++ [] = vs := List.append_nil
  unfold tCall
  simp only [e]
  exact h
theorem q_ifs (h : tt σ H fun b H1 => if b = true then t D σ H1 else u D σ H1) : tIfS tt t u D σ H := h
theorem q_if (h : tt σ H fun c H1 => if c = true then ta σ H1 Q else tb σ H1 Q) : tIf tt ta tb σ H Q := h
theorem q_test (h : te σ H fun x H' => ∃ k, x = .bl k ∧ QT k H') : tTest te σ H QT := h
theorem q_tb (h : te σ H fun x H' => ∃ k, x = .bl k ∧ QT k H') : tB te σ H QT := h
theorem q_bl (h : QT b H) : ∃ k, V.bl b = .bl k ∧ QT k H := ⟨b, rfl, h⟩
theorem q_notT (h : tt σ H fun c H1 => QT (!c) H1) : tNot tt σ H QT := h
theorem q_andT (h : tt σ H fun c H1 => if c = true then tu σ H1 QT else QT false H1) : tAnd tt tu σ H QT := h
theorem q_orT (h : tt σ H fun c H1 => if c = true then QT true H1 else tu σ H1 QT) : tOr tt tu σ H QT := h
theorem q_andV (h : ta σ H fun x H1 => ∃ c, x = .bl c ∧ if c = true then tb σ H1 Q else Q (.bl false) H1) : tAndV ta tb σ H Q := h
theorem q_orV (h : ta σ H fun x H1 => ∃ c, x = .bl c ∧ if c = true then Q (.bl true) H1 else tb σ H1 Q) : tOrV ta tb σ H Q := h
theorem q_notV (h : ta σ H fun x H1 => ∃ c, x = .bl c ∧ Q (.bl (!c)) H1) : tNotV ta σ H Q := h
theorem q_blI {p : Bool → Prop} (h : p b) : ∃ c, V.bl b = .bl c ∧ p c := ⟨b, rfl, h⟩
theorem q_orL (h : r x y H Q) : rOr r r' x y H Q := .inl h
theorem q_orR (h : r' x y H Q) : rOr r r' x y H Q := .inr h
theorem q_rI0 {f : Int → Int → V} (h : Q (f n m) H) : rI0 f (.int n) (.int m) H Q := ⟨n, m, rfl, rfl, h⟩
theorem q_addI (h : Q (.int (n + m)) H) : rAddI (.int n) (.int m) H Q := ⟨n, m, rfl, rfl, h⟩
theorem q_addA (h : Q (.int (n + m)) H) : rAddA (.int n) (.int m) H Q := .inl ⟨n, m, rfl, rfl, h⟩
theorem q_subI (h : Q (.int (n - m)) H) : rSubI (.int n) (.int m) H Q := ⟨n, m, rfl, rfl, h⟩
theorem q_ltI (h : Q (.bl (decide (n < m))) H) : rLtI (.int n) (.int m) H Q := ⟨n, m, rfl, rfl, h⟩
theorem q_leI (h : Q (.bl (decide (n ≤ m))) H) : rLeI (.int n) (.int m) H Q := ⟨n, m, rfl, rfl, h⟩
theorem q_gtI (h : Q (.bl (decide (m < n))) H) : rGtI (.int n) (.int m) H Q := ⟨n, m, rfl, rfl, h⟩
theorem q_geI (h : Q (.bl (decide (m ≤ n))) H) : rGeI (.int n) (.int m) H Q := ⟨n, m, rfl, rfl, h⟩
theorem q_eqI (h : Q (.bl (decide (n = m))) H) : rEqA K (.int n) (.int m) H Q := .inl ⟨rfl, by have e : decide (V.int n = V.int m) = decide (n = m) := decide_eq_decide.mpr ⟨V.int.inj, congrArg _⟩; rw [e]; exact h⟩
theorem q_neI (h : Q (.bl (!decide (n = m))) H) : rNeA K (.int n) (.int m) H Q := .inl ⟨rfl, by have e : decide (V.int n = V.int m) = decide (n = m) := decide_eq_decide.mpr ⟨V.int.inj, congrArg _⟩; rw [e]; exact h⟩
theorem q_mulI (hc : CMul n m) (h : Q (.int (n * m)) H) : rMulA (.int n) (.int m) H Q := .inl ⟨n, m, rfl, rfl, hc, h⟩
theorem q_modI (hc : 0 < m) (h : Q (.int (n % m)) H) : rModI (.int n) (.int m) H Q := ⟨n, m, rfl, rfl, hc, h⟩
theorem q_divI (hc : CDiv n m) (h : Q (.int (n / m)) H) : rDivI (.int n) (.int m) H Q := ⟨n, m, rfl, rfl, hc, h⟩
theorem q_powI (hc : CPow n m) (h : Q (.int (n ^ m.toNat)) H) : rPowI (.int n) (.int m) H Q := ⟨n, m, rfl, rfl, hc, h⟩
theorem q_abs (h : Q (.int (if n < 0 then -n else n)) H) : cAbs [.int n] H Q := ⟨n, rfl, h⟩
theorem q_int (h : Q (.int n) H) : cInt [.int n] H Q := .inl ⟨n, rfl, h⟩
theorem q_intB (h : Q (.int (if b then 1 else 0)) H) : cInt [.bl b] H Q := .inr ⟨b, rfl, h⟩
theorem q_max (h : Q (.int (if m > n then m else n)) H) : cMax2 [.int n, .int m] H Q := ⟨n, m, rfl, h⟩
theorem q_min (h : Q (.int (if m < n then m else n)) H) : cMin2 [.int n, .int m] H Q := ⟨n, m, rfl, h⟩
theorem q_lenL (s : SqL K H a xs) (h : Q (.int (xs.length : Int)) H) : cOr (cLenQ K) cLenS [.ref a] H Q := .inl ⟨a, xs, rfl, .inl s, h⟩
theorem q_lenT (s : SqT K H a xs) (h : Q (.int (xs.length : Int)) H) : cOr (cLenQ K) cLenS [.ref a] H Q := .inl ⟨a, xs, rfl, .inr s, h⟩
theorem q_lenS {z : Str} (s : z.length ≤ sizeLine) (h : Q (.int (z.length : Int)) H) : cOr (cLenQ K) cLenS [.str z] H Q := .inr ⟨z, rfl, s, h⟩
theorem q_ixL (s : SqL K H a xs) (e : atI xs n = some v) (h : Q v H) : rIx K (.ref a) (.int n) H Q := .inl ⟨a, xs, n, v, rfl, rfl, s, e, h⟩
theorem q_ixT (s : SqT K H a xs) (e : atI xs n = some v) (h : Q v H) : rIx K (.ref a) (.int n) H Q := .inr (.inl ⟨a, xs, n, v, rfl, rfl, s, e, h⟩)
theorem q_ixLL (s : SqL K H a xs) (e : atI xs n = some v) (h : Q v H) : rIxL K (.ref a) (.int n) H Q := ⟨a, xs, n, v, rfl, rfl, s, e, h⟩
theorem q_setL {QH : Hp → Prop} {k : Nat} (s : H a = some (.lst xs)) (e : ixN xs.length n = some k) (h : QH (upd H a (.lst (xs.set k v)))) : rSetL (.ref a) (.int n) v H QH := ⟨a, xs, n, k, rfl, rfl, s, e, h⟩
theorem q_ipAdd (h : Q (.int (n + m)) H) : ipI (fun i j => i + j) (.int n) (.int m) H Q := ⟨n, m, rfl, rfl, h⟩
theorem q_ipSub (h : Q (.int (n - m)) H) : ipI (fun i j => i - j) (.int n) (.int m) H Q := ⟨n, m, rfl, rfl, h⟩
theorem q_gsub {to ti : TE} {ts : TSet} {QG : L2.St → Hp → Prop} (h : to σ H fun o H1 => ti σ H1 fun i H2 => ts o i v H2 fun H3 => QG σ H3) : gSub to ti ts v σ H QG := h
theorem q_augs {to ti : TE} {tget : V → V → Hp → VK → Prop} {tip : TIp} {tset : TSet} (h : to σ H fun o H1 => ti σ H1 fun i H2 => tget o i H2 fun x H3 => te σ H3 fun y H4 => tip x y H4 fun z H5 => tset o i z H5 fun H6 => D.nx σ H6) :
    tAugS to ti te tget tip tset D σ H := h
theorem q_aug {ti : TIp} (e : σ[i]? = some (some x)) (h : te σ H fun y H1 => ti x y H1 fun z H2 => D.nx (σ.set i (some z)) H2) : tAug i te ti D σ H := ⟨x, e, h⟩
def kLst (Q : VK) : List V → Hp → Prop := fun xs H1 => xs.length ≤ sizeLine ∧ ∀ p, H1 p = none → Q (.ref p) (upd H1 p (.lst xs))
def kTup (Q : VK) : List V → Hp → Prop := fun xs H1 => xs.length ≤ sizeLine ∧ ∀ p, H1 p = none → Q (.ref p) (upd H1 p (.tup xs))
theorem q_lst (h : tr σ H (kLst Q)) : tLst tr σ H Q := h
theorem q_tup (h : tr σ H (kTup Q)) : tTup tr σ H Q := h
/-- a new object, known from then on -/
theorem q_new (S : Sep Ps H) (hl : xs.length ≤ 1000) (h : ∀ p H', Sep (pt p (.lst xs) :: Ps) H' → Q (.ref p) H') : kLst Q xs H := ⟨Nat.le_trans hl (by decide), fun p np => h p _ (S.new _ np)⟩
theorem q_newT (S : Sep Ps H) (hl : xs.length ≤ 1000) (h : ∀ p H', Sep (pt p (.tup xs) :: Ps) H' → Q (.ref p) H') : kTup Q xs H := ⟨Nat.le_trans hl (by decide), fun p np => h p _ (S.new _ np)⟩
theorem Sep.sq (S : Sep Ps H) (p : Pick (pt a (.lst xs)) Ps Qs) : SqL K H a xs := SqL.of (S.at_ p)
theorem Sep.st (S : Sep Ps H) (p : Pick (pt a (.tup xs)) Ps Qs) : SqT K H a xs := SqT.of (S.at_ p)
theorem q_fld {C dx : Addr} {fs : List (Str × V)} {f : Str} (h : ta σ H fun x H1 => ∃ a C dx fs v, x = .ref a ∧ H1 a = some (.ins C dx fs) ∧ Cls K C ∧ NoAttr K C f ∧ fs.lookup f = some v ∧ Q v H1) : tFld K ta f σ H Q := h
theorem q_fldA {C dx : Addr} {fs : List (Str × V)} {f : Str} (s : H a = some (.ins C dx fs)) (c : Cls K C) (na : NoAttr K C f) (l : fs.lookup f = some v) (h : Q v H) :
    ∃ a' C dx fs v, V.ref a = .ref a' ∧ H a' = some (.ins C dx fs) ∧ Cls K C ∧ NoAttr K C f ∧ fs.lookup f = some v ∧ Q v H := ⟨a, C, dx, fs, v, rfl, s, c, na, l, h⟩
theorem q_ite {p A B : Prop} [Decidable p] (h1 : p → A) (h2 : ¬ p → B) : if decide p = true then A else B := by
  by_cases h : p
  · rw [decide_eq_true h]; exact iteT (h1 h)
  · rw [decide_eq_false h]; exact iteF (h2 h)
theorem q_iteN {p A B : Prop} [Decidable p] (h1 : ¬ p → A) (h2 : p → B) : if (!decide p) = true then A else B := by
  by_cases h : p
  · rw [decide_eq_true h]; exact iteF (h2 h)
  · rw [decide_eq_false h]; exact iteT (h1 h)
theorem q_iteB {b : Bool} {A B : Prop} (h1 : b = true → A) (h2 : b = false → B) : if b = true then A else B := by
  cases b
  · exact iteF (h2 rfl)
  · exact iteT (h1 rfl)
theorem iteNT {A B : Prop} (h : B) : if (!true) = true then A else B := iteF h
theorem iteNF {A B : Prop} (h : A) : if (!false) = true then A else B := iteT h
theorem q_cut {Mid : L2.St → Hp → Prop} (h : t { D with nx := Mid } σ H) (k : ∀ σ' H', Mid σ' H' → u D σ' H') : C8.tCut t u D σ H := ⟨Mid, h, k⟩
theorem q_setS {QH : Hp → Prop} {k : Nat} (S : Sep Ps H) (r : Repl a (.lst xs) (.lst (xs.set k v)) Ps Qs) (e : ixN xs.length n = some k) (h : ∀ H', Sep Qs H' → QH H') : rSetL (.ref a) (.int n) v H QH :=
  ⟨a, xs, n, k, rfl, rfl, by obtain ⟨Rs, p, _⟩ := r.pick; exact S.at_ p, e, h _ (S.set r)⟩
theorem at_i {α : Type} {xs : List α} (h0 : 0 ≤ n) (h1 : n < xs.length) : ∃ w, atI xs n = some w ∧ w ∈ xs := by
  obtain ⟨j, rfl⟩ := Int.eq_ofNat_of_zero_le h0
  have hj : j < xs.length := by omega
  exact ⟨xs[j], atI_nat (List.getElem?_eq_getElem hj), List.getElem_mem hj⟩
end
end Kt

set_option Elab.async false
set_option linter.all false
set_option maxRecDepth 100000
namespace Kt
open PySem L2 PyProof.Rows
/-! ### classes and their methods by name -/
structure Mt (K : PySem.W.Frag) (C : Addr) (m qual : Str) (st : Stmt) (ps : List Str) (f : Addr) : Prop where
  fn : ∃ fd, Fun K m qual st f fd ∧ Binds K fd ps []
  at_ : Meth K C m f
structure Mf (P : Program) (w : World) (K : PySem.W.Frag) (mg : Str → Option Value) (base : Heap) (k : Nat) (C : Addr) (m : Str) (ps : List Str) (sp : Sp) : Prop where
  fn : ∃ f fd, FnOk P w K mg base CX0 k f fd ps sp ∧ Binds K fd ps [] ∧ Meth K C m f
  cls : Cls K C
structure Ct (K : PySem.W.Frag) (mg : Str → Option Value) (x : Str) (C f : Addr) : Prop where
  at_ : mg x = some (.ref C)
  mkr : Mk K C f
/-- a class that may be called: its __init__'s promise -/
structure Cf (P : Program) (w : World) (K : PySem.W.Frag) (mg : Str → Option Value) (base : Heap) (k : Nat) (x : Str) (C : Addr) (ps : List Str) (sp : Sp) : Prop where
  fn : ∃ f fd, FnOk P w K mg base CX0 k f fd ps sp ∧ Binds K fd ps [] ∧ Mk K C f
  at_ : mg x = some (.ref C)
section
variable {P : Program} {w : World} {K : PySem.W.Frag} {mg : Str → Option Value} {base : Heap}
theorem Mt.ok {C : Addr} {x qual : Str} {st : Stmt} {f : Addr} {N ps : List Str} {k : Nat} {sp : Sp} (T : Mt K C x qual st ps f) (c : Cls K C) (S : FnScope N ps (defScope st)) (len : ∀ vs H Q E, sp vs H Q E → vs.length = ps.length)
    (hbody : ∀ (cdv : Value) (A : Around) (outer : List Env) (s : Shared) (H : Hp) (vs : List V) (Q : VK) (E : XK), Room k (A.deeper (envOfC qual (defScope st) s.heap.objs.size f cdv)) → sp vs H Q E →
      ∃ t, PSs (cxOf CX0 P w K mg base N qual (defScope st) f cdv A outer s H E).nox (defBody st) t ∧ t { nx := fun _ H' => Q .non H', rt := Q } (start N vs) H) : Mf P w K mg base (k + 1) C x ps sp := by
  obtain ⟨fd, F, b⟩ := T.fn
  exact ⟨⟨f, fd, F.ok S len hbody, b, T.at_⟩, c⟩
theorem Mf.cf {C f : Addr} {x : Str} {ps : List Str} {k : Nat} {sp : Sp} (M : Mf P w K mg base k C "__init__" ps sp) (T : Ct K mg x C f) : Cf P w K mg base k x C ps sp := by
  obtain ⟨g, fd, F, b, m⟩ := M.fn
  have e : g = f := by
    have h1 := m.at_
    rw [T.mkr.init] at h1
    cases h1
    rfl
  subst e
  exact ⟨⟨g, fd, F, b, T.mkr⟩, T.at_⟩
end
section
variable {X : Cx} {k : Nat} {x m : Str} {C : Addr} {ps : List Str} {sp : Sp} {o e : Expr} {es : List Expr} {to : TE} {t : TA} {p pos apos : Pos}
theorem pe_mf {pl : Sem Bool} (M : Mf X.prog X.w X.K X.mg X.base k C m ps sp) (hr : Room k X.A) (ho : PE X o to) (ha : PA X (e :: es) t)
    (hst : starEach (e :: es) X.env = (false, eval e X.env) :: starEach es X.env := by rfl) (hpl : (backTo pos (starEach es X.env)).any (·.1) = false := by rfl)
    (ht : eval (.Call (.Attribute o m apos) (e :: es) [] pos) X.env = (do
      let ov ← eval o X.env
      standAt apos.atName
      let (f, first) ← holding [ov] (getMethod ov m pl)
      callWith pos f first (backTo pos (starEach (e :: es) X.env)) (backToKw pos (keywordEach [] X.env))) := by rfl) : PE X (.Call (.Attribute o m apos) (e :: es) [] pos) (tMeth C m sp [] E0 to t) := by
  obtain ⟨f, fd, F, b, hm⟩ := M.fn
  exact pe_meth ho M.cls hm F hr b .nil pass0 ha hst hpl ht
theorem pe_mf0 {pl : Sem Bool} (M : Mf X.prog X.w X.K X.mg X.base k C m ps sp) (hr : Room k X.A) (ho : PE X o to)
    (ht : eval (.Call (.Attribute o m apos) [] [] pos) X.env = (do
      let ov ← eval o X.env
      standAt apos.atName
      let (f, first) ← holding [ov] (getMethod ov m pl)
      callWith pos f first [] []) := by rfl) : PE X (.Call (.Attribute o m apos) [] [] pos) (tMeth C m sp [] E0 to tNil) := by
  obtain ⟨f, fd, F, b, hm⟩ := M.fn
  exact pe_meth0 ho M.cls hm F hr b .nil pass0 ht
theorem pe_cf (M : Cf X.prog X.w X.K X.mg X.base k x C ps sp) (hr : Room (k + 1) X.A) (ha : PA X (e :: es) t) (hg : Gl X x := by rfl) (hd : (x == ("__debug__" : Str)) = false := by decide)
    (he : starEach (e :: es) X.env = (false, eval e X.env) :: starEach es X.env := by rfl) (hpl : (backTo pos (starEach es X.env)).any (·.1) = false := by rfl) : PE X (.Call (.Name x p) (e :: es) [] pos) (tMake C sp [] E0 t) := by
  obtain ⟨f, fd, F, b, M'⟩ := M.fn
  exact pe_make M' F hr hg M.at_ b .nil pass0 ha hd he hpl
end
/-! ### own operators of instances -/
section
variable {X : Cx} {k : Nat} {C : Addr} {ps : List Str} {sp : Sp}
theorem ins_at {pins : List (Addr × Obj)} {σ : L2.St} {H : Hp} {s : Shared} {a dx : Addr} {fs : List (Str × V)} (I : Inv X pins σ H s) (h : H a = some (.ins C dx fs)) : ∃ ox od, PySem.W.InstAt s.heap a ox C od := by
  obtain ⟨mA, O, _⟩ := ins_get I.hok h
  obtain ⟨od, J, _⟩ := O.look
  exact ⟨_, _, J⟩
/-- o[i] = v by an own __setitem__ -/
def rSetOwn (C : Addr) (sp : Sp) : TSet := fun o i v H Q => ∃ a dx fs, o = .ref a ∧ H a = some (.ins C dx fs) ∧ sp [.ref a, i, v] H (fun _ H' => Q H') E0
theorem set_own (M : Mf X.prog X.w X.K X.mg X.base k C "__setitem__" ps sp) (hr : Room k X.A) (hq : PySem.W.noSeq X.K C = true) : PSet X (rSetOwn C sp) := by
  intro pins s σ H o i v ov iv u Q I ro ri rv h
  obtain ⟨a, dx, fs, rfl, ha, q⟩ := h
  cases (show ov = Value.ref a from ro)
  obtain ⟨f, fd, F, b, hm⟩ := M.fn
  obtain ⟨ox, od, J⟩ := ins_at I ha
  obtain ⟨m, hF⟩ := I.fr
  refine PySem.W.ksp_setItem hF I.ok.mod.kin J hq hm.at_ hm.fn ?_
  exact wpAny_mono (run_fn (us := [.ref a, iv, u]) (vs := [.ref a, i, v]) F hr b .nil pass0 I (.cons rfl (.cons ri (.cons rv .nil))) (by rw [List.append_nil]; exact q)) (fun z s' ⟨y, H', I', r', q'⟩ => ⟨H', I', q'⟩) fun _ _ z => z
/-- x += y by an own __iadd__ -/
def rInpOwn (C : Addr) (sp : Sp) : TIp := fun x y H Q => ∃ a dx fs, x = .ref a ∧ H a = some (.ins C dx fs) ∧ sp [.ref a, y] H Q E0
theorem ip_own (M : Mf X.prog X.w X.K X.mg X.base k C "__iadd__" ps sp) (hr : Room k X.A) (hc : PySem.W.selfFirst X.K C = true) : PIp X .Add (rInpOwn C sp) := by
  intro pins s σ H x y v u Q I rx ry h
  obtain ⟨a, dx, fs, rfl, ha, q⟩ := h
  cases (show v = Value.ref a from rx)
  obtain ⟨f, fd, F, b, hm⟩ := M.fn
  obtain ⟨ox, od, J⟩ := ins_at I ha
  obtain ⟨m, hF⟩ := I.fr
  refine PySem.W.ksp_inplace (op := .Add) hF I.ok.mod.kin J hc hm.at_ hm.fn ?_
  exact wpAny_mono (run_fn (us := [.ref a, u]) (vs := [.ref a, y]) F hr b .nil pass0 I (.cons rfl (.cons ry .nil)) (by rw [List.append_nil]; exact q)) (fun z s' ⟨y', H', I', r', q'⟩ => SlX.cmpback r' ⟨y', H', I', r', q'⟩) fun _ _ z => z
end
/-! ### xs[a:c] = ys -/
section
variable {X : Cx} {o e : Expr} {lo hi : Option Expr} {to te : TE} {tl th : TO} {p2 pos tpos : Pos}
/-- the bounds of a slice that may reach beyond the end -/
theorem bounds_clip (a c n : Nat) (h : a ≤ n) : sliceBounds (some (a : Int)) (some (c : Int)) none n = ((a : Int), ((min c n : Nat) : Int), 1) := by
  have p1 : ¬ ((a : Int) < 0) := by omega
  have p2 : ¬ ((c : Int) < 0) := by omega
  simp only [sliceBounds, Option.getD_none, p1, p2, if_false, show (1 : Int) > 0 from by decide, if_true]
  refine Prod.ext ?_ (Prod.ext ?_ rfl)
  · show max 0 (min (a : Int) (n : Int)) = a; omega
  · show max 0 (min (c : Int) (n : Int)) = ((min c n : Nat) : Int); omega
theorem setItem_clip {prog : Program} {w : World} {A : Around} {E : Value → Shared → Prop} {s : Shared} {l b sl : Addr} {u v : List Value} {n n2 : Nat} {vl vu : Value} {a c : Nat} {Q : Unit → Shared → Prop}
    (e : s.heap.get? l = some { cls := .type "list", data := .seq u.toArray n }) (e2 : s.heap.get? b = some { cls := .type "list", data := .seq v.toArray n2 }) (hne : l ≠ b) (hs : s.heap.IsSliceOf sl vl vu .none)
    (pl : IsPart vl (some (a : Int))) (pu : IsPart vu (some (c : Int))) (ha : a ≤ u.length) (hac : a ≤ c) (hz : u.length + v.length ≤ sizeLine)
    (h : Q () { s with heap := s.heap.update l (Obj.mapSeq fun xs => xs.extract 0 a ++ v.toArray ++ xs.extract (min c u.length) xs.size) }) : wpAny (model prog w) A (setItem (.ref l) (.ref sl) (.ref b)) Q E s := by
  have lst : s.heap.IsList l u.toArray ∧ s.heap.IsList b v.toArray := ⟨PySem.IsL.isList e, PySem.IsL.isList e2⟩
  obtain ⟨os, g1, g2, g3⟩ := hs
  have ty : s.TypeIs (.ref sl) "slice" := ⟨os, g1, g2⟩
  have apart : Builtin.List.listSameRef (.ref l) (.ref b) = false := beq_eq_false_iff_ne.mpr hne
  have top : (max (a : Int) ((min c u.length : Nat) : Int)).toNat = min c u.length := by omega
  have fit : u.toArray.size + v.toArray.size ≤ sizeLine := by simpa using hz
  have out : ((fun xs : Array Value => xs.extract 0 a ++ v.toArray ++ xs.extract (min c u.length) xs.size) u.toArray).size ≤ sizeLine + 1 := by simp; omega
  have bd : sliceBounds (some (a : Int)) (some (c : Int)) none u.toArray.size = ((a : Int), ((min c u.length : Nat) : Int), 1) := by simpa using bounds_clip a c u.length ha
  unfold setItem
  refine wpAny_holding (wpAny_bind (wpAny_sequenceKey lst.1.typeIs (by decide) (wpAny_bind ?_)))
  refine wpAny_callSpecial?_slot (name := Str.ofString "__setitem__") lst.1.typeIs slot_list_setitem (wpAny_call_entry slot_list_setitem lst.1.typeIs entry_list_setitem ?_ (args_list_setitem _ _ _))
  show wpAny _ _ (Builtin.List.listSubscript? (Value.ref sl) >>= _) _ _ _
  unfold Builtin.List.listSubscript?
  refine wpAny_bind (wpAny_bind (wpAny_specialOf ty slice_no_index ?_))
  rw [if_pos (by rfl)]
  refine wpAny_pure (wpAny_bind (wpAny_typeOf ty ?_))
  rw [if_neg (by decide), listSliceParts_eq]
  refine wpAny_bind (wpAny_bind (wpAny_field g1 g3 (x := .none) rfl (wpAny_bind (wpAny_listPart IsPart.none ?_))))
  rw [if_neg (show ¬ ((rawPart none == rawInt 0) = true) from Bool.false_ne_true)]
  refine wpAny_bind (wpAny_field g1 g3 (x := vl) rfl (wpAny_bind (wpAny_listPart pl (wpAny_bind (wpAny_field g1 g3 (x := vu) rfl (wpAny_bind (wpAny_listPart pu (wpAny_pure ?_))))))))
  dsimp only
  rw [if_neg (by rw [apart]; exact Bool.false_ne_true)]
  refine wpAny_bind (m := Builtin.List.listAllItems (Value.ref b) _) ?_
  unfold Builtin.List.listAllItems
  refine wpAny_bind (wpAny_typeOf lst.2.typeIs (PySem.W.KFB.if_so (by decide) ?_))
  unfold Builtin.List.listItems
  refine wpAny_bind (wpAny_seqItems e2 rfl (wpAny_pure (wpAny_bind (wpAny_bind (wpAny_seqItems e rfl (wpAny_pure ?_))))))
  have si := sliceIndices_raw (some (a : Int)) (some (c : Int)) none u.toArray.size (by simp)
  rw [bd] at si
  refine wpAny_bind (wpAny_of_eq si ?_)
  dsimp only
  rw [if_pos (by decide)]
  refine wpAny_bind (wpAny_rule (PySem.W.KFB.if_not (notLongL fit) ?_))
  have key : wpAny (model prog w) A.in1 (updateSeq l fun xs => xs.extract 0 (a : Int).toNat ++ v.toArray ++ xs.extract (max (a : Int) ((min c u.length : Nat) : Int)).toNat xs.size) (fun _ s' => s' = { s with heap := s.heap.update l (Obj.mapSeq fun xs => xs.extract 0 a ++ v.toArray ++ xs.extract (min c u.length) xs.size) }) (fun _ _ => False) s := by
    rw [top, Int.toNat_natCast]
    exact wpAny_updateSeq (hz := Nat.le_trans (Nat.le_add_right _ _) fit) (_hz' := out) e rfl rfl
  refine wpAny_bind (wpAny_mono key (fun _ s' es => ?_) fun _ _ z => z.elim)
  subst es
  exact wpAny_bind (wpAny_letGo (wpAny_pure ⟨.none, rfl, wpAny_pure h⟩))
/-- o[lo:hi] = v: the list that is written, and another one -/
def gSl (to : TE) (tl th : TO) : TG := fun v σ H Q => to σ H fun x H1 => tl σ H1 fun lo H2 => th σ H2 fun hi H3 => ∃ (l b : Addr) (xs ys : List V) (a c : Nat), x = .ref l ∧ v = .ref b ∧ lo = some (a : Int) ∧ hi = some (c : Int) ∧
  H3 l = some (.lst xs) ∧ H3 b = some (.lst ys) ∧ l ≠ b ∧ a ≤ xs.length ∧ a ≤ c ∧ xs.length + ys.length ≤ sizeLine ∧ Q σ (upd H3 l (.lst (xs.take a ++ ys ++ xs.drop c)))
theorem pg_slice (ho : PE X o to) (hl : PO X lo tl) (hu : PO X hi th)
    (ha : ∀ v, assign (.Subscript o (.Slice lo hi none p2) tpos) X.env v = (do
      let ov ← holding [v] (eval o X.env)
      let iv ← holding [v, ov] (eval (.Slice lo hi none p2) X.env)
      standAt tpos
      holding [v, ov, iv] (setItem ov iv v)
      release [iv, v, ov] []) := by intro _; rfl) : PG X (.Subscript o (.Slice lo hi none p2) tpos) (gSl to tl th) := by
  refine ⟨fun pins s σ H v u Q I r h => ?_⟩
  rw [ha]
  refine wpAny_bind (wpAny_holding (thn (ho.run pins s σ H _ I h) fun ov s1 ⟨x, H1, I1, r1, q1⟩ => ?_))
  refine wpAny_bind (wpAny_holding (wpAny_Slice (thn (hl.run pins s1 σ H1 _ I1 q1) fun vl s2 ⟨z1, H2, I2, pl, q2⟩ => thn (hu.run pins s2 σ H2 _ I2 q2) fun vu s3 ⟨z2, H3, I3, pu, q3⟩ => ?_)))
  obtain ⟨l, b, xs, ys, a, c, rfl, rfl, rfl, rfl, hL, hB, hne, h1, h2, hz, q⟩ := q3
  cases (show ov = Value.ref l from r1)
  cases (show u = Value.ref b from r)
  rw [evalPart_none]
  have I4 : Inv X pins σ H3 { s3 with heap := s3.heap.push { cls := .type "slice", data := .fields #[vl, vu, .none] } } := I3.kept (t' := s3.toks) fun _ _ z => Heap.get?_push_of_some _ z
  refine wpAny_pure ?_
  obtain ⟨z, u1, n1, r1', hl1, e1⟩ := I4.lstM hL
  obtain ⟨z2, u2, n2, r2', hl2, e2⟩ := I4.lstM hB
  refine wpAny_bind (wpAny_standAt (wpAny_bind (wpAny_holding (setItem_clip e1 e2 hne (Heap.IsSliceOf.new ..) pl pu (by omega) h2 (by omega) (wpAny_release ⟨σ, _, ?_, q⟩)))))
  refine I4.lset (its' := u1.take a ++ u2 ++ u1.drop (min c u1.length)) (t' := s3.toks) hL e1 (splice_eq u1 u2 a _) ?_ ?_
  · have e3 : xs.drop c = xs.drop (min c u1.length) := by
      by_cases hc : c ≤ u1.length
      · rw [Nat.min_eq_left hc]
      · rw [Nat.min_eq_right (by omega), List.drop_eq_nil_of_le (by omega), List.drop_eq_nil_of_le (by omega)]
    rw [e3]
    exact Vals.append (Vals.append (r1'.take _) r2') (r1'.drop _)
  · rw [List.length_append, List.length_append, List.length_take, List.length_drop]
    omega
end
end Kt

set_option Elab.async false
set_option linter.all false
set_option maxRecDepth 100000
namespace Kt
open PySem L2 PyProof.Rows
/-! ### fields as written lists -/
theorem lk_eq {f : Str} {v : V} {r : List (Str × V)} : List.lookup f ((f, v) :: r) = some v := by simp
theorem lk_ne {f g : Str} {v : V} {r : List (Str × V)} (h : f ≠ g) : List.lookup f ((g, v) :: r) = List.lookup f r := by
  have e : (f == g) = false := beq_eq_false_iff_ne.mpr h
  simp [List.lookup_cons, e]
theorem pf_nil {f : Str} {v : V} : putF f v [] = [(f, v)] := rfl
theorem pf_eq {f : Str} {v x : V} {r : List (Str × V)} : putF f v ((f, x) :: r) = (f, v) :: r := if_pos rfl
theorem pf_ne {f g : Str} {v x : V} {r r' : List (Str × V)} (h : g ≠ f) (e : putF f v r = r') : putF f v ((g, x) :: r) = (g, x) :: r' := by
  rw [← e]
  exact if_neg h
section
variable {X : Cx} {e o value : Expr} {ta tv : TE} {f : Str} {pos pos' : Pos}
theorem pe_fldK (K : PySem.W.Frag) (he : PE X e ta) (hK : X.K = K := by rfl) (hb : attributeBase e f X.env (eval e X.env) = eval e X.env := by rfl) : PE X (.Attribute e f pos) (tFld K ta f) := hK ▸ pe_fld he hb
theorem ps_fldK (K : PySem.W.Frag) (ha : PE X o ta) (hv : PE X value tv) (hK : X.K = K := by rfl) (hs : swapsWith value (some (.Attribute o f pos')) pos.line X.env = pure false := by rfl) : PS X (.Assign [.Attribute o f pos'] value pos) (sFld K ta tv f) := hK ▸ ps_fld ha hv hs
theorem pi_listK (K : PySem.W.Frag) {tg l : Expr} {tl : TE} (hl : PE X l tl) (hK : X.K = K := by rfl) : PI X tg l (iList K tl) := hK ▸ pi_list hl
theorem pi_tupK (K : PySem.W.Frag) {tg l : Expr} {tl : TE} (hl : PE X l tl) (hK : X.K = K := by rfl) : PI X tg l (iTup K tl) := hK ▸ pi_tup hl
theorem pg_tupK (K : PySem.W.Frag) {es : List Expr} {k n : Nat} {t : TGs} (hc : X.calm = true) (h : PGs X es t) (hK : X.K = K := by rfl) (hn : (assignEach es X.env).length = n := by rfl) (hst : (assignEach es X.env).findIdx? (·.1) = none := by rfl) : PG X (.Tuple es k pos) (gTup K n t) := hK ▸ pg_tup hc h hn hst
theorem pg_unlK (K : PySem.W.Frag) {es : List Expr} {k n : Nat} {t : TGs} (hc : X.calm = true) (h : PGs X es t) (hK : X.K = K := by rfl) (hn : (assignEach es X.env).length = n := by rfl) (hst : (assignEach es X.env).findIdx? (·.1) = none := by rfl) : PG X (.Tuple es k pos) (gUnl K n t) := hK ▸ pg_unl hc h hn hst
theorem pe_bmK (K : PySem.W.Frag) {es : List Expr} {to : TE} {t : TA} {name : Str} {apos cpos : Pos} {T id : String} {r : V → List V → Hp → VK → Prop} (pa : PlainAttrs T) (slot : Slot T name id) (hty : typeOf (.builtin id) = pure (.type "method_descriptor")) (hm : MtR X id r) (ho : PE X o to) (ha : PA X (e :: es) t) (hK : X.K = K := by rfl)
    (hbase : attributeBase o name X.env (eval o X.env) = eval o X.env := by rfl)
    (hfew : ((backTo cpos (starEach (e :: es) X.env)).all (fun x => !x.1) && (backToKw cpos (keywordEach [] X.env)).all (fun x => x.1.isSome)
      && decide ((e :: es).length + ([] : List Keyword).length + (if ([] : List Keyword).isEmpty then 0 else 1) < 30)) = true := by rfl)
    (hline : (apos.endLine == cpos.line) = true := by rfl) (hs : starEach (e :: es) X.env = (false, eval e X.env) :: starEach es X.env := by rfl) (hplain : (backTo cpos (starEach es X.env)).any (·.1) = false := by rfl) :
    PE X (.Call (.Attribute o name apos) (e :: es) [] cpos) (tBM K T r to t) := hK ▸ pe_bm pa slot hty hm ho ha hbase hfew hline hs hplain
theorem pe_bm0K (K : PySem.W.Frag) {to : TE} {name : Str} {apos cpos : Pos} {T id : String} {r : V → List V → Hp → VK → Prop} (pa : PlainAttrs T) (slot : Slot T name id) (hty : typeOf (.builtin id) = pure (.type "method_descriptor")) (hm : MtR X id r) (ho : PE X o to) (hK : X.K = K := by rfl)
    (hbase : attributeBase o name X.env (eval o X.env) = eval o X.env := by rfl) (hline : (apos.endLine == cpos.line) = true := by rfl) : PE X (.Call (.Attribute o name apos) [] [] cpos) (tBM0 K T r to) := hK ▸ pe_bm0 pa slot hty hm ho hbase hline
end
section
variable {K : PySem.W.Frag} {σ : L2.St} {H : Hp} {D : Ends} {Q : VK} {QA : List V → Hp → Prop} {QT : Bool → Hp → Prop} {QG : L2.St → Hp → Prop} {i : Nat} {v x y : V} {ta tb te : TE} {t u : TS} {tr : TA} {g : TG} {n m : Int} {b c : Bool} {Ps Qs : List SP} {a : Addr} {o : HO} {xs ys : List V} {C dx : Addr} {fs fs' : List (Str × V)} {f : Str} {sp : Sp}
def kFld (K : PySem.W.Frag) (f : Str) (Q : VK) : V → Hp → Prop := fun x H1 => ∃ a C dx fs v, x = .ref a ∧ H1 a = some (.ins C dx fs) ∧ Cls K C ∧ NoAttr K C f ∧ fs.lookup f = some v ∧ Q v H1
theorem r_fld (h : ta σ H (kFld K f Q)) : tFld K ta f σ H Q := h
theorem r_kfld (S : Sep Ps H) (p : Pick (pt a (.ins C dx fs)) Ps Qs) (c : Cls K C) (na : NoAttr K C f) (l : fs.lookup f = some v) (h : Q v H) : kFld K f Q (.ref a) H := ⟨a, C, dx, fs, v, rfl, S.at_ p, c, na, l, h⟩
def kSet (K : PySem.W.Frag) (f : Str) (y : V) (Q : Hp → Prop) : V → Hp → Prop := fun x H2 => ∃ a C dx fs, x = .ref a ∧ H2 a = some (.ins C dx fs) ∧ Cls K C ∧ NoAttr K C f ∧ fs.length < 1000 ∧ Q (upd H2 a (.ins C dx (putF f y fs)))
theorem r_sfld (h : tb σ H fun y H1 => ta σ H1 (kSet K f y (D.nx σ))) : sFld K ta tb f D σ H := h
theorem r_kset {QH : Hp → Prop} (S : Sep Ps H) (r : Repl a (.ins C dx fs) (.ins C dx fs') Ps Qs) (c : Cls K C) (na : NoAttr K C f) (hl : fs.length < 1000) (e : putF f y fs = fs') (h : ∀ H', Sep Qs H' → QH H') : kSet K f y QH (.ref a) H :=
  ⟨a, C, dx, fs, rfl, by obtain ⟨Rs, p, _⟩ := r.pick; exact S.at_ p, c, na, hl, by rw [e]; exact h _ (S.set r)⟩
def kMeth (C : Addr) (m : Str) (sp : Sp) (t : TA) (σ : L2.St) (Q : VK) : V → Hp → Prop := fun x H1 => ∃ a dx fs, x = .ref a ∧ H1 a = some (.ins C dx fs) ∧ fs.lookup m = none ∧ t σ H1 fun vs H2 => sp (x :: vs) H2 Q E0
theorem r_meth {m : Str} (h : ta σ H (kMeth C m sp tr σ Q)) : tMeth C m sp [] E0 ta tr σ H Q := by
  unfold tMeth
  simp only [List.append_nil]
  exact h
theorem r_kmeth {m : Str} (S : Sep Ps H) (p : Pick (pt a (.ins C dx fs)) Ps Qs) (l : fs.lookup m = none) (h : tr σ H fun vs H2 => sp (.ref a :: vs) H2 Q E0) : kMeth C m sp tr σ Q (.ref a) H := ⟨a, dx, fs, rfl, S.at_ p, l, h⟩
def kNew (C : Addr) (sp : Sp) (Q : VK) : List V → Hp → Prop := fun vs H1 => ∀ x dx, H1 x = none → H1 dx = none → dx ≠ x → sp (.ref x :: vs) (upd (upd H1 dx (.own x)) x (.ins C dx [])) (fun v H2 => v = .non ∧ Q (.ref x) H2) E0
theorem r_make (h : tr σ H (kNew C sp Q)) : tMake C sp [] E0 tr σ H Q := by
  unfold tMake
  simp only [List.append_nil]
  exact h
theorem Sep.made {Ps : List SP} {H : Hp} {x dx C : Addr} (S : Sep Ps H) (h1 : H x = none) (h2 : H dx = none) (ne : dx ≠ x) : Sep (pt x (.ins C dx []) :: Ps) (upd (upd H dx (.own x)) x (.ins C dx [])) :=
  Sep.new _ ((S.new _ h2).tl) (by rw [upd_ne (Ne.symm ne)]; exact h1)
theorem r_knew {vs : List V} (S : Sep Ps H) (h : ∀ x dx H', Sep (pt x (.ins C dx []) :: Ps) H' → sp (.ref x :: vs) H' (fun v H2 => v = .non ∧ Q (.ref x) H2) E0) : kNew C sp Q vs H := fun x dx h1 h2 ne => h x dx _ (S.made h1 h2 ne)
/-- slices of lists -/
def kSl (K : PySem.W.Frag) (Q : VK) : V → Option Int → Option Int → Hp → Prop := fun x lo hi H => rSlL K x lo hi H Q
theorem r_sl {tl th : TO} (h : te σ H fun x H1 => tl σ H1 fun l H2 => th σ H2 fun u H3 => kSl K Q x l u H3) : tSl (rSlL K) te tl th σ H Q := h
theorem r_nopart {QO : Option Int → Hp → Prop} (h : QO none H) : tNoPart σ H QO := h
def kPart (QO : Option Int → Hp → Prop) : V → Hp → Prop := fun x H1 => ∃ i, x = .int i ∧ QO (some i) H1
theorem r_part {QO : Option Int → Hp → Prop} (h : te σ H (kPart QO)) : tPart te σ H QO := h
theorem r_parti {QO : Option Int → Hp → Prop} (h : QO (some n) H) : kPart QO (.int n) H := ⟨n, rfl, h⟩
theorem r_ksl {lo hi : Option Int} (S : Sep Ps H) (s : SqL K H a xs) (h : ∀ p H', Sep (pt p (.lst (cutV xs lo hi)) :: Ps) H' → Q (.ref p) H') : kSl K Q (.ref a) lo hi H := ⟨a, xs, rfl, s, fun p np => h p _ (S.new _ np)⟩
theorem r_gsl {to : TE} {tl th : TO} (h : to σ H fun x H1 => tl σ H1 fun lo H2 => th σ H2 fun hi H3 => ∃ (l b : Addr) (xs ys : List V) (a c : Nat), x = .ref l ∧ v = .ref b ∧ lo = some (a : Int) ∧ hi = some (c : Int) ∧
  H3 l = some (.lst xs) ∧ H3 b = some (.lst ys) ∧ l ≠ b ∧ a ≤ xs.length ∧ a ≤ c ∧ xs.length + ys.length ≤ sizeLine ∧ QG σ (upd H3 l (.lst (xs.take a ++ ys ++ xs.drop c)))) : gSl to tl th v σ H QG := h
/-- list(xs) -/
theorem r_list (S : Sep Ps H) (s : SqL K H a xs) (h : ∀ p H', Sep (pt p (.lst xs) :: Ps) H' → Q (.ref p) H') : cList K [.ref a] H Q := ⟨a, xs, rfl, .inl s, fun p np => h p _ (S.new _ np)⟩
/-- xs + ys -/
theorem r_cat {q : Addr} (S : Sep Ps H) (s1 : H a = some (.lst xs)) (s2 : H q = some (.lst ys)) (hz : xs.length + ys.length ≤ 100000) (h : ∀ p H', Sep (pt p (.lst (xs ++ ys)) :: Ps) H' → Q (.ref p) H') : rAddA (.ref a) (.ref q) H Q :=
  .inr (.inl ⟨a, q, xs, ys, rfl, rfl, s1, s2, Nat.le_trans hz (by decide), fun p np => h p _ (S.new _ np)⟩)
/-- methods of lists -/
theorem r_bm {T : String} {r : V → List V → Hp → VK → Prop} {to : TE} (h : to σ H fun x H1 => tyV K T x H1 ∧ tr σ H1 fun xs H2 => r x xs H2 Q) : tBM K T r to tr σ H Q := h
theorem r_bm0 {T : String} {r : V → List V → Hp → VK → Prop} {to : TE} (h : to σ H fun x H1 => tyV K T x H1 ∧ r x [] H1 Q) : tBM0 K T r to σ H Q := h
theorem r_tyl {p : Prop} (s : SqL K H a xs) (h : p) : tyV K "list" (.ref a) H ∧ p := ⟨.inl ⟨rfl, xs, s⟩, h⟩
theorem r_append (S : Sep Ps H) (r : Repl a (.lst xs) (.lst (xs ++ [y])) Ps Qs) (hz : xs.length < 100000) (h : ∀ H', Sep Qs H' → Q .non H') : rAppend (.ref a) [y] H Q :=
  ⟨a, xs, y, rfl, rfl, by obtain ⟨Rs, p, _⟩ := r.pick; exact S.at_ p, Nat.lt_of_lt_of_le hz (by decide), h _ (S.set r)⟩
theorem r_reverse (S : Sep Ps H) (r : Repl a (.lst xs) (.lst xs.reverse) Ps Qs) (h : ∀ H', Sep Qs H' → Q .non H') : rReverse (.ref a) [] H Q :=
  ⟨a, xs, rfl, rfl, by obtain ⟨Rs, p, _⟩ := r.pick; exact S.at_ p, h _ (S.set r)⟩
theorem r_clear (S : Sep Ps H) (r : Repl a (.lst xs) (.lst []) Ps Qs) (h : ∀ H', Sep Qs H' → Q .non H') : rClear (.ref a) [] H Q :=
  ⟨a, xs, rfl, rfl, by obtain ⟨Rs, p, _⟩ := r.pick; exact S.at_ p, h _ (S.set r)⟩
/-- isinstance -/
theorem r_isi {T B : String} {k : Bool} (ty : TyX K H x (.type T)) (e : kitB T B = some k) (h : Q (.bl k) H) : rIsi K [x, .ty B] H Q := ⟨x, .ty B, _, _, k, rfl, .ty B, ty, kit_ty e, h⟩
theorem ty_int : TyX K H (.int n) (.type "int") := .base (.int n)
theorem ty_lst (h : H a = some (.lst xs)) : TyX K H (.ref a) (.type "list") := .base (.lst h)
theorem r_all {bs : List Bool} (s : SqL K H a (bs.map V.bl)) (h : Q (.bl (bs.all id)) H) : rAll K [.ref a] H Q := ⟨a, bs, rfl, s, h⟩
/-- loops -/
theorem r_for {wi : TI} (h : wi σ H fun J H1 => ∃ W : Nat → Nat → L2.St → Hp → Prop, (∃ m, W 0 m σ H1) ∧ ∀ i m σ H, W i m σ H →
  (J.stop i H ∧ D.nx σ H) ∨ (J.go i H ∧ ∃ N : L2.St → Hp → Prop, (∀ σ' H', N σ' H' → ∃ m', m' < m ∧ W (i + 1) m' σ' H') ∧ ∀ x H', J.yld i H x H' → g x σ H' fun σ2 H2 => t { D with nx := N, ct := N, bk := D.nx } σ2 H2)) : tFor wi g t D σ H := h
theorem r_ilist {R : It → Hp → Prop} {tl : TE} (h : tl σ H fun x H1 => ∃ a, x = .ref a ∧ (∃ xs, SqL K H1 a xs) ∧ R (Itl K a) H1) : iList K tl σ H R := h
theorem r_irng {R : It → Hp → Prop} (h : tr σ H fun vs H1 => ∃ j : Int, vs = [.int j] ∧ -(2 ^ 62) ≤ j ∧ j < 2 ^ 62 ∧ R (Itr 0 j.toNat) H1) : iRng1 tr σ H R := h
theorem r_irngA {R : It → Hp → Prop} (h1 : -(2 ^ 62) ≤ n) (h2 : n < 2 ^ 62) (h : R (Itr 0 n.toNat) H) : ∃ j : Int, [V.int n] = [.int j] ∧ -(2 ^ 62) ≤ j ∧ j < 2 ^ 62 ∧ R (Itr 0 j.toNat) H := ⟨n, rfl, h1, h2, h⟩
theorem r_gname {i : Nat} (h : QG (σ.set i (some v)) H) : gName i v σ H QG := h
/-- targets -/
theorem r_gunl {k : Nat} {tg : TGs} (s : SqL K H a xs) (l : xs.length = k) (h : tg xs σ H QG) : gUnl K k tg (.ref a) σ H QG := ⟨a, xs, rfl, s, l, h⟩
theorem r_gtup {k : Nat} {tg : TGs} (s : SqT K H a xs) (l : xs.length = k) (h : tg xs σ H QG) : gTup K k tg (.ref a) σ H QG := ⟨a, xs, rfl, s, l, h⟩
theorem r_gcons {tu : TGs} (h : g v σ H fun σ' H' => tu xs σ' H' QG) : gCons g tu (v :: xs) σ H QG := ⟨v, xs, rfl, h⟩
theorem r_gnil (h : QG σ H) : gNil [] σ H QG := ⟨rfl, h⟩
theorem r_par {i j : Nat} (h : tr σ H fun vs H1 => ∃ v w, vs = [v, w] ∧ D.nx ((σ.set i (some v)).set j (some w)) H1) : tPar i j tr D σ H := h
theorem r_parA {i j : Nat} {p : L2.St → Hp → Prop} (h : p ((σ.set i (some x)).set j (some y)) H) : ∃ v w, [x, y] = [v, w] ∧ p ((σ.set i (some v)).set j (some w)) H := ⟨x, y, rfl, h⟩
theorem r_chain {r r' : R2} {tc : TE} (h : ta σ H fun x H1 => tb σ H1 fun y H2 => r x y H2 fun z H3 => ∃ k, z = .bl k ∧ (if k = true then tc σ H3 fun w' H4 => r' y w' H4 Q else Q (.bl false) H3)) : tChain r r' ta tb tc σ H Q := h
theorem r_isN (h : Q (.bl (decide (x = .non))) H) : Kt.rIsN x .non H Q := ⟨rfl, h⟩
end
/-! ### a class whose __init__ has one keyword-only parameter -/
structure Mtk (K : PySem.W.Frag) (C : Addr) (qual : Str) (st : Stmt) (ps : List Str) (n : Nat) (ks : List Str) (gV : List V → List V → List V) (f : Addr) : Prop where
  fn : ∃ (fd : FuncData) (kws : List (Str × V)) (g : List Value → List Value → List Value), FunD K "__init__" qual (defArgs st) (defBody st) (defScope st) [] kws f fd ∧ KBn K fd ps (n + 1) ks g gV
  mkr : Mk K C f
structure Cfk (P : Program) (w : World) (K : PySem.W.Frag) (mg : Str → Option Value) (base : Heap) (k : Nat) (x : Str) (C : Addr) (ps : List Str) (n : Nat) (ks : List Str) (gV : List V → List V → List V) (sp : Sp) : Prop where
  fn : ∃ (f : Addr) (fd : FuncData) (g : List Value → List Value → List Value), FnOk P w K mg base CX0 k f fd ps sp ∧ KBn K fd ps (n + 1) ks g gV ∧ Mk K C f
  at_ : mg x = some (.ref C)
theorem Mtk.ok {P : Program} {w : World} {K : PySem.W.Frag} {mg : Str → Option Value} {base : Heap} {x : Str} {C : Addr} {qual : Str} {st : Stmt} {f : Addr} {N ps ks : List Str} {k n : Nat} {gV : List V → List V → List V} {sp : Sp} (T : Mtk K C qual st ps n ks gV f) (hx : mg x = some (.ref C)) (S : FnScope N ps (defScope st)) (len : ∀ vs H Q E, sp vs H Q E → vs.length = ps.length)
    (hbody : ∀ (cdv : Value) (A : Around) (outer : List Env) (s : Shared) (H : Hp) (vs : List V) (Q : VK) (E : XK), Room k (A.deeper (envOfC qual (defScope st) s.heap.objs.size f cdv)) → sp vs H Q E →
      ∃ t, PSs (cxOf CX0 P w K mg base N qual (defScope st) f cdv A outer s H E).nox (defBody st) t ∧ t { nx := fun _ H' => Q .non H', rt := Q } (start N vs) H) : Cfk P w K mg base (k + 1) x C ps n ks gV sp := by
  obtain ⟨fd, kws, g, F, b⟩ := T.fn
  refine ⟨⟨f, fd, g, F.ok S len fun cdv A outer s H vs Q E hr h => ?_, b, T.mkr⟩, hx⟩
  obtain ⟨t, ht, q⟩ := hbody cdv A outer s H vs Q E hr h
  exact ⟨t, ht.nox, q⟩
section
variable {X : Cx} {k n : Nat} {x : Str} {C : Addr} {ps ks : List Str} {gV : List V → List V → List V} {sp : Sp} {e : Expr} {es : List Expr} {kws : List Keyword} {t tk : TA} {p pos : Pos}
theorem pe_cfk (M : Cfk X.prog X.w X.K X.mg X.base k x C ps n ks gV sp) (hr : Room (k + 1) X.A) (ha : PA X (e :: es) t) (hkw : PK X kws tk) (hg : Gl X x := by rfl)
    (hall : (backToKw pos (keywordEach kws X.env)).all (·.1.isSome) = true := by rfl) (hks : (backToKw pos (keywordEach kws X.env)).filterMap (·.1) = ks := by rfl) (hd : (x == ("__debug__" : Str)) = false := by decide)
    (he : starEach (e :: es) X.env = (false, eval e X.env) :: starEach es X.env := by rfl) (hpl : ((backTo pos (starEach (e :: es) X.env)).any (·.1) || (backToKw pos (keywordEach kws X.env)).any (·.1.isNone)) = false := by rfl) :
    PE X (.Call (.Name x p) (e :: es) kws pos) (tMakeK C n ks.length sp gV E0 t tk) := by
  obtain ⟨f, fd, g, F, b, M'⟩ := M.fn
  exact pe_makeK M' F hr hg M.at_ b pass0 ha hkw hall hks hd he hpl
end
section
variable {K : PySem.W.Frag} {σ : L2.St} {H : Hp} {Q : VK} {t tk : TA} {C : Addr} {sp : Sp} {gV : List V → List V → List V} {n m : Nat} {Ps : List SP} {vs zs : List V}
def kNewK (C : Addr) (n m : Nat) (sp : Sp) (gV : List V → List V → List V) (Q : VK) (vs zs : List V) : Hp → Prop := fun H2 => vs.length = n ∧ zs.length = m ∧ ∀ x dx, H2 x = none → H2 dx = none → dx ≠ x → sp (gV (.ref x :: vs) zs) (upd (upd H2 dx (.own x)) x (.ins C dx [])) (fun v H3 => v = .non ∧ Q (.ref x) H3) E0
theorem r_makek (h : t σ H fun vs H1 => tk σ H1 fun zs H2 => kNewK C n m sp gV Q vs zs H2) : tMakeK C n m sp gV E0 t tk σ H Q := h
theorem r_knewk (S : Sep Ps H) (l1 : vs.length = n) (l2 : zs.length = m) (h : ∀ x dx H', Sep (pt x (.ins C dx []) :: Ps) H' → sp (gV (.ref x :: vs) zs) H' (fun v H2 => v = .non ∧ Q (.ref x) H2) E0) : kNewK C n m sp gV Q vs zs H := ⟨l1, l2, fun x dx h1 h2 ne => h x dx _ (S.made h1 h2 ne)⟩
end
/-! ### a local name that holds a def -/
section
variable {X : Cx} {k i : Nat} {x y : Str} {f : Addr} {ps : List Str} {sp : Sp} {e : Expr} {es : List Expr} {t : TA} {p pos : Pos}
theorem pe_dfL (D : Df X.prog X.w X.K X.mg X.base k y f ps sp) (hr : Room k X.A) (ha : PA X (e :: es) t) (hN : X.N[i]? = some x := by rfl) (hv : Vis X.env.scope x := by first | exact Or.inl rfl | exact Or.inr (Or.inl rfl) | exact Or.inr (Or.inr rfl))
    (hdb : (x == ("__debug__" : Str)) = false := by decide) (hcd : (x == ("__classdict__" : Str)) = false := by decide)
    (he : starEach (e :: es) X.env = (false, eval e X.env) :: starEach es X.env := by rfl) (hpl : (backTo pos (starEach es X.env)).any (·.1) = false := by rfl) : PE X (.Call (.Name x p) (e :: es) [] pos) (tCallL i f sp [] E0 t) := by
  obtain ⟨fd, F, b⟩ := D.fn
  exact pe_callL F hr hN hv D.kp b .nil pass0 ha hdb hcd he hpl
theorem r_calll {σ : L2.St} {H : Hp} {Q : VK} (hs : σ[i]? = some (some (.ref f))) (h : t σ H fun vs H1 => sp vs H1 Q E0) : tCallL i f sp [] E0 t σ H Q := by
  unfold tCallL
  simp only [List.append_nil]
  exact ⟨hs, h⟩
end
end Kt

set_option Elab.async false
set_option linter.all false
set_option maxRecDepth 100000
namespace Kt
open PySem L2 PyProof.Rows
section
variable {K : PySem.W.Frag} {σ : L2.St} {H : Hp} {D : Ends} {Q : VK} {a : Addr} {xs : List V} {Ps : List SP} {g : TG} {tb : TS} {tt : TT} {te : TE} {vs : List Nat} {n : Int}
/-- the turns of a loop, by a word over the slots and the known parts -/
abbrev LW := Nat → L2.St → List SP → Prop
def Nx (J : LW) (i : Nat) : L2.St → Hp → Prop := fun σ H => ∃ Ps, J i σ Ps ∧ Sep Ps H
theorem nx_in {J : LW} {i : Nat} (S : Sep Ps H) (j : J i σ Ps) : Nx J i σ H := ⟨Ps, j, S⟩
abbrev ForW (J : It) (g : TG) (tb : TS) (D : Ends) (σ : L2.St) (H1 : Hp) : Prop := ∃ W : Nat → Nat → L2.St → Hp → Prop, (∃ m, W 0 m σ H1) ∧ ∀ i m σ H, W i m σ H →
  (J.stop i H ∧ D.nx σ H) ∨ (J.go i H ∧ ∃ N : L2.St → Hp → Prop, (∀ σ' H', N σ' H' → ∃ m', m' < m ∧ W (i + 1) m' σ' H') ∧ ∀ x H', J.yld i H x H' → g x σ H' fun σ2 H2 => tb { D with nx := N, ct := N, bk := D.nx } σ2 H2)
theorem r_for_list (J : LW) (S : Sep Ps H) (h0 : J 0 σ Ps) (hl : ∀ i σ Ps H, i ≤ xs.length → J i σ Ps → Sep Ps H → SqL K H a xs)
    (hs : ∀ i x σ Ps H, xs[i]? = some x → J i σ Ps → Sep Ps H → g x σ H fun σ2 H2 => tb { D with nx := Nx J (i + 1), ct := Nx J (i + 1), bk := D.nx } σ2 H2) (hd : ∀ σ Ps H, J xs.length σ Ps → Sep Ps H → D.nx σ H) :
    ∃ a', V.ref a = .ref a' ∧ (∃ xs, SqL K H a' xs) ∧ ForW (Itl K a') g tb D σ H :=
  ⟨a, rfl, ⟨xs, hl 0 σ Ps H (Nat.zero_le _) h0 S⟩, for_list (K := K) (a := a) (xs := xs) (Nx J) ⟨Ps, h0, S⟩ (fun i σ H hi ⟨Ps, j, S⟩ => hl i σ Ps H hi j S) (fun i x σ H hi ⟨Ps, j, S⟩ => hs i x σ Ps H hi j S) fun σ H ⟨Ps, j, S⟩ => hd σ Ps H j S⟩
theorem r_for_tup (J : LW) (S : Sep Ps H) (h0 : J 0 σ Ps) (hl : ∀ i σ Ps H, i ≤ xs.length → J i σ Ps → Sep Ps H → SqT K H a xs)
    (hs : ∀ i x σ Ps H, xs[i]? = some x → J i σ Ps → Sep Ps H → g x σ H fun σ2 H2 => tb { D with nx := Nx J (i + 1), ct := Nx J (i + 1), bk := D.nx } σ2 H2) (hd : ∀ σ Ps H, J xs.length σ Ps → Sep Ps H → D.nx σ H) :
    ∃ a', V.ref a = .ref a' ∧ (∃ xs, SqT K H a' xs) ∧ ForW (Itt K a') g tb D σ H :=
  ⟨a, rfl, ⟨xs, hl 0 σ Ps H (Nat.zero_le _) h0 S⟩, for_tup (K := K) (a := a) (xs := xs) (Nx J) ⟨Ps, h0, S⟩ (fun i σ H hi ⟨Ps, j, S⟩ => hl i σ Ps H hi j S) (fun i x σ H hi ⟨Ps, j, S⟩ => hs i x σ Ps H hi j S) fun σ H ⟨Ps, j, S⟩ => hd σ Ps H j S⟩
/-- over range(n) -/
theorem r_for_rng (J : LW) (S : Sep Ps H) (h1 : -(2 ^ 62) ≤ n) (h2 : n < 2 ^ 62) (h0 : J 0 σ Ps)
    (hs : ∀ (i : Nat) σ Ps H, i < n.toNat → J i σ Ps → Sep Ps H → g (.int (i : Int)) σ H fun σ2 H2 => tb { D with nx := Nx J (i + 1), ct := Nx J (i + 1), bk := D.nx } σ2 H2) (hd : ∀ σ Ps H, J n.toNat σ Ps → Sep Ps H → D.nx σ H) :
    ∃ j : Int, [V.int n] = [.int j] ∧ -(2 ^ 62) ≤ j ∧ j < 2 ^ 62 ∧ ForW (Itr 0 j.toNat) g tb D σ H :=
  ⟨n, rfl, h1, h2, for_range (Nx J) ⟨Ps, h0, S⟩ (fun i σ H hi ⟨Ps, j, S⟩ => by rw [Int.zero_add]; exact hs i σ Ps H hi j S) fun σ H ⟨Ps, j, S⟩ => hd σ Ps H j S⟩
/-! ### comprehensions: J by the turn, what is made, the known parts -/
abbrev CW := Nat → List V → List SP → Prop
abbrev LcW (Jt : It) (g : TG) (tt : TT) (te : TE) (vs : List Nat) (Q : VK) (σ : L2.St) (H1 : Hp) : Prop := ∀ D, H1 D = none → ∃ W : Nat → Nat → Hp → Prop, (∃ m, W 0 m (upd H1 D (.lst []))) ∧ ∀ i m H, W i m H →
  (Jt.stop i H ∧ Q (.ref D) H) ∨ (Jt.go i H ∧ ∃ Nx : Hp → Prop, (∀ H', Nx H' → ∃ m', m' < m ∧ W (i + 1) m' H') ∧ ∀ x H', Jt.yld i H x H' → g x (wipe σ vs) H' fun σ2 H2 => wipe σ2 vs = wipe σ vs ∧ tt σ2 H2 fun b H3 =>
    if b = true then te σ2 H3 fun y H4 => ∃ acc, H4 D = some (.lst acc) ∧ acc.length < sizeLine ∧ Nx (upd H4 D (.lst (acc ++ [y]))) else Nx H3)
def CN (J : CW) (D : Addr) (i : Nat) : Hp → Prop := fun H => ∃ acc Ps, J i acc Ps ∧ Sep (pt D (.lst acc) :: Ps) H
/-- an item is made: the new list holds one more -/
theorem cn_in {J : CW} {D : Addr} {i : Nat} {acc : List V} {y : V} (S : Sep (pt D (.lst acc) :: Ps) H) (hl : acc.length < 100000) (j : J i (acc ++ [y]) Ps) : ∃ acc, H D = some (.lst acc) ∧ acc.length < sizeLine ∧ CN J D i (upd H D (.lst (acc ++ [y]))) :=
  ⟨acc, S.hd_at, Nat.lt_of_lt_of_le hl (by decide), acc ++ [y], Ps, j, S.hd_set _⟩
theorem cn_out {J : CW} {D : Addr} {i : Nat} {acc : List V} (S : Sep (pt D (.lst acc) :: Ps) H) (j : J i acc Ps) : CN J D i H := ⟨acc, Ps, j, S⟩
theorem r_lc (h : ∀ (wi : TI), wi = wi → True) : True := trivial
theorem r_tlc {wi : TI} (h : wi σ H fun Jt H1 => LcW Jt g tt te vs Q σ H1) : tLc wi g tt te vs σ H Q := h
theorem r_lc_list (J : CW) (S : Sep Ps H) (h0 : J 0 [] Ps) (hl : ∀ D i acc Ps H, i ≤ xs.length → J i acc Ps → Sep (pt D (.lst acc) :: Ps) H → SqL K H a xs) (hl0 : SqL K H a xs)
    (hs : ∀ D i x acc Ps H, xs[i]? = some x → J i acc Ps → Sep (pt D (.lst acc) :: Ps) H → g x (wipe σ vs) H fun σ2 H2 => wipe σ2 vs = wipe σ vs ∧ tt σ2 H2 fun b H3 =>
      if b = true then te σ2 H3 fun y H4 => ∃ acc, H4 D = some (.lst acc) ∧ acc.length < sizeLine ∧ CN J D (i + 1) (upd H4 D (.lst (acc ++ [y]))) else CN J D (i + 1) H3)
    (hd : ∀ D acc Ps H, J xs.length acc Ps → Sep (pt D (.lst acc) :: Ps) H → Q (.ref D) H) : ∃ a', V.ref a = .ref a' ∧ (∃ xs, SqL K H a' xs) ∧ LcW (Itl K a') g tt te vs Q σ H :=
  ⟨a, rfl, ⟨xs, hl0⟩, fun D nD => lc_list (K := K) (a := a) (xs := xs) (CN J D) ⟨[], Ps, h0, S.new _ nD⟩ (fun i H hi ⟨acc, Ps, j, S⟩ => hl D i acc Ps H hi j S) (fun i x H hi ⟨acc, Ps, j, S⟩ => hs D i x acc Ps H hi j S) fun H ⟨acc, Ps, j, S⟩ => hd D acc Ps H j S⟩
theorem r_lc_rng (J : CW) (S : Sep Ps H) (h1 : -(2 ^ 62) ≤ n) (h2 : n < 2 ^ 62) (h0 : J 0 [] Ps)
    (hs : ∀ D (i : Nat) acc Ps H, i < n.toNat → J i acc Ps → Sep (pt D (.lst acc) :: Ps) H → g (.int (i : Int)) (wipe σ vs) H fun σ2 H2 => wipe σ2 vs = wipe σ vs ∧ tt σ2 H2 fun b H3 =>
      if b = true then te σ2 H3 fun y H4 => ∃ acc, H4 D = some (.lst acc) ∧ acc.length < sizeLine ∧ CN J D (i + 1) (upd H4 D (.lst (acc ++ [y]))) else CN J D (i + 1) H3)
    (hd : ∀ D acc Ps H, J n.toNat acc Ps → Sep (pt D (.lst acc) :: Ps) H → Q (.ref D) H) : ∃ j : Int, [V.int n] = [.int j] ∧ -(2 ^ 62) ≤ j ∧ j < 2 ^ 62 ∧ LcW (Itr 0 j.toNat) g tt te vs Q σ H :=
  ⟨n, rfl, h1, h2, fun D nD => lc_range (CN J D) ⟨[], Ps, h0, S.new _ nD⟩ (fun i H hi ⟨acc, Ps, j, S⟩ => by rw [Int.zero_add]; exact hs D i acc Ps H hi j S) fun H ⟨acc, Ps, j, S⟩ => hd D acc Ps H j S⟩
theorem r_yes {QT : Bool → Hp → Prop} (h : QT true H) : tYes σ H QT := h
end
end Kt

set_option Elab.async false
set_option linter.all false
set_option maxRecDepth 100000
namespace Kt
open PySem L2 PyProof.Rows
/-! ### data: equal things are equal -/
def Okd (k : Nat) (d : PyData) : Prop := d.canLay0 = true ∧ d.depth ≤ k
theorem okd_int {k : Nat} (i : Int) : Okd k (.int i) := ⟨rfl, Nat.zero_le _⟩
theorem okd_bl {k : Nat} (b : Bool) : Okd k (.bool b) := ⟨rfl, Nat.zero_le _⟩
theorem okd_non {k : Nat} : Okd k .none := ⟨rfl, Nat.zero_le _⟩
theorem okd_all {k : Nat} : ∀ {ds : List PyData}, (∀ d ∈ ds, Okd k d) → PyData.canLayAll0 ds = true ∧ PyData.depthAll ds ≤ k
  | [], _ => ⟨rfl, Nat.zero_le _⟩
  | d :: ds, h => by
    obtain ⟨h1, h2⟩ := okd_all (ds := ds) fun x m => h x (List.mem_cons_of_mem _ m)
    obtain ⟨g1, g2⟩ := h d List.mem_cons_self
    refine ⟨?_, ?_⟩
    · rw [PyData.canLayAll0, g1, h1] <;> rfl
    · rw [PyData.depthAll]; exact Nat.max_le.mpr ⟨g2, h2⟩
theorem okd_list {k : Nat} {ds : List PyData} (h : ∀ d ∈ ds, Okd k d) : Okd (k + 1) (.list ds) := by
  obtain ⟨h1, h2⟩ := okd_all h
  refine ⟨?_, ?_⟩
  · rw [PyData.canLay0]; exact h1
  · rw [PyData.depth]; omega
theorem okd_tuple {k : Nat} {ds : List PyData} (h : ∀ d ∈ ds, Okd k d) : Okd (k + 1) (.tuple ds) := by
  obtain ⟨h1, h2⟩ := okd_all h
  refine ⟨?_, ?_⟩
  · rw [PyData.canLay0]; exact h1
  · rw [PyData.depth]; omega
theorem Okd.shaped {k : Nat} {d : PyData} (h : Okd k d) (hk : k ≤ 64) : SeqAt.shaped d = true := by
  unfold SeqAt.shaped
  rw [h.1, decide_eq_true (Nat.le_trans h.2 hk)]
  rfl
def dInts (ns : List Int) : PyData := .list (ns.map PyData.int)
theorem okd_ints (k : Nat) (ns : List Int) : Okd (k + 1) (dInts ns) := okd_list fun d m => by
  obtain ⟨i, _, rfl⟩ := List.mem_map.mp m
  exact okd_int i
section
variable {K : PySem.W.Frag} {H : Hp} {Q : VK} {x y : V} {a : Addr} {k : Nat} {d : PyData} {n : Int}
theorem dpall_ints : ∀ ns : List Int, DpAll K H (ns.map V.int) (ns.map PyData.int)
  | [] => .nil
  | n :: ns => .cons (.int n) (dpall_ints ns)
theorem dp_ints {ns : List Int} (s : SqL K H a (ns.map V.int)) : Dp K H (.ref a) (dInts ns) := .lst s (dpall_ints ns)
theorem r_eq_same (h1 : Dp K H x d) (h2 : Dp K H y d) (o : Okd k d) (hk : k ≤ 64) (q : Q (.bl true) H) : rEqA K x y H Q := .inr ⟨d, d, h1, h2, o.shaped hk, o.shaped hk, by rw [SeqAt.eqv_refl d o.1]; exact q⟩
theorem r_ne_same (h1 : Dp K H x d) (h2 : Dp K H y d) (o : Okd k d) (hk : k ≤ 64) (q : Q (.bl false) H) : rNeA K x y H Q := .inr ⟨d, d, h1, h2, o.shaped hk, o.shaped hk, by rw [SeqAt.eqv_refl d o.1]; exact q⟩
theorem r_neg (h : Q (.int (-n)) H) : rU (fun i => .int (-i)) (.int n) H Q := ⟨n, rfl, h⟩
end
end Kt

set_option Elab.async false
set_option linter.all false
set_option maxRecDepth 100000
namespace Kt
open PySem L2 PyProof.Rows
/-! ### many lists as one part -/
def big (l : List (Addr × List V)) : SP := Sep (l.map fun p => pt p.1 (.lst p.2))
theorem big_nil {R : List SP} {H : Hp} (S : Sep R H) : Sep (big [] :: R) H := Sep.unflat (As := []) S
theorem pick_mid {A : SP} {Qs : List SP} : ∀ Ps : List SP, Pick A (Ps ++ A :: Qs) (Ps ++ Qs)
  | [] => .hd
  | P :: Ps => .tl (pick_mid Ps)
theorem big_add {l : List (Addr × List V)} {p : Addr} {xs : List V} {R : List SP} {H : Hp} (S : Sep (pt p (.lst xs) :: big l :: R) H) : Sep (big (l ++ [(p, xs)]) :: R) H := by
  have S1 : Sep (pt p (.lst xs) :: ((l.map fun p => pt p.1 (.lst p.2)) ++ R)) H := S.cons_mono fun _ => Sep.flat
  have S2 : Sep ((l.map fun p => pt p.1 (.lst p.2)) ++ pt p (.lst xs) :: R) H := (pick_mid _).back S1
  refine Sep.unflat (As := (l ++ [(p, xs)]).map fun p => pt p.1 (.lst p.2)) ?_
  rw [List.map_append, List.append_assoc]
  exact S2
theorem sep_mem {R : List SP} {H : Hp} : ∀ {l : List (Addr × List V)} {p : Addr} {xs : List V}, Sep ((l.map fun p => pt p.1 (.lst p.2)) ++ R) H → (p, xs) ∈ l → H p = some (.lst xs)
  | [], _, _, _, h => by simp at h
  | q :: l, p, xs, S, h => by
    rcases List.mem_cons.mp h with e | h
    · subst e
      exact Sep.hd_at (Ps := (l.map fun p => pt p.1 (.lst p.2)) ++ R) S
    · exact sep_mem (Sep.tl (Ps := (l.map fun p => pt p.1 (.lst p.2)) ++ R) S) h
theorem big_get {l : List (Addr × List V)} {p : Addr} {xs : List V} {R : List SP} {H : Hp} (S : Sep (big l :: R) H) (h : (p, xs) ∈ l) : H p = some (.lst xs) := sep_mem S.flat h
theorem big_open {l : List (Addr × List V)} {R : List SP} {H : Hp} (S : Sep (big l :: R) H) : Sep ((l.map fun p => pt p.1 (.lst p.2)) ++ R) H := S.flat
section
variable {K : PySem.W.Frag} {H : Hp} {Q : VK} {x y : V} {a : Addr} {xs : List V} {Ps Qs : List SP}
theorem dpall_of {α : Type} (f : α → V) (g : α → PyData) : ∀ {l : List α}, (∀ z ∈ l, Dp K H (f z) (g z)) → DpAll K H (l.map f) (l.map g)
  | [], _ => .nil
  | z :: l, h => .cons (h z List.mem_cons_self) (dpall_of f g fun z m => h z (List.mem_cons_of_mem _ m))
theorem dpall_app : ∀ {xs ys : List V} {ds es : List PyData}, DpAll K H xs ds → DpAll K H ys es → DpAll K H (xs ++ ys) (ds ++ es)
  | _, _, _, _, .nil, h => h
  | _, _, _, _, .cons h t, h2 => .cons h (dpall_app t h2)
theorem r_insert0 (S : Sep Ps H) (r : Repl a (.lst xs) (.lst (y :: xs)) Ps Qs) (hz : xs.length < 100000) (h : ∀ H', Sep Qs H' → Q .non H') : ∃ (l : Addr) (zs : List V) (i : Int) (y' : V), V.ref a = .ref l ∧ [V.int 0, y] = [.int i, y'] ∧ H l = some (.lst zs) ∧ zs.length < sizeLine ∧ 0 ≤ i ∧ i < 2 ^ 63 ∧
    Q .non (upd H l (.lst (zs.take i.toNat ++ y' :: zs.drop i.toNat))) :=
  ⟨a, xs, 0, y, rfl, rfl, by obtain ⟨Rs, p, _⟩ := r.pick; exact S.at_ p, Nat.lt_of_lt_of_le hz (by decide), by decide, by decide, h _ (S.set r)⟩
end
end Kt

set_option Elab.async false
set_option linter.all false
set_option maxRecDepth 100000
namespace Kt
open PySem PySem.Spec PySem.W L2 PyProof.Rows
/-! ### an instance that is called: its class's own __call__ -/
theorem fn_found {K : Frag} {f : Addr} {h : Heap} (X : K.In h) (e : fnIn K f = true) : ∃ (o : Obj) (fd : FuncData), h.get? f = some o ∧ o.data = .func fd := by
  unfold fnIn at e
  split at e
  · rename_i q
    exact ⟨_, _, X _ _ q, rfl⟩
  · cases e
theorem callee_inst {prog : Program} {w : World} {A : Around} {K : Frag} {a C f : Addr} {dx : Addr} {od : Option Obj} {s : Shared} {R : Result → Shared → Prop} {rest : List Value} {kw : List (Str × Value)} {of_ : Obj} {fd : FuncData}
    (X : K.In s.heap) (J : PySem.W.InstAt s.heap a (PySem.W.instObj C dx) C od) (hs : findIn K (.ref C) "__call__" = some (some (.ref f))) (hf : isFn K (.ref f) = true) (hl : s.heap.get? f = some of_) (hd : of_.data = .func fd)
    (h : codeAny (model prog w) A (.call (.ref f) ⟨.ref a :: rest, kw⟩) R s) : codeAny (model prog w) A (.call (.ref a) ⟨rest, kw⟩) R s := by
  have sp : Looks (model prog w) s.heap (specialOf (.ref a) "__call__") (some (.ref f)) := J.type.andThen (looks_findIn X hs)
  have bd : Looks (model prog w) s.heap (bindSpecial (.ref f) (.ref a)) (.ref f, [.ref a]) := bind_fn X _ (beq_iff_eq.mp hf)
  refine codeAny_of_tree ?_
  show wpAny _ _ (callAny (.ref a) _) _ _ _
  refine nd_load J.at_ ?_
  show wpAny _ _ (callAny.viaDunder (.ref a) _) _ _ _
  unfold callAny.viaDunder
  refine wpAny_bind (sp.here ?_)
  refine wpAny_bind (bd.here ?_)
  have pc : Looks (model prog w) s.heap (callAny.plainCallee (.ref f)) true := (Looks.ld (part := none) hl).andThen (by rw [hd]; exact .now)
  refine wpAny_bind (pc.here ?_)
  exact wpAny_pure (a := Fin.again (.call (.ref f) ⟨.ref a :: rest, kw⟩)) (And.intro rfl h)
theorem keeper_inst {M : Model} {a C dx : Addr} {h : Heap} (e : h.get? a = some (PySem.W.instObj C dx)) : Looks M h (keeperOf (.ref a)) Keeper.caller := (Looks.ld (part := none) e).andThen .now
theorem callWith_inst {M : Model} {A : Around} {E : Value → Shared → Prop} {s : Shared} {pos : Pos} {f : Value} {args : List (Bool × Sem Value)} {Q : Value → Shared → Prop} {P : Heap → Prop} (hplain : (args.any (·.1) || ([] : List (Option Str × Sem Value)).any (·.1.isNone)) = false)
    (hk : ∀ h, P h → Looks M h (keeperOf f) Keeper.caller) (h : wpAny M A (evalArgs f true args []) (fun x s1 => P s1.heap ∧ wpAny M A (call f ([] ++ x.pos) x.kw) Q E s1) E s) : wpAny M A (callWith pos f [] args []) Q E s := by
  unfold callWith
  refine wpAny_bind (wpAny_holding (wpAny_mono h (fun x s1 h1 => wpAny_bind (wpAny_standAt ?_)) fun _ _ z => z))
  simp only [hplain]
  refine wpAny_bind ((hk _ h1.1).here ?_)
  dsimp only
  exact wpAny_bind (wpAny_mono (wpAny_operate' h1.2) (fun r s2 hr => wpAny_bind (wpAny_holding (wpAny_point (wpAny_pure hr)))) fun _ _ z => z)
section
variable {X : Cx} {k i : Nat} {x : Str} {C : Addr} {ps : List Str} {sp : Sp} {e : Expr} {es : List Expr} {t : TA} {p pos : Pos}
/-- x(e, ..), the local x holds an instance of C -/
def tCallI (i : Nat) (C : Addr) (sp : Sp) (t : TA) : TE := fun σ H Q => ∃ a, σ[i]? = some (some (.ref a)) ∧ t σ H fun vs H1 => ∃ dx fs, H1 a = some (.ins C dx fs) ∧ sp (.ref a :: vs) H1 Q E0
theorem pe_mfL (M : Mf X.prog X.w X.K X.mg X.base k C "__call__" ps sp) (hfn : ∀ f, findIn X.K (.ref C) "__call__" = some (some (.ref f)) → fnIn X.K f = true) (hr : Room k X.A) (ha : PA X (e :: es) t) (hN : X.N[i]? = some x := by rfl) (hv : Vis X.env.scope x := by first | exact Or.inl rfl | exact Or.inr (Or.inl rfl) | exact Or.inr (Or.inr rfl))
    (hdb : (x == ("__debug__" : Str)) = false := by decide) (hcd : (x == ("__classdict__" : Str)) = false := by decide) (he : starEach (e :: es) X.env = (false, eval e X.env) :: starEach es X.env := by rfl) (hpl : (backTo pos (starEach es X.env)).any (·.1) = false := by rfl) :
    PE X (.Call (.Name x p) (e :: es) [] pos) (tCallI i C sp t) := by
  obtain ⟨f, fd, F, b, hm⟩ := M.fn
  refine ⟨fun pins s σ H Q I h => ?_⟩
  obtain ⟨a, hs, ht⟩ := h
  refine wpAny_Call_Name_kw (thn ((pe_var (pos := p) hN hv hdb hcd).run pins s σ H (fun v H1 => v = .ref a ∧ H1 = H) I ⟨.ref a, hs, rfl, rfl⟩) fun u s1 ⟨v, H1, I1, r1, q1⟩ => ?_)
  obtain ⟨rfl, rfl⟩ := q1
  cases r1
  have h2 : wpAny (model X.prog X.w) X.A (spliced (backTo pos (starEach (e :: es) X.env))) (fun vs s2 => (∃ dx, s2.heap.get? a = some (PySem.W.instObj C dx)) ∧ wpAny (model X.prog X.w) X.A (call (.ref a) ([] ++ vs)) (EP X pins σ Q) X.xe s2) X.xe s1 :=
    thn (ha.run pos pins s1 σ _ _ I1 ht) fun us s2 ⟨vs, H2, I2, r, dx, fs, hH, q⟩ => by
      obtain ⟨mA, O, _⟩ := ins_get I2.hok hH
      refine ⟨⟨dx, O.obj⟩, ?_⟩
      obtain ⟨od, J, _⟩ := O.look
      obtain ⟨of_, fd2, hl, hd2⟩ := fn_found I2.kIn (hfn f hm.at_)
      have rr : Vals (V.ref a :: vs) (Value.ref a :: us) := .cons rfl r
      have ln : (Value.ref a :: us).length = ps.length := by rw [← rr.length]; exact F.len _ _ _ _ q
      have bd := b s2 (.ref a :: us) I2.kIn (by rw [List.append_nil]; exact ln)
      rw [List.append_nil] at bd
      refine wpAny_call (callee_inst I2.kIn J hm.at_ hm.fn hl hd2 (codeAny_mono (F.run X.A X.stack s2 H2 ⟨.ref a :: us, []⟩ (.ref a :: us) (.ref a :: vs) Q E0 hr I2.env0 bd rr q) fun r s' hq => ?_))
      cases r with
      | error z => exact pass0 pins σ H2 s2 z s' I2 hq
      | ok fl => cases fl with
        | ret u => exact I2.after hq
        | _ => exact False.elim hq
  rw [he] at h2 ⊢
  exact callWith_inst (P := fun h => ∃ dx, h.get? a = some (PySem.W.instObj C dx)) (by show ((false || (backTo pos (starEach es X.env)).any (·.1)) || false) = false; rw [hpl]; rfl) (fun h ⟨dx, q⟩ => keeper_inst q) (Calls.evalArgs_plain h2)
/-- an expression read in one of two ways -/
def tEr (t t' : TE) : TE := fun σ H Q => t σ H Q ∨ t' σ H Q
theorem pe_er {e : Expr} {t t' : TE} (h : PE X e t) (h' : PE X e t') : PE X e (tEr t t') := ⟨fun pins s σ H Q I q => q.elim (h.run pins s σ H Q I) (h'.run pins s σ H Q I)⟩
end
end Kt

set_option Elab.async false
set_option linter.all false
set_option maxRecDepth 100000
namespace Kt
open PySem L2 PyProof.Rows
/-! ### properties by name -/
structure Pt (K : PySem.W.Frag) (C : Addr) (m qual : Str) (st : Stmt) (g : Addr) : Prop where
  fn : ∃ fd, Fun K m qual st g fd ∧ Binds K fd ["self"] []
  at_ : ∃ p, PropOf K C m p g
structure Pf (P : Program) (w : World) (K : PySem.W.Frag) (mg : Str → Option Value) (base : Heap) (k : Nat) (C : Addr) (m : Str) (sp : Sp) : Prop where
  fn : ∃ p g fd, FnOk P w K mg base CX0 k g fd ["self"] sp ∧ Binds K fd ["self"] [] ∧ PropOf K C m p g
  cls : Cls K C
theorem Pt.ok {P : Program} {w : World} {K : PySem.W.Frag} {mg : Str → Option Value} {base : Heap} {C : Addr} {x qual : Str} {st : Stmt} {f : Addr} {N : List Str} {k : Nat} {sp : Sp} (T : Pt K C x qual st f) (c : Cls K C) (S : FnScope N ["self"] (defScope st)) (len : ∀ vs H Q E, sp vs H Q E → vs.length = 1)
    (hbody : ∀ (cdv : Value) (A : Around) (outer : List Env) (s : Shared) (H : Hp) (vs : List V) (Q : VK) (E : XK), Room k (A.deeper (envOfC qual (defScope st) s.heap.objs.size f cdv)) → sp vs H Q E →
      ∃ t, PSs (cxOf CX0 P w K mg base N qual (defScope st) f cdv A outer s H E).nox (defBody st) t ∧ t { nx := fun _ H' => Q .non H', rt := Q } (start N vs) H) : Pf P w K mg base (k + 1) C x sp := by
  obtain ⟨fd, F, b⟩ := T.fn
  obtain ⟨p, hp⟩ := T.at_
  exact ⟨⟨p, f, fd, F.ok S len hbody, b, hp⟩, c⟩
theorem pe_pr {X : Cx} {k : Nat} {C : Addr} {f : Str} {sp : Sp} {e : Expr} {pos : Pos} {ta : TE} (M : Pf X.prog X.w X.K X.mg X.base k C f sp) (hr : Room (k + 1) X.A) (he : PE X e ta) (hab : attributeBase e f X.env (eval e X.env) = eval e X.env := by rfl) : PE X (.Attribute e f pos) (tProp C sp [] E0 ta) := by
  obtain ⟨p, g, fd, F, b, hp⟩ := M.fn
  exact pe_prop he M.cls hp F hr b .nil pass0 hab
section
variable {σ : L2.St} {H : Hp} {Q : VK} {C a dx : Addr} {sp : Sp} {ta : TE} {fs : List (Str × V)} {Ps Qs : List SP}
def kProp (C : Addr) (sp : Sp) (Q : VK) : V → Hp → Prop := fun x H1 => ∃ a dx fs, x = .ref a ∧ H1 a = some (.ins C dx fs) ∧ sp [.ref a] H1 Q E0
theorem r_prop (h : ta σ H (kProp C sp Q)) : tProp C sp [] E0 ta σ H Q := h
theorem r_kprop (S : Sep Ps H) (p : Pick (pt a (.ins C dx fs)) Ps Qs) (h : sp [.ref a] H Q E0) : kProp C sp Q (.ref a) H := ⟨a, dx, fs, rfl, S.at_ p, h⟩
end
end Kt

set_option Elab.async false
set_option linter.all false
set_option maxRecDepth 100000
namespace Kt
open PySem PySem.Spec L2 PyProof.Rows
/-! ### promises of defs that are called where no guard stands: what repr of a list asks -/
structure FnG (P : Program) (w : World) (K : PySem.W.Frag) (mg : Str → Option Value) (base : Heap) (k : Nat) (f : Addr) (fd : FuncData) (ps : List Str) (sp : Sp) : Prop where
  len : ∀ vs H Q E, sp vs H Q E → vs.length = ps.length
  run : ∀ (A : Around) (outer : List Env) (s : Shared) (H : Hp) (args : Args) (us : List Value) (vs : List V) (Q : VK) (E : XK), A.guards = some [] → Room k A → Env0 P w K mg base A outer s H → BindsTo s fd args (ps.zip us) → Vals vs us → sp vs H Q E → codeAny (model P w) A (.call (.ref f) args) (CR CX0 outer P w H s Q E) s
section
variable {P : Program} {w : World} {K : PySem.W.Frag} {mg : Str → Option Value} {base : Heap}
theorem fnG_ok {x qual : Str} {st : Stmt} {f : Addr} {fd : FuncData} {N ps : List Str} {k : Nat} {sp : Sp} (F : Fun K x qual st f fd) (S : FnScope N ps (defScope st)) (len : ∀ vs H Q E, sp vs H Q E → vs.length = ps.length)
    (hbody : ∀ (cdv : Value) (A : Around) (outer : List Env) (s : Shared) (H : Hp) (vs : List V) (Q : VK) (E : XK), A.guards = some [] → Room k (A.deeper (envOfC qual (defScope st) s.heap.objs.size f cdv)) → sp vs H Q E →
      ∃ t, PSs (cxOf CX0 P w K mg base N qual (defScope st) f cdv A outer s H E).nox (defBody st) t ∧ t { nx := fun _ H' => Q .non H', rt := Q } (start N vs) H) : FnG P w K mg base (k + 1) f fd ps sp := by
  obtain ⟨oc, od, kV, doc, pm, an, cdv, ct, osl, rfl, lk, hcd⟩ := F.ex
  refine ⟨len, fun A outer s H args us vs Q E hg hr e0 hb r hsp => ?_⟩
  have KX : K.In s.heap := e0.mod.kin.keeps fun b o e => (e0.bs b o e).1
  have lim := e0.mod.nolimit.keeps (h' := s.heap) fun b o e => (e0.bs b o e).1
  have hl : vs.length = ps.length := len vs H Q E hsp
  have kinds : ∀ y ∈ ps.zip us, (defScope st).names.lookup y.1 = some .local ∨ ((defScope st).names.lookup y.1 = some .cell ∧ ((cellsFrom (s.heap.objs.size + 1) (defScope st).names []).lookup y.1).isSome = true) := by
    rintro ⟨n, v⟩ hy
    exact (S.par n (List.of_mem_zip hy).1).imp id fun q => ⟨q, PySem.W.cellsFrom_some _ _ _ (.inl q)⟩
  refine codeAny_call_function hr.depth (KX _ _ lk) rfl S.co S.gen rfl (PySem.W.codeRec_of KX hcd) (hb _ _ _ _ (wpAny_newFunctionEnv_cells S.kind kinds fun env he s1 x => ?_))
  cases he
  refine ⟨lim.keeps x.toInCall.keep, codeAny_func ?_⟩
  obtain ⟨t, ht, hq⟩ := hbody cdv A outer s H vs Q E hg (hr.deeper _) hsp
  refine wpAny_mono (ht.nox.run [] s1 (start N vs) H _ (inv_start S hr.hd e0 hl r x) hq) (fun fl s' hs => ?_) fun _ _ z => z
  rcases fl with u | _ | _ | _
  all_goals first
    | exact (let ⟨v, σ', H', J, rv, q⟩ := hs; ⟨v, H', J.os, J.bare, J.base, J.hok, rv, q⟩)
    | exact (let ⟨σ', H', J, q⟩ := hs; ⟨V.non, H', J.os, J.bare, J.base, J.hok, rfl, q⟩)
    | exact (let ⟨_, _, _, q⟩ := hs; q.elim)
end
/-! ### a def of the text that is called where no guard stands -/
structure Dg (P : Program) (w : World) (K : PySem.W.Frag) (mg : Str → Option Value) (base : Heap) (k : Nat) (x : Str) (f : Addr) (ps : List Str) (sp : Sp) : Prop where
  fn : ∃ fd, FnG P w K mg base k f fd ps sp ∧ Binds K fd ps []
  at_ : mg x = some (.ref f)
  kp : PySem.W.keepIn K (.ref f) = true
theorem Dt.okG {P : Program} {w : World} {K : PySem.W.Frag} {mg : Str → Option Value} {base : Heap} {x : Str} {st : Stmt} {f : Addr} {N ps : List Str} {k : Nat} {sp : Sp} (T : Dt K mg x st ps f) (S : FnScope N ps (defScope st)) (len : ∀ vs H Q E, sp vs H Q E → vs.length = ps.length)
    (hbody : ∀ (cdv : Value) (A : Around) (outer : List Env) (s : Shared) (H : Hp) (vs : List V) (Q : VK) (E : XK), A.guards = some [] → Room k (A.deeper (envOfC x (defScope st) s.heap.objs.size f cdv)) → sp vs H Q E →
      ∃ t, PSs (cxOf CX0 P w K mg base N x (defScope st) f cdv A outer s H E).nox (defBody st) t ∧ t { nx := fun _ H' => Q .non H', rt := Q } (start N vs) H) : Dg P w K mg base (k + 1) x f ps sp := by
  obtain ⟨fd, F, b⟩ := T.fn
  exact ⟨⟨fd, fnG_ok F S len hbody, b⟩, T.at_, F.kp⟩
section
variable {X : Cx} {k : Nat} {x : Str} {f : Addr} {fd : FuncData} {ps : List Str} {sp : Sp} {e : Expr} {es : List Expr} {t : TA} {p pos : Pos}
theorem run_fnG {pins : List (Addr × Obj)} {σ : L2.St} {H : Hp} {s : Shared} {Q : VK} {us : List Value} {vs : List V} (F : FnG X.prog X.w X.K X.mg X.base k f fd ps sp) (hg : X.A.guards = some []) (hr : Room k X.A) (hb : Binds X.K fd ps []) (I : Inv X pins σ H s) (r : Vals vs us) (h : sp vs H Q E0) :
    wpAny (model X.prog X.w) X.A (call (.ref f) us) (EP X pins σ Q) X.xe s := by
  have ln : us.length = ps.length := r.length.symm.trans (F.len _ _ _ _ h)
  have bd := hb s us I.kIn (by rw [List.append_nil]; exact ln)
  rw [List.append_nil] at bd
  refine wpAny_call (codeAny_mono (F.run X.A X.stack s H ⟨us, []⟩ us vs Q E0 hg hr I.env0 bd r h) fun z s' hq => ?_)
  rcases z with z | u | _ | _ | _ <;> first | exact I.after hq | exact pass0 pins σ H s z s' I hq | exact hq.elim
theorem pe_dg (D : Dg X.prog X.w X.K X.mg X.base k x f ps sp) (hg : X.A.guards = some []) (hr : Room k X.A) (ha : PA X (e :: es) t) (hgl : Gl X x := by rfl) (hd : (x == ("__debug__" : Str)) = false := by decide)
    (he : starEach (e :: es) X.env = (false, eval e X.env) :: starEach es X.env := by rfl) (hpl : (backTo pos (starEach es X.env)).any (·.1) = false := by rfl) : PE X (.Call (.Name x p) (e :: es) [] pos) (tCall sp [] E0 t) := by
  obtain ⟨fd, F, b⟩ := D.fn
  refine ⟨fun pins s σ H Q I h => wpAny_Call_Name_kw (ld_glob I hgl D.at_ ?_ hd)⟩
  refine PySem.W.callWith_K (h₀ := X.base) I.ok.mod.kin D.kp (thn (ha.run pos pins s σ H _ I h) fun us s1 ⟨vs, H1, I1, r, q⟩ => ⟨I1.kIn, run_fnG F hg hr b I1 r ?_⟩) he hpl
  have q2 : sp (vs ++ []) H1 Q E0 := q
  rw [List.append_nil] at q2
  exact q2
/-! ### repr of lists and tuples -/
def cRepr (K : PySem.W.Frag) : List V → Hp → VK → Prop := fun xs H Q => ∃ a d, xs = [.ref a] ∧ Dp K H (.ref a) d ∧ d.showable = true ∧ d.hasDict = false ∧ d.depth ≤ 60 ∧ d.shown.length ≤ sizeLine ∧ Q (.str d.shown) H
theorem call_reprA (hg : X.A.guards = some []) (hu : X.A.units + 64 < cLine) : CallR X (.builtin "repr") (cRepr X.K) := by
  intro pins s σ H xs us Q I r h
  obtain ⟨a, d, rfl, hD, hs, hn, hp, hz, q⟩ := h
  obtain ⟨u, rfl, r1⟩ := vals1 r
  cases r1
  obtain ⟨as, rd⟩ := Dp.reads I d _ _ hD rfl
  exact repr_of_reads' rd hs (fun z => by rw [hn] at z; cases z) hg (by omega) (fun _ _ e => e) (fun h' u tk hk => ⟨.str d.shown, H, I.kept hk, ⟨u, rfl⟩, q⟩) hz
end
/-! ### the law itself: it is called where no guard stands -/
section
variable {P : Program} {w : World} {K : PySem.W.Frag} {mg mb : Str → Option Value} {k : Nat} {fa a : Addr} {fd : FuncData} {x : Str} {sp : Sp} {s1 : Shared} {vs : List Value} {ns : List Int}
/-- from a heap in which the script alone may be tracked -/
theorem law_from (KX : K.In s1.heap) (hns : s1.heap.Ns mainGlobals mg) (hb : s1.heap.Ns builtinsNs mb) (hbb : ∀ x : Str, x ≠ "__name__" → mb x = bootBuiltins x) (hlim : s1.heap.NoLimit) (hg : s1.gens = #[])
    (ha : s1.heap.get? a = some { cls := .type "list", data := .seq vs.toArray }) (hr : Room k callerA) (F : ∀ base : Heap, K.In base → base.Ns mainGlobals mg → FnG P w K mg base k fa fd [x] sp) (hbind : ∀ (s : Shared) (u : Value), BindsTo s fd ⟨[u], []⟩ [(x, u)])
    (H : Hp) (hO : Only H) (hq : sp [.ref a] H (fun v _ => v = .bl true) E0) (hok : HOk P w H s1.heap) (hA : ∀ b, H b ≠ none → b = a) (hK : H a ≠ none → K.lookup a = none) :
    codeAny (model P w) callerA (.call (.ref fa) ⟨[.ref a], []⟩) (fun r s' => r = .ok (.ret (.bool true)) ∧ OldK s1.heap s'.heap ∧ s'.os = s1.os ∧ AllBare s'.gens) s1 := by
  have free : ∀ b, b ≠ a → H b = none := fun b nb => by
    cases q : H b with
    | none => rfl
    | some u => exact absurd (hA b (by rw [q]; nofun)) nb
  have dictFree : ∀ {b : Addr} {m : Str → Option Value}, s1.heap.Ns b m → (hidT s1.heap H).Ns b m := by
    rintro b m ⟨o, es, ep, e, d, r⟩
    refine ⟨o, es, ep, hidT_get e (free b ?_), d, r⟩
    rintro rfl
    rw [ha] at e
    cases e
    cases d
  have hKb : K.In (hidT s1.heap H) := fun b o e => hidT_get (KX b o e) (by
    cases q : H b with
    | none => rfl
    | some u =>
      cases hA b (by rw [q]; nofun)
      rw [hK (by rw [q]; nofun)] at e
      cases e)
  obtain ⟨mc, lim1, lim2⟩ := hlim
  have hM : Mod K mg (hidT s1.heap H) := ⟨hKb, dictFree hns, ⟨mb, dictFree hb, hbb⟩, ⟨mc, dictFree lim1, lim2⟩⟩
  have e0 : Env0 P w K mg (hidT s1.heap H) callerA [] s1 H := ⟨rfl, hM, fun b o e => of_hidT e, Nat.le_of_eq (hidT_size _ _), trivial, fun b hb => (List.not_mem_nil (show b ∈ ([] : List Addr) from hb)).elim, hok, .of_eq hg⟩
  refine codeAny_mono ((F _ hKb (dictFree hns)).run callerA [] s1 H ⟨[.ref a], []⟩ [.ref a] [.ref a] _ _ rfl hr e0 (hbind s1 (.ref a)) (.cons rfl .nil) hq) fun r s' h => ?_
  cases r with
  | error e => exact False.elim h
  | ok fl => cases fl with
    | ret u =>
      obtain ⟨v, H', os, bare, un, hok', r', q'⟩ := h
      cases (show v = .bl true from q')
      cases (show u = Value.bool true from r')
      refine ⟨rfl, OldK.of_keep fun b o e => ?_, os, bare⟩
      rcases hO b with z | ⟨ob, xs, z⟩
      · exact un.keep b o e z (fun q => (List.not_mem_nil (show b ∈ ([] : List Addr) from q)).elim) (by simp)
      · obtain ⟨e1, _⟩ := hok b _ z
        obtain ⟨e2, _⟩ := hok' b _ (un.frzs b ob _ z)
        rw [e] at e1
        cases e1
        exact e2
    | _ => exact False.elim h
theorem law_callG (KX : K.In s1.heap) (hns : s1.heap.Ns mainGlobals mg) (hb : s1.heap.Ns builtinsNs mb) (hbb : ∀ x : Str, x ≠ "__name__" → mb x = bootBuiltins x) (hlim : s1.heap.NoLimit) (hg : s1.gens = #[])
    (ha : s1.heap.get? a = some { cls := .type "list", data := .seq vs.toArray }) (hi : IntsAre vs ns) (hl : ns.length ≤ sizeLine) (hr : Room k callerA) (F : ∀ base : Heap, K.In base → base.Ns mainGlobals mg → FnG P w K mg base k fa fd [x] sp)
    (hbind : ∀ (s : Shared) (u : Value), BindsTo s fd ⟨[u], []⟩ [(x, u)]) (hsp : ∀ H : Hp, Only H → SqL K H a (ns.map V.int) → sp [.ref a] H (fun v _ => v = .bl true) E0) :
    codeAny (model P w) callerA (.call (.ref fa) ⟨[.ref a], []⟩) (fun r s' => r = .ok (.ret (.bool true)) ∧ OldK s1.heap s'.heap ∧ s'.os = s1.os ∧ AllBare s'.gens) s1 := by
  have core := law_from (P := P) (w := w) (sp := sp) KX hns hb hbb hlim hg ha hr F hbind
  have lenV := hi.length
  have rv := vals_ints hi
  cases hk : K.lookup a with
  | some o =>
    have e := ha.symm.trans (KX a o hk)
    cases e
    have hO : Only (fun _ => none) := fun _ => .inl rfl
    exact core _ hO (hsp _ hO (.inr ⟨_, vs.toArray, _, hk, rfl, rfl, rfl, by rw [List.size_toArray, lenV]; exact hl, by simpa using rv⟩)) (fun b u z => nomatch (show (none : Option HO) = some u from z)) (fun b z => absurd rfl z) (fun z => absurd rfl z)
  | none =>
    have at_ : (fun b => if b = a then some (HO.frz { cls := .type "list", data := .seq vs.toArray } (.lst (ns.map V.int))) else none : Hp) a = some (HO.frz { cls := .type "list", data := .seq vs.toArray } (.lst (ns.map V.int))) := if_pos rfl
    have off : ∀ b, b ≠ a → (fun b => if b = a then some (HO.frz { cls := .type "list", data := .seq vs.toArray } (.lst (ns.map V.int))) else none : Hp) b = none := fun b nb => if_neg nb
    generalize (fun b => if b = a then some (HO.frz { cls := .type "list", data := .seq vs.toArray } (.lst (ns.map V.int))) else none : Hp) = H at at_ off
    have hO : Only H := fun b => (Decidable.em (b = a)).elim (fun e => .inr ⟨_, _, e ▸ at_⟩) fun e => .inl (off b e)
    refine core H hO (hsp H hO (.inl (.inr ⟨_, at_⟩))) (fun b u z => ?_) (fun b z => Decidable.byContradiction fun e => z (off b e)) fun _ => hk
    obtain rfl : b = a := Decidable.byContradiction fun e => nomatch (off b e).symm.trans z
    cases at_.symm.trans z
    exact ⟨ha, by rw [List.length_map]; exact hl, vs, _, rv, ha⟩
end
theorem walk_G {l : PySem.W.OpenLaw} {n k : Nat} {q : Program} {loose : List Str} {XP : (Str → Option Value) → Heap → Prop} {YP : World → Heap → Prop} {d : DefRec} {K : Params → PySem.W.Frag} {sp : World → Sp} {x : Str} (hn : l.most = some n) (hn2 : n ≤ sizeLine) (hdf : d.params.defaults = []) (hr : Room k callerA)
    (hY : ∀ (w : World) (h : Heap), YP w h → (K w.params).In h) (F : ∀ (w : World) (mg : Str → Option Value) (fa : Addr) (h : Heap), (K w.params).In h → h.Ns mainGlobals mg → mg d.name = some (.ref fa) →
      ∃ fd : FuncData, (∀ (s : Shared) (u : Value), BindsTo s fd ⟨[u], []⟩ [(x, u)]) ∧ ∀ base : Heap, (K w.params).In base → base.Ns mainGlobals mg → FnG l.prog w (K w.params) mg base k fa fd [x] (sp w))
    (hsp : ∀ (w : World) (H : Hp) (a : Addr) (ns : List Int), ns.length ≤ n → (∀ z ∈ ns, Builtin.Int.intBits z ≤ 1048576) → Only H → SqL (K w.params) H a (ns.map V.int) → sp w [.ref a] H (fun v _ => v = .bl true) E0) : PySem.W.WalkO q loose XP YP l.row.toRowW d [] (fun f vs => PySem.call f vs) := by
  refine Att.attach_callB hn hdf fun w s0 s1 mg mb fa o pm cd doc a vs ns G Y ho hd hcd hmg hobj hints hlen hbits hg => ?_
  obtain ⟨fd, hb, hF⟩ := F w mg fa _ (hY w _ Y) G.T.g hmg
  exact law_callG (hY w _ Y) G.T.g G.T.b G.T.builtins G.T.nolimit hg hobj hints (Nat.le_trans hlen hn2) hr hF hb fun H hO hS => hsp w H a ns hlen hbits hO hS
end Kt

set_option Elab.async false
set_option linter.all false
set_option maxRecDepth 100000
namespace Kt
open PySem PySem.Spec L2 PyProof.Rows
/-! ### instances of a class without an own __eq__: == is being the same -/
section
variable {M : Model} {prog : Program} {w : World} {A : Around} {E : Value → Shared → Prop} {s : Shared} {K : PySem.W.Frag} {x y C dx dy : Addr} {od od2 : Option Obj}
theorem isSame_inst {R : Bool → Shared → Prop} (hx : s.heap.get? x = some (PySem.W.instObj C dx)) (hy : s.heap.get? y = some (PySem.W.instObj C dy)) (h : R (decide (x = y)) s) : wpAny M A (isSame (.ref x) (.ref y)) R E s := by
  unfold isSame
  by_cases e : x = y
  · subst e
    rw [decide_eq_true rfl] at h
    refine wpAny_ite_split (fun _ => wpAny_pure h) (fun q => absurd (beq_self_eq_true x) (by simpa using q))
  · rw [decide_eq_false e] at h
    refine wpAny_ite_split (fun q => absurd (beq_iff_eq.mp q) e) (fun _ => ?_)
    refine wpAny_bind (PySem.W.nd_load hx (wpAny_pure ?_))
    refine wpAny_bind (PySem.W.nd_load hy (wpAny_pure ?_))
    exact wpAny_pure h
theorem objEq_inst {Q : Fin → Shared → Prop} (hx : s.heap.get? x = some (PySem.W.instObj C dx)) (hy : s.heap.get? y = some (PySem.W.instObj C dy)) (hq : Q (.done (.ret (if x = y then .bool true else .notImplemented))) s) : wpAny M A (Builtin.«object.__eq__» ⟨[.ref x, .ref y], []⟩) Q E s := by
  unfold Builtin.«object.__eq__»
  repeat (first | with_reducible refine isSame_inst hx hy ?_ | wp_step)
  by_cases e : x = y
  · rw [if_pos e] at hq
    rw [decide_eq_true e]
    exact wpAny_pure hq
  · rw [if_neg e] at hq
    rw [decide_eq_false e]
    exact wpAny_pure hq
theorem try_inst (X : K.In s.heap) (I : PySem.W.InstAt s.heap x (PySem.W.instObj C dx) C od) (hm : PySem.W.mroIn K C (.type "object") = some true) (hs : PySem.W.findIn K (.ref C) "__eq__" = some (some (.builtin "object.__eq__"))) (hy : s.heap.get? y = some (PySem.W.instObj C dy)) :
    wpAny (model prog w) A (tryCompare (.ref x) "__eq__" (.ref y)) (fun r s' => r = (if x = y then some (Value.bool true) else none) ∧ s' = s) E s := by
  unfold tryCompare
  refine wpAny_bind (HN.ifBound_objEq X I hs (wpAny_call (codeAny_call_builtin F.cmp_object.eq.plain F.cmpEntry_eq (PySem.W.check_slot F.cmpKind_eq F.cmpSplit_eq (I.type.andThen (PySem.W.looks_mroIn X hm)) (F.cmpArgs_eq _ _) (objEq_inst I.at_ hy ?_)))))
  by_cases e : x = y
  · rw [if_pos e, if_pos e]
    exact wpAny_pure ⟨rfl, rfl⟩
  · rw [if_neg e, if_neg e]
    exact wpAny_pure ⟨rfl, rfl⟩
theorem rc_inst (hu : A.units < cLine) (X : K.In s.heap) (I : PySem.W.InstAt s.heap x (PySem.W.instObj C dx) C od) (J : PySem.W.InstAt s.heap y (PySem.W.instObj C dy) C od2) (hm : PySem.W.mroIn K C (.type "object") = some true) (hs : PySem.W.findIn K (.ref C) "__eq__" = some (some (.builtin "object.__eq__"))) {Q : Value → Shared → Prop}
    (h : Q (.bool (decide (x = y))) s) : wpAny (model prog w) A (richCompare .Eq (.ref x) (.ref y)) Q E s := by
  simp only [richCompare, cmpInfo_Eq, oneThing_ref]
  refine wpAny_holding (wpAny_bind (wpAny_cRoomFor hu ?_))
  refine wpAny_bind (I.type.here (wpAny_bind (J.type.here ?_)))
  rw [if_neg (by simp)]
  refine wpAny_bind (wpAny_pure ?_)
  simp only [Bool.false_eq_true, if_false, Bool.not_false, if_true]
  refine wpAny_bind (m := tryCompare (.ref x) _ (.ref y)) (wpAny_mono (try_inst X I hm hs J.at_) (fun r s1 z => ?_) fun _ _ e => e)
  obtain ⟨z1, z2⟩ := z
  subst z2
  by_cases e : x = y
  · rw [if_pos e] at z1
    subst z1
    rw [decide_eq_true e] at h
    exact wpAny_pure h
  · rw [if_neg e] at z1
    subst z1
    refine wpAny_bind (m := tryCompare (.ref y) _ (.ref x)) (wpAny_mono (try_inst X J hm hs I.at_) (fun r s2 z => ?_) fun _ _ e => e)
    obtain ⟨z1, z2⟩ := z
    subst z2
    rw [if_neg (fun q => e q.symm)] at z1
    subst z1
    exact wpAny_bind (wpAny_rule (wpAny_bind (isSame_inst I.at_ J.at_ (wpAny_pure h))))
end
def rEqIns (K : PySem.W.Frag) : R2 := fun x y H Q => ∃ a b C dx fs dy gs, x = .ref a ∧ y = .ref b ∧ H a = some (.ins C dx fs) ∧ H b = some (.ins C dy gs) ∧ PySem.W.mroIn K C (.type "object") = some true ∧ PySem.W.findIn K (.ref C) "__eq__" = some (some (.builtin "object.__eq__")) ∧ Q (.bl (decide (a = b))) H
theorem op_eqIns {X : Cx} (hu : X.A.units + 64 < cLine) : OpR X (compareOp .Eq) (rEqIns X.K) := by
  intro pins s σ H x y v u Q I rx ry h
  obtain ⟨a, b, C, dx, fs, dy, gs, rfl, rfl, h1, h2, hm, he, q⟩ := h
  cases (show v = Value.ref a from rx)
  cases (show u = Value.ref b from ry)
  obtain ⟨_, O1, _⟩ := ins_get I.hok h1
  obtain ⟨_, O2, _⟩ := ins_get I.hok h2
  obtain ⟨_, J1, _⟩ := O1.look
  obtain ⟨_, J2, _⟩ := O2.look
  exact rc_inst (by omega) I.kIn J1 J2 hm he ⟨.bl _, H, I, rfl, q⟩
end Kt

set_option Elab.async false
set_option linter.all false
set_option maxRecDepth 100000
namespace Kt
open PySem PySem.Spec L2 PyProof.Rows
section
variable {X : Cx} {C : Addr} {k : Nat} {ps : List Str} {sp : Sp}
/-! ### own __getitem__, own __len__ -/
def rIxOwn (C : Addr) (sp : Sp) : R2 := fun x y H Q => ∃ a dx fs, x = .ref a ∧ H a = some (.ins C dx fs) ∧ sp [.ref a, y] H Q E0
theorem pe_ixOwn {a b : Expr} {ta tb : TE} {pos : Pos} (M : Mf X.prog X.w X.K X.mg X.base k C "__getitem__" ps sp) (hfn : ∀ f, PySem.W.findIn X.K (.ref C) "__getitem__" = some (some (.ref f)) → PySem.W.fnIn X.K f = true) (hr : Room (k + 1) X.A) (ha : PE X a ta) (hb : PE X b tb)
    (hs : ∀ o i, subscripted b true o i = runValue (.builtin "lifetime.subscript" ⟨[o, i], []⟩) := by exact fun _ _ => rfl) : PE X (.Subscript a b pos) (tOp (rIxOwn C sp) ta tb) := by
  refine ⟨fun pins s σ H Q I h => Subscript_ (binT ha hb I h fun v u s2 x y H2 I2 rx ry q => ?_)⟩
  obtain ⟨o, dx, fs, rfl, ho, q⟩ := q
  cases (show v = Value.ref o from rx)
  obtain ⟨f, fd, F, b, hm⟩ := M.fn
  obtain ⟨ox, od, J⟩ := ins_at I2 ho
  obtain ⟨m, hF⟩ := I2.fr
  have bd := b s2 [.ref o, u] I2.kIn (by rw [List.append_nil]; exact F.len _ _ _ _ q)
  rw [List.append_nil] at bd
  refine PySem.W.sub_K hF I2.ok.mod.kin J hm.at_ (hfn f hm.at_) hm.fn (wpAny_call (codeAny_mono (F.run X.A.in1 X.stack s2 H2 ⟨[.ref o, u], []⟩ [.ref o, u] [.ref o, y] Q E0 hr.in1 I2.env0.in1 bd (.cons rfl (.cons ry .nil)) q) fun z s' hq => ?_)) (hs _ _)
  cases z with
  | error e => exact pass0 pins σ H2 s2 e s' I2 hq
  | ok fl => cases fl with
    | ret u => exact I2.after hq
    | _ => exact False.elim hq
def cLenOwn (C : Addr) (sp : Sp) : List V → Hp → VK → Prop := fun xs H Q => ∃ a dx fs, xs = [.ref a] ∧ H a = some (.ins C dx fs) ∧ sp [.ref a] H (fun v H' => ∃ n : Nat, v = .int n ∧ (n : Int) < 2 ^ 62 ∧ Q (.int n) H') E0
theorem call_lenOwn (M : Mf X.prog X.w X.K X.mg X.base k C "__len__" ps sp) (hr : Room (k + 1) X.A) : CallR X (.builtin "len") (cLenOwn C sp) := by
  intro pins s σ H xs us Q I r h
  obtain ⟨a, dx, fs, rfl, ha, q⟩ := h
  obtain ⟨u, rfl, r1⟩ := vals1 r
  cases r1
  obtain ⟨f, fd, F, b, hm⟩ := M.fn
  obtain ⟨ox, od, J⟩ := ins_at I ha
  obtain ⟨m, hF⟩ := I.fr
  have bd := b s [.ref a] I.kIn (by rw [List.append_nil]; exact F.len _ _ _ _ q)
  rw [List.append_nil] at bd
  refine PySem.W.len_K hF I.ok.mod.kin J hm.at_ hm.fn (wpAny_call (codeAny_mono (F.run X.A.in1 X.stack s H ⟨[.ref a], []⟩ [.ref a] [.ref a] _ E0 hr.in1 I.env0.in1 bd (.cons rfl .nil) q) fun z s' hq => ?_))
  cases z with
  | error e => exact pass0 pins σ H s e s' I hq
  | ok fl => cases fl with
    | ret u =>
      obtain ⟨v, H', I3, rv, n, rfl, hn, q3⟩ := I.after hq
      obtain ⟨t, rfl⟩ := rv
      exact ⟨⟨by omega, by omega⟩, ⟨.int n, H', I3.tok _, ⟨_, rfl⟩, q3⟩⟩
    | _ => exact False.elim hq
/-! ### len(range(n)) -/
def tLenRng (te : TE) : TE := fun σ H Q => te σ H fun x H1 => ∃ n : Nat, x = .int n ∧ (n : Int) < 2 ^ 62 ∧ Q (.int n) H1
theorem pe_lenRng {e : Expr} {te : TE} {p1 p2 pos pos2 : Pos} (he : PE X e te) (g1 : X.mg "len" = none) (g2 : X.mg "range" = none) (l1 : Gl X "len" := by rfl) (l2 : Gl X "range" := by rfl) (h1 : starEach [e] X.env = [(false, eval e X.env)] := by rfl)
    (h2 : starEach [.Call (.Name "range" p2) [e] [] pos2] X.env = (false, eval (.Call (.Name "range" p2) [e] [] pos2) X.env) :: starEach [] X.env := by rfl) (h3 : (backTo pos (starEach [] X.env)).any (·.1) = false := by rfl) :
    PE X (.Call (.Name "len" p1) [.Call (.Name "range" p2) [e] [] pos2] [] pos) (tLenRng te) := by
  refine ⟨fun pins s σ H Q I h => wpAny_Call_Name_kw (ld_blt I l1 g1 PySem.boot_len (callWith_builtin1 ?_ h2 h3))⟩
  rw [h2]
  refine Calls.spliced_cons ?_
  refine Call_ (ld_blt I l2 g2 boot_range (PyProof.Rows.callWith_type1 (e := e) (rest := []) ?_ h1 rfl))
  rw [h1]
  refine Calls.spliced_cons (thn (he.run pins s σ H _ I h) fun u s1 ⟨x, H1, I1, r1, n, e1, hn, q⟩ => ?_)
  subst e1
  obtain ⟨t, rfl⟩ := r1
  refine Calls.spliced_nil (call_range_1 ?_)
  refine Calls.spliced_nil (call_len_range (n := n) (Heap.get?_push_size _ rfl) ?_ (by omega) ⟨.int n, H1, I1.kept fun b o z => Heap.get?_push_of_some _ z, ⟨_, rfl⟩, q⟩)
  rw [rangeSize_one]
  split <;> omega
theorem r_lenRng {σ : L2.St} {H : Hp} {Q : VK} {te : TE} (h : te σ H fun x H1 => ∃ n : Nat, x = .int n ∧ (n : Int) < 2 ^ 62 ∧ Q (.int n) H1) : tLenRng te σ H Q := h
end
end Kt

set_option Elab.async false
set_option linter.all false
set_option maxRecDepth 100000
namespace Kt
open PySem L2 PyProof.Rows
/-! ### data that may be shown: its texts are short -/
structure Sh (k W : Nat) (d : PyData) : Prop where
  ok : Okd k d
  sh : d.showable = true
  sm : d.leavesShort 64 = true
  wt : d.weight ≤ W
theorem Sh.nd {k W : Nat} {d : PyData} (h : Sh k W d) : d.hasDict = false := PyData.hasDict_of_canLay d h.ok.1
theorem Sh.fits {k W : Nat} {d : PyData} (h : Sh k W d) (hW : W ≤ 200000) : d.shown.length ≤ sizeLine := by
  have h1 := PyData.shown_le 64 (by decide) d h.sm
  have h2 : (64 + 2) * d.weight ≤ 66 * 200000 := Nat.mul_le_mul (by omega) (Nat.le_trans h.wt hW)
  have e : sizeLine = 16777216 := by decide
  omega
theorem Sh.up {k k' W W' : Nat} {d : PyData} (h : Sh k W d) (hk : k ≤ k') (hW : W ≤ W') : Sh k' W' d := ⟨⟨h.ok.1, Nat.le_trans h.ok.2 hk⟩, h.sh, h.sm, Nat.le_trans h.wt hW⟩
theorem sh_int {k : Nat} {i : Int} (h : i.natAbs < 10 ^ 60) : Sh k 200 (.int i) := by
  refine ⟨okd_int i, ?_, ?_, ?_⟩
  · rw [PyData.showable]
    refine decide_eq_true ?_
    have h2 : i.natAbs < 2 ^ 200 := Nat.lt_trans h (by decide)
    by_cases h0 : i.natAbs = 0
    · rw [h0]; decide
    · exact Nat.lt_trans ((Nat.log2_lt h0).mpr h2) (by decide)
  · rw [PyData.leavesShort]
    refine decide_eq_true ?_
    have e := int_text_length_le10 (k := 60) (by decide) h
    show (Str.ofString (toString i)).length ≤ 64
    rw [PySem.ofString_length]
    omega
  · rw [PyData.weight]
    have h2 : i.natAbs < 2 ^ 200 := Nat.lt_trans h (by decide)
    by_cases h0 : i.natAbs = 0
    · rw [h0]
      split
      · decide
      · decide
    · have := (Nat.log2_lt h0).mpr h2
      split
      · decide
      · omega
theorem sh_non {k : Nat} : Sh k 0 .none := ⟨okd_non, rfl, rfl, Nat.le_refl _⟩
theorem sh_bl {k : Nat} (b : Bool) : Sh k 1 (.bool b) := ⟨okd_bl b, rfl, rfl, by cases b <;> decide⟩
theorem sh_all {k W : Nat} : ∀ {ds : List PyData}, (∀ d ∈ ds, Sh k W d) → PyData.showableAll ds = true ∧ PyData.leavesShortAll 64 ds = true ∧ PyData.weightAll ds ≤ ds.length * (W + 1)
  | [], _ => ⟨rfl, rfl, Nat.zero_le _⟩
  | d :: ds, h => by
    obtain ⟨h1, h2, h3⟩ := sh_all (ds := ds) fun x m => h x (List.mem_cons_of_mem _ m)
    have g := h d List.mem_cons_self
    refine ⟨?_, ?_, ?_⟩
    · rw [PyData.showableAll, g.sh, h1]; rfl
    · rw [PyData.leavesShortAll, g.sm, h2]; rfl
    · rw [PyData.weightAll, List.length_cons, Nat.succ_mul]
      have := g.wt
      omega
theorem sh_list {k W : Nat} {ds : List PyData} (h : ∀ d ∈ ds, Sh k W d) : Sh (k + 1) (ds.length * (W + 1)) (.list ds) := by
  obtain ⟨h1, h2, h3⟩ := sh_all h
  exact ⟨okd_list fun d m => (h d m).ok, by rw [PyData.showable]; exact h1, by rw [PyData.leavesShort]; exact h2, by rw [PyData.weight]; exact h3⟩
theorem sh_tuple {k W : Nat} {ds : List PyData} (h : ∀ d ∈ ds, Sh k W d) : Sh (k + 1) (ds.length * (W + 1)) (.tuple ds) := by
  obtain ⟨h1, h2, h3⟩ := sh_all h
  exact ⟨okd_tuple fun d m => (h d m).ok, by rw [PyData.showable]; exact h1, by rw [PyData.leavesShort]; exact h2, by rw [PyData.weight]; exact h3⟩
theorem sh_ints {k : Nat} {ns : List Int} (h : ∀ n ∈ ns, n.natAbs < 10 ^ 60) : Sh (k + 1) (ns.length * 201) (dInts ns) := by
  have := sh_list (k := k) (W := 200) (ds := ns.map PyData.int) fun d m => by
    obtain ⟨i, hi, rfl⟩ := List.mem_map.mp m
    exact sh_int (h i hi)
  rw [List.length_map] at this
  exact this
end Kt

set_option Elab.async false
set_option linter.all false
set_option maxRecDepth 100000
namespace Kt
open PySem PySem.Spec L2 PyProof.Rows
/-! ### own __eq__ by == and by != -/
section
variable {prog : Program} {w : World} {A : Around} {E : Value → Shared → Prop} {s : Shared} {K : PySem.W.Frag} {x y C f : Addr} {ox oy : Obj} {od od2 : Option Obj}
theorem ifBound_ne {M : Model} {args : List Value} {Q : Option Value → Shared → Prop} (X : K.In s.heap) (I : PySem.W.InstAt s.heap x ox C od) (hs : PySem.W.findIn K (.ref C) "__ne__" = some (some (.builtin "object.__ne__")))
    (h : wpAny M A (call (.builtin "object.__ne__") (.ref x :: args)) (fun v => Q (some v)) E s) : wpAny M A (callSpecialIfBound? (.ref x) "__ne__" args) Q E s := by
  simp only [callSpecialIfBound?, bindSpecialIfBound?]
  refine wpAny_holding (wpAny_bind (wpAny_bind (wpAny_bind (I.type.here ((PySem.W.looks_findIn X hs).here ?_)))))
  refine wpAny_bind (wpAny_askSetting (wpAny_ite ?_))
  have fin : wpAny M A (call (.builtin "object.__ne__") ([.ref x] ++ args) >>= fun v => pure (some v)) Q E s := wpAny_bind (wpAny_mono h (fun v s' h' => wpAny_pure h') fun _ _ h' => h')
  split
  · exact wpAny_bind (wpAny_of_eq (F.cmp_object.ne.bind _) (wpAny_pure (by exact fin)))
  · exact wpAny_tryCatch (wpAny_bind (wpAny_of_eq (F.cmp_object.ne.bind _) (wpAny_pure (by exact fin))))
theorem objNe_own {b : Value} {Q : Fin → Shared → Prop} (hu : A.units < cLine) (X : K.In s.heap) (I : PySem.W.InstAt s.heap x ox C od) (hs : PySem.W.findIn K (.ref C) "__eq__" = some (some (.ref f))) (hf : PySem.W.isFn K (.ref f) = true)
    (hcall : wpAny (model prog w) A (call (.ref f) [.ref x, b]) (fun v s' => ∃ k, v = .bool k ∧ Q (.done (.ret (.bool (!k)))) s') E s) : wpAny (model prog w) A (Builtin.«object.__ne__» ⟨[.ref x, b], []⟩) Q E s := by
  unfold Builtin.«object.__ne__»
  repeat (first
    | with_reducible refine wpAny_cRoomFor hu ?_
    | (refine wpAny_bind (m := callSpecialIfBound? (.ref x) (Str.ofString "__eq__") [b])
        (PySem.W.ifBound_K X I hs hf (wpAny_mono hcall (fun r s' hr => by
          obtain ⟨k, rfl, hq⟩ := hr
          repeat (first | exact hq | exact wpAny_pure hq | exact wpAny_truthy_bool hq | (refine wpAny_bind (m := truthy (.bool _)) (wpAny_truthy_bool ?_)) | wp_step)) fun _ _ e => e)))
    | wp_step)
theorem ne_own {b tb : Value} {Q : Value → Shared → Prop} (hu : A.units + 1 < cLine) (X : K.In s.heap) (I : PySem.W.InstAt s.heap x ox C od) (hb : PySem.W.Looks (model prog w) s.heap (typeOf b) tb) (hn : PySem.W.notFirst K C tb = true)
    (hm : PySem.W.mroIn K C (.type "object") = some true) (hne : PySem.W.findIn K (.ref C) "__ne__" = some (some (.builtin "object.__ne__"))) (hs : PySem.W.findIn K (.ref C) "__eq__" = some (some (.ref f))) (hf : PySem.W.isFn K (.ref f) = true)
    (h : wpAny (model prog w) A.in1 (call (.ref f) [.ref x, b]) (fun v s' => ∃ k, v = .bool k ∧ Q (.bool (!k)) s') E s) : wpAny (model prog w) A (richCompare .NotEq (.ref x) b) Q E s := by
  have one : wpAny (model prog w) A (tryCompare (.ref x) "__ne__" b) (fun r s' => ∃ k, r = some (.bool k) ∧ Q (.bool k) s') E s := by
    unfold tryCompare
    refine wpAny_bind (ifBound_ne X I hne (wpAny_call (codeAny_call_builtin F.cmp_object.ne.plain F.cmpEntry_ne (PySem.W.check_slot F.cmpKind_ne F.cmpSplit_ne (I.type.andThen (PySem.W.looks_mroIn X hm)) (F.cmpArgs_ne _ _)
      (objNe_own (A := A.in1) hu X I hs hf (wpAny_mono h (fun v s' hv => ?_) fun _ _ e => e))))))
    obtain ⟨k, rfl, hq⟩ := hv
    exact ⟨k, rfl, wpAny_pure ⟨_, rfl, hq⟩⟩
  unfold richCompare
  simp only [oneThing_ref]
  refine wpAny_holding (wpAny_bind (wpAny_cRoomFor (by omega) ?_))
  rw [cmpInfo_NotEq]
  refine wpAny_bind (I.type.here (wpAny_bind (hb.here ?_)))
  split
  · rename_i q
    have e : PySem.W.subIn K tb (.ref C) = some false := by
      rcases Bool.or_eq_true_iff.mp hn with e | e
      · rw [beq_iff_eq.mp e] at q; simp at q
      · exact beq_iff_eq.mp e
    refine wpAny_bind ((PySem.W.looks_subIn X e).here ?_)
    simp only [Bool.false_eq_true, if_false]
    refine wpAny_bind (wpAny_mono one (fun r s' z => ?_) fun _ _ e => e)
    obtain ⟨v, rfl, hq⟩ := z
    exact wpAny_pure hq
  · refine wpAny_bind (wpAny_pure ?_)
    simp only [Bool.false_eq_true, if_false]
    refine wpAny_bind (wpAny_mono one (fun r s' z => ?_) fun _ _ e => e)
    obtain ⟨v, rfl, hq⟩ := z
    exact wpAny_pure hq
end
section
variable {X : Cx} {C : Addr} {k : Nat} {ps : List Str} {sp : Sp}
def rEqOwn (C : Addr) (sp : Sp) : R2 := fun x y H Q => ∃ a b dx fs dy gs, x = .ref a ∧ y = .ref b ∧ H a = some (.ins C dx fs) ∧ H b = some (.ins C dy gs) ∧ sp [.ref a, .ref b] H (fun v H' => ∃ k, v = .bl k ∧ Q (.bl k) H') E0
def rNeOwn (C : Addr) (sp : Sp) : R2 := fun x y H Q => ∃ a b dx fs dy gs, x = .ref a ∧ y = .ref b ∧ H a = some (.ins C dx fs) ∧ H b = some (.ins C dy gs) ∧ sp [.ref a, .ref b] H (fun v H' => ∃ k, v = .bl k ∧ Q (.bl (!k)) H') E0
theorem op_eqOwn (M : Mf X.prog X.w X.K X.mg X.base k C "__eq__" ps sp) (hr : Room k X.A) : OpR X (compareOp .Eq) (rEqOwn C sp) := by
  intro pins s σ H x y v u Q I rx ry h
  obtain ⟨a, b, dx, fs, dy, gs, rfl, rfl, ha, hb', q⟩ := h
  cases (show v = Value.ref a from rx)
  cases (show u = Value.ref b from ry)
  obtain ⟨f, fd, F, bb, hm⟩ := M.fn
  obtain ⟨ox, od, J⟩ := ins_at I ha
  obtain ⟨ox', od', J'⟩ := ins_at I hb'
  obtain ⟨m, hF⟩ := I.fr
  refine PySem.W.cmp_K (op := .Eq) (tb := .ref C) hr.units0 hF I.ok.mod.kin J J'.type (by simp [PySem.W.notFirst]) hm.at_ hm.fn ?_
  refine wpAny_mono (run_fn (us := [.ref a, .ref b]) (vs := [.ref a, .ref b]) F hr bb .nil pass0 I (.cons rfl (.cons rfl .nil)) (by rw [List.append_nil]; exact q)) (fun z s' hz => ?_) fun _ _ z => z
  obtain ⟨y', H', I', r', k, rfl, q'⟩ := hz
  cases r'
  exact ⟨.bl k, H', I', rfl, q'⟩
theorem op_neOwn (M : Mf X.prog X.w X.K X.mg X.base k C "__eq__" ps sp) (hr : Room (k + 1) X.A) (hmr : PySem.W.mroIn X.K C (.type "object") = some true) (hne : PySem.W.findIn X.K (.ref C) "__ne__" = some (some (.builtin "object.__ne__"))) : OpR X (compareOp .NotEq) (rNeOwn C sp) := by
  intro pins s σ H x y v u Q I rx ry h
  obtain ⟨a, b, dx, fs, dy, gs, rfl, rfl, ha, hb', q⟩ := h
  cases (show v = Value.ref a from rx)
  cases (show u = Value.ref b from ry)
  obtain ⟨f, fd, F, bb, hm⟩ := M.fn
  obtain ⟨ox, od, J⟩ := ins_at I ha
  obtain ⟨ox', od', J'⟩ := ins_at I hb'
  obtain ⟨m, hF⟩ := I.fr
  have bd := bb s [.ref a, .ref b] I.kIn (by rw [List.append_nil]; exact F.len _ _ _ _ q)
  rw [List.append_nil] at bd
  refine ne_own (tb := .ref C) (by have := hr.units; omega) I.kIn J J'.type (by simp [PySem.W.notFirst]) hmr hne hm.at_ hm.fn ?_
  refine wpAny_call (codeAny_mono (F.run X.A.in1 X.stack s H ⟨[.ref a, .ref b], []⟩ [.ref a, .ref b] [.ref a, .ref b] _ E0 hr.in1 I.env0.in1 bd (.cons rfl (.cons rfl .nil)) q) fun z s' hq => ?_)
  cases z with
  | error e => exact pass0 pins σ H s e s' I hq
  | ok fl => cases fl with
    | ret u =>
      obtain ⟨v, H', I3, rv, k, rfl, q3⟩ := I.after hq
      cases rv
      exact ⟨k, rfl, .bl (!k), H', I3, rfl, q3⟩
    | _ => exact False.elim hq
end
end Kt

set_option Elab.async false
set_option linter.all false
set_option maxRecDepth 100000
namespace Kt
open PySem L2 PyProof.Rows
section
variable {K : PySem.W.Frag} {σ : L2.St} {H : Hp} {D : Ends} {Q : VK} {a b : Addr} {xs ys : List V} {Ps : List SP} {g : TG} {tb : TS} {tr : TA}
def kZip (K : PySem.W.Frag) (R : It → Hp → Prop) : List V → Hp → Prop := fun vs H1 => ∃ a b xs ys, vs = [.ref a, .ref b] ∧ SqL K H1 a xs ∧ SqL K H1 b ys ∧ R (Itz K a b) H1
theorem r_izip {R : It → Hp → Prop} (h : tr σ H (kZip K R)) : iZip K tr σ H R := h
theorem r_for_zip (J : LW) (hlen : xs.length = ys.length) (S : Sep Ps H) (h0 : J 0 σ Ps) (hl : ∀ i σ Ps H, J i σ Ps → Sep Ps H → SqL K H a xs ∧ SqL K H b ys)
    (hs : ∀ i x y T σ Ps H, xs[i]? = some x → ys[i]? = some y → J i σ Ps → Sep (pt T (.tup [x, y]) :: Ps) H → g (.ref T) σ H fun σ2 H2 => tb { D with nx := Nx J (i + 1), ct := Nx J (i + 1), bk := D.nx } σ2 H2) (hd : ∀ σ Ps H, J xs.length σ Ps → Sep Ps H → D.nx σ H) :
    kZip K (fun Jt H1 => ForW Jt g tb D σ H1) [.ref a, .ref b] H :=
  ⟨a, b, xs, ys, rfl, (hl 0 σ Ps H h0 S).1, (hl 0 σ Ps H h0 S).2, RZ.for_zipL (K := K) (a := a) (b := b) hlen (Nx J) ⟨Ps, h0, S⟩ (fun i σ H ⟨Ps, j, S⟩ => hl i σ Ps H j S) (fun i x y T σ H hx hy ⟨Ps, j, S⟩ hT => hs i x y T σ Ps _ hx hy j (S.new _ hT)) fun σ H ⟨Ps, j, S⟩ => hd σ Ps H j S⟩
end
theorem pi_zipK {X : Cx} (K : PySem.W.Frag) {e e2 : Expr} {ta : TA} {p pos tpos : Pos} {elts : List Expr} {kk : Nat} (hg : Gl X "zip") (hm : X.mg "zip" = none) (ha : PA X [e, e2] ta) (hK : X.K = K := by rfl)
    (hs : starEach [e, e2] X.env = (false, eval e X.env) :: starEach [e2] X.env := by rfl) (hpl : (backTo pos (starEach [e2] X.env)).any (·.1) = false := by rfl) :
    PI X (.Tuple elts kk tpos) (.Call (.Name "zip" p) [e, e2] [] pos) (iZip K ta) := hK ▸ pi_zip hg hm ha hs hpl
section
variable {K : PySem.W.Frag} {σ : L2.St} {H : Hp} {D : Ends} {Q : VK} {a b : Addr} {xs ys : List V} {Ps : List SP} {g : TG} {tb : TS} {tr : TA}
theorem eqvAll_ints : ∀ a b : List Int, PyData.eqvAll (a.map PyData.int) (b.map PyData.int) = decide (a = b)
  | [], [] => by simp [PyData.eqvAll]
  | [], y :: b => by simp [PyData.eqvAll]
  | x :: a, [] => by simp [PyData.eqvAll]
  | x :: a, y :: b => by
    simp only [List.map_cons, PyData.eqvAll, eqvAll_ints a b, PyData.eqv]
    by_cases h : x = y
    · subst h
      simp
    · simp [h]
theorem eqv_ints (a b : List Int) : PyData.eqv (dInts a) (dInts b) = decide (a = b) := by
  unfold dInts
  rw [PyData.eqv]
  exact eqvAll_ints a b
theorem r_eq_ints {p q : Addr} {m1 m2 : List Int} (s1 : SqL K H p (m1.map V.int)) (s2 : SqL K H q (m2.map V.int)) (h : Q (.bl (decide (m1 = m2))) H) : rEqA K (.ref p) (.ref q) H Q :=
  .inr ⟨_, _, dp_ints s1, dp_ints s2, (okd_ints 0 _).shaped (by decide), (okd_ints 0 _).shaped (by decide), by rw [eqv_ints]; exact h⟩
theorem r_ne_ints {p q : Addr} {m1 m2 : List Int} (s1 : SqL K H p (m1.map V.int)) (s2 : SqL K H q (m2.map V.int)) (h : Q (.bl (!decide (m1 = m2))) H) : rNeA K (.ref p) (.ref q) H Q :=
  .inr ⟨_, _, dp_ints s1, dp_ints s2, (okd_ints 0 _).shaped (by decide), (okd_ints 0 _).shaped (by decide), by rw [eqv_ints]; exact h⟩
theorem r_par3 {i j l : Nat} (h : tr σ H fun vs H1 => ∃ u v w, vs = [u, v, w] ∧ D.nx (((σ.set i (some u)).set j (some v)).set l (some w)) H1) : tPar3 i j l tr D σ H := h
theorem r_parA3 {i j l : Nat} {x y z : V} {p : L2.St → Hp → Prop} (h : p (((σ.set i (some x)).set j (some y)).set l (some z)) H) : ∃ u v w, [x, y, z] = [u, v, w] ∧ p (((σ.set i (some u)).set j (some v)).set l (some w)) H := ⟨x, y, z, rfl, h⟩
def kRng2 (R : It → Hp → Prop) : List V → Hp → Prop := fun vs H1 => ∃ i j : Int, vs = [.int i, .int j] ∧ (-(2 ^ 62) ≤ i ∧ i < 2 ^ 62 ∧ -(2 ^ 62) ≤ j ∧ j < 2 ^ 62) ∧ R (Itr i (j - i).toNat) H1
theorem r_irng2 {R : It → Hp → Prop} (h : tr σ H (kRng2 R)) : iRng2 tr σ H R := h
theorem r_rep {n : Int} (S : Sep Ps H) (s : H a = some (.lst xs)) (h1 : 0 ≤ n) (h2 : n ≤ 1000) (hz : xs.length ≤ 1000) (h : ∀ p H', Sep (pt p (.lst (List.replicate n.toNat xs).flatten) :: Ps) H' → Q (.ref p) H') : rMulA (.ref a) (.int n) H Q :=
  .inr ⟨a, n, xs, rfl, rfl, s, by omega, by omega, Nat.le_trans (Nat.mul_le_mul hz (show n.toNat ≤ 1000 by omega)) (by decide), fun p np => h p _ (S.new _ np)⟩
theorem r_lc_itr {lo : Int} {n : Nat} {tt : TT} {te : TE} {vs : List Nat} (J : CW) (S : Sep Ps H) (h0 : J 0 [] Ps)
    (hs : ∀ D (i : Nat) acc Ps H, i < n → J i acc Ps → Sep (pt D (.lst acc) :: Ps) H → g (.int (lo + (i : Int))) (wipe σ vs) H fun σ2 H2 => wipe σ2 vs = wipe σ vs ∧ tt σ2 H2 fun b H3 =>
      if b = true then te σ2 H3 fun y H4 => ∃ acc, H4 D = some (.lst acc) ∧ acc.length < sizeLine ∧ CN J D (i + 1) (upd H4 D (.lst (acc ++ [y]))) else CN J D (i + 1) H3)
    (hd : ∀ D acc Ps H, J n acc Ps → Sep (pt D (.lst acc) :: Ps) H → Q (.ref D) H) : LcW (Itr lo n) g tt te vs Q σ H :=
  fun D nD => lc_range (CN J D) ⟨[], Ps, h0, S.new _ nD⟩ (fun i H hi ⟨acc, Ps, j, S⟩ => hs D i acc Ps H hi j S) fun H ⟨acc, Ps, j, S⟩ => hd D acc Ps H j S
theorem q_neB {x y : Bool} (h : Q (.bl (x != y)) H) : rNeA K (.bl x) (.bl y) H Q := .inl ⟨rfl, by
  have e : (!decide (V.bl x = V.bl y)) = (x != y) := by cases x <;> cases y <;> rfl
  rw [e]
  exact h⟩
theorem q_eqB {x y : Bool} (h : Q (.bl (x == y)) H) : rEqA K (.bl x) (.bl y) H Q := .inl ⟨rfl, by
  have e : decide (V.bl x = V.bl y) = (x == y) := by cases x <;> cases y <;> rfl
  rw [e]
  exact h⟩
end
end Kt

set_option Elab.async false
set_option linter.all false
set_option maxRecDepth 100000
namespace Kt
open PySem L2 PyProof.Rows
/-! ### data as parts of the heap -/
section
variable {K : PySem.W.Frag}
theorem Rd.le {G H : Hp} (l : Le G H) {a : Addr} {o : HO} (h : Rd G a o) : Rd H a o := by
  rcases h with h | ⟨ob, h⟩
  · exact .inl (l _ _ h)
  · exact .inr ⟨ob, l _ _ h⟩
theorem SqL.le {G H : Hp} (l : Le G H) {a : Addr} {xs : List V} (h : SqL K G a xs) : SqL K H a xs := h.imp (Rd.le l) id
theorem SqT.le {G H : Hp} (l : Le G H) {a : Addr} {xs : List V} (h : SqT K G a xs) : SqT K H a xs := h.imp (Rd.le l) id
mutual
theorem Dp.le {G H : Hp} (l : Le G H) : ∀ (d : PyData) (v : V), Dp K G v d → Dp K H v d
  | .none, _, h => by cases h; exact .non
  | .bool b, _, h => by cases h; exact .bl b
  | .int i, _, h => by cases h; exact .int i
  | .str x, _, h => by cases h; exact .str x
  | .list ds, _, h => by
    cases h with
    | lst s t => exact .lst (SqL.le l s) (DpAll.le l ds _ t)
  | .tuple ds, _, h => by
    cases h with
    | tup s t => exact .tup (SqT.le l s) (DpAll.le l ds _ t)
  | .dict _, _, h => by cases h
theorem DpAll.le {G H : Hp} (l : Le G H) : ∀ (ds : List PyData) (vs : List V), DpAll K G vs ds → DpAll K H vs ds
  | [], _, h => by cases h; exact .nil
  | d :: ds, _, h => by
    cases h with
    | cons h t => exact .cons (Dp.le l d _ h) (DpAll.le l ds _ t)
end
def dat (K : PySem.W.Frag) (p : Addr) (d : PyData) : SP := fun G => Dp K G (.ref p) d
def dall (K : PySem.W.Frag) (vs : List V) (ds : List PyData) : SP := fun G => DpAll K G vs ds
theorem Sep.join {P Q X : SP} {R : List SP} {H : Hp} (f : ∀ G1 G2 G, Le G1 G → Le G2 G → P G1 → Q G2 → X G) (S : Sep (P :: Q :: R) H) : Sep (X :: R) H :=
  (Sep.unflat (As := [P, Q]) S).hd_mono fun G ⟨G1, l1, p, G2, l2, q, _⟩ => f G1 G2 G l1 (fun a o e => (sub_some (l2 a o e)).2) p q
theorem dat_dp {p : Addr} {d : PyData} {R : List SP} {H : Hp} : Sep (dat K p d :: R) H → Dp K H (.ref p) d := fun ⟨_, l, h, _⟩ => Dp.le l d _ h
theorem dat_list {p : Addr} {vs : List V} {ds : List PyData} {R : List SP} {H : Hp} (S : Sep (pt p (.lst vs) :: dall K vs ds :: R) H) : Sep (dat K p (.list ds) :: R) H :=
  Sep.join (fun G1 G2 G l1 l2 h1 h2 => .lst (SqL.of (l1 _ _ h1)) (DpAll.le l2 _ _ h2)) S
theorem dat_flat {p : Addr} {vs : List V} {ds : List PyData} {R : List SP} {H : Hp} (h : ∀ G, DpAll K G vs ds) (S : Sep (pt p (.lst vs) :: R) H) : Sep (dat K p (.list ds) :: R) H :=
  S.hd_mono fun G e => .lst (SqL.of e) (h G)
theorem dall_nil {R : List SP} {H : Hp} (S : Sep R H) : Sep (dall K [] [] :: R) H :=
  ⟨fun _ => none, fun _ _ (e : (none : Option HO) = some _) => (Option.noConfusion rfl (heq_of_eq e)), .nil, S.mono fun a o e => by rw [sub_of rfl]; exact e⟩
theorem dall_flat {vs : List V} {ds : List PyData} {R : List SP} {H : Hp} (h : ∀ G, DpAll K G vs ds) (S : Sep R H) : Sep (dall K vs ds :: R) H :=
  ⟨fun _ => none, fun _ _ (e : (none : Option HO) = some _) => (Option.noConfusion rfl (heq_of_eq e)), h _, S.mono fun a o e => by rw [sub_of rfl]; exact e⟩
theorem dall_add {p : Addr} {d : PyData} {vs : List V} {ds : List PyData} {R : List SP} {H : Hp} (S : Sep (dat K p d :: dall K vs ds :: R) H) : Sep (dall K (vs ++ [.ref p]) (ds ++ [d]) :: R) H :=
  Sep.join (fun G1 G2 G l1 l2 h1 h2 => dpall_app (DpAll.le l2 _ _ h2) (.cons (Dp.le l1 _ _ h1) .nil)) S
theorem dall_cons {p : Addr} {d : PyData} {vs : List V} {ds : List PyData} {R : List SP} {H : Hp} (S : Sep (dat K p d :: dall K vs ds :: R) H) : Sep (dall K (.ref p :: vs) (d :: ds) :: R) H :=
  Sep.join (fun G1 G2 G l1 l2 h1 h2 => .cons (Dp.le l1 _ _ h1) (DpAll.le l2 _ _ h2)) S
theorem dpall_bls {G : Hp} : ∀ bs : List Bool, DpAll K G (bs.map V.bl) (bs.map PyData.bool)
  | [] => .nil
  | b :: bs => .cons (.bl b) (dpall_bls bs)
end
theorem sh_cons {k W W2 : Nat} {d : PyData} {ds : List PyData} (h : Sh k W d) (t : Sh (k + 1) W2 (.list ds)) : Sh (k + 1) (W + 1 + W2) (.list (d :: ds)) := by
  refine ⟨⟨?_, ?_⟩, ?_, ?_, ?_⟩
  · have := t.ok.1
    rw [PyData.canLay0] at this ⊢
    rw [PyData.canLayAll0, h.ok.1, this]; rfl
  · have h1 := t.ok.2
    have h2 := h.ok.2
    rw [PyData.depth] at h1 ⊢
    rw [PyData.depthAll]
    omega
  · have := t.sh
    rw [PyData.showable] at this ⊢
    rw [PyData.showableAll, h.sh, this]; rfl
  · have := t.sm
    rw [PyData.leavesShort] at this ⊢
    rw [PyData.leavesShortAll, h.sm, this]; rfl
  · have h1 := t.wt
    have h2 := h.wt
    rw [PyData.weight] at h1 ⊢
    rw [PyData.weightAll]
    omega
theorem sh_nil {k : Nat} : Sh (k + 1) 0 (.list []) := ⟨⟨rfl, by show PyData.depth (.list []) ≤ _; rw [PyData.depth]; exact Nat.succ_le_succ (Nat.zero_le _)⟩, rfl, rfl, by rw [PyData.weight]; exact Nat.le_refl _⟩
end Kt

set_option Elab.async false
set_option linter.all false
set_option maxRecDepth 100000
namespace Kt
open PySem PySem.Spec L2 PyProof.Rows
/-! ### the type of a value as a part of the heap -/
section
variable {K : PySem.W.Frag} {G H : Hp} {v : V} {t : Value} {T : String} {R : List SP}
theorem ty_mono (l : Le G H) (h : TyX K G v t) : TyX K H v t := by
  cases h with
  | base b =>
    cases b with
    | non => exact .base .non
    | bl x => exact .base (.bl x)
    | int i => exact .base (.int i)
    | str x => exact .base (.str x)
    | flt x => exact .base (.flt x)
    | lst e => exact .base (.lst (l _ _ e))
    | frz e => exact .base (.frz (l _ _ e))
    | tup e => exact .base (.tup (l _ _ e))
    | dK e => exact .base (.dK (l _ _ e))
    | dT e => exact .base (.dT (l _ _ e))
    | ins e cl ha hn htk hm => exact .base (.ins (l _ _ e) cl ha hn htk hm)
  | byt b => exact .byt b
  | set e => exact .set (l _ _ e)
  | kList e c => exact .kList e c
  | kTuple e c => exact .kTuple e c
  | kDict e c => exact .kDict e c
  | fTuple e => exact .fTuple (l _ _ e)
  | fDict e => exact .fDict (l _ _ e)
def tyP (K : PySem.W.Frag) (v : V) (T : String) : SP := fun G => TyX K G v (.type T)
theorem ty_of (S : Sep (tyP K v T :: R) H) : TyX K H v (.type T) := by
  obtain ⟨G, l, h, _⟩ := S
  exact ty_mono l h
theorem ty_nil (S : Sep R H) (h : TyX K (fun _ => none) v (.type T)) : Sep (tyP K v T :: R) H :=
  ⟨fun _ => none, fun _ _ (e : (none : Option HO) = some _) => (Option.noConfusion rfl (heq_of_eq e)), h, Sep.mono (H := H) (fun a o e => by rw [sub_of rfl]; exact e) S⟩
theorem kit_own {C : Addr} (h1 : PySem.W.isClsIn K C = true) (h2 : PySem.W.typeIn K (.ref C) = some (.type "type")) (h3 : PySem.W.subIn K (.type T) (.ref C) = some false) : PySem.W.kitOne K (.type T) (.ref C) = some false := by
  have e : ((Value.type T) == (Value.ref C)) = false := by rfl
  unfold PySem.W.kitOne PySem.W.kitCls
  rw [e, if_neg Bool.false_ne_true]
  show (if _ then _ else _) = _
  rw [h2, show (PySem.W.clsIn K C).isSome = true from h1]
  simpa using h3
theorem kit_base {C : Addr} (h1 : PySem.W.kitMeta T = true) (h3 : PySem.W.mroIn K C (.type T) = some false) : PySem.W.kitOne K (.ref C) (.type T) = some false := by
  have e : ((Value.ref C) == (Value.type T)) = false := by rfl
  unfold PySem.W.kitOne PySem.W.kitCls
  rw [e, if_neg Bool.false_ne_true]
  show (if _ then _ else _) = _
  rw [if_pos h1]
  exact h3
theorem ty_isInt (h : TyX K H v (.type "int")) : ∃ i, v = .int i := by
  generalize e : Value.type "int" = t at h
  cases h with
  | base b =>
    cases b with
    | int i => exact ⟨i, rfl⟩
    | _ => first | (exact absurd e (by simp)) | (cases e)
  | _ => first | (exact absurd e (by simp)) | (cases e)
end
section
variable {X : Cx} {C : Addr} {k : Nat} {ps : List Str} {sp : Sp}
/-! ### x in o by an own __contains__ -/
def rInOwn (C : Addr) (sp : Sp) : R2 := fun x y H Q => ∃ a dx fs, y = .ref a ∧ H a = some (.ins C dx fs) ∧ sp [.ref a, x] H (fun v H' => ∃ k, v = .bl k ∧ Q (.bl k) H') E0
theorem op_inOwn (M : Mf X.prog X.w X.K X.mg X.base k C "__contains__" ps sp) (hr : Room k X.A) : OpR X (compareOp .In) (rInOwn C sp) := by
  intro pins s σ H x y v u Q I rx ry h
  obtain ⟨a, dx, fs, rfl, ha, q⟩ := h
  cases (show u = Value.ref a from ry)
  obtain ⟨f, fd, F, bb, hm⟩ := M.fn
  obtain ⟨ox, od, J⟩ := ins_at I ha
  obtain ⟨m, hF⟩ := I.fr
  refine PySem.W.in_K hF I.ok.mod.kin J hm.at_ hm.fn ?_
  refine wpAny_mono (run_fn (us := [.ref a, v]) (vs := [.ref a, x]) F hr bb .nil pass0 I (.cons rfl (.cons rx .nil)) (by rw [List.append_nil]; exact q)) (fun z s' hz => ?_) fun _ _ z => z
  obtain ⟨y', H', I', r', k, rfl, q'⟩ := hz
  cases r'
  exact wpAny_truthy_bool ⟨.bl k, H', I', rfl, q'⟩
/-! ### an own == with a value of a built-in type -/
def rEqOwnT (K : PySem.W.Frag) (C : Addr) (sp : Sp) : R2 := fun x y H Q => ∃ a dx fs t, x = .ref a ∧ H a = some (.ins C dx fs) ∧ TyX K H y t ∧ PySem.W.notFirst K C t = true ∧ sp [.ref a, y] H (fun v H' => ∃ k, v = .bl k ∧ Q (.bl k) H') E0
def rNeOwnT (K : PySem.W.Frag) (C : Addr) (sp : Sp) : R2 := fun x y H Q => ∃ a dx fs t, x = .ref a ∧ H a = some (.ins C dx fs) ∧ TyX K H y t ∧ PySem.W.notFirst K C t = true ∧ sp [.ref a, y] H (fun v H' => ∃ k, v = .bl k ∧ Q (.bl (!k)) H') E0
theorem op_eqOwnT (M : Mf X.prog X.w X.K X.mg X.base k C "__eq__" ps sp) (hr : Room k X.A) : OpR X (compareOp .Eq) (rEqOwnT X.K C sp) := by
  intro pins s σ H x y v u Q I rx ry h
  obtain ⟨a, dx, fs, t, rfl, ha, ty, hn, q⟩ := h
  cases (show v = Value.ref a from rx)
  obtain ⟨f, fd, F, bb, hm⟩ := M.fn
  obtain ⟨ox, od, J⟩ := ins_at I ha
  obtain ⟨Pz, Z, p, _⟩ := kit_of I ry ty
  obtain ⟨m, hF⟩ := I.fr
  refine PySem.W.cmp_K (op := .Eq) (tb := t) hr.units0 hF I.ok.mod.kin J (Z.ty _ _ I.kIn p) hn hm.at_ hm.fn ?_
  refine wpAny_mono (run_fn (us := [.ref a, u]) (vs := [.ref a, y]) F hr bb .nil pass0 I (.cons rfl (.cons ry .nil)) (by rw [List.append_nil]; exact q)) (fun z s' hz => ?_) fun _ _ z => z
  obtain ⟨y', H', I', r', k, rfl, q'⟩ := hz
  cases r'
  exact ⟨.bl k, H', I', rfl, q'⟩
theorem op_neOwnT (M : Mf X.prog X.w X.K X.mg X.base k C "__eq__" ps sp) (hr : Room (k + 1) X.A) (hmr : PySem.W.mroIn X.K C (.type "object") = some true) (hne : PySem.W.findIn X.K (.ref C) "__ne__" = some (some (.builtin "object.__ne__"))) : OpR X (compareOp .NotEq) (rNeOwnT X.K C sp) := by
  intro pins s σ H x y v u Q I rx ry h
  obtain ⟨a, dx, fs, t, rfl, ha, ty, hn, q⟩ := h
  cases (show v = Value.ref a from rx)
  obtain ⟨f, fd, F, bb, hm⟩ := M.fn
  obtain ⟨ox, od, J⟩ := ins_at I ha
  obtain ⟨Pz, Z, p, _⟩ := kit_of I ry ty
  obtain ⟨m, hF⟩ := I.fr
  have bd := bb s [.ref a, u] I.kIn (by rw [List.append_nil]; exact F.len _ _ _ _ q)
  rw [List.append_nil] at bd
  refine ne_own (tb := t) (by have := hr.units; omega) I.kIn J (Z.ty _ _ I.kIn p) hn hmr hne hm.at_ hm.fn ?_
  refine wpAny_call (codeAny_mono (F.run X.A.in1 X.stack s H ⟨[.ref a, u], []⟩ [.ref a, u] [.ref a, y] _ E0 hr.in1 I.env0.in1 bd (.cons rfl (.cons ry .nil)) q) fun z s' hq => ?_)
  cases z with
  | error e => exact pass0 pins σ H s e s' I hq
  | ok fl => cases fl with
    | ret u =>
      obtain ⟨v, H', I3, rv, k, rfl, q3⟩ := I.after hq
      cases rv
      exact ⟨k, rfl, .bl (!k), H', I3, rfl, q3⟩
    | _ => exact False.elim hq
end
def cTup (K : PySem.W.Frag) : List V → Hp → VK → Prop := fun xs H Q => ∃ p ys, xs = [.ref p] ∧ ((SqL K H p ys ∧ ∀ l, H l = none → Q (.ref l) (upd H l (.tup ys))) ∨ (SqT K H p ys ∧ Q (.ref p) H))
theorem call_tupA {X : Cx} : CallR X (.type "tuple") (cTup X.K) := call_tuple_of
def cStrI : List V → Hp → VK → Prop := fun xs H Q => ∃ i, xs = [.int i] ∧ i.natAbs.log2 < 1920 ∧ Q (.str (toString i)) H
theorem call_strA {X : Cx} : CallR X (.type "str") cStrI := call_str_int
/-! ### repr of a list, a tuple or a truth -/
def cReprB (K : PySem.W.Frag) : List V → Hp → VK → Prop := fun xs H Q => (∃ b : Bool, xs = [.bl b] ∧ Q (.str (if b then "True" else "False")) H) ∨ cRepr K xs H Q
theorem call_reprB {X : Cx} (hg : X.A.guards = some []) (hu : X.A.units + 64 < cLine) : CallR X (.builtin "repr") (cReprB X.K) := by
  intro pins s σ H xs us Q I r h
  rcases h with ⟨b, rfl, q⟩ | h
  · obtain ⟨u, rfl, r1⟩ := vals1 r
    cases r1
    exact PySem.P.repr_of_bool ⟨.str _, H, I.tok _, ⟨_, rfl⟩, q⟩
  · exact call_reprA hg hu pins s σ H xs us Q I r h
theorem pe_revLK {X : Cx} (K : PySem.W.Frag) {e : Expr} {te : TE} {k : Nat} {p1 p2 p3 pos : Pos} (he : PE X e te) (hK : X.K = K := by rfl) : PE X (.Subscript e (.Slice none none (some (.UnaryOp .USub (.Constant (.int 1) k p1) p2)) p3) pos) (tRevL K te) := hK ▸ pe_revL he
theorem big_pick {l : List (Addr × List V)} {p : Addr} {xs : List V} (h : (p, xs) ∈ l) : ∃ l', (∀ {R H}, Sep (big l :: R) H → Sep (pt p (.lst xs) :: big l' :: R) H) ∧ (∀ {R H}, Sep (pt p (.lst xs) :: big l' :: R) H → Sep (big l :: R) H) := by
  obtain ⟨l1, l2, rfl⟩ := List.append_of_mem h
  refine ⟨l1 ++ l2, fun {R H} S => ?_, fun {R H} S => ?_⟩
  · have S := S.flat
    rw [List.map_append, List.map_cons, List.append_assoc, List.cons_append] at S
    have S : Sep (pt p (.lst xs) :: ((l1.map fun p : Addr × List V => pt p.1 (.lst p.2)) ++ ((l2.map fun p : Addr × List V => pt p.1 (.lst p.2)) ++ R))) H := (pick_mid _).go S
    refine Sep.cons_mono (fun _ S => Sep.unflat (As := (l1 ++ l2).map fun p : Addr × List V => pt p.1 (.lst p.2)) ?_) S
    rw [List.map_append, List.append_assoc]
    exact S
  · have S1 : Sep (pt p (.lst xs) :: (((l1 ++ l2).map fun p : Addr × List V => pt p.1 (.lst p.2)) ++ R)) H := S.cons_mono fun _ => Sep.flat
    rw [List.map_append, List.append_assoc] at S1
    have S2 := (pick_mid _).back S1
    refine Sep.unflat (As := (l1 ++ (p, xs) :: l2).map fun p : Addr × List V => pt p.1 (.lst p.2)) ?_
    rw [List.map_append, List.append_assoc]
    exact S2
section
variable {K : PySem.W.Frag} {σ : L2.St} {H : Hp} {Q : VK} {te : TE} {a : Addr} {xs : List V} {Ps : List SP} {n : Int}
def kRevL (K : PySem.W.Frag) (Q : VK) : V → Hp → Prop := fun x H1 => ∃ a xs, x = .ref a ∧ SqL K H1 a xs ∧ ∀ p, H1 p = none → Q (.ref p) (upd H1 p (.lst xs.reverse))
theorem r_revL (h : te σ H (kRevL K Q)) : tRevL K te σ H Q := h
theorem r_revLk (S : Sep Ps H) (s : SqL K H a xs) (h : ∀ p H', Sep (pt p (.lst xs.reverse) :: Ps) H' → Q (.ref p) H') : kRevL K Q (.ref a) H := ⟨a, xs, rfl, s, fun p np => h p _ (S.new _ np)⟩
theorem r_tupOf (S : Sep Ps H) (s : SqL K H a xs) (h : ∀ p H', Sep (pt p (.tup xs) :: Ps) H' → Q (.ref p) H') : cTup K [V.ref a] H Q := ⟨a, xs, rfl, .inl ⟨s, fun p np => h p _ (S.new _ np)⟩⟩
theorem r_strI (hz : n.natAbs.log2 < 1920) (h : Q (.str (toString n)) H) : cStrI [V.int n] H Q := ⟨n, rfl, hz, h⟩
theorem in_ints {i : Int} : ∀ ns : List Int, inV (.int i) (ns.map V.int) = decide (i ∈ ns)
  | [] => rfl
  | n :: ns => by
    have ih := in_ints (i := i) ns
    unfold inV at ih ⊢
    rw [List.map_cons, List.any_cons, ih]
    show ((n == i) || _) = _
    by_cases e : n = i
    · subst e; simp
    · have : (n == i) = false := beq_eq_false_iff_ne.mpr e
      rw [this, Bool.false_or]
      refine decide_eq_decide.mpr ⟨List.mem_cons_of_mem _, fun m => (List.mem_cons.mp m).resolve_left fun q => e q.symm⟩
theorem flat_ints : ∀ ns : List Int, (ns.map V.int).all flatV = true
  | [] => rfl
  | n :: ns => by rw [List.map_cons, List.all_cons, flat_ints ns]; rfl
theorem r_in_ints {i : Int} {ns : List Int} (s : SqL K H a (ns.map V.int)) (h : Q (.bl (decide (i ∈ ns))) H) : rIn K false (.int i) (.ref a) H Q := ⟨a, _, rfl, .inl s, rfl, flat_ints ns, by rw [in_ints]; exact h⟩
end
end Kt

set_option Elab.async false
set_option linter.all false
set_option maxRecDepth 100000
namespace Kt
open PySem PySem.Spec L2 PyProof.Rows
/-! ### what isinstance asks of a def: its __class__ -/
theorem fk_slot : Slot "function" "__getattribute__" "object.__getattribute__" :=
  .of (n := "__getattribute__") (owner := "object") (by rw [typeLookup_type, builtinLookup_eq_fast]; kernel_rfl) (by decide +kernel) (by decide +kernel) (by decide +kernel) (by first | exact .inl (by decide +kernel) | exact .inr (by decide +kernel)) (by rw [isSubtype_type]; kernel_rfl)
theorem fk_look : typeLookup (.type "function") "__class__" = pure (some (.builtin "object.__class__")) := by rw [typeLookup_type, builtinLookup_eq_fast]; kernel_rfl
theorem fk_owner : isSubtype (.type "function") (.type (".".intercalate ("object.__class__".cutAt '.').dropLast)) = pure true := by rw [PySem.F.owner_object_class, isSubtype_type]; kernel_rfl
section
variable {P : Program} {w : World} {A : Around} {E : Value → Shared → Prop} {hp : Heap} {gs : Array GenState} {dr : Drawn} {n : Nat} {os : OsState} {f : Addr} {ob : Obj}
theorem fk_get {R : Result → Shared → Prop} (e1 : hp.get? f = some ob) (e2 : ob.cls = .type "function") (q : R (.ok (.ret (.type "function"))) ⟨hp, gs, dr, n, os⟩) : codeAny (model P w) A (.call (.builtin "getset_descriptor.__get__") ⟨[.builtin "object.__class__", .ref f, .type "function"], []⟩) R ⟨hp, gs, dr, n, os⟩ := by
  have t1 : (⟨hp, gs, dr, n, os⟩ : Shared).TypeIs (.ref f) "function" := ⟨_, e1, e2⟩
  have t2 : (⟨hp, gs, dr, n, os⟩ : Shared).TypeIs (.builtin "object.__class__") "getset_descriptor" := PySem.F.typeOf_object_class
  have t3 := fk_owner
  refine codeAny_call_builtin PySem.F.slot_gs_get.plain PySem.F.entry_gs_get (PySem.F.slot_gs_get.check _ _ _ _ _ _ _ _ t2 (PySem.F.args_gs_get _ _ _) ?_)
  repeat (any_goals (first | assumption | wp_step))
  exact ⟨Code.quiet_builtin _ (by decide +kernel), codeAny_builtin PySem.F.entry_object_class (by repeat (any_goals (first | assumption | wp_step)))⟩
theorem fk_entry {tk : Tok} {Q : Fin → Shared → Prop} (e1 : hp.get? f = some ob) (e2 : ob.cls = .type "function") (q : Q (.done (.ret (.type "function"))) ⟨hp, gs, dr, n, os⟩) : wpAny (model P w) A (Builtin.«object.__getattribute__» ⟨[.ref f, .str "__class__" tk], []⟩) Q E ⟨hp, gs, dr, n, os⟩ := by
  have t1 : (⟨hp, gs, dr, n, os⟩ : Shared).TypeIs (.ref f) "function" := ⟨_, e1, e2⟩
  have t2 : (⟨hp, gs, dr, n, os⟩ : Shared).TypeIs (.builtin "object.__class__") "getset_descriptor" := PySem.F.typeOf_object_class
  have t3 := fk_look
  have t4 := PySem.F.typeOf_object_class
  have t5 := PySem.F.slot_gs_get.lookup
  have t6 := PySem.F.slot_gs_set.lookup
  repeat (any_goals (first | assumption | wp_step))
  refine fk_get e1 e2 ?_
  repeat (any_goals (first | assumption | wp_step))
theorem fk_by {tk : Tok} {Q : Value → Shared → Prop} (e1 : hp.get? f = some ob) (e2 : ob.cls = .type "function") (q : Q (.type "function") ⟨hp, gs, dr, n, os⟩) : wpAny (model P w) A (getAttrBy (.ref f) (.str "__class__" tk) false) Q E ⟨hp, gs, dr, n, os⟩ := by
  have t1 : (⟨hp, gs, dr, n, os⟩ : Shared).TypeIs (.ref f) "function" := ⟨_, e1, e2⟩
  have t2 := fk_slot.lookup
  have t3 := fk_slot.bind (.ref f)
  repeat (any_goals (first | assumption | wp_step))
  refine codeAny_call_builtin fk_slot.plain PySem.F.entry_object_getattribute (fk_slot.check _ _ _ _ _ _ _ _ (show (⟨hp, gs, dr, n, os⟩ : Shared).TypeIs (.ref f) "function" from t1) (PySem.F.args_object_getattribute_2 _ _) (fk_entry e1 e2 ?_))
  repeat (any_goals (first | assumption | wp_step))
theorem fk_attr {Q : Option Value → Shared → Prop} (e1 : hp.get? f = some ob) (e2 : ob.cls = .type "function") (q : Q (some (.type "function")) ⟨hp, gs, dr, n + 1, os⟩) : wpAny (model P w) A (getAttr? (.ref f) "__class__") Q E ⟨hp, gs, dr, n, os⟩ := by
  unfold getAttr? getAttrBy?
  repeat (any_goals (first | assumption | with_reducible apply fk_by e1 e2 | wp_step))
end
theorem kitx_fun {K : PySem.W.Frag} {f : Addr} : PySem.W.KitX K (.ref f) (.type "function") (PySem.W.KitAt f "function") :=
  PySem.W.kitx_of PySem.W.kitAt_ty (fun {_ _ _ _ _ s} p k => by obtain ⟨hp, gs, dr, n, os⟩ := s; obtain ⟨o, e1, e2⟩ := p; exact fk_attr e1 e2 k)
/-- the type of a value, of a def of the text too -/
def TyY (K : PySem.W.Frag) (H : Hp) (x : V) (t : Value) : Prop := TyX K H x t ∨ ∃ f o, x = .ref f ∧ t = .type "function" ∧ K.lookup f = some o ∧ o.cls = .type "function"
def rIsiY (K : PySem.W.Frag) : List V → Hp → VK → Prop := fun xs H Q => ∃ (x c : V) (t u : Value) (b : Bool), xs = [x, c] ∧ ClsV c u ∧ TyY K H x t ∧ PySem.W.kitOne K t u = some b ∧ Q (.bl b) H
theorem call_isiY {X : Cx} : CallR X (.builtin "isinstance") (rIsiY X.K) := by
  intro pins s σ H xs us Q I r h
  obtain ⟨x, c, t, u, b, rfl, hc, ty, e, q⟩ := h
  rcases ty with ty | ⟨f, o, rfl, rfl, hl, ho⟩
  · exact call_isi pins s σ H _ us Q I r ⟨x, c, t, u, b, rfl, hc, ty, e, q⟩
  · cases r with
    | cons rx rr =>
      cases rr with
      | cons rt rr =>
        cases rr
        cases rx
        have ec := hc.eq rt
        subst ec
        exact PySem.W.kia_one kitx_fun I.kIn ⟨o, I.kIn f o hl, ho⟩ e (fun z => nomatch z) fun tk => ⟨.bl b, H, I.tok _, rfl, q⟩
end Kt

set_option Elab.async false
set_option linter.all false
set_option maxRecDepth 100000
namespace Kt
open PySem PySem.Spec L2 PyProof.Rows
/-! ### methods and classes that may let an error out -/
structure MfX (P : Program) (w : World) (K : PySem.W.Frag) (mg : Str → Option Value) (base : Heap) (k : Nat) (C : Addr) (m : Str) (ps : List Str) (sp : Sp) : Prop where
  fn : ∃ f fd, FnOk P w K mg base (L2.CX P w) k f fd ps sp ∧ Binds K fd ps [] ∧ Meth K C m f
  cls : Cls K C
structure DfX (P : Program) (w : World) (K : PySem.W.Frag) (mg : Str → Option Value) (base : Heap) (k : Nat) (x : Str) (f : Addr) (ps : List Str) (sp : Sp) : Prop where
  fn : ∃ fd, FnOk P w K mg base (L2.CX P w) k f fd ps sp ∧ Binds K fd ps []
  at_ : mg x = some (.ref f)
  kp : PySem.W.keepIn K (.ref f) = true
structure CfX (P : Program) (w : World) (K : PySem.W.Frag) (mg : Str → Option Value) (base : Heap) (k : Nat) (x : Str) (C : Addr) (ps : List Str) (sp : Sp) : Prop where
  fn : ∃ f fd, FnOk P w K mg base (L2.CX P w) k f fd ps sp ∧ Binds K fd ps [] ∧ Mk K C f
  at_ : mg x = some (.ref C)
section
variable {P : Program} {w : World} {K : PySem.W.Frag} {mg : Str → Option Value} {base : Heap}
theorem Mt.okX {C : Addr} {x qual : Str} {st : Stmt} {f : Addr} {N ps : List Str} {k : Nat} {sp : Sp} (T : Mt K C x qual st ps f) (c : Cls K C) (S : FnScope N ps (defScope st)) (len : ∀ vs H Q E, sp vs H Q E → vs.length = ps.length)
    (hbody : ∀ (cdv : Value) (A : Around) (outer : List Env) (s : Shared) (H : Hp) (vs : List V) (Q : VK) (E : XK), Room k (A.deeper (envOfC qual (defScope st) s.heap.objs.size f cdv)) → sp vs H Q E →
      ∃ t, PSs (cxOf (L2.CX P w) P w K mg base N qual (defScope st) f cdv A outer s H E) (defBody st) t ∧ t { nx := fun _ H' => Q .non H', rt := Q } (start N vs) H) : MfX P w K mg base (k + 1) C x ps sp := by
  obtain ⟨fd, F, b⟩ := T.fn
  exact ⟨⟨f, fd, F.okX S len hbody, b, T.at_⟩, c⟩
theorem Dt.okX {x : Str} {st : Stmt} {f : Addr} {N ps : List Str} {k : Nat} {sp : Sp} (T : Dt K mg x st ps f) (S : FnScope N ps (defScope st)) (len : ∀ vs H Q E, sp vs H Q E → vs.length = ps.length)
    (hbody : ∀ (cdv : Value) (A : Around) (outer : List Env) (s : Shared) (H : Hp) (vs : List V) (Q : VK) (E : XK), Room k (A.deeper (envOfC x (defScope st) s.heap.objs.size f cdv)) → sp vs H Q E →
      ∃ t, PSs (cxOf (L2.CX P w) P w K mg base N x (defScope st) f cdv A outer s H E) (defBody st) t ∧ t { nx := fun _ H' => Q .non H', rt := Q } (start N vs) H) : DfX P w K mg base (k + 1) x f ps sp := by
  obtain ⟨fd, F, b⟩ := T.fn
  exact ⟨⟨fd, F.okX S len hbody, b⟩, T.at_, F.kp⟩
theorem MfX.cf {C f : Addr} {x : Str} {ps : List Str} {k : Nat} {sp : Sp} (M : MfX P w K mg base k C "__init__" ps sp) (T : Ct K mg x C f) : CfX P w K mg base k x C ps sp := by
  obtain ⟨g, fd, F, b, m⟩ := M.fn
  have e : g = f := by
    have h1 := m.at_
    rw [T.mkr.init] at h1
    cases h1
    rfl
  subst e
  exact ⟨⟨g, fd, F, b, T.mkr⟩, T.at_⟩
end
section
variable {X : Cx} {k : Nat} {f C : Addr} {fd : FuncData} {ps : List Str} {sp : Sp} {E : L2.St → XK} {x m : Str} {p pos apos : Pos} {e o : Expr} {es : List Expr} {to : TE} {t : TA}
/-- C(e, ..) in a try -/
def tMakeS (C : Addr) (sp : Sp) (E : L2.St → XK) (t : TA) : TE := fun σ H Q => t σ H fun vs H1 => ∀ x dx, H1 x = none → H1 dx = none → dx ≠ x → sp (.ref x :: vs) (upd (upd H1 dx (.own x)) x (.ins C dx [])) (fun v H2 => v = .non ∧ Q (.ref x) H2) (E σ)
theorem pe_cfS (M : CfX X.prog X.w X.K X.mg X.base k x C ps sp) (hr : Room (k + 1) X.A) (hx : ∀ σ, PassesAt (L2.CX X.prog X.w) X σ (E σ)) (ha : PA X (e :: es) t) (hg : Gl X x := by rfl) (hd : (x == ("__debug__" : Str)) = false := by decide)
    (he : starEach (e :: es) X.env = (false, eval e X.env) :: starEach es X.env := by rfl) (hpl : (backTo pos (starEach es X.env)).any (·.1) = false := by rfl) : PE X (.Call (.Name x p) (e :: es) [] pos) (tMakeS C sp E t) := by
  obtain ⟨f, fd, F, b, M'⟩ := M.fn
  refine ⟨fun pins s σ H Q I h => ?_⟩
  refine wpAny_Call_Name_kw (ld_glob I hg M.at_ ?_ hd)
  refine PySem.W.callWith_K (h₀ := X.base) I.ok.mod.kin M'.kp (thn (ha.run pos pins s σ H _ I h) fun us s1 ⟨vs, H1, I1, r, q⟩ => ⟨I1.kIn, ?_⟩) he hpl
  have hq := q (s1.heap.objs.size + 1) s1.heap.objs.size (I1.hok.fresh (Nat.le_succ _)) (I1.hok.fresh (Nat.le_refl _)) (Nat.ne_of_lt (Nat.lt_succ_self _))
  have I2 := Inv.made (C := C) I1
  have r2 : Vals (V.ref (s1.heap.objs.size + 1) :: vs) (Value.ref (s1.heap.objs.size + 1) :: us) := .cons rfl r
  have hl : (Value.ref (s1.heap.objs.size + 1) :: us).length = ps.length := r2.length.symm.trans (F.len _ _ _ _ hq)
  have bd := b _ (Value.ref (s1.heap.objs.size + 1) :: us) I2.kIn (by rw [List.append_nil]; exact hl)
  rw [List.append_nil] at bd
  refine wpAny_call (make_map (f := f) I1.kIn M'.makes M'.init (beq_iff_eq.mp M'.fn) (codeAny_mono (F.run _ X.stack _ _ ⟨Value.ref (s1.heap.objs.size + 1) :: us, []⟩ (Value.ref (s1.heap.objs.size + 1) :: us) _ _ (E σ) (hr.make C us []) (I2.env0.make C us []) bd r2 hq) fun z s' hz => ?_))
  cases z with
  | error z => exact hx σ pins _ _ z s' I2 hz
  | ok fl => cases fl with
    | ret u =>
      obtain ⟨v, H', I3, rv, ev, q3⟩ := I2.after hz
      subst ev
      exact ⟨rv, ⟨V.ref (s1.heap.objs.size + 1), H', I3, rfl, q3⟩⟩
    | _ => exact False.elim hz
theorem pe_dfS (D : DfX X.prog X.w X.K X.mg X.base k x f ps sp) (hr : Room k X.A) (hx : ∀ σ, PassesAt (L2.CX X.prog X.w) X σ (E σ)) (ha : PA X (e :: es) t) (hg : Gl X x := by rfl) (hd : (x == ("__debug__" : Str)) = false := by decide)
    (he : starEach (e :: es) X.env = (false, eval e X.env) :: starEach es X.env := by rfl) (hpl : (backTo pos (starEach es X.env)).any (·.1) = false := by rfl) : PE X (.Call (.Name x p) (e :: es) [] pos) (tCallS sp E t) := by
  obtain ⟨fd, F, b⟩ := D.fn
  exact pe_callS F hr hg D.at_ D.kp b hx ha hd he hpl
/-- o.m(e, ..) in a try -/
def tMethE (C : Addr) (m : Str) (sp : Sp) (E : L2.St → XK) (to : TE) (t : TA) : TE := fun σ H Q => to σ H fun x H1 => ∃ a dx fs, x = .ref a ∧ H1 a = some (.ins C dx fs) ∧ fs.lookup m = none ∧ t σ H1 fun vs H2 => sp (x :: vs) H2 Q (E σ)
theorem r_makeS {σ : L2.St} {H : Hp} {Q : VK} (h : t σ H fun vs H1 => ∀ x dx, H1 x = none → H1 dx = none → dx ≠ x → sp (.ref x :: vs) (upd (upd H1 dx (.own x)) x (.ins C dx [])) (fun v H2 => v = .non ∧ Q (.ref x) H2) (E σ)) : tMakeS C sp E t σ H Q := h
end
/-! ### isinstance of the error that a suite holds, which has fields -/
structure ErC (K : PySem.W.Frag) (D : Addr) : Prop where
  cl : (PySem.W.clsIn K D).isSome = true
  ga : PySem.W.findIn K (.ref D) "__getattribute__" = some (some (.builtin "BaseException.__getattribute__"))
  gt : PySem.W.findIn K (.ref D) "__getattr__" = some none
  sb : PySem.W.subIn K (.ref D) (.type "BaseException") = some true
  ha : PySem.W.findIn K (.ref D) "__class__" = some (some (.builtin "object.__class__"))
  hn : PySem.W.specialIn K (.builtin "object.__class__") "__get__" = some (some (.builtin "getset_descriptor.__get__"))
  ht : PySem.W.takesIn K (.builtin "object.__class__") = some true
  hm : PySem.W.mroIn K D (.type "object") = some true
def rIsED (K : PySem.W.Frag) (D a : Addr) (cls : Value) (d : Option Addr) : List V → Hp → VK → Prop := fun xs H Q => ∃ (c : V) (cv : Value) (b : Bool) (dd : Addr) (fs : List (Str × V)), xs = [.ref a, c] ∧ ClsV c cv ∧ cls = .ref D ∧ d = some dd ∧ H dd = some (.xd fs) ∧ PySem.W.kitOne K (.ref D) cv = some b ∧ Q (.bl b) H
theorem call_isED {X : Cx} {a D : Addr} {oe : Obj} {cls : Value} {d : Option Addr} {pn : List (Addr × Obj)} (T : ErC X.K D) (hz : Zc cls d oe) (hf : ∃ vs, oe.data = .fields vs) : CallR (X.suite a ((a, oe) :: pn)) (.builtin "isinstance") (rIsED X.K D a cls d) := by
  intro pins s σ H xs us Q I r h
  obtain ⟨c, cv, b, dd, fs, rfl, hc, ec, ed, ea, e, q⟩ := h
  subst ec
  subst ed
  cases r with
  | cons rx rr =>
    cases rr with
    | cons rt rr =>
      cases rr
      cases rx
      have e2 := hc.eq rt
      subst e2
      obtain ⟨hget, _⟩ := I.pin (a, oe) (List.mem_append.mpr (.inl List.mem_cons_self))
      obtain ⟨vs, hv⟩ := hf
      have hx : ObjOk X.prog X.w H s.heap dd (.xd fs) := I.hok dd _ ea
      obtain ⟨mA, hns, hr⟩ := hx
      obtain ⟨od, ho, hl⟩ := lookIn_ns hns
      have J : PySem.W.InstAt s.heap a oe D (some od) := ⟨hget, hz.1, by unfold PySem.W.notCls; rw [hv] <;> rfl, by rw [hz.2]; exact ho⟩
      exact PySem.W.kia_one (PySem.W.kitx_exc T.cl T.ga T.gt T.sb T.ha T.hn T.ht T.hm) I.kIn J e (fun z => nomatch z) fun tk => ⟨.bl b, H, I.tok _, rfl, q⟩
end Kt

set_option Elab.async false
set_option linter.all false
set_option maxRecDepth 100000
namespace Kt
open PySem PySem.Spec PySem.W L2 PyProof.Rows
section
variable {X : Cx} {k : Nat} {C : Addr} {ps : List Str} {sp : Sp} {fe e : Expr} {es : List Expr} {tf : TE} {t : TA} {pos : Pos}
/-- f(e, ..), f any expression that gives an instance of C -/
def tCallE (C : Addr) (sp : Sp) (tf : TE) (t : TA) : TE := fun σ H Q => tf σ H fun x H0 => ∃ a, x = .ref a ∧ t σ H0 fun vs H1 => ∃ dx fs, H1 a = some (.ins C dx fs) ∧ sp (.ref a :: vs) H1 Q E0
theorem pe_mfE (M : Mf X.prog X.w X.K X.mg X.base k C "__call__" ps sp) (hfn : ∀ f, findIn X.K (.ref C) "__call__" = some (some (.ref f)) → fnIn X.K f = true) (hr : Room k X.A) (hf : PE X fe tf) (ha : PA X (e :: es) t)
    (hc : eval (.Call fe (e :: es) [] pos) X.env = (do callWith pos (← eval fe X.env) [] (backTo pos (starEach (e :: es) X.env)) (backToKw pos (keywordEach [] X.env))) := by rfl)
    (he : starEach (e :: es) X.env = (false, eval e X.env) :: starEach es X.env := by rfl) (hpl : (backTo pos (starEach es X.env)).any (·.1) = false := by rfl) : PE X (.Call fe (e :: es) [] pos) (tCallE C sp tf t) := by
  obtain ⟨f, fd, F, b, hm⟩ := M.fn
  refine ⟨fun pins s σ H Q I h => ?_⟩
  refine PyProof.Rows.Call_ (thn (hf.run pins s σ H _ I h) fun u s1 ⟨v, H1, I1, r1, a, ev, q1⟩ => ?_) hc
  subst ev
  cases r1
  have h2 : wpAny (model X.prog X.w) X.A (spliced (backTo pos (starEach (e :: es) X.env))) (fun vs s2 => (∃ dx, s2.heap.get? a = some (PySem.W.instObj C dx)) ∧ wpAny (model X.prog X.w) X.A (call (.ref a) ([] ++ vs)) (EP X pins σ Q) X.xe s2) X.xe s1 :=
    thn (ha.run pos pins s1 σ _ _ I1 q1) fun us s2 ⟨vs, H2, I2, r, dx, fs, hH, q⟩ => by
      obtain ⟨mA, O, _⟩ := ins_get I2.hok hH
      refine ⟨⟨dx, O.obj⟩, ?_⟩
      obtain ⟨od, J, _⟩ := O.look
      obtain ⟨of_, fd2, hl, hd2⟩ := fn_found I2.kIn (hfn f hm.at_)
      have rr : Vals (V.ref a :: vs) (Value.ref a :: us) := .cons rfl r
      have ln : (Value.ref a :: us).length = ps.length := by rw [← rr.length]; exact F.len _ _ _ _ q
      have bd := b s2 (.ref a :: us) I2.kIn (by rw [List.append_nil]; exact ln)
      rw [List.append_nil] at bd
      refine wpAny_call (callee_inst I2.kIn J hm.at_ hm.fn hl hd2 (codeAny_mono (F.run X.A X.stack s2 H2 ⟨.ref a :: us, []⟩ (.ref a :: us) (.ref a :: vs) Q E0 hr I2.env0 bd rr q) fun r s' hq => ?_))
      cases r with
      | error z => exact pass0 pins σ H2 s2 z s' I2 hq
      | ok fl => cases fl with
        | ret u => exact I2.after hq
        | _ => exact False.elim hq
  rw [he] at h2 ⊢
  exact callWith_inst (P := fun h => ∃ dx, h.get? a = some (PySem.W.instObj C dx)) (by show ((false || (backTo pos (starEach es X.env)).any (·.1)) || false) = false; rw [hpl]; rfl) (fun h ⟨dx, q⟩ => keeper_inst q) (Calls.evalArgs_plain h2)
end
section
variable {K : Frag} {σ : L2.St} {H : Hp} {Q : VK} {tf : TE} {t : TA} {C a dx : Addr} {sp : Sp} {fs : List (Str × V)} {xs : List V} {Ps Qs : List SP} {n : Int}
theorem r_callE (h : tf σ H fun x H0 => ∃ a, x = .ref a ∧ t σ H0 fun vs H1 => ∃ dx fs, H1 a = some (.ins C dx fs) ∧ sp (.ref a :: vs) H1 Q E0) : tCallE C sp tf t σ H Q := h
/-- repr of a whole number, a list, a tuple -/
def cReprI (K : Frag) : List V → Hp → VK → Prop := fun xs H Q => (∃ i : Int, xs = [.int i] ∧ i.natAbs.log2 < 1920 ∧ Q (.str (toString i)) H) ∨ cRepr K xs H Q
theorem call_reprI {X : Cx} (hg : X.A.guards = some []) (hu : X.A.units + 64 < cLine) : CallR X (.builtin "repr") (cReprI X.K) := by
  intro pins s σ H xs us Q I r h
  rcases h with ⟨i, rfl, hz, q⟩ | h
  · obtain ⟨u, rfl, t, rfl⟩ := vals1 r
    exact PySem.P.repr_of_int hz ⟨.str _, H, I.tok _, ⟨_, rfl⟩, q⟩
  · exact call_reprA hg hu pins s σ H xs us Q I r h
theorem r_rep2 (S : Sep Ps H) (s : H a = some (.lst xs)) (h1 : 0 ≤ n) (h2 : n ≤ 10000) (hz : xs.length ≤ 10) (h : ∀ p H', Sep (pt p (.lst (List.replicate n.toNat xs).flatten) :: Ps) H' → Q (.ref p) H') : rMulA (.ref a) (.int n) H Q :=
  .inr ⟨a, n, xs, rfl, rfl, s, by omega, by omega, Nat.le_trans (Nat.mul_le_mul hz (show n.toNat ≤ 10000 by omega)) (by decide), fun p np => h p _ (S.new _ np)⟩
theorem ty_sq (s : SqL K H a xs) : TyX K H (.ref a) (.type "list") := by
  rcases s with (h | ⟨o, h⟩) | ⟨o, its, n, h, hc, _⟩
  · exact .base (.lst h)
  · exact .base (.frz h)
  · exact .kList h hc
theorem r_isiY {x : V} {T B : String} {k : Bool} (ty : TyX K H x (.type T)) (e : kitB T B = some k) (h : Q (.bl k) H) : rIsiY K [x, .ty B] H Q := ⟨x, .ty B, _, _, k, rfl, .ty B, .inl ty, kit_ty e, h⟩
theorem r_dispP {Ps : List SP} {trs : List (TE × TE)} (S : Sep Ps H) (h : ∀ p H', Sep (pt p (.dK []) :: Ps) H' → tPairs trs σ H' fun ps H2 => H2 p = some (.dK []) ∧ ∃ kvs : List (Key × V), ps = kvs.map (fun kv => (kV kv.1, kv.2)) ∧ kvs.length ≤ 15 ∧ Q (.ref p) (upd H2 p (.dK (mergeK [] kvs)))) : tDisp trs σ H Q := fun p np => h p _ (S.new _ np)
theorem log_ok {i : Int} (h : i.natAbs < 10 ^ 60) : i.natAbs.log2 < 1920 := by
  by_cases e : i.natAbs = 0
  · rw [e]; decide
  · exact Nat.lt_trans ((Nat.log2_lt (n := i.natAbs) (k := 200) e).mpr (Nat.lt_trans h (by decide))) (by decide)
end
/-! ### facts of error classes -/
section
variable {K : Frag} {A B : Addr}
theorem er_cls {r : Option Bool} (i : isClsIn K B = true) (t : typeIn K (.ref B) = some (.type "type")) (m : mroIn K A (.ref B) = r) : kitCls K (.ref A) (.ref B) = r := by
  unfold kitCls
  show (if _ then _ else _) = _
  rw [t, show (clsIn K B).isSome = true from i]
  simpa using (show subIn K (.ref A) (.ref B) = r from m)
theorem er_exm (b : subIn K (.ref B) (.type "BaseException") = some true) (i : isClsIn K B = true) (t : typeIn K (.ref B) = some (.type "type")) (m : mroIn K A (.ref B) = some true) : exmOne K (.ref A) (.ref B) = some true := by
  unfold exmOne
  rw [b]
  exact (if_pos rfl).trans (er_cls i t m)
theorem er_self : kitOne K (.ref A) (.ref A) = some true := by
  unfold kitOne
  simp
theorem er_ne (m1 : mroIn K A (.ref A) = some true) (m2 : mroIn K A (.ref B) = some false) (i : isClsIn K B = true) (t : typeIn K (.ref B) = some (.type "type")) : kitOne K (.ref A) (.ref B) = some false := by
  have hne : A ≠ B := fun e => by
    subst e
    rw [m1] at m2
    cases m2
  have e : ((Value.ref A) == (Value.ref B)) = false := beq_eq_false_iff_ne.mpr fun q => hne (Value.ref.inj q)
  unfold kitOne
  rw [e, if_neg Bool.false_ne_true]
  exact er_cls i t m2
end
end Kt

set_option Elab.async false
set_option linter.all false
set_option maxRecDepth 100000
namespace Kt
open PySem L2 PyProof.Rows
/-! ### a part that only grows: what is known of values is told of it -/
def hp (G : Hp) : SP := fun G' => Le G G'
theorem Le.rfl {G : Hp} : Le G G := fun _ _ e => e
theorem Le.tr {A B C : Hp} (h : Le A B) (h2 : Le B C) : Le A C := fun a o e => h2 a o (h a o e)
section
variable {K : PySem.W.Frag} {G G' H : Hp} {R : List SP} {p : Addr} {o : HO} {v : V} {d : PyData} {vs : List V} {ds : List PyData}
theorem hp_le (S : Sep (hp G :: R) H) : Le G H := by
  obtain ⟨g, l, h, _⟩ := S
  exact fun a u e => l a u (h a u e)
theorem hp_nil (S : Sep R H) : Sep (hp (fun _ => none) :: R) H :=
  ⟨fun _ => none, fun _ _ (e : (none : Option HO) = some _) => (Option.noConfusion rfl (heq_of_eq e)), fun _ _ (e : (none : Option HO) = some _) => (Option.noConfusion rfl (heq_of_eq e)), S.mono fun a o e => by rw [sub_of rfl]; exact e⟩
theorem hp_add (S : Sep (pt p o :: hp G :: R) H) : ∃ G', Le G G' ∧ G' p = some o ∧ Sep (hp G' :: R) H := by
  have S0 := Sep.unflat (As := [pt p o, hp G]) S
  obtain ⟨g, l, ⟨g1, l1, h1, g2, l2, h2, _⟩, r⟩ := S0
  refine ⟨g, fun a u e => (sub_some (l2 a u (h2 a u e))).2, l1 p o h1, g, l, fun _ _ e => e, r⟩
theorem dp_lst (l : Le G G') (e : G' p = some (.lst vs)) (h : DpAll K G vs ds) : Dp K G' (.ref p) (.list ds) := .lst (SqL.of e) (DpAll.le l _ _ h)
theorem dp_tup (l : Le G G') (e : G' p = some (.tup vs)) (h : DpAll K G vs ds) : Dp K G' (.ref p) (.tuple ds) := .tup (SqT.of e) (DpAll.le l _ _ h)
/-- a new list, a new tuple join the part -/
theorem hp_lst (S : Sep (pt p (.lst vs) :: hp G :: R) H) (h : DpAll K G vs ds) : ∃ G', Le G G' ∧ Dp K G' (.ref p) (.list ds) ∧ Sep (hp G' :: R) H := by
  obtain ⟨G', l, e, S⟩ := hp_add S
  exact ⟨G', l, dp_lst l e h, S⟩
theorem hp_tup (S : Sep (pt p (.tup vs) :: hp G :: R) H) (h : DpAll K G vs ds) : ∃ G', Le G G' ∧ Dp K G' (.ref p) (.tuple ds) ∧ Sep (hp G' :: R) H := by
  obtain ⟨G', l, e, S⟩ := hp_add S
  exact ⟨G', l, dp_tup l e h, S⟩
theorem dp_tupInv (h : Dp K G v (.tuple ds)) : ∃ a xs, v = .ref a ∧ SqT K G a xs ∧ DpAll K G xs ds := by
  cases h with
  | tup s t => exact ⟨_, _, rfl, s, t⟩
theorem dp_lstInv (h : Dp K G v (.list ds)) : ∃ a xs, v = .ref a ∧ SqL K G a xs ∧ DpAll K G xs ds := by
  cases h with
  | lst s t => exact ⟨_, _, rfl, s, t⟩
theorem dp_strInv {x : Str} (h : Dp K G v (.str x)) : v = .str x := by cases h; rfl
theorem dp_intInv {i : Int} (h : Dp K G v (.int i)) : v = .int i := by cases h; rfl
theorem dpall_len : ∀ {vs : List V} {ds : List PyData}, DpAll K G vs ds → vs.length = ds.length
  | _, _, .nil => rfl
  | _, _, .cons _ t => by rw [List.length_cons, List.length_cons, dpall_len t]
theorem dpall_at : ∀ {vs : List V} {ds : List PyData}, DpAll K G vs ds → ∀ {i : Nat} {x : V}, vs[i]? = some x → ∃ d, ds[i]? = some d ∧ Dp K G x d
  | _, _, .nil, i, x, h => by simp at h
  | _, _, .cons h t, 0, x, e => by simp at e; subst e; exact ⟨_, by simp, h⟩
  | _, _, .cons h t, i + 1, x, e => by
    rw [List.getElem?_cons_succ] at e ⊢
    exact dpall_at t e
theorem dpall_atD : ∀ {vs : List V} {ds : List PyData}, DpAll K G vs ds → ∀ {i : Nat} {d : PyData}, ds[i]? = some d → ∃ x, vs[i]? = some x ∧ Dp K G x d
  | _, _, .nil, i, x, h => by simp at h
  | _, _, .cons h t, 0, x, e => by simp at e; subst e; exact ⟨_, by simp, h⟩
  | _, _, .cons h t, i + 1, x, e => by
    rw [List.getElem?_cons_succ] at e ⊢
    exact dpall_atD t e
theorem dpall_snoc (h : DpAll K G vs ds) (h2 : Dp K G v d) : DpAll K G (vs ++ [v]) (ds ++ [d]) := dpall_app h (.cons h2 .nil)
theorem dpall_take (n : Nat) : ∀ {vs : List V} {ds : List PyData}, DpAll K G vs ds → DpAll K G (vs.take n) (ds.take n) := by
  induction n with
  | zero => intro vs ds _; rw [List.take_zero, List.take_zero]; exact .nil
  | succ n ih =>
    intro vs ds h
    cases h with
    | nil => exact .nil
    | cons h t => exact .cons h (ih t)
theorem dpall_drop (n : Nat) : ∀ {vs : List V} {ds : List PyData}, DpAll K G vs ds → DpAll K G (vs.drop n) (ds.drop n) := by
  induction n with
  | zero => intro vs ds h; exact h
  | succ n ih =>
    intro vs ds h
    cases h with
    | nil => exact .nil
    | cons h t => exact ih t
theorem dpall_strs : ∀ xs : List Str, DpAll K G (xs.map V.str) (xs.map PyData.str)
  | [] => .nil
  | x :: xs => .cons (.str x) (dpall_strs xs)
theorem dpall_strsInv : ∀ {xs : List Str} {vs : List V}, DpAll K G vs (xs.map PyData.str) → vs = xs.map V.str
  | [], _, h => by cases h; rfl
  | x :: xs, _, h => by
    rw [List.map_cons] at h
    cases h with
    | cons h t => rw [dp_strInv h, dpall_strsInv t]; rfl
theorem flat_strs : ∀ xs : List Str, (xs.map V.str).all flatV = true
  | [] => rfl
  | x :: xs => by rw [List.map_cons, List.all_cons, flat_strs xs]; rfl
theorem in_strs {x : Str} : ∀ xs : List Str, inV (.str x) (xs.map V.str) = decide (x ∈ xs)
  | [] => rfl
  | y :: xs => by
    have ih := in_strs (x := x) xs
    unfold inV at ih ⊢
    rw [List.map_cons, List.any_cons, ih]
    show ((y == x) || _) = _
    by_cases e : y = x
    · subst e; simp
    · have : (y == x) = false := beq_eq_false_iff_ne.mpr e
      rw [this, Bool.false_or]
      refine decide_eq_decide.mpr ⟨List.mem_cons_of_mem _, fun m => (List.mem_cons.mp m).resolve_left fun q => e q.symm⟩
end
/-! ### comprehensions whose source and items are data -/
section
variable {K : PySem.W.Frag} {σ : L2.St} {H : Hp} {Q : VK} {a : Addr} {xs : List V} {ds : List PyData} {g : TG} {tt : TT} {te : TE} {vs : List Nat} {G : Hp} {R : List SP}
/-- one turn over the item d: what it gives, if anything -/
def LcT (K : PySem.W.Frag) (G : Hp) (R : List SP) (g : TG) (tt : TT) (te : TE) (vs : List Nat) (σ : L2.St) (d : PyData) (e : Option PyData) : Prop := ∀ D acc Gi x H (N : Hp → Prop), Le G Gi → Dp K Gi x d → acc.length < 90000 → Sep (pt D (.lst acc) :: hp Gi :: R) H →
  (∀ y z G' H4, Le Gi G' → e = some z → Dp K G' y z → Sep (pt D (.lst acc) :: hp G' :: R) H4 → ∃ acc, H4 D = some (.lst acc) ∧ acc.length < sizeLine ∧ N (upd H4 D (.lst (acc ++ [y])))) → (e = none → ∀ H3, Sep (pt D (.lst acc) :: hp Gi :: R) H3 → N H3) →
  g x (wipe σ vs) H fun σ2 H2 => wipe σ2 vs = wipe σ vs ∧ tt σ2 H2 fun b H3 => if b = true then te σ2 H3 fun y H4 => ∃ acc, H4 D = some (.lst acc) ∧ acc.length < sizeLine ∧ N (upd H4 D (.lst (acc ++ [y]))) else N H3
section
variable {α β : Type} {l : List α} {enc : α → PyData} {enc2 : β → PyData} {f : α → Option β}
theorem lcd_step {i : Nat} {x : α} (e : l[i]? = some x) : ((l.take (i + 1)).filterMap f).map enc2 = ((l.take i).filterMap f).map enc2 ++ (match f x with | some z => [enc2 z] | none => []) := by
  rw [List.take_add_one, e, List.filterMap_append, List.map_append]
  cases q : f x with
  | none => simp [q]
  | some z => simp [q]
theorem r_lcL (S : Sep (hp G :: R) H) (hx : Dp K G (.ref a) (.list (l.map enc))) (hl : l.length ≤ 80000) (f : α → Option β) (enc2 : β → PyData) (turn : ∀ x ∈ l, LcT K G R g tt te vs σ (enc x) ((f x).map enc2))
    (fin : ∀ D acc G' H', Le G G' → DpAll K G' acc ((l.filterMap f).map enc2) → Sep (pt D (.lst acc) :: hp G' :: R) H' → Q (.ref D) H') : ∃ a', V.ref a = .ref a' ∧ (∃ xs, SqL K H a' xs) ∧ LcW (Itl K a') g tt te vs Q σ H := by
  obtain ⟨a', xs, ea, hs, ha⟩ := dp_lstInv hx
  cases ea
  have hlen : xs.length = l.length := by rw [dpall_len ha, List.length_map]
  refine r_lc_list (xs := xs) (fun i acc Ps => ∃ Gi, Le G Gi ∧ Ps = hp Gi :: R ∧ DpAll K Gi acc (((l.take i).filterMap f).map enc2) ∧ acc.length ≤ i) S ⟨G, Le.rfl, rfl, .nil, Nat.zero_le _⟩ (fun D i acc Ps H hi ⟨Gi, le, e, _⟩ S => by subst e; exact SqL.le (le.tr (hp_le S.tl)) hs) (SqL.le (hp_le S) hs) ?_ ?_
  · rintro D i x acc Ps H hi ⟨Gi, le, rfl, hacc, hn⟩ S
    obtain ⟨d, hd, hxd⟩ := dpall_at ha hi
    rw [List.getElem?_map] at hd
    cases ez : l[i]? with
    | none => rw [ez] at hd; cases hd
    | some z =>
      rw [ez] at hd
      cases hd
      have hi' := (List.getElem?_eq_some_iff.mp ez).1
      have st := lcd_step (f := f) (enc2 := enc2) ez
      refine turn z (List.mem_of_getElem? ez) D acc Gi x H _ le (Dp.le le _ _ hxd) (by omega) S (fun y zz G' H4 l4 ey hy S4 => ?_) (fun en H3 S3 => ?_)
      · refine cn_in S4 (by omega) ⟨G', le.tr l4, rfl, ?_, by rw [List.length_append]; simp; omega⟩
        cases q : f z with
        | none => rw [q] at ey; cases ey
        | some w =>
          rw [q] at ey st
          cases ey
          rw [st]
          exact dpall_snoc (DpAll.le l4 _ _ hacc) hy
      · refine cn_out S3 ⟨Gi, le, rfl, ?_, by omega⟩
        cases q : f z with
        | some w => rw [q] at en; cases en
        | none =>
          rw [q] at st
          rw [st, List.append_nil]
          exact hacc
  · rintro D acc Ps H ⟨Gi, le, rfl, hacc, hn⟩ S
    rw [hlen, List.take_length] at hacc
    exact fin D acc Gi H le hacc S
theorem r_lc_tup {Ps : List SP} (J : CW) (S : Sep Ps H) (h0 : J 0 [] Ps) (hl : ∀ D i acc Ps H, i ≤ xs.length → J i acc Ps → Sep (pt D (.lst acc) :: Ps) H → SqT K H a xs) (hl0 : SqT K H a xs)
    (hs : ∀ D i x acc Ps H, xs[i]? = some x → J i acc Ps → Sep (pt D (.lst acc) :: Ps) H → g x (wipe σ vs) H fun σ2 H2 => wipe σ2 vs = wipe σ vs ∧ tt σ2 H2 fun b H3 =>
      if b = true then te σ2 H3 fun y H4 => ∃ acc, H4 D = some (.lst acc) ∧ acc.length < sizeLine ∧ CN J D (i + 1) (upd H4 D (.lst (acc ++ [y]))) else CN J D (i + 1) H3)
    (hd : ∀ D acc Ps H, J xs.length acc Ps → Sep (pt D (.lst acc) :: Ps) H → Q (.ref D) H) : ∃ a', V.ref a = .ref a' ∧ (∃ xs, SqT K H a' xs) ∧ LcW (Itt K a') g tt te vs Q σ H :=
  ⟨a, rfl, ⟨xs, hl0⟩, fun D nD => lc_tup (K := K) (a := a) (xs := xs) (CN J D) ⟨[], Ps, h0, S.new _ nD⟩ (fun i H hi ⟨acc, Ps, j, S⟩ => hl D i acc Ps H hi j S) (fun i x H hi ⟨acc, Ps, j, S⟩ => hs D i x acc Ps H hi j S) fun H ⟨acc, Ps, j, S⟩ => hd D acc Ps H j S⟩
theorem r_lcT (S : Sep (hp G :: R) H) (hx : Dp K G (.ref a) (.tuple (l.map enc))) (hl : l.length ≤ 80000) (f : α → Option β) (enc2 : β → PyData) (turn : ∀ x ∈ l, LcT K G R g tt te vs σ (enc x) ((f x).map enc2))
    (fin : ∀ D acc G' H', Le G G' → DpAll K G' acc ((l.filterMap f).map enc2) → Sep (pt D (.lst acc) :: hp G' :: R) H' → Q (.ref D) H') : ∃ a', V.ref a = .ref a' ∧ (∃ xs, SqT K H a' xs) ∧ LcW (Itt K a') g tt te vs Q σ H := by
  obtain ⟨a', xs, ea, hs, ha⟩ := dp_tupInv hx
  cases ea
  have hlen : xs.length = l.length := by rw [dpall_len ha, List.length_map]
  refine r_lc_tup (xs := xs) (fun i acc Ps => ∃ Gi, Le G Gi ∧ Ps = hp Gi :: R ∧ DpAll K Gi acc (((l.take i).filterMap f).map enc2) ∧ acc.length ≤ i) S ⟨G, Le.rfl, rfl, .nil, Nat.zero_le _⟩ (fun D i acc Ps H hi ⟨Gi, le, e, _⟩ S => by subst e; exact SqT.le (le.tr (hp_le S.tl)) hs) (SqT.le (hp_le S) hs) ?_ ?_
  · rintro D i x acc Ps H hi ⟨Gi, le, rfl, hacc, hn⟩ S
    obtain ⟨d, hd, hxd⟩ := dpall_at ha hi
    rw [List.getElem?_map] at hd
    cases ez : l[i]? with
    | none => rw [ez] at hd; cases hd
    | some z =>
      rw [ez] at hd
      cases hd
      have hi' := (List.getElem?_eq_some_iff.mp ez).1
      have st := lcd_step (f := f) (enc2 := enc2) ez
      refine turn z (List.mem_of_getElem? ez) D acc Gi x H _ le (Dp.le le _ _ hxd) (by omega) S (fun y zz G' H4 l4 ey hy S4 => ?_) (fun en H3 S3 => ?_)
      · refine cn_in S4 (by omega) ⟨G', le.tr l4, rfl, ?_, by rw [List.length_append]; simp; omega⟩
        cases q : f z with
        | none => rw [q] at ey; cases ey
        | some w =>
          rw [q] at ey st
          cases ey
          rw [st]
          exact dpall_snoc (DpAll.le l4 _ _ hacc) hy
      · refine cn_out S3 ⟨Gi, le, rfl, ?_, by omega⟩
        cases q : f z with
        | some w => rw [q] at en; cases en
        | none =>
          rw [q] at st
          rw [st, List.append_nil]
          exact hacc
  · rintro D acc Ps H ⟨Gi, le, rfl, hacc, hn⟩ S
    rw [hlen, List.take_length] at hacc
    exact fin D acc Gi H le hacc S
end
end
end Kt

set_option Elab.async false
set_option linter.all false
set_option maxRecDepth 100000
namespace Kt
open PySem L2 PyProof.Rows
/-! ### the items of a tuple, one after another, in an enumeration -/
section
variable {P : Program} {w : World} {A : Around} {E : Value → Shared → Prop} {s : Shared}
theorem nextTup {jt tu k : Nat} {vs : Array Value} {y : Value} {Z : Value → Shared → Prop} (hj : s.heap.IsTupleIter jt tu k) (hu : s.heap.IsTuple tu vs) (hy : vs[k]? = some y)
    (q : ∀ h2, h2.IsTupleIter jt tu (k + 1) → Heap.SameBut jt s.heap h2 → Z y { s with heap := h2 }) : wpAny (model P w) A (Builtin.SmallTypes.nextOf (.ref jt)) Z E s := by
  obtain ⟨oj, ej, cj, dj⟩ := id hj
  obtain ⟨ou, eu, _, nu, du⟩ := hu
  unfold Builtin.SmallTypes.nextOf
  refine wpAny_bind (wpAny_callSpecial?_slot (name := Str.ofString "__next__") hj.typeIs F.slot_tuple_iterator_next (wpAny_call_entry F.slot_tuple_iterator_next hj.typeIs F.entry_tuple_iterator_next ?_ (F.args_tuple_iterator_next_1 _)))
  show wpAny _ _ (field (.ref jt) 0 >>= _) _ _ s
  refine wpAny_bind (wpAny_field ej dj (x := .ref tu) rfl ?_)
  show wpAny _ _ (if (Value.ref tu == Value.none) = true then _ else _) _ _ s
  rw [if_neg (show ¬ ((Value.ref tu == Value.none) = true) from nofun)]
  show wpAny _ _ (field (.ref jt) 1 >>= _) _ _ s
  refine wpAny_bind (wpAny_field ej dj (x := .int k 0) rfl ?_)
  show wpAny _ _ (seqItems? (.ref tu) >>= _) _ _ s
  refine wpAny_bind (wpAny_seqItems eu du ?_)
  simp only [Int.toNat_natCast, hy]
  refine wpAny_bind (wpAny_setField ej dj (by simp) (wpAny_pure ⟨y, rfl, wpAny_pure (q _ ?_ (Heap.SameBut.update ..))⟩))
  exact ⟨_, Heap.get?_update_self _ ej (Obj.isFreed_of_fields (Obj.data_mapFields dj _)), (Obj.cls_mapFields ..).trans cj, by rw [Obj.data_mapFields dj]; simp [rawInt]⟩
theorem nextTupEnd {jt tu k : Nat} {vs : Array Value} {Z : Value → Shared → Prop} (h0 : A.handled = none) (hj : s.heap.IsTupleIter jt tu k) (hu : s.heap.IsTuple tu vs) (hy : vs[k]? = none)
    (q : ∀ h2 e, Heap.ExtBut jt s.heap h2 → (∃ o, h2.get? e = some o ∧ o.cls = .type "StopIteration") → E (.ref e) { s with heap := h2 }) : wpAny (model P w) A (Builtin.SmallTypes.nextOf (.ref jt)) Z E s := by
  obtain ⟨oj, ej, cj, dj⟩ := id hj
  obtain ⟨ou, eu, _, nu, du⟩ := hu
  unfold Builtin.SmallTypes.nextOf
  refine wpAny_bind (wpAny_callSpecial?_slot (name := Str.ofString "__next__") hj.typeIs F.slot_tuple_iterator_next (wpAny_call_entry F.slot_tuple_iterator_next hj.typeIs F.entry_tuple_iterator_next ?_ (F.args_tuple_iterator_next_1 _)))
  show wpAny _ _ (field (.ref jt) 0 >>= _) _ _ s
  refine wpAny_bind (wpAny_field ej dj (x := .ref tu) rfl ?_)
  show wpAny _ _ (if (Value.ref tu == Value.none) = true then _ else _) _ _ s
  rw [if_neg (show ¬ ((Value.ref tu == Value.none) = true) from nofun)]
  show wpAny _ _ (field (.ref jt) 1 >>= _) _ _ s
  refine wpAny_bind (wpAny_field ej dj (x := .int k 0) rfl ?_)
  show wpAny _ _ (seqItems? (.ref tu) >>= _) _ _ s
  refine wpAny_bind (wpAny_seqItems eu du ?_)
  simp only [Int.toNat_natCast, hy]
  refine wpAny_bind (wpAny_rule (wpAny_bind (wpAny_setField ej dj (by simp) ?_)))
  show wpAny _ _ (newExc (.type "StopIteration") [] >>= _) _ _ _
  refine wpAny_bind (m := newExc _ _) ?_
  simp only [newExc, newTuple]
  refine wpAny_bind (wpAny_newObj_type (by exact (wpAny_bind (m := firstArgMember _ _) (wpAny_of_eq (a := Value.none) (by first | rfl | (simp only [firstArgMember]; rfl)) (by
    refine wpAny_newObj_type (by
      simp only [raiseNew]
      refine wpAny_bind (wpAny_handled (by
        first | rw [show A.in1.handled = none from h0] | rw [h0]
        exact wpAny_bind (wpAny_pure (wpAny_throw (q _ _ (((Heap.SameBut.update ..).extBut.push _).push _) ⟨_, Heap.get?_push_size _ rfl, rfl⟩))))) ) (by size_fits))))) (by size_fits))
end

theorem drawsTup {P : Program} {w : World} {A : Around} (h0 : A.handled = none) (jt tu : Addr) (ne : tu ≠ jt) (vs : Array Value) :
    Draws P w A jt [jt, tu] vs.size (fun k y => vs[k]? = some y) (fun k h => h.IsTupleIter jt tu k ∧ h.IsTuple tu vs) where
  live := fun _ _ z => let ⟨o, ho, _⟩ := z.1; ⟨o, ho⟩
  frame := fun _ _ _ z g => ⟨z.1.at fun o e => g jt (by simp) o e, z.2.at fun o e => g tu (by simp) o e⟩
  item := fun k s Z E lt z q => by
    refine nextTup z.1 z.2 (y := vs[k]) (by simp [lt]) fun h2 hj sb => ?_
    exact q _ h2 s.toks (by simp [lt]) ⟨hj, z.2.extBut sb.extBut ne⟩ sb
  done := fun s Z E z q => nextTupEnd h0 z.1 z.2 (by simp) q
theorem meetsEnumT (tu : Addr) (vs : Array Value) (n : Nat) (dd : Option Addr) (sl : Array (Option Value)) :
    Meets (Builtin.«enumerate.__new__» ⟨[.type "enumerate", .ref tu], []⟩) (fun _ R s => s.heap.get? tu = some { cls := .type "tuple", dict := dd, data := .seq vs n, slots := sl } ∧
      R (.ok (.ret (.ref (s.heap.push { cls := .type "tuple_iterator", data := .fields #[.ref tu, .int 0 0] }).objs.size)))
        { s with heap := (s.heap.push { cls := .type "tuple_iterator", data := .fields #[.ref tu, .int 0 0] }).push { cls := .type "enumerate", data := .fields #[.none, .bool false, .ref s.heap.objs.size, rawInt 0, .none, .none] } }) :=
  .of_wp fun prog w A R s h => by
    obtain ⟨hp, g, d, tk, os⟩ := s; obtain ⟨e1, h⟩ := h
    have hsub := sub_enumerate
    have hT : Heap.IsTuple (Shared.heap ⟨hp, g, d, tk, os⟩) tu vs := ⟨_, e1, rfl, n, rfl⟩
    wp_walk
    refine wpAny_stack_any fun st => wpAny_pure ?_
    split
    · rename_i c _ _ _ _ _
      cases (c == Value.type "enumerate")
      · wp_walk using wpAny_pyIter_tuple hT
        exact ⟨_, rfl, h⟩
      · wp_walk using wpAny_pyIter_tuple hT
        exact ⟨_, rfl, h⟩
    · wp_walk using wpAny_pyIter_tuple hT
      exact ⟨_, rfl, h⟩
theorem callEnumT {P : Program} {w : World} {A : Around} {E : Value → Shared → Prop} {s : Shared} {tu : Addr} {vs : Array Value} {Z : Value → Shared → Prop} (hT : s.heap.IsTuple tu vs)
    (q : ∀ h2, IsEnum h2 (s.heap.objs.size + 1) s.heap.objs.size 0 .none → h2.IsTupleIter s.heap.objs.size tu 0 → h2.IsTuple tu vs → (∀ b o, s.heap.get? b = some o → h2.get? b = some o) → Z (.ref (s.heap.objs.size + 1)) { s with heap := h2 }) :
    wpAny (model P w) A (call (.type "enumerate") [.ref tu]) Z E s := by
  obtain ⟨⟨c, dd, dt, sl⟩, e1, hc, n, hd⟩ := id hT
  replace hc : c = .type "tuple" := hc
  replace hd : dt = .seq vs n := hd
  subst hc hd
  refine callType_new F.called_enumerate (by decide) (F.typeCall_enumerate_1 _) (F.newCall_enumerate_1 _) (fun obj => F.args_object_init_2 obj _) F.entry_enumerate_new (meetsEnumT tu vs n dd sl) ⟨e1, ?_⟩
  have z : (s.heap.push { cls := .type "tuple_iterator", data := .fields #[.ref tu, .int 0 0] }).objs.size = s.heap.objs.size + 1 := Heap.size_push ..
  show _ ∧ _
  rw [z]
  have he : IsEnum ((s.heap.push { cls := .type "tuple_iterator", data := .fields #[.ref tu, .int 0 0] }).push { cls := .type "enumerate", data := .fields #[.none, .bool false, .ref s.heap.objs.size, rawInt 0, .none, .none] }) (s.heap.objs.size + 1) s.heap.objs.size 0 .none := by
    have := Heap.get?_push_size (s.heap.push { cls := .type "tuple_iterator", data := .fields #[.ref tu, .int 0 0] }) (o := { cls := .type "enumerate", data := .fields #[.none, .bool false, .ref s.heap.objs.size, rawInt 0, .none, .none] }) rfl
    rw [z] at this; exact this
  have kk : ∀ b o, s.heap.get? b = some o → ((s.heap.push { cls := .type "tuple_iterator", data := .fields #[.ref tu, .int 0 0] }).push { cls := .type "enumerate", data := .fields #[.none, .bool false, .ref s.heap.objs.size, rawInt 0, .none, .none] }).get? b = some o := fun b o x => Heap.get?_push_of_some _ (Heap.get?_push_of_some _ x)
  exact ⟨⟨_, he, rfl⟩, q _ he ⟨_, Heap.get?_push_of_some _ (Heap.get?_push_size _ rfl), rfl, rfl⟩ (hT.at fun o e => kk tu o e) kk⟩
/-- the tuple at a, each item in a new pair -/
def IteT (K : PySem.W.Frag) (a : Addr) (xs : List V) : It :=
  ⟨fun i H => SqT K H a xs ∧ i < xs.length, fun i H v H' => ∃ T x, v = .ref T ∧ H T = none ∧ H' = upd H T (.tup [.int (i : Nat), x]) ∧ xs[i]? = some x, fun i H => SqT K H a xs ∧ xs.length ≤ i⟩
theorem turnEnumT {P : Program} {w : World} {K : PySem.W.Frag} {elts : List Expr} {kk : Nat} {tpos : Pos} (a e jt : Addr) (xs : List V) :
    Turn P w K (.Tuple elts kk tpos) (IteT K a xs) [e, jt] e (fun i h => (∃ old, IsEnum h e jt ((i : Nat) : Int) old) ∧ h.IsTupleIter jt a i ∧ e ≠ jt) where
  mem := by simp
  obj := fun i h z b hb => by
    obtain ⟨⟨old, he⟩, ⟨o, ho, hc, hd⟩, _⟩ := z
    rcases (show b = e ∨ b = jt by simpa using hb) with y | y
    · rw [y]; exact ⟨_, he, fun v q => nomatch q⟩
    · rw [y]; exact ⟨o, ho, fun v q => by rw [hd] at q; cases q⟩
  keep := fun i h h2 z g => let ⟨⟨old, he⟩, hi, ne⟩ := z; ⟨⟨old, g e (by simp) _ he⟩, hi.at fun o q => g jt (by simp) o q, ne⟩
  item := by
    intro X hP hw hK hc i pins s σ H E I hf z go
    subst hP hw hK
    obtain ⟨⟨old, he⟩, hj, ne⟩ := z
    obtain ⟨hq, hi⟩ := go
    obtain ⟨its, rv, hT, hz⟩ := I.tuple hq
    obtain ⟨x, hx⟩ : ∃ x, xs[i]? = some x := ⟨xs[i], List.getElem?_eq_getElem hi⟩
    obtain ⟨u, hu, ru⟩ := rv.get hx
    have le1 : e < s.heap.objs.size := Heap.lt_size he
    have le2 : jt < s.heap.objs.size := by obtain ⟨_, q, _⟩ := hj; exact Heap.lt_size q
    have aj : a ≠ jt := by
      obtain ⟨o1, e1, c1, _⟩ := hj
      obtain ⟨o2, e2, c2, _⟩ := id hT
      rintro rfl
      rw [e1] at e2
      cases e2
      rw [c1] at c2
      injection c2 with c2
      exact absurd c2 (by decide)
    have ae : e ∉ [jt, a] := by
      obtain ⟨o2, e2, c2, _⟩ := id hT
      simp only [List.mem_cons, List.not_mem_nil, or_false, not_or]
      refine ⟨ne, ?_⟩
      rintro rfl
      rw [he] at e2
      cases e2
      injection c2 with c2
      exact absurd c2 (by decide)
    refine wpAny_pyNext_enum_itemD (drawsTup (P := X.prog) (w := X.w) (A := X.A.in1) (by simp [I.ok.hd hc]) jt a aj its.toArray) he ⟨hj, hT⟩ (by rw [List.size_toArray, ← rv.length]; exact hi) ne ae fun y h2 tk hy ho hst hT2 hsz hk => ?_
    have ey : y = u := by
      have e3 : its[i]? = some y := by simpa using hy
      rw [hu] at e3
      exact (Option.some.inj e3).symm
    subst ey
    refine ⟨_, rfl, wpAny_letOwnedTupleGo_enum (s := { s with heap := h2, toks := tk + 1 }) ho fun h3 he3 sb => ?_⟩
    have at3 : h3.get? s.heap.objs.size = some { cls := .type "tuple", data := .seq #[.int i tk, y] } := (sb.2 _ (Nat.ne_of_gt le1)).trans hT2
    have nw : ObjOk X.prog X.w (upd H s.heap.objs.size (.tup [.int (i : Nat), x])) h3 s.heap.objs.size (.tup [.int (i : Nat), x]) := ⟨by show 2 ≤ sizeLine; decide, [.int i tk, y], .cons ⟨_, rfl⟩ (.cons ru .nil), ⟨_, at3, rfl, _, rfl⟩⟩
    have I1 : Inv X pins σ (upd H s.heap.objs.size (.tup [.int (i : Nat), x])) { s with heap := h3, toks := tk + 1 } :=
      I.turnedNew (ch := [e, jt]) (fun b ob hb q => (sb.2 b (fun z => hb (by simp [z]))).trans (hk b ob (fun z => hb (by simp [z])) (fun z => hb (by simp [z])) q)) hf (Nat.le_refl _) nw
    refine ⟨.ref s.heap.objs.size, _, I1, rfl, ⟨_, x, rfl, I.hok.fresh (Nat.le_refl _), rfl, hx⟩, ⟨⟨y, ?_⟩, hst.1.at fun o q => (sb.2 jt (Ne.symm ne)).trans q, ne⟩, fun b hb => ?_⟩
    · have e1 : ((i + 1 : Nat) : Int) = (i : Int) + 1 := by omega
      rw [e1]; exact he3
    · have lb : b < s.heap.objs.size := by
        rcases (show b = e ∨ b = jt by simpa using hb) with y | y
        · rw [y]; exact le1
        · rw [y]; exact le2
      rw [upd_ne (Nat.ne_of_lt lb)]
      exact (hf b hb).1
  done := by
    intro X hP hw hK hc i pins s σ H E I hf z sp
    subst hP hw hK
    obtain ⟨⟨old, he⟩, hj, ne⟩ := z
    obtain ⟨hq, hi⟩ := sp
    obtain ⟨its, rv, hT, hz⟩ := I.tuple hq
    obtain ⟨f0, f1, f2, f3, f4, f5⟩ := hf jt (by simp)
    have ln := rv.length
    have hTe : s.TypeIs (.ref e) "enumerate" := ⟨_, he, rfl⟩
    unfold pyNext
    refine wpAny_bind (wpAny_attempt (wpAny_callSpecial?_slot (name := Str.ofString "__next__") hTe F.slot_enumerate_next (wpAny_call_entry F.slot_enumerate_next hTe F.entry_enumerate_next ?_ (F.args_enumerate_next_1 _))))
    show wpAny _ _ (field (.ref e) 2 >>= _) _ _ _
    refine wpAny_bind (wpAny_field he rfl (x := .ref jt) rfl ?_)
    refine wpAny_bind (nextTupEnd (vs := its.toArray) (by simp [I.ok.hd hc]) hj hT (by simp; omega) fun h2 x he2 hx2 => ?_)
    obtain ⟨o, ho, hc2⟩ := hx2
    refine wpAny_bind (wpAny_isInstance (T := "StopIteration") (b := true) ⟨o, ho, hc2⟩ isSubtype_stop ?_)
    exact wpAny_pure ⟨rfl, I.turned (t' := s.toks) (fun b o hb q => he2 b o hb q) f0 f1 f3 f4 f5⟩
  self := fun A i s Q E z q => let ⟨⟨_, he⟩, _⟩ := z; wpAny_pyIter_enum he q
def iEnumT (K : PySem.W.Frag) (ta : TA) : TI := fun σ H R => ta σ H fun vs H1 => ∃ a xs, vs = [.ref a] ∧ SqT K H1 a xs ∧ R (IteT K a xs) H1
theorem pi_enumT {X : Cx} (K : PySem.W.Frag) {e : Expr} {ta : TA} {p pos tpos : Pos} {elts : List Expr} {kk : Nat} (hg : Gl X "enumerate") (hm : X.mg "enumerate" = none) (ha : PA X [e] ta) (hK : X.K = K := by rfl) (hs : starEach [e] X.env = [(false, eval e X.env)] := by rfl) :
    PI X (.Tuple elts kk tpos) (.Call (.Name "enumerate" p) [e] [] pos) (iEnumT K ta) := by
  subst hK
  refine ⟨fun pins s σ H R I h => ?_⟩
  refine Call_ (ld_blt I hg hm boot_enumerate (PyProof.Rows.callWith_type1 (thn (ha.run pos pins s σ H _ I h) fun us s1 ⟨vs, H1, I1, r1, q1⟩ => ?_) hs rfl))
  obtain ⟨a, xs, rfl, hq, q⟩ := q1
  cases r1 with
  | cons r rr =>
    cases rr
    cases r
    obtain ⟨its, rv, hT, hz⟩ := I1.tuple hq
    refine callEnumT hT fun h2 he hit _ hk => wpAny_pyIter_enum he ?_
    have I2 : Inv X pins σ H1 { s1 with heap := h2 } := I1.kept (t' := s1.toks) hk
    refine ⟨s1.heap.objs.size + 1, [s1.heap.objs.size + 1, s1.heap.objs.size], _, _, H1, rfl, I2, turnEnumT a (s1.heap.objs.size + 1) s1.heap.objs.size xs, ⟨⟨.none, he⟩, hit, Nat.succ_ne_self _⟩, fun b hb => ?_, q⟩
    have lb : s1.heap.objs.size ≤ b := by
      rcases (show b = s1.heap.objs.size + 1 ∨ b = s1.heap.objs.size by simpa using hb) with y | y
      · rw [y]; exact Nat.le_add_right _ _
      · rw [y]; exact Nat.le_refl _
    exact I1.fpOk lb (I1.hok.fresh lb)
section
variable {K : PySem.W.Frag} {σ : L2.St} {H : Hp} {D : Ends} {Q : VK} {a : Addr} {xs : List V} {Ps : List SP} {g : TG} {tb : TS} {tr : TA}
def kEnumT (K : PySem.W.Frag) (R : It → Hp → Prop) : List V → Hp → Prop := fun vs H1 => ∃ a xs, vs = [.ref a] ∧ SqT K H1 a xs ∧ R (IteT K a xs) H1
theorem r_ienumT {R : It → Hp → Prop} (h : tr σ H (kEnumT K R)) : iEnumT K tr σ H R := h
theorem r_for_enumT (J : LW) (S : Sep Ps H) (h0 : J 0 σ Ps) (hl : ∀ i σ Ps H, J i σ Ps → Sep Ps H → SqT K H a xs)
    (hs : ∀ i x T σ Ps H, xs[i]? = some x → J i σ Ps → Sep (pt T (.tup [.int (i : Nat), x]) :: Ps) H → g (.ref T) σ H fun σ2 H2 => tb { D with nx := Nx J (i + 1), ct := Nx J (i + 1), bk := D.nx } σ2 H2) (hd : ∀ σ Ps H, J xs.length σ Ps → Sep Ps H → D.nx σ H) :
    kEnumT K (fun Jt H1 => ForW Jt g tb D σ H1) [.ref a] H := by
  refine ⟨a, xs, rfl, hl 0 σ Ps H h0 S, fun i m σ H => m = xs.length - i ∧ i ≤ xs.length ∧ Nx J i σ H, ⟨xs.length, by simp, Nat.zero_le _, Ps, h0, S⟩, ?_⟩
  rintro i m σ H ⟨rfl, hi, Ps, j, S⟩
  by_cases he : i = xs.length
  · subst he
    exact .inl ⟨⟨hl _ σ Ps H j S, Nat.le_refl _⟩, hd σ Ps H j S⟩
  · refine .inr ⟨⟨hl _ σ Ps H j S, by omega⟩, Nx J (i + 1), fun σ' H' n => ⟨xs.length - (i + 1), by omega, rfl, by omega, n⟩, ?_⟩
    rintro x H' ⟨T, y, rfl, hT, rfl, hy⟩
    exact hs i y T σ Ps _ hy j (S.new _ hT)
end
/-! ### sorted of a list of data that are alike -/
def rSortD (K : PySem.W.Frag) : List V → Hp → VK → Prop := fun xs H Q => ∃ (a : Addr) (ds : List PyData) (G : Hp), xs = [.ref a] ∧ Le G H ∧ Dp K G (.ref a) (.list ds) ∧ PySem.W.AllAlike ds ∧ PySem.W.Sortable ds ∧ (∀ d ∈ ds, d.depth ≤ 50) ∧
  ∀ p out, H p = none → DpAll K G out (ds.mergeSort (PySem.W.dataLe false id)) → Q (.ref p) (upd H p (.lst out))
theorem each_out {K : PySem.W.Frag} {H : Hp} : ∀ {us : List Value} {ds : List PyData}, PySem.W.EachIs (fun u d => ∃ v, RelV v u ∧ Dp K H v d) us ds → ∃ vs, Vals vs us ∧ DpAll K H vs ds
  | _, _, .nil => ⟨[], .nil, .nil⟩
  | _, _, .cons ⟨v, r, h⟩ t => by
    obtain ⟨vs, rs, hs⟩ := each_out t
    exact ⟨v :: vs, .cons r rs, .cons h hs⟩
theorem each_in {X : Cx} {pins : List (Addr × Obj)} {σ : L2.St} {G H : Hp} {s : Shared} (le : Le G H) (I : Inv X pins σ H s) : ∀ {vs : List V} {us : List Value} {ds : List PyData}, Vals vs us → DpAll X.K G vs ds →
    PySem.W.EachIs (fun u d => ∃ v, RelV v u ∧ Dp X.K G v d) us ds ∧ PySem.W.EachIs (fun u d => ∃ as, Reads s.heap u d as) us ds
  | _, _, _, .nil, .nil => ⟨.nil, .nil⟩
  | _, _, _, .cons r rs, .cons h hs => by
    obtain ⟨e1, e2⟩ := each_in le I rs hs
    exact ⟨.cons ⟨_, r, h⟩ e1, .cons (Dp.reads I _ _ _ (Dp.le le _ _ h) r) e2⟩
theorem cr_sortD {X : Cx} (hu : X.A.units + 64 < cLine) : CallR X (.builtin "sorted") (rSortD X.K) := by
  intro pins s σ H xs us Q I r h
  obtain ⟨a, ds, G, rfl, le, hD, hal, hk, hdp, q⟩ := h
  obtain ⟨a', vs, ea, hs, hall⟩ := dp_lstInv hD
  cases ea
  obtain ⟨its, rv, pl, hz⟩ := I.list (SqL.le le hs)
  rw [Vals.ref1 r]
  obtain ⟨e1, e2⟩ := each_in le I rv hall
  have ln : its.length = ds.length := e1.length
  refine PySem.W.sorted_data (vs := its) (enc := id) (bs := ds) pl.isList e1 e2 (by rw [List.map_id]; exact hal) (by rw [List.map_id]; exact hk) (by rw [← ln, ← rv.length]; exact hz) (fun d m => by have := hdp d m; show X.A.units + 2 + d.depth < cLine; omega) fun out lo eo => ?_
  obtain ⟨ep, at1⟩ := sortedAll_at s.heap its out.toArray
  obtain ⟨ws, rw', dw⟩ := each_out eo
  have lw : ws.length ≤ sizeLine := by rw [rw'.length, lo, ← ln, ← rv.length]; exact hz
  exact ⟨.ref _, upd H (s.heap.objs.size + 1) (.lst ws), I.laid (t' := s.toks) (fun _ _ => sortedAll_old) (Nat.le_succ _) ⟨lw, out, ep, rw', at1⟩, rfl, q _ ws (I.hok.fresh (Nat.le_succ _)) dw⟩
end Kt

set_option Elab.async false
set_option linter.all false
set_option maxRecDepth 100000
namespace Kt
open PySem PySem.Spec L2 PyProof.Rows
/-! ### set(xs), xs a list of whole numbers -/
abbrev soOf (w : World) : Obj := { cls := .type "set", dict := none, data := .set #[] 0 (.fresh 0 0 (!w.params.followText "set-order")) }
section
variable {P : Program} {w : World} {A : Around} {E : Value → Shared → Prop} {s : Shared}
set_option maxHeartbeats 3200000 in
theorem callSetL {l : Addr} {vs : Array Value} (ns : List Int) {Z : Value → Shared → Prop} (h0 : A.handled = none) (hL : s.heap.IsList l vs) (hI : IntsAre vs.toList ns) (hB : ns.length + 1 < scanBound)
    (q : ∀ (h2 : Heap) (tk c : Nat), SetR w h2 s.heap.objs.size (fun j => decide (j ∈ ns)) c → c ≤ ns.length → (∀ b o, s.heap.get? b = some o → h2.get? b = some o) → Z (.ref s.heap.objs.size) { s with heap := h2, toks := tk }) :
    wpAny (model P w) A (call (.type "set") [.ref l]) Z E s := by
  have sz : vs.size = ns.length := (Array.length_toList ..).symm.trans (IntsAre.length hI)
  obtain ⟨c, tl, hmro⟩ := F.called_set.mro
  have hmade := F.called_set.made
  have hsub := F.called_set.sub
  refine wpAny_call (codeAny_of_tree ?_)
  show wpAny _ _ (callAny (.type "set") _) _ _ _
  refine wpAny_pure ⟨Code.quiet_builtin _ (by decide +kernel), codeAny_builtin F.entry_type_call ?_⟩
  rw [Around.under_plain (weight_type_call_type "set" [.ref l] []) rfl]
  have g1 := F.called_set.notType
  have g2 := F.called_set.canCreate
  have g3 := F.typeCall_set_1 (.ref l)
  repeat (any_goals (first | assumption | wp_step))
  refine codeAny_mono (code_set_led1 (.ref l) (E := E) (Q₁ := fun ob s₁ => ob = .ref s.heap.objs.size ∧ s₁ = { s with heap := s.heap.push (soOf w) }) ⟨rfl, rfl⟩) fun r s₁ hr => ?_
  cases r with
  | error e => exact hr
  | ok fl =>
    cases fl with
    | ret ob =>
      obtain ⟨rfl, rfl⟩ := hr
      have eS : (s.heap.push (soOf w)).get? s.heap.objs.size = some (soOf w) := Heap.get?_push_size _ rfl
      have tS : Shared.TypeIs { s with heap := s.heap.push (soOf w) } (.ref s.heap.objs.size) "set" := ⟨_, eS, rfl⟩
      have i1 := F.called_set.init.lookup
      have i2 := F.called_set.init.bind (.ref s.heap.objs.size)
      repeat (any_goals (first | assumption | wp_step))
      refine codeAny_mono (codeAny_call_builtin (R := wants (fun r s₂ => r = .none ∧ ∃ h2 tk c, s₂ = { s with heap := h2, toks := tk } ∧ SetR w h2 s.heap.objs.size (fun j => decide (j ∈ ns)) c ∧ c ≤ ns.length ∧ (∀ b o, s.heap.get? b = some o → h2.get? b = some o)) E) F.called_set.init.plain F.entry_set_init (check_set_init_1 tS ?_)) fun r₂ s₂ hr₂ => ?_
      · obtain ⟨ol, eol, col, nl, dol⟩ := hL
        obtain ⟨kc, kd, kt, ks⟩ := ol
        simp only at col dol
        subst col; subst dol
        have eo2 : (s.heap.push (soOf w)).get? l = some { cls := .type "list", dict := kd, data := .seq vs nl, slots := ks } := Heap.get?_push_of_some _ eol
        have sb1 := F.sub_list_set
        have sb2 := F.sub_list_frozenset
        have hne : (Value.type "list" == Value.type "dict") = false := by decide
        have hL1 : (s.heap.push (soOf w)).IsList l vs := ⟨_, eo2, rfl, nl, rfl⟩
        unfold Builtin.«set.__init__» noKeywords Builtin.Frozenset.updateFrom
        generalize hPI : pyIter = PI
        wp_walk
        subst hPI
        refine wpAny_pyIter_list hL1 ?_
        refine wpAny_bind (wpAny_runValue ?_)
        have ll : l < s.heap.objs.size := Heap.lt_size eol
        have hh3 : A.in1.in1.in1.handled = none := by simp [h0]
        have zz : (s.heap.push (soOf w)).objs.size = s.heap.objs.size + 1 := Heap.size_push ..
        have ne1 : l ≠ (s.heap.push (soOf w)).objs.size := by rw [zz]; exact Nat.ne_of_lt (Nat.lt_succ_of_lt ll)
        have ne2 : s.heap.objs.size ∉ [(s.heap.push (soOf w)).objs.size, l] := by
          rw [zz]; simp only [List.mem_cons, List.not_mem_nil, or_false, not_or]
          exact ⟨Nat.ne_of_lt (Nat.lt_succ_self _), Nat.ne_of_gt ll⟩
        have val : ∀ (i : Nat) (v : Value), vs[i]? = some v → ∃ k t, ns[i]? = some k ∧ v = .int k t := fun i v hv => by
          have hi : i < ns.length := by rw [← sz]; exact (Array.getElem?_eq_some_iff.mp hv).1
          obtain ⟨t, e⟩ := PyProof.Rows.IntsAre.int_at hI i v (by rw [Array.getElem?_toList]; exact hv)
          exact ⟨ns[i], t, List.getElem?_eq_getElem hi, by rw [e, List.getD_eq_getElem?_getD, List.getElem?_eq_getElem hi] <;> rfl⟩
        refine set_update_ints ((Walks.list hh3 _ l ne1 vs).toS) s.heap.objs.size ne2 ns sz hB val (vs.size - 0) 0 _ (by omega) (Nat.zero_le _) ⟨⟨_, Heap.get?_push_size _ rfl, rfl, rfl⟩, (hL1.push _)⟩ ?k0 ?k1
        case k0 => exact ⟨0, Nat.le_refl 0, setR_new_at (Heap.get?_push_of_some _ eS)⟩
        case k1 =>
          intro s' c' hm hc' hS'
          obtain ⟨h2, g2, d2, tk, os2⟩ := s'
          obtain rfl : g2 = s.gens := hm.gens
          obtain rfl : d2 = s.drawn := hm.drawn
          obtain rfl : os2 = s.os := hm.os
          show wpAny _ _ _ _ _ _
          refine wpAny_pure ?_
          show wpAny _ _ (ret Value.none) _ _ _
          rw [sz] at hc'
          refine wpAny_pure ⟨rfl, h2, tk, c', rfl, hS', hc', fun b o e => ?_⟩
          have lb : b < s.heap.objs.size := Heap.lt_size e
          exact hm.heap b o (by rw [zz]; simp only [List.mem_cons, List.not_mem_nil, or_false, not_or]; exact ⟨Nat.ne_of_lt lb, Nat.ne_of_lt (Nat.lt_succ_of_lt lb)⟩) (Heap.get?_push_of_some _ (Heap.get?_push_of_some _ e))
      · cases r₂ with
        | error e => exact hr₂
        | ok fl₂ =>
          cases fl₂ with
          | ret r =>
            obtain ⟨rfl, h2, tk, c', rfl, hS', hc', hk'⟩ := hr₂
            repeat (any_goals (first | assumption | wp_step))
            exact q _ _ _ hS' hc' hk'
          | _ => exact hr₂.elim
    | _ => exact hr.elim
end
/-- set(xs) -/
def rSetL (K : PySem.W.Frag) (w : World) : List V → Hp → VK → Prop := fun xs H Q => ∃ (a : Addr) (ns : List Int), xs = [.ref a] ∧ SqL K H a (ns.map V.int) ∧ ns.length ≤ 1000 ∧ ∀ p c, H p = none → c ≤ ns.length → Q (.ref p) (upd H p (SetO w p (fun j => decide (j ∈ ns)) c))
theorem cr_setL {X : Cx} (hc : X.calm = true) : CallR X (.type "set") (rSetL X.K X.w) := by
  intro pins s σ H xs us Q I r h
  obtain ⟨a, ns, rfl, hs, hl, q⟩ := h
  obtain ⟨its, rv, pl, hz⟩ := I.list hs
  rw [Vals.ref1 r]
  refine callSetL ns (I.ok.hd hc) pl.isList (by simpa using rv.ints) (Nat.lt_of_le_of_lt (Nat.add_le_add_right hl 1) (by unfold scanBound; decide)) fun h2 tk c R lc hk => ?_
  exact ⟨.ref _, upd H s.heap.objs.size (SetO X.w s.heap.objs.size (fun j => decide (j ∈ ns)) c), I.laid (t' := tk) hk (Nat.le_refl _) (setO_new R), rfl, q _ c (I.hok.fresh (Nat.le_refl _)) lc⟩
/-! ### sorted of a list of data, or of a set of whole numbers -/
theorem asc_ext : ∀ {a b : List Int}, a.Pairwise (· < ·) → b.Pairwise (· < ·) → (∀ k, k ∈ a ↔ k ∈ b) → a = b
  | [], [], _, _, _ => rfl
  | [], y :: b, _, _, h => by have := (h y).mpr List.mem_cons_self; cases this
  | x :: a, [], _, _, h => by have := (h x).mp List.mem_cons_self; cases this
  | x :: a, y :: b, ha, hb, h => by
    obtain ⟨a1, a2⟩ := List.pairwise_cons.mp ha
    obtain ⟨b1, b2⟩ := List.pairwise_cons.mp hb
    have e : x = y := by
      rcases List.mem_cons.mp ((h x).mp List.mem_cons_self) with e | m
      · exact e
      · rcases List.mem_cons.mp ((h y).mpr List.mem_cons_self) with e | m2
        · exact e.symm
        · have := b1 x m
          have := a1 y m2
          omega
    subst e
    congr 1
    refine asc_ext a2 b2 fun k => ⟨fun m => ?_, fun m => ?_⟩
    · rcases List.mem_cons.mp ((h k).mp (List.mem_cons_of_mem _ m)) with e | m2
      · subst e; have := a1 _ m; omega
      · exact m2
    · rcases List.mem_cons.mp ((h k).mpr (List.mem_cons_of_mem _ m)) with e | m2
      · subst e; have := b1 _ m; omega
      · exact m2
def rSortA (K : PySem.W.Frag) (w : World) : List V → Hp → VK → Prop := fun xs H Q => rSortD K xs H Q ∨ rSortedSet w xs H Q
theorem cr_sortA {X : Cx} (hc : X.calm = true) (hu : X.A.units + 64 < cLine) : CallR X (.builtin "sorted") (rSortA X.K X.w) := fun pins s σ H xs us Q I r h => h.elim (cr_sortD hu pins s σ H xs us Q I r) (cr_sortedSet hc pins s σ H xs us Q I r)
end Kt

set_option Elab.async false
set_option linter.all false
set_option maxRecDepth 100000
namespace Kt
open PySem L2 PyProof.Rows
/-! ### orders and shapes as data -/
abbrev Lv := List Str
abbrev Od := List Lv
def dLv (l : Lv) : PyData := .tuple (l.map PyData.str)
def dOd (o : Od) : PyData := .tuple (o.map dLv)
def dOds (os : List Od) : PyData := .list (os.map dOd)
def dShp (os : List Od) : PyData := .tuple (os.map dOd)
def dNs (l : List Str) : PyData := .list (l.map PyData.str)
def leOd : Od → Od → Bool := PySem.W.dataLe false dOd
def leS : Str → Str → Bool := PySem.W.dataLe false PyData.str
def sortS (l : List Str) : List Str := l.mergeSort leS
def lvO (o : Od) (x : Str) : Option Nat := o.findIdx? fun l => decide (x ∈ l)
def dOpt : Option Nat → PyData
  | none => .none
  | some n => .int n
def vOpt : Option Nat → V
  | none => .non
  | some n => .int n
def dOptI : Option Int → PyData
  | none => .none
  | some n => .int n
def vOptI : Option Int → V
  | none => .non
  | some n => .int n
def cmpO (o : Od) (x y : Str) : Option Int :=
  match lvO o x, lvO o y with
  | some i, some j => some (if i = j then 0 else if i < j then -1 else 1)
  | _, _ => none
def onlyO (ps : List Str) (o : Od) : Od := (o.map (List.filter fun x => decide (x ∈ ps))).filter fun l => !l.isEmpty
def shpO (os : List Od) : List Od := (os.filter fun o => !o.isEmpty).mergeSort leOd
def arrO (s : List Od) (x : Str) : Option Nat := s.findIdx? fun o => (lvO o x).isSome
def stO (s : List Od) (x y : Str) : Option Int := s.findSome? fun o => cmpO o x y
def passedS : List Str := ["+0", "+1"]
def commonS : List Str := ["=", "^", "!"]
def keptP (s : List Od) (ns : List Str) : List Od := shpO ((s.filter fun o => !(onlyO (ns ++ passedS) o).isEmpty).map (onlyO (ns ++ passedS ++ commonS)))
section
variable {K : PySem.W.Frag} {G H : Hp} {v : V}
theorem dp_opt (o : Option Nat) : Dp K G (vOpt o) (dOpt o) := by
  cases o with
  | none => exact .non
  | some n => exact .int _
theorem dp_optI (o : Option Int) : Dp K G (vOptI o) (dOptI o) := by
  cases o with
  | none => exact .non
  | some n => exact .int _
/-! ### all of these are alike -/
theorem alike_strs : ∀ a b : List Str, PySem.W.alikeAll (a.map PyData.str) (b.map PyData.str) = true
  | [], _ => by simp [PySem.W.alikeAll]
  | _ :: _, [] => by simp [PySem.W.alikeAll]
  | x :: a, y :: b => by
    show PySem.W.alikeAll (.str x :: a.map PyData.str) (.str y :: b.map PyData.str) = true
    rw [PySem.W.alikeAll, alike_strs a b]
    simp [PySem.W.alike]
theorem alike_lv (a b : Lv) : PySem.W.alike (dLv a) (dLv b) = true := by
  unfold dLv
  rw [PySem.W.alike]
  exact alike_strs a b
theorem alike_lvs : ∀ a b : Od, PySem.W.alikeAll (a.map dLv) (b.map dLv) = true
  | [], _ => by simp [PySem.W.alikeAll]
  | _ :: _, [] => by simp [PySem.W.alikeAll]
  | x :: a, y :: b => by
    show PySem.W.alikeAll (dLv x :: a.map dLv) (dLv y :: b.map dLv) = true
    rw [PySem.W.alikeAll, alike_lvs a b, alike_lv]
    rfl
theorem alike_od (a b : Od) : PySem.W.alike (dOd a) (dOd b) = true := by
  unfold dOd
  rw [PySem.W.alike]
  exact alike_lvs a b
theorem depth_strs : ∀ a : List Str, PyData.depthAll (a.map PyData.str) = 0
  | [] => by simp [PyData.depthAll]
  | x :: a => by
    show PyData.depthAll (.str x :: a.map PyData.str) = 0
    rw [PyData.depthAll, depth_strs a]
    simp [PyData.depth]
theorem depth_lv (a : Lv) : (dLv a).depth ≤ 1 := by
  unfold dLv
  rw [PyData.depth, depth_strs]
  decide
theorem depth_lvs : ∀ a : Od, PyData.depthAll (a.map dLv) ≤ 1
  | [] => by simp [PyData.depthAll]
  | x :: a => by
    show PyData.depthAll (dLv x :: a.map dLv) ≤ 1
    rw [PyData.depthAll]
    have h1 := depth_lv x
    have h2 := depth_lvs a
    omega
theorem depth_od (a : Od) : (dOd a).depth ≤ 2 := by
  unfold dOd
  rw [PyData.depth]
  have := depth_lvs a
  omega
theorem allAlike_od (os : List Od) : PySem.W.AllAlike (os.map dOd) := PySem.W.AllAlike.of alike_od
theorem allAlike_str (l : List Str) : PySem.W.AllAlike (l.map PyData.str) := PySem.W.AllAlike.of fun a b => by simp [PySem.W.alike]
theorem sortable_str (l : List Str) : PySem.W.Sortable (l.map PyData.str) := PySem.W.Sortable.others fun b => ⟨nofun, nofun⟩
theorem sortable_od {os : List Od} (h : ∀ o ∈ os, o ≠ []) : PySem.W.Sortable (os.map dOd) := .inl fun d hd => by
  obtain ⟨o, ho, rfl⟩ := List.mem_map.mp hd
  cases o with
  | nil => exact absurd rfl (h _ ho)
  | cons l o => exact ⟨dLv l, o.map dLv, rfl⟩
theorem sort_od (os : List Od) : (os.map dOd).mergeSort (PySem.W.dataLe false id) = (os.mergeSort leOd).map dOd := (List.map_mergeSort (f := dOd) (r := leOd) (s := PySem.W.dataLe false id) (l := os) (fun a _ b _ => rfl)).symm
theorem sort_str (l : List Str) : (l.map PyData.str).mergeSort (PySem.W.dataLe false id) = (sortS l).map PyData.str := (List.map_mergeSort (f := PyData.str) (r := leS) (s := PySem.W.dataLe false id) (l := l) (fun a _ b _ => rfl)).symm
/-- sorted of texts, of orders -/
theorem r_sortS {Q : VK} {w : World} {a : Addr} {l : List Str} (le : Le G H) (hD : Dp K G (.ref a) (dNs l)) (h : ∀ p, H p = none → Q (.ref p) (upd H p (.lst ((sortS l).map V.str)))) : rSortA K w [.ref a] H Q :=
  .inl ⟨a, _, G, rfl, le, hD, allAlike_str l, sortable_str l, fun d m => by
    obtain ⟨x, _, rfl⟩ := List.mem_map.mp m
    exact Nat.zero_le _, fun p out np ho => by
    rw [sort_str] at ho
    rw [dpall_strsInv ho]
    exact h p np⟩
theorem r_sortOd {Q : VK} {w : World} {a : Addr} {os : List Od} (le : Le G H) (hD : Dp K G (.ref a) (dOds os)) (h0 : ∀ o ∈ os, o ≠ []) (h : ∀ p out, H p = none → DpAll K G out ((os.mergeSort leOd).map dOd) → Q (.ref p) (upd H p (.lst out))) : rSortA K w [.ref a] H Q :=
  .inl ⟨a, _, G, rfl, le, hD, allAlike_od os, sortable_od h0, fun d m => by
    obtain ⟨x, _, rfl⟩ := List.mem_map.mp m
    have := depth_od x
    omega, fun p out np ho => by
    rw [sort_od] at ho
    exact h p out np ho⟩
/-- sorted of a set of whole numbers: the list that ascends -/
theorem r_sortSet {Q : VK} {w : World} {a : Addr} {ns ms : List Int} {c : Nat} (e : H a = some (SetO w a (fun j => decide (j ∈ ns)) c)) (hc : c < 64) (hm : ms.Pairwise (· < ·)) (hi : ∀ k, k ∈ ms ↔ k ∈ ns) (h : ∀ p, H p = none → Q (.ref p) (upd H p (.lst (ms.map V.int)))) : rSortA K w [.ref a] H Q :=
  .inr ⟨a, _, c, rfl, e, hc, fun zs p h1 h2 h3 np => by
    have : zs = ms := asc_ext h1 hm fun k => by rw [h2, hi]; simp
    rw [this]
    exact h p np⟩
end
/-! ### a star in a display -/
theorem pa_starK {X : Cx} (K : PySem.W.Frag) {e : Expr} {es : List Expr} {te : TE} {t : TA} {p : Pos} (he : PE X e te) (hr : PA X es t) (hK : X.K = K := by rfl) (hs : starEach (.Starred e p :: es) X.env = (true, eval e X.env) :: starEach es X.env := by rfl) : PA X (.Starred e p :: es) (StX.tStar K te t) := by
  subst hK
  exact StX.pa_star he hr hs
section
variable {K : PySem.W.Frag} {σ : L2.St} {G H : Hp} {Q : VK} {QA : List V → Hp → Prop} {QT : Bool → Hp → Prop} {a : Addr} {xs : List V} {ds : List PyData} {te : TE} {tr : TA} {R : List SP} {v : V} {d : PyData}
def kStar (K : PySem.W.Frag) (t : Hp → (List V → Hp → Prop) → Prop) (QA : List V → Hp → Prop) : V → Hp → Prop := fun x H1 => ∃ p xs, x = V.ref p ∧ (SqT K H1 p xs ∨ SqL K H1 p xs) ∧ t H1 fun ys H2 => QA (xs ++ ys) H2
theorem r_star (h : te σ H (kStar K (tr σ) QA)) : StX.tStar K te tr σ H QA := h
theorem r_starT (s : SqT K H a xs) (h : tr σ H fun ys H2 => QA (xs ++ ys) H2) : kStar K (tr σ) QA (.ref a) H := ⟨a, xs, rfl, .inl s, h⟩
theorem r_starL (s : SqL K H a xs) (h : tr σ H fun ys H2 => QA (xs ++ ys) H2) : kStar K (tr σ) QA (.ref a) H := ⟨a, xs, rfl, .inr s, h⟩
/-! ### what the growing part says -/
theorem hp_dp (S : Sep (hp G :: R) H) (h : Dp K G v d) : Dp K H v d := Dp.le (hp_le S) _ _ h
theorem hp_sqL (S : Sep (hp G :: R) H) (h : SqL K G a xs) : SqL K H a xs := SqL.le (hp_le S) h
theorem hp_sqT (S : Sep (hp G :: R) H) (h : SqT K G a xs) : SqT K H a xs := SqT.le (hp_le S) h
theorem dns_sq {l : List Str} (h : Dp K G (.ref a) (dNs l)) : SqL K G a (l.map V.str) := by
  obtain ⟨b, xs, e, s, t⟩ := dp_lstInv h
  cases e
  rw [← dpall_strsInv t]
  exact s
theorem dlv_sq {l : Lv} (h : Dp K G (.ref a) (dLv l)) : SqT K G a (l.map V.str) := by
  obtain ⟨b, xs, e, s, t⟩ := dp_tupInv h
  cases e
  rw [← dpall_strsInv t]
  exact s
theorem r_in_strs {i : Str} {ns : List Str} (s : SqL K H a (ns.map V.str) ∨ SqT K H a (ns.map V.str)) (h : Q (.bl (decide (i ∈ ns))) H) : rIn K false (.str i) (.ref a) H Q := ⟨a, _, rfl, s, rfl, flat_strs ns, by rw [in_strs]; exact h⟩
theorem r_notin_strs {i : Str} {ns : List Str} (s : SqL K H a (ns.map V.str) ∨ SqT K H a (ns.map V.str)) (h : Q (.bl (!decide (i ∈ ns))) H) : rIn K true (.str i) (.ref a) H Q := ⟨a, _, rfl, s, rfl, flat_strs ns, by rw [in_strs]; exact h⟩
/-! ### a test by truth -/
def tTru (K : PySem.W.Frag) (te : TE) : TT := fun σ H QT => te σ H fun x H1 => ∃ k, TruV K x H1 k ∧ QT k H1
def kTru (K : PySem.W.Frag) (QT : Bool → Hp → Prop) : V → Hp → Prop := fun x H1 => ∃ k, TruV K x H1 k ∧ QT k H1
theorem pt_truK {X : Cx} (K : PySem.W.Frag) {e : Expr} {te : TE} (he : PE X e te) (hK : X.K = K := by rfl) (hw : ∀ whole, isTrue e X.env whole = (do let v ← whole; standAt e.pos; holding [v] (truthy v)) := by intro _; rfl) : PT X e (tTru K te) := by
  subst hK
  exact pt_truth he hw
theorem r_tru (h : te σ H (kTru K QT)) : tTru K te σ H QT := h
theorem r_truT (s : SqT K H a xs) (h : QT (!xs.isEmpty) H) : kTru K QT (.ref a) H := ⟨_, .inr (.inl ⟨xs, s, rfl⟩), h⟩
theorem r_truL (s : SqL K H a xs) (h : QT (!xs.isEmpty) H) : kTru K QT (.ref a) H := ⟨_, .inl ⟨xs, s, rfl⟩, h⟩
theorem r_itup {R : It → Hp → Prop} {tl : TE} (h : tl σ H fun x H1 => ∃ a, x = .ref a ∧ (∃ xs, SqT K H1 a xs) ∧ R (Itt K a) H1) : iTup K tl σ H R := h
end
end Kt

set_option Elab.async false
set_option linter.all false
set_option maxRecDepth 100000
namespace Kt
open PySem L2 PyProof.Rows
/-! ### dicts whose keys are texts, whose values are whole numbers -/
abbrev Rk := List (Str × Int)
def kS (x : Str) : Key := .inr x
def encK (l : Rk) : List (Key × V) := l.map fun e => (kS e.1, .int e.2)
theorem encK_len (l : Rk) : (encK l).length = l.length := List.length_map ..
def rkGet (l : Rk) (p : Str) : Option Int := (l.find? fun e => decide (e.1 = p)).map (·.2)
theorem valV_enc (l : Rk) (p : Str) : valV (encK l) (kS p) = (rkGet l p).map V.int := by
  unfold valV rkGet encK
  rw [List.find?_map]
  have e : ((fun kv : Key × V => decide (kv.1 = kS p)) ∘ fun e : Str × Int => (kS e.1, V.int e.2)) = fun e : Str × Int => decide (e.1 = p) := by
    funext e
    exact decide_eq_decide.mpr ⟨fun h => Sum.inr.inj h, fun h => congrArg kS h⟩
  rw [e]
  cases (l.find? fun e => decide (e.1 = p)) <;> rfl
theorem putK_enc {l : Rk} {p : Str} {i : Int} (h : ∀ e ∈ l, e.1 ≠ p) : putK (encK l) (kS p) (.int i) = encK (l ++ [(p, i)]) := by
  unfold putK
  rw [if_neg]
  · unfold encK
    rw [List.map_append]
    rfl
  · intro q
    obtain ⟨kv, m, hd⟩ := List.any_eq_true.mp q
    obtain ⟨e, me, rfl⟩ := List.mem_map.mp m
    exact h e me (Sum.inr.inj (of_decide_eq_true hd))
theorem rkGet_mem {l : Rk} (hn : (l.map Prod.fst).Nodup) {e : Str × Int} (h : e ∈ l) : rkGet l e.1 = some e.2 := by
  induction l with
  | nil => cases h
  | cons x l ih =>
    rw [List.map_cons, List.nodup_cons] at hn
    unfold rkGet
    rw [List.find?_cons]
    rcases List.mem_cons.mp h with q | q
    · subst q
      simp
    · have ne : x.1 ≠ e.1 := fun z => hn.1 (z ▸ List.mem_map_of_mem (f := Prod.fst) q)
      rw [decide_eq_false ne]
      exact ih hn.2 q
section
variable {K : PySem.W.Frag} {σ : L2.St} {G H : Hp} {D : Ends} {Q : VK} {QT : Bool → Hp → Prop} {d : Addr} {kvs : List (Key × V)} {td ty tv : TE} {x y v : V} {R Ps : List SP} {p : Str} {l : Rk} {vs : List Nat} {g : TG} {tt : TT} {te : TE}
def kDGet (Q : VK) (x y : V) (H : Hp) : Prop := ∃ a v, x = .ref a ∧ DGet H a y (some v) ∧ Q v H
theorem r_dget (h : td σ H fun x H1 => ty σ H1 fun y H2 => kDGet Q x y H2) : tDGet td ty σ H Q := h
theorem r_dgetK {i : Int} (e : Rd H d (.dK (encK l))) (hv : rkGet l p = some i) (q : Q (.int i) H) : kDGet Q (.ref d) (.str p) H :=
  ⟨d, _, rfl, .inl ⟨_, kS p, e, rfl, by rw [valV_enc, hv]; rfl⟩, q⟩
def kDIn (Q : VK) (y x : V) (H : Hp) : Prop := ∃ a o, x = .ref a ∧ DGet H a y o ∧ Q (.bl o.isSome) H
def kDNotIn (Q : VK) (y x : V) (H : Hp) : Prop := ∃ a o, x = .ref a ∧ DGet H a y o ∧ Q (.bl (!o.isSome)) H
theorem r_din (h : ty σ H fun y H1 => td σ H1 fun x H2 => kDIn Q y x H2) : tDIn ty td σ H Q := h
theorem r_dnotin (h : ty σ H fun y H1 => td σ H1 fun x H2 => kDNotIn Q y x H2) : tDNotIn ty td σ H Q := h
theorem opt_map_some {α β : Type} {f : α → β} (o : Option α) : (o.map f).isSome = o.isSome := by cases o <;> rfl
theorem r_dinK (e : Rd H d (.dK (encK l))) (q : Q (.bl (rkGet l p).isSome) H) : kDIn Q (.str p) (.ref d) H :=
  ⟨d, _, rfl, .inl ⟨_, kS p, e, rfl, rfl⟩, by rw [valV_enc, opt_map_some]; exact q⟩
theorem r_dnotinK (e : Rd H d (.dK (encK l))) (q : Q (.bl (!(rkGet l p).isSome)) H) : kDNotIn Q (.str p) (.ref d) H :=
  ⟨d, _, rfl, .inl ⟨_, kS p, e, rfl, rfl⟩, by rw [valV_enc, opt_map_some]; exact q⟩
def kDPut (D : Ends) (σ : L2.St) (v x y : V) (H : Hp) : Prop := ∃ a H4, x = .ref a ∧ DPut H a y v H4 ∧ D.nx σ H4
theorem r_dput (h : tv σ H fun v H1 => td σ H1 fun x H2 => ty σ H2 fun y H3 => kDPut D σ v x y H3) : sDPut td ty tv D σ H := h
theorem r_dputK {i : Int} (S : Sep (pt d (.dK (encK l)) :: R) H) (hn : ∀ e ∈ l, e.1 ≠ p) (hl : l.length ≤ 100000) (q : ∀ H', Sep (pt d (.dK (encK (l ++ [(p, i)]))) :: R) H' → D.nx σ H') : kDPut D σ (.int i) (.ref d) (.str p) H :=
  ⟨d, _, rfl, .inl ⟨_, kS p, S.hd_at, rfl, by rw [encK_len]; exact Nat.lt_of_le_of_lt hl (by decide), rfl⟩, q _ (by rw [← putK_enc hn]; exact S.hd_set _)⟩
/-! ### a comprehension over a dict's keys -/
section
variable {β : Type} {enc2 : β → PyData} {f : Str × Int → Option β}
theorem r_lcD {iv : Nat} (S : Sep (pt d (.dK (encK l)) :: hp G :: R) H) (hv : σ[iv]? = some (some (.ref d))) (hl : l.length ≤ 80000) (f : Str × Int → Option β) (enc2 : β → PyData)
    (turn : ∀ e ∈ l, ∀ od, LcT K G (pt d (.frz od (.dK (encK l))) :: R) g tt te vs σ (.str e.1) ((f e).map enc2))
    (fin : ∀ D acc G' H', Le G G' → DpAll K G' acc ((l.filterMap f).map enc2) → Sep (pt D (.lst acc) :: hp G' :: pt d (.dK (encK l)) :: R) H' → Q (.ref D) H') : tLockE (tLc (iKeys (tVar iv)) g tt te vs) σ H Q := by
  refine ⟨d, .dK (encK l), S.hd_at, ?_, fun od => ?_⟩
  · first | trivial | exact .inr rfl | exact ⟨⟩ | simp [Mut]
  have S1 : Sep (hp G :: pt d (.frz od (.dK (encK l))) :: R) (upd H d (.frz od (.dK (encK l)))) := (S.hd_set _).swap
  refine r_tlc (q_var hv ⟨d, od, rfl, .inl ⟨encK l, upd_same, fun D nD => ?_⟩⟩)
  refine lc_it (walk_keys (d := d) (o := od) (kvs := encK l)) (CN (fun i acc Ps => ∃ Gi, Le G Gi ∧ Ps = hp Gi :: pt d (.frz od (.dK (encK l))) :: R ∧ DpAll K Gi acc (((l.take i).filterMap f).map enc2) ∧ acc.length ≤ i) D) ?_ ?_ ?_ ?_
  · exact ⟨[], _, ⟨G, Le.rfl, rfl, .nil, Nat.zero_le _⟩, S1.new _ nD⟩
  · rintro i H hi ⟨acc, Ps, ⟨Gi, le, rfl, _⟩, S⟩
    exact S.tl.tl.hd_at
  · rintro i x H H' hi ⟨acc, Ps, ⟨Gi, le, rfl, hacc, hn⟩, S⟩ ⟨rfl, k, v, hk, rfl⟩
    unfold encK at hk
    rw [List.getElem?_map] at hk
    rw [encK_len] at hi
    cases ez : l[i]? with
    | none => rw [ez] at hk; cases hk
    | some z =>
      rw [ez] at hk
      cases hk
      have st := lcd_step (f := f) (enc2 := enc2) ez
      refine turn z (List.mem_of_getElem? ez) od D acc Gi _ _ _ le (.str _) (by omega) S (fun y zz G' H4 l4 ey hy S4 => ?_) (fun en H3 S3 => ?_)
      · refine cn_in S4 (by omega) ⟨G', le.tr l4, rfl, ?_, by rw [List.length_append]; simp; omega⟩
        cases q : f z with
        | none => rw [q] at ey; cases ey
        | some w =>
          rw [q] at ey st
          cases ey
          rw [st]
          exact dpall_snoc (DpAll.le l4 _ _ hacc) hy
      · refine cn_out S3 ⟨Gi, le, rfl, ?_, by omega⟩
        cases q : f z with
        | some w => rw [q] at en; cases en
        | none =>
          rw [q] at st
          rw [st, List.append_nil]
          exact hacc
  · rintro H' ⟨acc, Ps, ⟨Gi, le, rfl, hacc, hn⟩, S⟩
    rw [encK_len, List.take_length] at hacc
    refine ⟨S.tl.tl.hd_at, fin D acc Gi _ le hacc ?_⟩
    have S3 : Sep (pt d (.frz od (.dK (encK l))) :: pt D (.lst acc) :: hp Gi :: R) H' := (S.cons_mono fun _ => Sep.swap).swap
    have S4 := S3.hd_set (.dK (encK l))
    exact S4.swap.cons_mono fun _ => Sep.swap
end
/-! ### ints in a list; pairs in a list -/
theorem dpall_intsInv : ∀ {xs : List Int} {vs : List V}, DpAll K G vs (xs.map PyData.int) → vs = xs.map V.int
  | [], _, h => by cases h; rfl
  | x :: xs, _, h => by
    rw [List.map_cons] at h
    cases h with
    | cons h t => rw [dp_intInv h, dpall_intsInv t]; rfl
def dPr (e : Str × Int) : PyData := .tuple [.str e.1, .int e.2]
theorem dpall_prs : ∀ {l : Rk} {vs : List V}, DpAll K G vs (l.map dPr) → ∃ ps : List Addr, vs = ps.map V.ref ∧ Paired (fun p kv => SqT K G p [kV kv.1, kv.2]) ps (encK l)
  | [], _, h => by cases h; exact ⟨[], rfl, .nil⟩
  | e :: l, _, h => by
    rw [List.map_cons] at h
    cases h with
    | cons h t =>
      obtain ⟨ps, rfl, hp⟩ := dpall_prs t
      obtain ⟨a, xs, rfl, hs, hx⟩ := dp_tupInv (ds := [.str e.1, .int e.2]) h
      cases hx with
      | cons h1 t1 =>
        cases t1 with
        | cons h2 t2 =>
          cases t2
          rw [dp_strInv h1, dp_intInv h2] at hs
          exact ⟨a :: ps, rfl, .cons hs hp⟩
theorem mergeK_app : ∀ {l l2 : Rk}, ((l ++ l2).map Prod.fst).Nodup → mergeK (encK l) (encK l2) = encK (l ++ l2)
  | l, [], _ => by rw [List.append_nil]; rfl
  | l, e :: l2, hn => by
    have ne : ∀ z ∈ l, z.1 ≠ e.1 := by
      intro z m q
      rw [List.map_append, List.nodup_append] at hn
      exact hn.2.2 z.1 (List.mem_map_of_mem m) e.1 (by simp) q
    show mergeK (putK (encK l) (kS e.1) (.int e.2)) (encK l2) = _
    have e1 : l ++ e :: l2 = (l ++ [e]) ++ l2 := by simp
    rw [putK_enc ne, e1]
    exact mergeK_app (by rw [← e1]; exact hn)
def rDictP (K : PySem.W.Frag) : List V → Hp → VK → Prop := fun xs H Q => ∃ (a : Addr) (ps : List Addr) (kvs : List (Key × V)), xs = [.ref a] ∧ SqL K H a (ps.map V.ref) ∧ Paired (fun p kv => SqT K H p [kV kv.1, kv.2]) ps kvs ∧
    ∀ p, H p = none → Q (.ref p) (upd H p (.dK (mergeK [] kvs)))
theorem cr_dictP {X : Cx} (hc : X.calm = true) : CallR X (.type "dict") (rDictP X.K) := call_dictP hc
theorem paired_imp {α β : Type} {p q : α → β → Prop} (h : ∀ a b, p a b → q a b) : ∀ {as : List α} {bs : List β}, Paired p as bs → Paired q as bs
  | _, _, .nil => .nil
  | _, _, .cons x t => .cons (h _ _ x) (paired_imp h t)
theorem r_dictP {a : Addr} (S : Sep (hp G :: R) H) (h : Dp K G (.ref a) (.list (l.map dPr))) (hn : (l.map Prod.fst).Nodup) (q : ∀ p H', Sep (pt p (.dK (encK l)) :: hp G :: R) H' → Q (.ref p) H') : rDictP K [.ref a] H Q := by
  obtain ⟨a', vs, e, hs, hx⟩ := dp_lstInv h
  cases e
  obtain ⟨ps, rfl, hpp⟩ := dpall_prs hx
  refine ⟨a, ps, encK l, rfl, hp_sqL S hs, paired_imp (fun p kv => hp_sqT S) hpp, fun p np => q p _ ?_⟩
  have e : mergeK [] (encK l) = encK l := mergeK_app (l := []) (l2 := l) hn
  rw [e]
  exact S.new _ np
theorem r_setI {w : World} {a : Addr} {ns : List Int} (S : Sep Ps H) (s : SqL K H a (ns.map V.int)) (hl : ns.length ≤ 1000) (q : ∀ p c H', c ≤ ns.length → Sep (pt p (SetO w p (fun j => decide (j ∈ ns)) c) :: Ps) H' → Q (.ref p) H') : rSetL K w [.ref a] H Q :=
  ⟨a, ns, rfl, s, hl, fun p c np hc => q p c _ hc (S.new _ np)⟩
end
end Kt

set_option Elab.async false
set_option linter.all false
set_option maxRecDepth 100000
namespace Kt
open PySem L2 PyProof.Rows
/-! ### the order of texts -/
theorem leS_eq : leS = fun a b => decide (a.cps.toList ≤ b.cps.toList) := PySem.W.dataLe_str (fun b : Str => b)
theorem leS_trans (a b c : Str) (h : leS a b = true) (h2 : leS b c = true) : leS a c = true := by
  rw [leS_eq] at h h2 ⊢
  exact decide_eq_true (List.le_trans (of_decide_eq_true h) (of_decide_eq_true h2))
theorem leS_total (a b : Str) : (leS a b || leS b a) = true := by
  rw [leS_eq]
  rcases List.le_total a.cps.toList b.cps.toList with h | h
  · show (decide _ || decide _) = true
    rw [decide_eq_true h]
    rfl
  · show (decide _ || decide _) = true
    rw [decide_eq_true h, Bool.or_true]
def Asc (l : List Str) : Prop := l.Pairwise fun a b => leS a b = true
theorem asc_sort (l : List Str) : Asc (sortS l) := List.pairwise_mergeSort leS_trans leS_total l
theorem sort_asc {l : List Str} (h : Asc l) : sortS l = l := List.mergeSort_of_pairwise h
theorem asc_filter {l : List Str} (p : Str → Bool) (h : Asc l) : Asc (l.filter p) := h.filter p
theorem sort_perm (l : List Str) : (sortS l).Perm l := List.mergeSort_perm l leS
/-! ### ranks -/
def rkF : Nat → Od → Rk
  | _, [] => []
  | n, l :: o => l.map (fun x => (x, (n : Int))) ++ rkF (n + 1) o
theorem rkF_app : ∀ (a b : Od) (n : Nat), rkF n (a ++ b) = rkF n a ++ rkF (n + a.length) b
  | [], b, n => by simp [rkF]
  | l :: a, b, n => by
    show l.map _ ++ rkF (n + 1) (a ++ b) = _
    rw [rkF_app a b (n + 1), List.length_cons, show n + 1 + a.length = n + (a.length + 1) by omega, ← List.append_assoc]
    rfl
theorem rkF_take {o : Od} {i : Nat} {l : Lv} (h : o[i]? = some l) : rkF 0 (o.take (i + 1)) = rkF 0 (o.take i) ++ l.map (fun x => (x, (i : Int))) := by
  have hi := (List.getElem?_eq_some_iff.mp h).1
  rw [List.take_add_one, h, rkF_app]
  have e : (o.take i).length = i := by rw [List.length_take]; omega
  rw [e, Nat.zero_add]
  show _ ++ (l.map _ ++ rkF (i + 1) []) = _
  rw [show rkF (i + 1) [] = [] from rfl, List.append_nil]
theorem rkF_keys : ∀ (o : Od) (n : Nat), (rkF n o).map Prod.fst = o.flatten
  | [], _ => rfl
  | l :: o, n => by
    show (l.map _ ++ rkF (n + 1) o).map Prod.fst = _
    rw [List.map_append, rkF_keys o, List.map_map, List.flatten_cons]
    congr 1
    exact List.map_id _
theorem rkF_len (o : Od) (n : Nat) : (rkF n o).length = o.flatten.length := by rw [← rkF_keys o n, List.length_map]
theorem rkGet_app (a b : Rk) (p : Str) : rkGet (a ++ b) p = (rkGet a p).or (rkGet b p) := by
  unfold rkGet
  rw [List.find?_append]
  cases a.find? fun e => decide (e.1 = p) <;> rfl
theorem rkGet_lv (p : Str) (n : Int) : ∀ l : Lv, rkGet (l.map fun x => (x, n)) p = if p ∈ l then some n else none
  | [] => by simp [rkGet]
  | x :: l => by
    have ih := rkGet_lv p n l
    unfold rkGet at ih ⊢
    rw [List.map_cons, List.find?_cons]
    by_cases e : x = p
    · subst e; simp
    · rw [decide_eq_false e]
      rw [ih]
      have : p ∈ x :: l ↔ p ∈ l := ⟨fun m => (List.mem_cons.mp m).resolve_left fun q => e q.symm, List.mem_cons_of_mem _⟩
      simp [this]
theorem lvO_cons (l : Lv) (o : Od) (p : Str) : lvO (l :: o) p = if p ∈ l then some 0 else (lvO o p).map (· + 1) := by
  unfold lvO
  rw [List.findIdx?_cons]
  by_cases h : p ∈ l <;> simp [h]
theorem rkGet_rkF (p : Str) : ∀ (o : Od) (n : Nat), rkGet (rkF n o) p = (lvO o p).map fun i => (n : Int) + (i : Int)
  | [], n => rfl
  | l :: o, n => by
    show rkGet (l.map _ ++ rkF (n + 1) o) p = _
    rw [rkGet_app, rkGet_lv, rkGet_rkF p o, lvO_cons]
    by_cases h : p ∈ l
    · simp [h]
    · simp only [h, if_false, Option.none_or, Option.map_map]
      cases lvO o p with
      | none => rfl
      | some i => simp; omega
theorem rkGet_0 (p : Str) (o : Od) : rkGet (rkF 0 o) p = (lvO o p).map fun i : Nat => (i : Int) := by
  rw [rkGet_rkF]
  cases lvO o p with
  | none => rfl
  | some i => simp
theorem lvO_mem {o : Od} {p : Str} : (lvO o p).isSome = true ↔ p ∈ o.flatten := by
  unfold lvO
  rw [List.findIdx?_isSome, List.any_eq_true]
  simp only [List.mem_flatten, decide_eq_true_eq]
theorem lvO_none {o : Od} {p : Str} : lvO o p = none ↔ p ∉ o.flatten := by
  rw [← lvO_mem]
  cases lvO o p <;> simp
/-! ### what is kept of an order -/
theorem onlyO_congr {ps qs : List Str} (h : ∀ x, x ∈ ps ↔ x ∈ qs) (o : Od) : onlyO ps o = onlyO qs o := by
  unfold onlyO
  have e : (fun x => decide (x ∈ ps)) = fun x => decide (x ∈ qs) := by
    funext x
    exact decide_eq_decide.mpr (h x)
  rw [e]
theorem onlyO_nil (ps : List Str) : onlyO ps [] = [] := rfl
theorem onlyO_cons (ps : List Str) (l : Lv) (o : Od) : onlyO ps (l :: o) = if (l.filter fun x => decide (x ∈ ps)).isEmpty = true then onlyO ps o else (l.filter fun x => decide (x ∈ ps)) :: onlyO ps o := by
  unfold onlyO
  rw [List.map_cons, List.filter_cons]
  cases (l.filter fun x => decide (x ∈ ps)).isEmpty <;> rfl
theorem onlyO_flat (ps : List Str) : ∀ o : Od, (onlyO ps o).flatten = o.flatten.filter fun x => decide (x ∈ ps)
  | [] => rfl
  | l :: o => by
    rw [onlyO_cons, List.flatten_cons, List.filter_append, ← onlyO_flat ps o]
    split
    · rename_i h
      rw [List.isEmpty_iff.mp h, List.nil_append]
    · rfl
theorem onlyO_ne {ps : List Str} {o : Od} {l : Lv} (h : l ∈ onlyO ps o) : l ≠ [] := by
  have := (List.mem_filter.mp h).2
  intro e
  rw [e] at this
  cases this
theorem onlyO_empty (ps : List Str) (o : Od) : (onlyO ps o).isEmpty = (o.flatten.filter fun x => decide (x ∈ ps)).isEmpty := by
  rw [← onlyO_flat]
  cases e : onlyO ps o with
  | nil => rfl
  | cons l t =>
    have := onlyO_ne (ps := ps) (o := o) (l := l) (by rw [e]; exact List.mem_cons_self)
    cases l with
    | nil => exact absurd rfl this
    | cons x l => rfl
/-! ### an order out of its ranks -/
def ordL (kv : Rk) (ms : List Int) : Od := ms.map fun r => sortS ((kv.filter fun e => decide (e.2 = r)).map Prod.fst)
def kvP (ps : List Str) (n : Nat) (o : Od) : Rk := (rkF n o).filter fun e => decide (e.1 ∈ ps)
def msO (ps : List Str) : Nat → Od → List Int
  | _, [] => []
  | n, l :: o => if (l.filter fun x => decide (x ∈ ps)).isEmpty = true then msO ps (n + 1) o else (n : Int) :: msO ps (n + 1) o
theorem kvP_cons (ps : List Str) (n : Nat) (l : Lv) (o : Od) : kvP ps n (l :: o) = (l.filter fun x => decide (x ∈ ps)).map (fun x => (x, (n : Int))) ++ kvP ps (n + 1) o := by
  unfold kvP
  show (l.map _ ++ rkF (n + 1) o).filter _ = _
  rw [List.filter_append, List.filter_map]
  rfl
theorem msO_cons (ps : List Str) (n : Nat) (l : Lv) (o : Od) : msO ps n (l :: o) = if (l.filter fun x => decide (x ∈ ps)).isEmpty = true then msO ps (n + 1) o else (n : Int) :: msO ps (n + 1) o := rfl
theorem msO_ge (ps : List Str) : ∀ (o : Od) (n : Nat) (k : Int), k ∈ msO ps n o → (n : Int) ≤ k
  | [], n, k, h => by cases h
  | l :: o, n, k, h => by
    unfold msO at h
    split at h
    · have := msO_ge ps o (n + 1) k h; omega
    · rcases List.mem_cons.mp h with e | m
      · omega
      · have := msO_ge ps o (n + 1) k m; omega
theorem msO_asc (ps : List Str) : ∀ (o : Od) (n : Nat), (msO ps n o).Pairwise (· < ·)
  | [], n => .nil
  | l :: o, n => by
    unfold msO
    split
    · exact msO_asc ps o (n + 1)
    · refine .cons (fun k m => ?_) (msO_asc ps o (n + 1))
      have := msO_ge ps o (n + 1) k m
      omega
theorem kvP_ge (ps : List Str) : ∀ (o : Od) (n : Nat) (e : Str × Int), e ∈ kvP ps n o → (n : Int) ≤ e.2
  | [], n, e, h => by cases h
  | l :: o, n, e, h => by
    rw [kvP_cons] at h
    rcases List.mem_append.mp h with m | m
    · obtain ⟨x, _, rfl⟩ := List.mem_map.mp m; exact Int.le_refl _
    · have := kvP_ge ps o (n + 1) e m; omega
theorem msO_mem (ps : List Str) (k : Int) : ∀ (o : Od) (n : Nat), k ∈ msO ps n o ↔ k ∈ (kvP ps n o).map Prod.snd
  | [], n => by simp [msO, kvP, rkF]
  | l :: o, n => by
    rw [kvP_cons, List.map_append, List.mem_append, ← msO_mem ps k o (n + 1), List.map_map, msO_cons]
    cases e : l.filter fun x => decide (x ∈ ps) with
    | nil => simp
    | cons y t =>
      rw [if_neg (by simp), List.mem_cons]
      refine or_congr ⟨fun h => by rw [h]; simp, fun h => ?_⟩ Iff.rfl
      obtain ⟨x, _, hx⟩ := List.mem_map.mp h
      exact hx.symm
theorem filter_none {α : Type} {p : α → Bool} {l : List α} (h : ∀ x ∈ l, p x = false) : l.filter p = [] := List.filter_eq_nil_iff.mpr fun x m => by rw [h x m]; decide
theorem ordL_only (ps : List Str) : ∀ (o : Od) (n : Nat), (∀ l ∈ o, Asc l) → ordL (kvP ps n o) (msO ps n o) = onlyO ps o
  | [], n, _ => rfl
  | l :: o, n, h => by
    have ih := ordL_only ps o (n + 1) fun x m => h x (List.mem_cons_of_mem _ m)
    have key : ∀ k ∈ msO ps (n + 1) o, (kvP ps n (l :: o)).filter (fun e => decide (e.2 = k)) = (kvP ps (n + 1) o).filter fun e => decide (e.2 = k) := fun k m => by
      have := msO_ge ps o (n + 1) k m
      rw [kvP_cons, List.filter_append, filter_none, List.nil_append]
      intro e me
      obtain ⟨x, _, rfl⟩ := List.mem_map.mp me
      exact decide_eq_false fun q => by have q : (n : Int) = k := q; omega
    have key2 : ordL (kvP ps n (l :: o)) (msO ps (n + 1) o) = onlyO ps o := by
      rw [← ih]
      exact List.map_congr_left fun k m => by rw [key k m]
    rw [onlyO_cons]
    unfold msO
    by_cases e : (l.filter fun x => decide (x ∈ ps)).isEmpty = true
    · rw [if_pos e, if_pos e]
      exact key2
    · rw [if_neg e, if_neg e]
      show sortS _ :: ordL _ (msO ps (n + 1) o) = _
      rw [key2]
      congr 1
      have e1 : (kvP ps n (l :: o)).filter (fun e => decide (e.2 = (n : Int))) = (l.filter fun x => decide (x ∈ ps)).map fun x => (x, (n : Int)) := by
        rw [kvP_cons, List.filter_append, filter_none (l := kvP ps (n + 1) o), List.append_nil, List.filter_eq_self]
        · intro e me
          obtain ⟨x, _, rfl⟩ := List.mem_map.mp me
          exact decide_eq_true rfl
        · intro e me
          have := kvP_ge ps o (n + 1) e me
          exact decide_eq_false fun q => by omega
      rw [e1, List.map_map]
      have e2 : ((l.filter fun x => decide (x ∈ ps)).map (Prod.fst ∘ fun x => (x, (n : Int)))) = l.filter fun x => decide (x ∈ ps) := List.map_id _
      rw [e2]
      exact sort_asc (asc_filter _ (h l List.mem_cons_self))
/-! ### names that stand in one order at most -/
def Apart (p : Str) (s : List Od) : Prop := s.Pairwise fun a b => ¬ (p ∈ a.flatten ∧ p ∈ b.flatten)
theorem arrO_cons (o : Od) (s : List Od) (p : Str) : arrO (o :: s) p = if p ∈ o.flatten then some 0 else (arrO s p).map (· + 1) := by
  unfold arrO
  rw [List.findIdx?_cons]
  by_cases h : p ∈ o.flatten
  · rw [if_pos h, if_pos (lvO_mem.mpr h)]
  · rw [if_neg h, if_neg fun q => h (lvO_mem.mp q)]
theorem cmpO_none {o : Od} {p q : Str} : cmpO o p q = none ↔ ¬ (p ∈ o.flatten ∧ q ∈ o.flatten) := by
  rw [← lvO_mem, ← lvO_mem]
  unfold cmpO
  cases lvO o p <;> cases lvO o q <;> simp
theorem stO_cons (o : Od) (s : List Od) (p q : Str) : stO (o :: s) p q = (cmpO o p q).or (stO s p q) := by
  unfold stO
  rw [List.findSome?_cons]
  cases cmpO o p q <;> rfl
theorem stO_away {s : List Od} {p q : Str} (h : ∀ o ∈ s, p ∉ o.flatten ∨ q ∉ o.flatten) : stO s p q = none := by
  unfold stO
  rw [List.findSome?_eq_none_iff]
  intro o m
  refine cmpO_none.mpr fun ⟨a, b⟩ => ?_
  rcases h o m with z | z
  · exact z a
  · exact z b
/-- where two names stand: in the order that holds both, if there is one -/
theorem stO_arr : ∀ {s : List Od} {p q : Str}, Apart p s → Apart q s → stO s p q = match arrO s p, arrO s q with
    | some i, some j => if i = j then cmpO (s.getD i []) p q else none
    | _, _ => none
  | [], p, q, _, _ => rfl
  | o :: s, p, q, hp, hq => by
    obtain ⟨p1, p2⟩ := List.pairwise_cons.mp hp
    obtain ⟨q1, q2⟩ := List.pairwise_cons.mp hq
    have ih := stO_arr p2 q2
    rw [stO_cons, arrO_cons, arrO_cons]
    by_cases a : p ∈ o.flatten
    · by_cases b : q ∈ o.flatten
      · rw [if_pos a, if_pos b]
        cases e : cmpO o p q with
        | none => exact absurd ⟨a, b⟩ (cmpO_none.mp e)
        | some z =>
          show some z = cmpO o p q
          exact e.symm
      · rw [if_pos a, if_neg b, cmpO_none.mpr fun z => b z.2, stO_away fun x m => .inl fun z => p1 x m ⟨a, z⟩]
        cases arrO s q <;> simp
    · by_cases b : q ∈ o.flatten
      · rw [if_neg a, if_pos b, cmpO_none.mpr fun z => a z.1, stO_away fun x m => .inr fun z => q1 x m ⟨b, z⟩]
        cases arrO s p <;> simp
      · rw [if_neg a, if_neg b, cmpO_none.mpr fun z => a z.1, Option.none_or, ih]
        cases arrO s p with
        | none => rfl
        | some i =>
          cases arrO s q with
          | none => rfl
          | some j => simp
theorem arrO_some {s : List Od} {p : Str} {i : Nat} (h : arrO s p = some i) : ∃ o, s[i]? = some o ∧ p ∈ o.flatten := by
  unfold arrO at h
  rw [List.findIdx?_eq_some_iff_getElem] at h
  obtain ⟨hi, h1, _⟩ := h
  exact ⟨s[i], List.getElem?_eq_getElem hi, lvO_mem.mp h1⟩
theorem stO_isSome {s : List Od} {p q : Str} (hp : Apart p s) (hq : Apart q s) : (stO s p q).isSome = ((arrO s p).isSome && decide (arrO s p = arrO s q)) := by
  rw [stO_arr hp hq]
  cases e1 : arrO s p with
  | none => rfl
  | some i =>
    cases e2 : arrO s q with
    | none => simp
    | some j =>
      by_cases e : i = j
      · subst e
        obtain ⟨o, ho, m1⟩ := arrO_some e1
        obtain ⟨o2, ho2, m2⟩ := arrO_some e2
        rw [ho] at ho2
        cases ho2
        have : s.getD i [] = o := by rw [List.getD_eq_getElem?_getD, ho]; rfl
        simp only [if_true, this]
        cases e3 : cmpO o p q with
        | none => exact absurd ⟨m1, m2⟩ (cmpO_none.mp e3)
        | some z => simp
      · simp [e]
theorem apart_filter {p : Str} {s : List Od} (f : Od → Bool) (h : Apart p s) : Apart p (s.filter f) := h.filter f
theorem apart_perm {p : Str} {s t : List Od} (h : Apart p s) (e : s.Perm t) : Apart p t := e.pairwise h fun z w => z ⟨w.2, w.1⟩
theorem shpO_perm (os : List Od) : (shpO os).Perm (os.filter fun o => !o.isEmpty) := List.mergeSort_perm _ leOd
theorem shpO_mem {os : List Od} {o : Od} : o ∈ shpO os ↔ o ∈ os ∧ o ≠ [] := by
  rw [(shpO_perm os).mem_iff, List.mem_filter]
  cases o <;> simp
theorem shpO_apart {p : Str} {os : List Od} (h : Apart p os) : Apart p (shpO os) := apart_perm (apart_filter _ h) (shpO_perm os).symm
end Kt

set_option Elab.async false
set_option linter.all false
set_option maxRecDepth 100000
namespace Kt
open PySem L2 PyProof.Rows
section
variable {K : PySem.W.Frag} {σ : L2.St} {G H : Hp} {D : Ends} {Q : VK} {a b : Addr} {xs : List V} {y : V} {Ps R : List SP} {ds : List PyData} {k : Nat}
theorem r_dnew (S : Sep Ps H) (q : ∀ p H', Sep (pt p (.dK (encK [])) :: Ps) H' → Q (.ref p) H') : tDNewK σ H Q := fun p np => q p _ (S.new _ np)
/-- xs.insert(i, y) -/
def rIns : V → List V → Hp → VK → Prop := fun x vs H Q => ∃ (l : Addr) (xs : List V) (i : Int) (y : V), x = .ref l ∧ vs = [.int i, y] ∧ H l = some (.lst xs) ∧ xs.length < sizeLine ∧ 0 ≤ i ∧ i < 2 ^ 63 ∧ Q .non (upd H l (.lst (xs.take i.toNat ++ [y] ++ xs.drop i.toNat)))
theorem mt_insertK {X : Cx} : MtR X "list.insert" rIns := mt_insert
theorem r_ins {i : Int} (S : Sep (pt a (.lst xs) :: R) H) (h0 : 0 ≤ i) (hi : i ≤ 1000000) (hz : xs.length < 100000) (h : ∀ H', Sep (pt a (.lst (xs.take i.toNat ++ y :: xs.drop i.toNat)) :: R) H' → Q .non H') : rIns (.ref a) [.int i, y] H Q :=
  ⟨a, xs, i, y, rfl, rfl, S.hd_at, Nat.lt_of_lt_of_le hz (by decide), h0, by omega, by
    have e : xs.take i.toNat ++ [y] ++ xs.drop i.toNat = xs.take i.toNat ++ y :: xs.drop i.toNat := by simp
    rw [e]
    exact h _ (S.hd_set _)⟩
/-! ### while -/
def WhN (J : LW) (m : Nat) : L2.St → Hp → Prop := fun σ' H' => ∃ m', m' < m ∧ Nx J m' σ' H'
theorem wh_in {J : LW} {m m' : Nat} (h : m' < m) (S : Sep Ps H) (j : J m' σ Ps) : WhN J m σ H := ⟨m', h, Ps, j, S⟩
theorem wh_go {tb : TS} {J : LW} {m : Nat} (h : tb { D with nx := WhN J m, ct := WhN J m, bk := D.nx } σ H) : ∃ N : L2.St → Hp → Prop, (∀ σ' H', N σ' H' → ∃ m', m' < m ∧ Nx J m' σ' H') ∧ tb { D with nx := N, ct := N, bk := D.nx } σ H := ⟨WhN J m, fun _ _ h => h, h⟩
theorem r_while {tc : TT} {tb : TS} (J : LW) (m : Nat) (S : Sep Ps H) (h0 : J m σ Ps) (hs : ∀ m σ Ps H, J m σ Ps → Sep Ps H → tc σ H fun b H1 => if b = true then ∃ N : L2.St → Hp → Prop, (∀ σ' H', N σ' H' → ∃ m', m' < m ∧ Nx J m' σ' H') ∧ tb { D with nx := N, ct := N, bk := D.nx } σ H1 else D.nx σ H1) : tWhile tc tb D σ H :=
  ⟨Nx J, ⟨m, nx_in S h0⟩, fun m σ H ⟨Ps, j, S⟩ => hs m σ Ps H j S⟩
/-! ### compared with what is empty -/
theorem eqv_nil : ∀ ds : List PyData, PyData.eqvAll ds [] = ds.isEmpty
  | [] => by simp [PyData.eqvAll]
  | d :: ds => by simp [PyData.eqvAll]
theorem r_ne_nilL (h1 : Dp K H (.ref a) (.list ds)) (o : Okd k (.list ds)) (hk : k ≤ 64) (s : SqL K H b []) (h : Q (.bl (!ds.isEmpty)) H) : rNeA K (.ref a) (.ref b) H Q :=
  .inr ⟨_, .list [], h1, .lst s .nil, o.shaped hk, (okd_list (k := 0) (by simp)).shaped (by decide), by rw [PyData.eqv, eqv_nil]; exact h⟩
theorem r_eq_nilL (h1 : Dp K H (.ref a) (.list ds)) (o : Okd k (.list ds)) (hk : k ≤ 64) (s : SqL K H b []) (h : Q (.bl ds.isEmpty) H) : rEqA K (.ref a) (.ref b) H Q :=
  .inr ⟨_, .list [], h1, .lst s .nil, o.shaped hk, (okd_list (k := 0) (by simp)).shaped (by decide), by rw [PyData.eqv, eqv_nil]; exact h⟩
theorem r_ne_nilT (h1 : Dp K H (.ref a) (.tuple ds)) (o : Okd k (.tuple ds)) (hk : k ≤ 64) (s : SqT K H b []) (h : Q (.bl (!ds.isEmpty)) H) : rNeA K (.ref a) (.ref b) H Q :=
  .inr ⟨_, .tuple [], h1, .tup s .nil, o.shaped hk, (okd_tuple (k := 0) (by simp)).shaped (by decide), by rw [PyData.eqv, eqv_nil]; exact h⟩
/-! ### names: texts that may be laid down -/
def Nms (l : List Str) : Prop := ∀ x ∈ l, PyData.strOk x = true
theorem okd_str {k : Nat} {x : Str} (h : PyData.strOk x = true) : Okd k (.str x) := ⟨h, Nat.zero_le _⟩
theorem okd_strs {k : Nat} {l : List Str} (h : Nms l) : ∀ d ∈ l.map PyData.str, Okd k d := fun d m => by
  obtain ⟨x, hx, rfl⟩ := List.mem_map.mp m
  exact okd_str (h x hx)
theorem okd_ns {l : List Str} (h : Nms l) : Okd 1 (dNs l) := okd_list (okd_strs h)
theorem okd_lv {l : List Str} (h : Nms l) : Okd 1 (dLv l) := okd_tuple (okd_strs h)
theorem okd_lvs {o : Od} (h : Nms o.flatten) : ∀ d ∈ o.map dLv, Okd 1 d := fun d m => by
  obtain ⟨x, hx, rfl⟩ := List.mem_map.mp m
  exact okd_lv fun z mz => h z (List.mem_flatten.mpr ⟨x, hx, mz⟩)
theorem okd_od {o : Od} (h : Nms o.flatten) : Okd 2 (dOd o) := okd_tuple (okd_lvs h)
theorem okd_ods {s : List Od} (h : ∀ o ∈ s, Nms o.flatten) : ∀ d ∈ s.map dOd, Okd 2 d := fun d m => by
  obtain ⟨x, hx, rfl⟩ := List.mem_map.mp m
  exact okd_od (h x hx)
theorem okd_shp {s : List Od} (h : ∀ o ∈ s, Nms o.flatten) : Okd 3 (dShp s) := okd_tuple (okd_ods h)
theorem okd_os {s : List Od} (h : ∀ o ∈ s, Nms o.flatten) : Okd 3 (dOds s) := okd_list (okd_ods h)
/-! ### tests that are known -/
theorem iteD {p A B : Prop} [Decidable p] (hp : p) (h : A) : if decide p = true then A else B := by rw [decide_eq_true hp]; exact h
theorem iteDN {p A B : Prop} [Decidable p] (hp : ¬ p) (h : B) : if decide p = true then A else B := by rw [decide_eq_false hp]; exact h
theorem iteB {b : Bool} {A B : Prop} (hb : b = true) (h : A) : if b = true then A else B := by rw [hb]; exact h
theorem iteBN {b : Bool} {A B : Prop} (hb : b = false) (h : B) : if b = true then A else B := by rw [hb]; exact h
theorem iteND {p A B : Prop} [Decidable p] (hp : ¬ p) (h : A) : if (!decide p) = true then A else B := by rw [decide_eq_false hp]; exact h
theorem iteNDN {p A B : Prop} [Decidable p] (hp : p) (h : B) : if (!decide p) = true then A else B := by rw [decide_eq_true hp]; exact h
theorem r_notN {x : V} (h : Q (.bl (!decide (x = .non))) H) : rNotN x .non H Q := ⟨rfl, h⟩
/-! ### cut in two -/
theorem cut_pre {n : Nat} : cutV xs none (some (n : Int)) = xs.take n := by
  unfold cutV HT.sIx
  simp only [List.drop_zero, Nat.sub_zero]
  rw [if_neg (by omega), Int.toNat_natCast, List.take_eq_take_iff]
  omega
theorem cut_suf {n : Nat} : cutV xs (some (n : Int)) none = xs.drop n := by
  unfold cutV HT.sIx
  simp only
  rw [if_neg (by omega), Int.toNat_natCast]
  by_cases h : n ≤ xs.length
  · rw [Nat.min_eq_left h, List.take_of_length_le (by rw [List.length_drop]; omega)]
  · rw [Nat.min_eq_right (by omega), List.drop_eq_nil_of_le (Nat.le_refl _), List.take_nil, List.drop_eq_nil_of_le (by omega)]
/-! ### a list of data that is of the heap's own -/
def LD (K : PySem.W.Frag) (G : Hp) (a : Addr) (ds : List PyData) : Prop := ∃ vs, G a = some (.lst vs) ∧ DpAll K G vs ds
theorem LD.le {G' : Hp} (h : LD K G a ds) (l : Le G G') : LD K G' a ds := by
  obtain ⟨vs, e, d⟩ := h
  exact ⟨vs, l _ _ e, DpAll.le l _ _ d⟩
theorem LD.dp (h : LD K G a ds) : Dp K G (.ref a) (.list ds) := by
  obtain ⟨vs, e, d⟩ := h
  exact .lst (SqL.of e) d
theorem LD.sq {l : List Str} (h : LD K G a (l.map PyData.str)) : SqL K G a (l.map V.str) := dns_sq h.dp
theorem hp_LD {p : Addr} (S : Sep (pt p (.lst xs) :: hp G :: R) H) (h : DpAll K G xs ds) : ∃ G', Le G G' ∧ LD K G' p ds ∧ Sep (hp G' :: R) H := by
  obtain ⟨G', l, e, S⟩ := hp_add S
  exact ⟨G', l, ⟨xs, e, DpAll.le l _ _ h⟩, S⟩
/-- a piece of a list of data, as a list of data -/
theorem r_pre {n : Nat} (S : Sep (hp G :: R) H) (hx : Dp K G (.ref a) (.list ds)) (h : ∀ p G' H', Le G G' → LD K G' p (ds.take n) → Sep (hp G' :: R) H' → Q (.ref p) H') : kSl K Q (.ref a) none (some (n : Int)) H := by
  obtain ⟨a', vs, e, hs, hv⟩ := dp_lstInv hx
  cases e
  refine r_ksl S (hp_sqL S hs) fun p H' S => ?_
  rw [cut_pre] at S
  obtain ⟨G', le, hd, S⟩ := hp_LD S (dpall_take n hv)
  exact h p G' H' le hd S
theorem r_suf {n : Nat} (S : Sep (hp G :: R) H) (hx : Dp K G (.ref a) (.list ds)) (h : ∀ p G' H', Le G G' → LD K G' p (ds.drop n) → Sep (hp G' :: R) H' → Q (.ref p) H') : kSl K Q (.ref a) (some (n : Int)) none H := by
  obtain ⟨a', vs, e, hs, hv⟩ := dp_lstInv hx
  cases e
  refine r_ksl S (hp_sqL S hs) fun p H' S => ?_
  rw [cut_suf] at S
  obtain ⟨G', le, hd, S⟩ := hp_LD S (dpall_drop n hv)
  exact h p G' H' le hd S
/-- two lists of data, one after the other -/
theorem r_catD {es : List PyData} (S : Sep (hp G :: R) H) (h1 : LD K G a ds) (h2 : LD K G b es) (hz : ds.length + es.length ≤ 100000) (h : ∀ p G' H', Le G G' → LD K G' p (ds ++ es) → Sep (hp G' :: R) H' → Q (.ref p) H') : rAddA (.ref a) (.ref b) H Q := by
  obtain ⟨v1, e1, d1⟩ := h1
  obtain ⟨v2, e2, d2⟩ := h2
  have l1 := dpall_len d1
  have l2 := dpall_len d2
  refine r_cat S (hp_le S _ _ e1) (hp_le S _ _ e2) (by omega) fun p H' S => ?_
  obtain ⟨G', le, hd, S⟩ := hp_LD S (dpall_app d1 d2)
  exact h p G' H' le hd S
/-- one list of data made new -/
theorem r_newD (S : Sep (hp G :: R) H) (hd : DpAll K G xs ds) (hl : xs.length ≤ 1000) (h : ∀ p G' H', Le G G' → LD K G' p ds → Sep (hp G' :: R) H' → Q (.ref p) H') : kLst Q xs H :=
  q_new S hl fun p H' S => by
    obtain ⟨G', le, hd, S⟩ := hp_LD S hd
    exact h p G' H' le hd S
theorem r_newTD (S : Sep (hp G :: R) H) (hd : DpAll K G xs ds) (hl : xs.length ≤ 1000) (h : ∀ p G' H', Le G G' → Dp K G' (.ref p) (.tuple ds) → Sep (hp G' :: R) H' → Q (.ref p) H') : kTup Q xs H :=
  q_newT S hl fun p H' S => by
    obtain ⟨G', le, hd, S⟩ := hp_tup S hd
    exact h p G' H' le hd S
end
end Kt

set_option Elab.async false
set_option linter.all false
set_option maxRecDepth 100000
namespace Kt
open PySem PySem.Spec L2 PyProof.Rows PySem.Froz
/-! ### a set of texts: what it holds, and that it can be walked -/
structure SxT (P : Program) (w : World) (h : Heap) (a : Addr) (l : List Str) : Prop where
  at_ : ∃ D : SD, h.get? a = some (sObj "set" D) ∧ TxOk P w D l ∧ Ris D.2.2.place.toList ∧ (w.params.followText "set-order" = true ∨ D.2.2.led = true)
  nd : l.Nodup
section
variable {P : Program} {w : World} {A : Around} {E : Value → Shared → Prop} {s : Shared} {h h' : Heap} {a : Addr} {l : List Str}
theorem SxT.to (R : SxT P w h a l) (k : ∀ o, h.get? a = some o → h'.get? a = some o) : SxT P w h' a l := by
  obtain ⟨⟨D, e, r⟩, n⟩ := R
  exact ⟨⟨D, k _ e, r⟩, n⟩
theorem tail_ris {ep : Nat} {es : Array (Int × Value)} {t : SetTable} {wd : Bool} (r : Ris t.place.toList) : Ris (tailTx ep es t wd).2.2.place.toList := by
  unfold tailTx
  split
  · exact relayAll_ris ..
  · exact r
theorem tail_led {ep : Nat} {es : Array (Int × Value)} {t : SetTable} {wd : Bool} : (tailTx ep es t wd).2.2.led = t.led := by
  unfold tailTx
  split
  · exact relayAll_led ..
  · rfl
theorem addTx_ris {x : Int} {v : Value} {D : SD} (r : Ris D.2.2.place.toList) : Ris (addTx x v D).2.2.place.toList := by
  have q := layNew_ris D.2.2 D.1 x v r
  unfold addTx
  refine tail_ris ?_
  split <;> exact q
theorem addTx_led {x : Int} {v : Value} {D : SD} : (addTx x v D).2.2.led = D.2.2.led := by
  have q := layNew_led D.2.2 D.1 x v
  unfold addTx
  refine tail_led.trans ?_
  split <;> exact q
/-- a text that the set holds already: nothing changes -/
theorem again_x {D : SD} {k : Str} {u : Tok} {Q : Bool → Shared → Prop} (ho : s.heap.get? a = some (sObj "set" D)) (F : TxOk P w D l) (hk : k ∈ l) (hb : l.length < scanBound) (q : Q false s) : wpAny (model P w) A (setAddHashed a (.str k u) (hashStr w k)) Q E s := by
  obtain ⟨es, ep, t⟩ := D
  have dd : (sObj "set" (es, ep, t)).data = .set es ep t := rfl
  have e0 : ElemsOf (strKind P w) es.toList := F.el
  have lt0 : es.size < scanBound := by have := F.sz; simp only at this; omega
  have me := is_str (P := P) (w := w) k u
  obtain ⟨e, he, hq⟩ := (F.mem k).mp hk
  unfold setAddHashed setAddHashedIn
  refine wpAny_holding (wpAny_bind (wpAny_setState_of ho dd F.fit ?_))
  dsimp only
  rw [byScan_of rfl lt0 e0]
  simp only [↓reduceIte]
  unfold setAddByScan
  refine wpAny_bind (wpAny_bind (wpAny_rule (wpAny_bind (wpAny_setScan_of (knd := strKind P w) (k := k) me ho dd F.fit e0 ?_))))
  cases fi : List.findIdx? (fun e => (strKind P w).is k e.2) es.toList with
  | none =>
    have := List.findIdx?_eq_none_iff.mp fi e he
    rw [hq] at this
    cases this
  | some j =>
    dsimp only
    exact wpAny_pure (wpAny_pure q)
/-- one more text -/
theorem sxt_add {k : Str} {u : Tok} {Q : Bool → Shared → Prop} (R : SxT P w s.heap a l) (room : l.length + 1 < scanBound) (q : ∀ (b : Bool) h2 l2, Heap.SameBut a s.heap h2 → SxT P w h2 a l2 → (∀ x, x ∈ l2 ↔ x ∈ l ∨ x = k) → l2.length ≤ l.length + 1 → Q b { s with heap := h2 }) :
    wpAny (model P w) A (setAddHashed a (.str k u) (hashStr w k)) Q E s := by
  obtain ⟨⟨D, e, F, r, ld⟩, nd⟩ := id R
  by_cases hk : k ∈ l
  · exact again_x e F hk (by omega) (q false s.heap l (Heap.SameBut.refl a s.heap) R (fun x => ⟨.inl, fun z => z.elim id fun z => z ▸ hk⟩) (Nat.le_succ _))
  · refine add_x e F hk room ?_
    refine q true _ (k :: l) (Heap.SameBut.update ..) ⟨⟨addTx (hashStr w k) (.str k u) D, get_upd _ e rfl, add_ok u F, addTx_ris r, ld.imp id fun z => addTx_led.trans z⟩, List.nodup_cons.mpr ⟨hk, nd⟩⟩ (fun x => ?_) (Nat.le_refl _)
    rw [List.mem_cons, or_comm]
/-- the loop that fills a set with the texts of an iterator -/
theorem fill_txt {I : Addr} {fp wr : List Addr} {G : Array GenState → Array GenState → Prop} {n : Nat} {Pv : Nat → Value → Prop} {St : Nat → Shared → Prop} {R : Result → Shared → Prop}
    (W : WalksS P w A.in1 I fp wr G n Pv St) (S : Addr) (nf : S ∉ fp) (ts : List Str) (hn : n = ts.length) (hb : ts.length + 1 < scanBound) (hv : ∀ i v, Pv i v → ∃ k t, ts[i]? = some k ∧ v = .str k t) :
    ∀ (m i : Nat) (s : Shared), n - i = m → i ≤ n → St i s → (∃ l, l.length ≤ i ∧ (∀ x, x ∈ l ↔ x ∈ ts.take i) ∧ SxT P w s.heap S l) →
      (∀ s' l, Moved (S :: wr) G s s' → l.length ≤ n → (∀ x, x ∈ l ↔ x ∈ ts) → SxT P w s'.heap S l → R (.ok (.ret .none)) s') →
      codeAny (model P w) A (.builtin "set.update.loop" ⟨[.ref S, .ref I], []⟩) R s := by
  have nw : S ∉ wr := fun z => nf (W.sub _ z)
  have up : ∀ b ∈ wr, b ∈ S :: wr := fun b z => List.mem_cons_of_mem _ z
  intro m
  induction m with
  | zero =>
    intro i s em hi st ⟨l, hl, hm, hS⟩ fin
    have hin : i = n := by omega
    subst hin
    refine codeAny_builtin F.entry_set_update_loop ?_
    rw [Around.under_plainId F.plain_set_update_loop _]
    refine wpAny_bind (m := pyNext (.ref I)) (W.done s _ _ st fun s2 mv => ?_)
    rw [List.take_of_length_le (by omega)] at hm
    exact wpAny_pure (fin s2 l (mv.mono up) hl hm (hS.to fun o e => mv.heap S o nw e))
  | succ m ih =>
    intro i s em hi st ⟨l, hl, hm, hS⟩ fin
    have lt : i < n := by omega
    refine codeAny_builtin F.entry_set_update_loop ?_
    rw [Around.under_plainId F.plain_set_update_loop _]
    refine wpAny_bind (m := pyNext (.ref I)) (W.item i s _ _ lt st fun v s2 hP st2 mv => ?_)
    obtain ⟨z, t, hz, rfl⟩ := hv i v hP
    have hS2 : SxT P w s2.heap S l := hS.to fun o e => mv.heap S o nw e
    refine wpAny_bind (m := holding [Value.str z t] (setAdd S (.str z t))) (wpAny_holding ?_)
    unfold setAdd
    refine wpAny_holding (wpAny_bind ((strKind P w).pyHash (k := z) (is_str z t) ?_))
    refine sxt_add (s := { s2 with toks := s2.toks + 1 }) hS2 (by omega) fun b h2 l2 sb hS3 hm3 hl3 => ?_
    have hm4 : ∀ x, x ∈ l2 ↔ x ∈ ts.take (i + 1) := fun x => by
      rw [hm3, hm, List.take_add_one, hz]
      simp
    refine wpAny_pure ⟨plainId_quiet F.plain_set_update_loop _, ih (i + 1) _ (by omega) lt (W.frame _ s2 _ _ st2 (Nat.le_succ _) fun c hc o e => ?_) ⟨l2, by omega, hm4, hS3⟩ fun s3 l3 mv3 hl3 hm3 hS4 => ?_⟩
    · have ne : c ≠ S := fun z => nf (z ▸ hc)
      exact (sb.2 c ne).trans e
    · refine fin s3 l3 (Moved.trans W.gtrans ((mv.mono up).then_heap (Nat.le_succ _) fun c o hc e => ?_) mv3) hl3 hm3 hS4
      have ne : c ≠ S := fun z => hc (z ▸ List.mem_cons_self)
      exact (sb.2 c ne).trans e

set_option maxHeartbeats 3200000 in
theorem callSetTL {l : Addr} {vs : Array Value} (ts : List Str) {Z : Value → Shared → Prop} (h0 : A.handled = none) (hL : s.heap.IsList l vs) (hI : StrsAre vs.toList ts) (hB : ts.length + 1 < scanBound)
    (q : ∀ (h2 : Heap) (tk : Nat) (ks : List Str), SxT P w h2 s.heap.objs.size ks → ks.length ≤ ts.length → (∀ x, x ∈ ks ↔ x ∈ ts) → (∀ b o, s.heap.get? b = some o → h2.get? b = some o) → Z (.ref s.heap.objs.size) { s with heap := h2, toks := tk }) :
    wpAny (model P w) A (call (.type "set") [.ref l]) Z E s := by
  have sz : vs.size = ts.length := (Array.length_toList ..).symm.trans hI.len_eq
  obtain ⟨c, tl, m0⟩ := F.called_set.mro
  have m1 := F.called_set.made
  have m2 := F.called_set.sub
  refine wpAny_call (codeAny_of_tree ?_)
  refine wpAny_pure ⟨Code.quiet_builtin _ (by decide +kernel), codeAny_builtin F.entry_type_call ?_⟩
  rw [Around.under_plain (weight_type_call_type "set" [.ref l] []) rfl]
  have g1 := F.called_set.notType
  have g2 := F.called_set.canCreate
  have g3 := F.typeCall_set_1 (.ref l)
  repeat (any_goals (first | assumption | wp_step))
  refine codeAny_mono (code_set_led1 (.ref l) (E := E) (Q₁ := fun ob z₁ => ob = .ref s.heap.objs.size ∧ z₁ = { s with heap := s.heap.push (soOf w) }) ⟨rfl, rfl⟩) fun r z₁ hr => ?_
  cases r with
  | error e => exact hr
  | ok fl =>
    cases fl with
    | ret ob =>
      obtain ⟨rfl, rfl⟩ := hr
      have eS : (s.heap.push (soOf w)).get? s.heap.objs.size = some (soOf w) := Heap.get?_push_size _ rfl
      have tS : Shared.TypeIs { s with heap := s.heap.push (soOf w) } (.ref s.heap.objs.size) "set" := ⟨_, eS, rfl⟩
      have i1 := F.called_set.init.lookup
      have i2 := F.called_set.init.bind (.ref s.heap.objs.size)
      repeat (any_goals (first | assumption | wp_step))
      refine codeAny_mono (codeAny_call_builtin (R := wants (fun r z₂ => r = .none ∧ ∃ h2 tk ks, z₂ = { s with heap := h2, toks := tk } ∧ SxT P w h2 s.heap.objs.size ks ∧ ks.length ≤ ts.length ∧ (∀ x, x ∈ ks ↔ x ∈ ts) ∧ (∀ b o, s.heap.get? b = some o → h2.get? b = some o)) E) F.called_set.init.plain F.entry_set_init (check_set_init_1 tS ?_)) fun r₂ z₂ hr₂ => ?_
      · obtain ⟨ol, eol, col, nl, dol⟩ := hL
        obtain ⟨kc, kd, kt, ks⟩ := ol
        simp only at col dol
        subst col; subst dol
        have eo2 : (s.heap.push (soOf w)).get? l = some { cls := .type "list", dict := kd, data := .seq vs nl, slots := ks } := Heap.get?_push_of_some _ eol
        have sb1 := F.sub_list_set
        have sb2 := F.sub_list_frozenset
        have hne : (Value.type "list" == Value.type "dict") = false := by decide
        have hL1 : (s.heap.push (soOf w)).IsList l vs := ⟨_, eo2, rfl, nl, rfl⟩
        unfold Builtin.«set.__init__» noKeywords Builtin.Frozenset.updateFrom
        generalize hPI : pyIter = PI
        wp_walk
        subst hPI
        refine wpAny_pyIter_list hL1 ?_
        refine wpAny_bind (wpAny_runValue ?_)
        have ll : l < s.heap.objs.size := Heap.lt_size eol
        have hh3 : A.in1.in1.in1.handled = none := by simp [h0]
        have zz : (s.heap.push (soOf w)).objs.size = s.heap.objs.size + 1 := Heap.size_push ..
        have n1 : l ≠ (s.heap.push (soOf w)).objs.size := by rw [zz]; exact Nat.ne_of_lt (Nat.lt_succ_of_lt ll)
        have n2 : s.heap.objs.size ∉ [(s.heap.push (soOf w)).objs.size, l] := by
          rw [zz]; simp only [List.mem_cons, List.not_mem_nil, or_false, not_or]
          exact ⟨Nat.ne_of_lt (Nat.lt_succ_self _), Nat.ne_of_gt ll⟩
        have val : ∀ (i : Nat) (v : Value), vs[i]? = some v → ∃ k t, ts[i]? = some k ∧ v = .str k t := fun i v hv => by
          have hi : i < ts.length := by rw [← sz]; exact (Array.getElem?_eq_some_iff.mp hv).1
          obtain ⟨t, e⟩ := SS.strs_at hI i v (by rw [Array.getElem?_toList]; exact hv)
          exact ⟨ts[i], t, List.getElem?_eq_getElem hi, by rw [e, List.getD_eq_getElem?_getD, List.getElem?_eq_getElem hi] <;> rfl⟩
        refine fill_txt ((Walks.list hh3 _ l n1 vs).toS) s.heap.objs.size n2 ts sz hB val (vs.size - 0) 0 _ (by omega) (Nat.zero_le _) ⟨⟨_, Heap.get?_push_size _ rfl, rfl, rfl⟩, (hL1.push _)⟩ ?k0 ?k1
        case k0 =>
          refine ⟨[], Nat.le_refl 0, fun x => by simp, ⟨(#[], 0, .fresh 0 0 (!w.params.followText "set-order")), Heap.get?_push_of_some _ eS, TxOk.nil (by rfl), List.Pairwise.nil, ?_⟩, List.nodup_nil⟩
          show _ ∨ (!w.params.followText "set-order") = true
          cases w.params.followText "set-order"
          · exact .inr rfl
          · exact .inl rfl
        case k1 =>
          intro z' ks2 hm hc' hms hS'
          obtain ⟨h2, g2, d2, tk, os2⟩ := z'
          obtain rfl : g2 = s.gens := hm.gens
          obtain rfl : d2 = s.drawn := hm.drawn
          obtain rfl : os2 = s.os := hm.os
          show wpAny _ _ _ _ _ _
          refine wpAny_pure ?_
          show wpAny _ _ (ret Value.none) _ _ _
          rw [sz] at hc'
          refine wpAny_pure ⟨rfl, h2, tk, ks2, rfl, hS', hc', hms, fun b o e => ?_⟩
          have lb : b < s.heap.objs.size := Heap.lt_size e
          exact hm.heap b o (by rw [zz]; simp only [List.mem_cons, List.not_mem_nil, or_false, not_or]; exact ⟨Nat.ne_of_lt lb, Nat.ne_of_lt (Nat.lt_succ_of_lt lb)⟩) (Heap.get?_push_of_some _ (Heap.get?_push_of_some _ e))
      · cases r₂ with
        | error e => exact hr₂
        | ok fl₂ =>
          cases fl₂ with
          | ret r =>
            obtain ⟨rfl, h2, tk, ks2, rfl, hS', hc', hms, hk'⟩ := hr₂
            repeat (any_goals (first | assumption | wp_step))
            exact q _ _ _ hS' hc' hms hk'
          | _ => exact hr₂.elim
    | _ => exact hr.elim

set_option maxHeartbeats 3200000 in
theorem callSetTT {l : Addr} {vs : Array Value} (ts : List Str) {Z : Value → Shared → Prop} (h0 : A.handled = none) (hL : s.heap.IsTuple l vs) (hI : StrsAre vs.toList ts) (hB : ts.length + 1 < scanBound)
    (q : ∀ (h2 : Heap) (tk : Nat) (ks : List Str), SxT P w h2 s.heap.objs.size ks → ks.length ≤ ts.length → (∀ x, x ∈ ks ↔ x ∈ ts) → (∀ b o, s.heap.get? b = some o → h2.get? b = some o) → Z (.ref s.heap.objs.size) { s with heap := h2, toks := tk }) :
    wpAny (model P w) A (call (.type "set") [.ref l]) Z E s := by
  have sz : vs.size = ts.length := (Array.length_toList ..).symm.trans hI.len_eq
  obtain ⟨c, tl, m0⟩ := F.called_set.mro
  have m1 := F.called_set.made
  have m2 := F.called_set.sub
  refine wpAny_call (codeAny_of_tree ?_)
  refine wpAny_pure ⟨Code.quiet_builtin _ (by decide +kernel), codeAny_builtin F.entry_type_call ?_⟩
  rw [Around.under_plain (weight_type_call_type "set" [.ref l] []) rfl]
  have g1 := F.called_set.notType
  have g2 := F.called_set.canCreate
  have g3 := F.typeCall_set_1 (.ref l)
  repeat (any_goals (first | assumption | wp_step))
  refine codeAny_mono (code_set_led1 (.ref l) (E := E) (Q₁ := fun ob z₁ => ob = .ref s.heap.objs.size ∧ z₁ = { s with heap := s.heap.push (soOf w) }) ⟨rfl, rfl⟩) fun r z₁ hr => ?_
  cases r with
  | error e => exact hr
  | ok fl =>
    cases fl with
    | ret ob =>
      obtain ⟨rfl, rfl⟩ := hr
      have eS : (s.heap.push (soOf w)).get? s.heap.objs.size = some (soOf w) := Heap.get?_push_size _ rfl
      have tS : Shared.TypeIs { s with heap := s.heap.push (soOf w) } (.ref s.heap.objs.size) "set" := ⟨_, eS, rfl⟩
      have i1 := F.called_set.init.lookup
      have i2 := F.called_set.init.bind (.ref s.heap.objs.size)
      repeat (any_goals (first | assumption | wp_step))
      refine codeAny_mono (codeAny_call_builtin (R := wants (fun r z₂ => r = .none ∧ ∃ h2 tk ks, z₂ = { s with heap := h2, toks := tk } ∧ SxT P w h2 s.heap.objs.size ks ∧ ks.length ≤ ts.length ∧ (∀ x, x ∈ ks ↔ x ∈ ts) ∧ (∀ b o, s.heap.get? b = some o → h2.get? b = some o)) E) F.called_set.init.plain F.entry_set_init (check_set_init_1 tS ?_)) fun r₂ z₂ hr₂ => ?_
      · obtain ⟨ol, eol, col, nl, dol⟩ := hL
        obtain ⟨kc, kd, kt, ks⟩ := ol
        simp only at col dol
        subst col; subst dol
        have eo2 : (s.heap.push (soOf w)).get? l = some { cls := .type "tuple", dict := kd, data := .seq vs nl, slots := ks } := Heap.get?_push_of_some _ eol
        have sb1 := F.sub_tuple_set
        have sb2 := F.sub_tuple_frozenset
        have hne : (Value.type "tuple" == Value.type "dict") = false := by decide
        have hL1 : (s.heap.push (soOf w)).IsTuple l vs := ⟨_, eo2, rfl, nl, rfl⟩
        unfold Builtin.«set.__init__» noKeywords Builtin.Frozenset.updateFrom
        generalize hPI : pyIter = PI
        wp_walk
        subst hPI
        refine wpAny_pyIter_tuple hL1 ?_
        refine wpAny_bind (wpAny_runValue ?_)
        have ll : l < s.heap.objs.size := Heap.lt_size eol
        have hh3 : A.in1.in1.in1.handled = none := by simp [h0]
        have zz : (s.heap.push (soOf w)).objs.size = s.heap.objs.size + 1 := Heap.size_push ..
        have n1 : l ≠ (s.heap.push (soOf w)).objs.size := by rw [zz]; exact Nat.ne_of_lt (Nat.lt_succ_of_lt ll)
        have n2 : s.heap.objs.size ∉ [(s.heap.push (soOf w)).objs.size, l] := by
          rw [zz]; simp only [List.mem_cons, List.not_mem_nil, or_false, not_or]
          exact ⟨Nat.ne_of_lt (Nat.lt_succ_self _), Nat.ne_of_gt ll⟩
        have val : ∀ (i : Nat) (v : Value), vs[i]? = some v → ∃ k t, ts[i]? = some k ∧ v = .str k t := fun i v hv => by
          have hi : i < ts.length := by rw [← sz]; exact (Array.getElem?_eq_some_iff.mp hv).1
          obtain ⟨t, e⟩ := SS.strs_at hI i v (by rw [Array.getElem?_toList]; exact hv)
          exact ⟨ts[i], t, List.getElem?_eq_getElem hi, by rw [e, List.getD_eq_getElem?_getD, List.getElem?_eq_getElem hi] <;> rfl⟩
        refine fill_txt ((Walks.tuple hh3 _ l n1 vs).toS) s.heap.objs.size n2 ts sz hB val (vs.size - 0) 0 _ (by omega) (Nat.zero_le _) ⟨⟨_, Heap.get?_push_size _ rfl, rfl, rfl⟩, (hL1.push _)⟩ ?k0 ?k1
        case k0 =>
          refine ⟨[], Nat.le_refl 0, fun x => by simp, ⟨(#[], 0, .fresh 0 0 (!w.params.followText "set-order")), Heap.get?_push_of_some _ eS, TxOk.nil (by rfl), List.Pairwise.nil, ?_⟩, List.nodup_nil⟩
          show _ ∨ (!w.params.followText "set-order") = true
          cases w.params.followText "set-order"
          · exact .inr rfl
          · exact .inl rfl
        case k1 =>
          intro z' ks2 hm hc' hms hS'
          obtain ⟨h2, g2, d2, tk, os2⟩ := z'
          obtain rfl : g2 = s.gens := hm.gens
          obtain rfl : d2 = s.drawn := hm.drawn
          obtain rfl : os2 = s.os := hm.os
          show wpAny _ _ _ _ _ _
          refine wpAny_pure ?_
          show wpAny _ _ (ret Value.none) _ _ _
          rw [sz] at hc'
          refine wpAny_pure ⟨rfl, h2, tk, ks2, rfl, hS', hc', hms, fun b o e => ?_⟩
          have lb : b < s.heap.objs.size := Heap.lt_size e
          exact hm.heap b o (by rw [zz]; simp only [List.mem_cons, List.not_mem_nil, or_false, not_or]; exact ⟨Nat.ne_of_lt lb, Nat.ne_of_lt (Nat.lt_succ_of_lt lb)⟩) (Heap.get?_push_of_some _ (Heap.get?_push_of_some _ e))
      · cases r₂ with
        | error e => exact hr₂
        | ok fl₂ =>
          cases fl₂ with
          | ret r =>
            obtain ⟨rfl, h2, tk, ks2, rfl, hS', hc', hms, hk'⟩ := hr₂
            repeat (any_goals (first | assumption | wp_step))
            exact q _ _ _ hS' hc' hms hk'
          | _ => exact hr₂.elim
    | _ => exact hr.elim
end
end Kt

set_option Elab.async false
set_option linter.all false
set_option maxRecDepth 100000
namespace Kt
open PySem PySem.Spec L2 PyProof.Rows PySem.Froz
/-! ### what is sorted is one list -/
theorem leS_anti {a b : Str} (h : leS a b = true) (h2 : leS b a = true) : a = b := by
  rw [leS_eq] at h h2
  have e := List.le_antisymm (of_decide_eq_true h) (of_decide_eq_true h2)
  obtain ⟨⟨x⟩⟩ := a
  obtain ⟨⟨y⟩⟩ := b
  have e : x = y := e
  rw [e]
theorem sortS_perm {a b : List Str} (h : a.Perm b) : sortS a = sortS b :=
  List.Perm.eq_of_pairwise (le := fun a b => leS a b = true) (fun _ _ _ _ => leS_anti) (asc_sort a) (asc_sort b) (((sort_perm a).trans h).trans (sort_perm b).symm)
theorem sort_uniq {a b : List Str} (h : Asc a) (e : a.Perm b) : sortS b = a := by rw [← sortS_perm e, sort_asc h]
theorem perm_of_nodup : ∀ {a b : List Str}, a.Nodup → (∀ x ∈ a, x ∈ b) → b.length ≤ a.length → b.Perm a
  | [], b, _, _, hl => by
    have : b = [] := List.length_eq_zero_iff.mp (Nat.le_zero.mp hl)
    rw [this]
  | x :: a, b, nd, hs, hl => by
    obtain ⟨h1, h2⟩ := List.nodup_cons.mp nd
    have m := hs x List.mem_cons_self
    have e := List.length_erase_of_mem m
    have ih := perm_of_nodup (a := a) (b := b.erase x) h2 (fun y my => (List.mem_erase_of_ne fun (z : y = x) => h1 (z ▸ my)).mpr (hs y (List.mem_cons_of_mem _ my))) (by rw [e]; rw [List.length_cons] at hl; omega)
    exact (List.perm_cons_erase m).trans (ih.cons x)
/-- the texts, each once -/
def nubS : List Str → List Str
  | [] => []
  | x :: l => if x ∈ l then nubS l else x :: nubS l
theorem mem_nub {x : Str} : ∀ {l : List Str}, x ∈ nubS l ↔ x ∈ l
  | [] => Iff.rfl
  | y :: l => by
    unfold nubS
    split
    · rename_i h
      rw [mem_nub, List.mem_cons]
      exact ⟨.inr, fun z => z.elim (fun e => e ▸ h) id⟩
    · rw [List.mem_cons, List.mem_cons, mem_nub]
theorem nub_nd : ∀ l : List Str, (nubS l).Nodup
  | [] => List.nodup_nil
  | y :: l => by
    unfold nubS
    split
    · exact nub_nd l
    · rename_i h
      exact List.nodup_cons.mpr ⟨fun z => h (mem_nub.mp z), nub_nd l⟩
theorem nub_len : ∀ l : List Str, (nubS l).length ≤ l.length
  | [] => Nat.le_refl _
  | y :: l => by
    have := nub_len l
    unfold nubS
    split <;> rw [List.length_cons] <;> first | omega | (rw [List.length_cons]; omega)
theorem nub_of {l : List Str} (h : l.Nodup) : nubS l = l := by
  induction l with
  | nil => rfl
  | cons x l ih =>
    obtain ⟨h1, h2⟩ := List.nodup_cons.mp h
    unfold nubS
    rw [if_neg h1, ih h2]
def setS (l : List Str) : List Str := sortS (nubS l)
theorem set_eq {ks l : List Str} (nd : ks.Nodup) (hm : ∀ x, x ∈ ks ↔ x ∈ l) : sortS ks = setS l := by
  have h1 : (nubS l).Perm ks := by
    have a1 := perm_of_nodup (a := ks) (b := nubS l) nd (fun x m => mem_nub.mpr ((hm x).mp m))
    have a2 := perm_of_nodup (a := nubS l) (b := ks) (nub_nd l) (fun x m => (hm x).mpr (mem_nub.mp m))
    by_cases h : (nubS l).length ≤ ks.length
    · exact a1 h
    · exact (a2 (by omega)).symm
  exact sortS_perm h1.symm
theorem mem_set {x : Str} {l : List Str} : x ∈ setS l ↔ x ∈ l := (sort_perm _).mem_iff.trans mem_nub
theorem set_asc (l : List Str) : Asc (setS l) := asc_sort _
theorem set_nd (l : List Str) : (setS l).Nodup := (sort_perm _).nodup_iff.mpr (nub_nd l)
theorem set_len (l : List Str) : (setS l).length ≤ l.length := by
  unfold setS
  rw [(sort_perm _).length_eq]
  exact nub_len l
theorem set_ext {a b : List Str} (h : ∀ x, x ∈ a ↔ x ∈ b) : setS a = setS b := set_eq (nub_nd a) fun x => mem_nub.trans (h x)
theorem set_nodup {l : List Str} (h : l.Nodup) : setS l = sortS l := by unfold setS; rw [nub_of h]
/-! ### a set of texts as an object -/
def SetXO (P : Program) (w : World) (a : Addr) (l : List Str) : HO := .ext fun h => SxT P w h a l
def strOfV : Value → Str
  | .str x _ => x
  | _ => Str.empty
theorem each_strs : ∀ {vs : List Value}, (∀ v ∈ vs, ∃ x t, v = .str x t) → PySem.W.EachIs (fun v b => ∃ t, v = .str b t) vs (vs.map strOfV)
  | [], _ => .nil
  | v :: vs, h => by
    obtain ⟨x, t, rfl⟩ := h v List.mem_cons_self
    exact .cons ⟨t, rfl⟩ (each_strs fun u m => h u (List.mem_cons_of_mem _ m))
theorem each_vals : ∀ {vs : List Value} {bs : List Str}, PySem.W.EachIs (fun v b => ∃ t, v = Value.str b t) vs bs → Vals (bs.map V.str) vs
  | _, _, .nil => .nil
  | _, _, .cons h t => .cons h (each_vals t)
section
variable {P : Program} {w : World} {A : Around} {E : Value → Shared → Prop} {s : Shared} {a : Addr} {l : List Str}
theorem tx_keys {D : SD} (F : TxOk P w D l) (nd : l.Nodup) : (∀ v ∈ D.1.toList.map (·.2), ∃ x t, v = Value.str x t) ∧ ((D.1.toList.map (·.2)).map strOfV).Perm l := by
  have h1 : ∀ v ∈ D.1.toList.map (·.2), ∃ x t, v = Value.str x t := fun v m => by
    obtain ⟨e, he, rfl⟩ := List.mem_map.mp m
    obtain ⟨⟨k, hk, _⟩, _⟩ := F.el e he
    obtain ⟨t, ht⟩ := Value.isStrOf_shape hk
    exact ⟨k, t, ht⟩
  refine ⟨h1, perm_of_nodup nd (fun x m => ?_) ?_⟩
  · obtain ⟨e, he, hq⟩ := (F.mem x).mp m
    obtain ⟨t, ht⟩ := Value.isStrOf_shape hq
    rw [List.map_map]
    exact List.mem_map.mpr ⟨e, he, by show strOfV e.2 = x; rw [ht]; rfl⟩
  · rw [List.length_map, List.length_map, Array.length_toList, F.sz]
    exact Nat.le_refl _
set_option maxHeartbeats 2000000 in
theorem sorted_setX {Z : Value → Shared → Prop} (R : SxT P w s.heap a l) (h0 : A.handled = none) (hl : l.length ≤ 1000) (hu : A.units + 64 < cLine)
    (q : ∀ s2 p (out : List Value) (c : Nat), (∀ b o, s.heap.get? b = some o → s2.heap.get? b = some o) → s2.gens = s.gens → s2.os = s.os → s.heap.objs.size ≤ p → s2.heap.get? p = some (seqObj "list" out.toArray c) → Vals ((sortS l).map V.str) out → Z (.ref p) s2) :
    wpAny (model P w) A (call (.builtin "sorted") [.ref a]) Z E s := by
  obtain ⟨⟨D, e, F, r, ld⟩, nd⟩ := R
  have sc : (1001 : Nat) < scanBound := by unfold scanBound; decide
  have hz : D.1.size = l.length := F.sz
  refine Calls.call_function_entry kind_sorted plain_sorted entry_sorted (args_sorted1 _) ?_
  unfold Builtin.«sorted»
  refine wpAny_bind (m := checkCount "sorted" 1 1 _) (wpAny_pure ?_)
  refine wpAny_bind (collect_set (A := A.in1) h0 (es := D.1) (ep := D.2.1) (t := D.2.2) ⟨_, e, rfl, rfl⟩ F.fit (by omega) r ld fun z1 vs k1 hz1 g1 o1 pm => ?_)
  obtain ⟨hs, hp⟩ := tx_keys F nd
  have hs2 : ∀ v ∈ vs, ∃ x t, v = Value.str x t := fun v m => hs v (pm.mem_iff.mp m)
  have ee := each_strs hs2
  have pl : (vs.map strOfV).Perm l := (pm.map strOfV).trans hp
  have hvl : vs.length = l.length := by rw [← pl.length_eq, List.length_map]
  refine wpAny_bind (wpAny_newList ?_ (by rw [hvl, sizeLine_eq]; omega))
  have eL : (z1.heap.push (seqObj "list" vs.toArray 0)).get? z1.heap.objs.size = some (seqObj "list" vs.toArray 0) := Heap.get?_push_size _ rfl
  refine wpAny_bind (wpAny_holding (PySem.W.list_sort_data (enc := PyData.str) (s := { z1 with heap := z1.heap.push (seqObj "list" vs.toArray 0) }) eL ee (ee.mono fun v b ⟨t, ht⟩ => ⟨[], ht ▸ .str b t, nofun⟩) (allAlike_str _) (sortable_str _) (by rw [List.length_map, hvl, sizeLine_eq]; omega) (fun b _ => by show A.units + 1 + 1 + 0 < cLine; omega) fun out lo eo => ?_))
  obtain ⟨c, hc⟩ := sortedHeap_at (vs := vs) (out := out.toArray) eL
  refine wpAny_pure ⟨_, rfl, q { z1 with heap := sortedHeap (z1.heap.push (seqObj "list" vs.toArray 0)) z1.heap.objs.size vs out.toArray } z1.heap.objs.size out c (fun b u eb => ?_) g1 o1 hz1 hc ?_⟩
  · have q2 := k1 b u eb
    have lt := Heap.lt_size q2
    show (sortedHeap (z1.heap.push (seqObj "list" vs.toArray 0)) z1.heap.objs.size vs out.toArray).get? b = some u
    have lt2 : b < (z1.heap.push (seqObj "list" vs.toArray 0)).objs.size := by rw [size_push']; exact Nat.lt_succ_of_lt lt
    rw [sortedHeap_old (Nat.ne_of_lt lt) lt2]
    exact Heap.get?_push_of_some _ q2
  · have e3 : (vs.map strOfV).mergeSort (PySem.W.dataLe false PyData.str) = sortS l := sortS_perm pl
    rw [← e3]
    exact each_vals eo
end
section
variable {X : Cx}
theorem setX_new {P : Program} {w : World} {H : Hp} {h : Heap} {a : Addr} {l : List Str} (R : SxT P w h a l) : ObjOk P w H h a (SetXO P w a l) := by
  obtain ⟨⟨D, e, r⟩, n⟩ := id R
  exact ⟨R, ⟨_, e⟩, fun h1 h2 p k => SxT.to p k⟩
theorem setX_get {pins : List (Addr × Obj)} {σ : L2.St} {H : Hp} {s : Shared} {a : Addr} {l : List Str} (I : Inv X pins σ H s) (e : H a = some (SetXO X.prog X.w a l)) : SxT X.prog X.w s.heap a l := (I.hok a _ e).1
def rSetX (K : PySem.W.Frag) (P : Program) (w : World) : List V → Hp → VK → Prop := fun xs H Q => ∃ (a : Addr) (ts : List Str), xs = [.ref a] ∧ (SqL K H a (ts.map V.str) ∨ SqT K H a (ts.map V.str)) ∧ ts.length ≤ 1000 ∧ ∀ p ks, H p = none → ks.Nodup → (∀ x, x ∈ ks ↔ x ∈ ts) → ks.length ≤ ts.length → Q (.ref p) (upd H p (SetXO P w p ks))
theorem cr_setX (hc : X.calm = true) : CallR X (.type "set") (rSetX X.K X.prog X.w) := by
  intro pins s σ H xs us Q I r h
  obtain ⟨a, ts, rfl, hs, hl, q⟩ := h
  rw [Vals.ref1 r]
  have sc : ts.length + 1 < scanBound := Nat.lt_of_le_of_lt (Nat.add_le_add_right hl 1) (by unfold scanBound; decide)
  rcases hs with hs | hs
  · obtain ⟨its, rv, pl, hz⟩ := I.list hs
    refine callSetTL ts (I.ok.hd hc) pl.isList (by simpa using strsAre_of rv) sc fun h2 tk ks R lk hm hk => ?_
    exact ⟨.ref _, upd H s.heap.objs.size (SetXO X.prog X.w s.heap.objs.size ks), I.laid (t' := tk) hk (Nat.le_refl _) (setX_new R), rfl, q _ ks (I.hok.fresh (Nat.le_refl _)) R.nd hm lk⟩
  · obtain ⟨its, rv, pl, hz⟩ := I.tuple hs
    refine callSetTT ts (I.ok.hd hc) pl (by simpa using strsAre_of rv) sc fun h2 tk ks R lk hm hk => ?_
    exact ⟨.ref _, upd H s.heap.objs.size (SetXO X.prog X.w s.heap.objs.size ks), I.laid (t' := tk) hk (Nat.le_refl _) (setX_new R), rfl, q _ ks (I.hok.fresh (Nat.le_refl _)) R.nd hm lk⟩
def rSortSetX (P : Program) (w : World) : List V → Hp → VK → Prop := fun xs H Q => ∃ (a : Addr) (l : List Str), xs = [.ref a] ∧ H a = some (SetXO P w a l) ∧ l.length ≤ 1000 ∧ ∀ p, H p = none → Q (.ref p) (upd H p (.lst ((sortS l).map V.str)))
theorem cr_sortSetX (hc : X.calm = true) (hu : X.A.units + 64 < cLine) : CallR X (.builtin "sorted") (rSortSetX X.prog X.w) := by
  intro pins s σ H xs us Q I r h
  obtain ⟨a, l, rfl, ha, hl, q⟩ := h
  have R := setX_get I ha
  rw [Vals.ref1 r]
  refine sorted_setX R (I.ok.hd hc) hl hu fun s2 p out c k g o hp hg hv => ?_
  have hlen : ((sortS l).map V.str).length ≤ sizeLine := by rw [List.length_map, (sort_perm l).length_eq, sizeLine_eq]; omega
  have np : H p = none := I.hok.fresh hp
  have J : Inv X pins σ (upd H p (.lst ((sortS l).map V.str))) { s with heap := s2.heap, gens := s2.gens, drawn := s2.drawn, toks := s2.toks } :=
    I.call (ch := []) (Un.laid k hp np) (I.hok.laid k hp ⟨hlen, out, c, hv, hg⟩) (by rw [g]; exact I.bare) (fun _ z => nomatch z)
  have e : s2 = { s with heap := s2.heap, gens := s2.gens, drawn := s2.drawn, toks := s2.toks } := by
    cases s2
    cases s
    cases o
    rfl
  rw [e]
  exact ⟨.ref p, _, J, rfl, q p np⟩
/-- sorted of data, of a set of whole numbers, of a set of texts -/
def rSortB (K : PySem.W.Frag) (P : Program) (w : World) : List V → Hp → VK → Prop := fun xs H Q => rSortA K w xs H Q ∨ rSortSetX P w xs H Q
theorem cr_sortB (hc : X.calm = true) (hu : X.A.units + 64 < cLine) : CallR X (.builtin "sorted") (rSortB X.K X.prog X.w) := fun pins s σ H xs us Q I r h => h.elim (cr_sortA hc hu pins s σ H xs us Q I r) (cr_sortSetX hc hu pins s σ H xs us Q I r)
/-- set of whole numbers, of texts -/
def rSetB (K : PySem.W.Frag) (P : Program) (w : World) : List V → Hp → VK → Prop := fun xs H Q => rSetL K w xs H Q ∨ rSetX K P w xs H Q
theorem cr_setB (hc : X.calm = true) : CallR X (.type "set") (rSetB X.K X.prog X.w) := fun pins s σ H xs us Q I r h => h.elim (cr_setL hc pins s σ H xs us Q I r) (cr_setX hc pins s σ H xs us Q I r)
end
section
variable {K : PySem.W.Frag} {P : Program} {w : World} {H : Hp} {Q : VK} {a : Addr} {ts : List Str} {Ps : List SP}
theorem r_setX (S : Sep Ps H) (s : SqL K H a (ts.map V.str) ∨ SqT K H a (ts.map V.str)) (hl : ts.length ≤ 1000) (q : ∀ p ks H', ks.Nodup → (∀ x, x ∈ ks ↔ x ∈ ts) → ks.length ≤ ts.length → Sep (pt p (SetXO P w p ks) :: Ps) H' → Q (.ref p) H') : rSetX K P w [.ref a] H Q :=
  ⟨a, ts, rfl, s, hl, fun p ks np nd hm hk => q p ks _ nd hm hk (S.new _ np)⟩
theorem r_sortSetX {l : List Str} (S : Sep Ps H) (e : H a = some (SetXO P w a l)) (hl : l.length ≤ 1000) (q : ∀ p H', Sep (pt p (.lst ((sortS l).map V.str)) :: Ps) H' → Q (.ref p) H') : rSortSetX P w [.ref a] H Q :=
  ⟨a, l, rfl, e, hl, fun p np => q p _ (S.new _ np)⟩
end
end Kt

set_option Elab.async false
set_option linter.all false
set_option maxRecDepth 100000
namespace Kt
open PySem L2
/-! ### the sign rows of orders tell them apart -/
theorem toks_strs : ∀ {l m : List Str} {r s : List (Int ⊕ List Nat)}, PySem.W.keyToksAll (l.map PyData.str) ++ r = PySem.W.keyToksAll (m.map PyData.str) ++ s → l = m ∧ r = s
  | [], [], r, s, h => by
    simp only [List.map_nil, PySem.W.keyToksAll, List.cons_append, List.nil_append, List.cons.injEq, true_and] at h
    exact ⟨rfl, h⟩
  | [], y :: m, r, s, h => by
    simp [PySem.W.keyToksAll] at h
  | x :: l, [], r, s, h => by
    simp [PySem.W.keyToksAll] at h
  | x :: l, y :: m, r, s, h => by
    simp only [List.map_cons, PySem.W.keyToksAll, PySem.W.keyToks, List.cons_append, List.nil_append, List.cons.injEq, true_and, Sum.inr.injEq] at h
    obtain ⟨e, h⟩ := h
    obtain ⟨rfl, rfl⟩ := toks_strs h
    have : x = y := by
      obtain ⟨⟨a⟩⟩ := x
      obtain ⟨⟨b⟩⟩ := y
      have e : a = b := e
      rw [e]
    exact ⟨by rw [this], rfl⟩
theorem toks_lvs : ∀ {l m : Od} {r s : List (Int ⊕ List Nat)}, PySem.W.keyToksAll (l.map dLv) ++ r = PySem.W.keyToksAll (m.map dLv) ++ s → l = m ∧ r = s
  | [], [], r, s, h => by
    simp only [List.map_nil, PySem.W.keyToksAll, List.cons_append, List.nil_append, List.cons.injEq, true_and] at h
    exact ⟨rfl, h⟩
  | [], y :: m, r, s, h => by
    simp [PySem.W.keyToksAll] at h
  | x :: l, [], r, s, h => by
    simp [PySem.W.keyToksAll] at h
  | x :: l, y :: m, r, s, h => by
    simp only [List.map_cons, PySem.W.keyToksAll, dLv, PySem.W.keyToks, List.cons_append, List.append_assoc, List.cons.injEq, true_and] at h
    obtain ⟨e1, h2⟩ := toks_strs h
    obtain ⟨e2, e3⟩ := toks_lvs h2
    exact ⟨by rw [e1, e2], e3⟩
theorem toks_od {a b : Od} (h : PySem.W.keyToks (dOd a) = PySem.W.keyToks (dOd b)) : a = b := by
  have h : PySem.W.keyToksAll (a.map dLv) ++ [] = PySem.W.keyToksAll (b.map dLv) ++ [] := by rw [List.append_nil, List.append_nil]; exact h
  exact (toks_lvs h).1
theorem leOd_tot : PySem.W.TotalLe leOd := PySem.W.sortLe_total _ false _
theorem leOd_anti {a b : Od} (h : leOd a b = true) (h2 : leOd b a = true) : a = b := by
  refine toks_od ?_
  by_cases e : PySem.W.keyToks (dOd a) = PySem.W.keyToks (dOd b)
  · exact e
  · have h : (!(PyProof.Rows.listOrd PyProof.Rows.itemOrd).blt (PySem.W.keyToks (dOd b)) (PySem.W.keyToks (dOd a))) = true := h
    have h2 : (!(PyProof.Rows.listOrd PyProof.Rows.itemOrd).blt (PySem.W.keyToks (dOd a)) (PySem.W.keyToks (dOd b))) = true := h2
    have t := (PyProof.Rows.listOrd PyProof.Rows.itemOrd).total (PySem.W.keyToks (dOd a)) (PySem.W.keyToks (dOd b))
    simp only [Bool.not_eq_true'] at h h2
    exact t h2 h
theorem sortOd_perm {a b : List Od} (h : a.Perm b) : a.mergeSort leOd = b.mergeSort leOd := by
  have tr : ∀ a b c, leOd a b = true → leOd b c = true → leOd a c = true := leOd_tot.trans
  have to : ∀ a b, (leOd a b || leOd b a) = true := fun a b => by rcases leOd_tot.total a b with e | e <;> simp [e]
  exact List.Perm.eq_of_pairwise (le := fun a b => leOd a b = true) (fun _ _ _ _ => leOd_anti) (List.pairwise_mergeSort tr to a) (List.pairwise_mergeSort tr to b) (((List.mergeSort_perm a leOd).trans h).trans (List.mergeSort_perm b leOd).symm)
theorem perm_nd {α : Type} {a b : List α} (ha : a.Nodup) (hb : b.Nodup) (h : ∀ x, x ∈ a ↔ x ∈ b) : a.Perm b := (List.perm_ext_iff_of_nodup ha hb).mpr h
/-! ### levels -/
structure LvOk (l : Lv) : Prop where
  asc : Asc l
  nd : l.Nodup
  ne : l ≠ []
theorem asc_same {a b : List Str} (ha : Asc a) (na : a.Nodup) (hb : Asc b) (nb : b.Nodup) (h : ∀ x, x ∈ a ↔ x ∈ b) : a = b := by
  have e1 : setS a = a := by rw [set_nodup na, sort_asc ha]
  have e2 : setS b = b := by rw [set_nodup nb, sort_asc hb]
  rw [← e1, ← e2]
  exact set_ext h
theorem LvOk.same {a b : Lv} (ha : LvOk a) (hb : LvOk b) (h : ∀ x, x ∈ a ↔ x ∈ b) : a = b := asc_same ha.asc ha.nd hb.asc hb.nd h
def tie (C : List Str) (l : Lv) : Lv := l.filter fun x => decide (x ∈ C)
theorem mem_tie {C : List Str} {l : Lv} {x : Str} : x ∈ tie C l ↔ x ∈ l ∧ x ∈ C := by simp [tie]
theorem tie_ok {C : List Str} {w : Lv} (h : LvOk w) (n : tie C w ≠ []) : LvOk (tie C w) := ⟨asc_filter _ h.asc, h.nd.filter _, n⟩
theorem only_cons (C : List Str) (w : Lv) (W : Od) : onlyO C (w :: W) = if tie C w = [] then onlyO C W else tie C w :: onlyO C W := by
  rw [onlyO_cons]
  show (if (tie C w).isEmpty = true then _ else tie C w :: _) = _
  by_cases h : tie C w = []
  · rw [if_pos h, if_pos (by rw [h]; rfl)]
  · rw [if_neg h, if_neg (fun e => h (List.isEmpty_iff.mp e))]
/-! ### all ways to lay two orders over one another -/
def lay (C D : List Str) : Od → Od → List Od
  | [], [] => [[]]
  | l :: a, [] => if tie C l = [] then (lay C D a []).map (l :: ·) else []
  | [], m :: b => if tie D m = [] then (lay C D [] b).map (m :: ·) else []
  | l :: a, m :: b => (if tie C l = [] then (lay C D a (m :: b)).map (l :: ·) else []) ++ (if tie D m = [] then (lay C D (l :: a) b).map (m :: ·) else []) ++ (if tie C l = tie D m then (lay C D a b).map (setS (l ++ m) :: ·) else [])
termination_by a b => a.length + b.length
def LvIn (C : List Str) (a : Od) : Prop := ∀ l ∈ a, LvOk l ∧ ∀ x ∈ l, x ∈ C
theorem LvIn.tl {C : List Str} {l : Lv} {a : Od} (h : LvIn C (l :: a)) : LvIn C a := fun x m => h x (List.mem_cons_of_mem _ m)
theorem tie_own {C : List Str} {l : Lv} (h : ∀ x ∈ l, x ∈ C) : tie C l = l := List.filter_eq_self.mpr fun x m => by simp [h x m]
theorem mem_if {α : Type} {p : Prop} [Decidable p] {x : α} {l : List α} : x ∈ (if p then l else []) ↔ p ∧ x ∈ l := by
  by_cases h : p <;> simp [h]
/-- one step: which first level an order may have -/
def Stp (C D : List Str) (w : Lv) (W : Od) (a b : Od) : Prop :=
  (∃ a', a = w :: a' ∧ tie C w = [] ∧ W ∈ lay C D a' b) ∨ (∃ b', b = w :: b' ∧ tie D w = [] ∧ W ∈ lay C D a b') ∨ ∃ l m a' b', a = l :: a' ∧ b = m :: b' ∧ w = setS (l ++ m) ∧ tie C l = tie D m ∧ W ∈ lay C D a' b'
theorem lay_nil {C D : List Str} {a b : Od} : [] ∈ lay C D a b ↔ a = [] ∧ b = [] := by
  cases a with
  | nil => cases b with
    | nil => simp [lay]
    | cons m b => simp [lay, mem_if]
  | cons l a => cases b with
    | nil => simp [lay, mem_if]
    | cons m b => simp [lay, mem_if, List.mem_append]
theorem lay_cons {C D : List Str} {w : Lv} {W : Od} {a b : Od} : (w :: W) ∈ lay C D a b ↔ Stp C D w W a b := by
  unfold Stp
  cases a with
  | nil => cases b with
    | nil => simp [lay]
    | cons m b =>
      simp only [lay, mem_if, List.mem_map, List.cons.injEq]
      constructor
      · rintro ⟨t, V, hV, rfl, rfl⟩
        exact .inr (.inl ⟨b, ⟨rfl, rfl⟩, t, hV⟩)
      · rintro (⟨a', h, _⟩ | ⟨b', ⟨rfl, rfl⟩, t, hV⟩ | ⟨_, _, _, _, h, _⟩)
        · cases h
        · exact ⟨t, W, hV, rfl, rfl⟩
        · cases h
  | cons l a => cases b with
    | nil =>
      simp only [lay, mem_if, List.mem_map, List.cons.injEq]
      constructor
      · rintro ⟨t, V, hV, rfl, rfl⟩
        exact .inl ⟨a, ⟨rfl, rfl⟩, t, hV⟩
      · rintro (⟨a', ⟨rfl, rfl⟩, t, hV⟩ | ⟨b', h, _⟩ | ⟨_, _, _, _, _, h, _⟩)
        · exact ⟨t, W, hV, rfl, rfl⟩
        · cases h
        · cases h
    | cons m b =>
      simp only [lay, mem_if, List.mem_map, List.mem_append, List.cons.injEq]
      constructor
      · rintro ((⟨t, V, hV, rfl, rfl⟩ | ⟨t, V, hV, rfl, rfl⟩) | ⟨t, V, hV, rfl, rfl⟩)
        · exact .inl ⟨a, ⟨rfl, rfl⟩, t, hV⟩
        · exact .inr (.inl ⟨b, ⟨rfl, rfl⟩, t, hV⟩)
        · exact .inr (.inr ⟨l, m, a, b, ⟨rfl, rfl⟩, ⟨rfl, rfl⟩, rfl, t, hV⟩)
      · rintro (⟨a', ⟨rfl, rfl⟩, t, hV⟩ | ⟨b', ⟨rfl, rfl⟩, t, hV⟩ | ⟨l', m', a', b', ⟨rfl, rfl⟩, ⟨rfl, rfl⟩, rfl, t, hV⟩)
        · exact .inl (.inl ⟨t, W, hV, rfl, rfl⟩)
        · exact .inl (.inr ⟨t, W, hV, rfl, rfl⟩)
        · exact .inr ⟨t, W, hV, rfl, rfl⟩
theorem tie_set {D : List Str} {C : List Str} {l m : Lv} (hl : LvOk l) (hD : ∀ x ∈ l, x ∈ D) (t : tie C l = tie D m) : tie D (setS (l ++ m)) = l := by
  refine asc_same (asc_filter _ (set_asc _)) ((set_nd _).filter _) hl.asc hl.nd fun x => ?_
  show x ∈ tie D (setS (l ++ m)) ↔ x ∈ l
  rw [mem_tie, mem_set, List.mem_append]
  constructor
  · rintro ⟨h | h, hd⟩
    · exact h
    · have : x ∈ tie D m := mem_tie.mpr ⟨h, hd⟩
      rw [← t] at this
      exact (mem_tie.mp this).1
  · exact fun h => ⟨.inl h, hD x h⟩
theorem set_swap (l m : Lv) : setS (l ++ m) = setS (m ++ l) := set_ext fun x => by rw [List.mem_append, List.mem_append, or_comm]
theorem set_lv {l m : Lv} (h : l ≠ []) : LvOk (setS (l ++ m)) := ⟨set_asc _, set_nd _, fun e => by
  obtain ⟨x, r, rfl⟩ := List.exists_cons_of_ne_nil h
  have : x ∈ setS (x :: r ++ m) := mem_set.mpr (List.mem_append.mpr (.inl List.mem_cons_self))
  rw [e] at this
  cases this⟩
/-- what is laid over, told without going through -/
theorem mem_lay {C D : List Str} : ∀ (W a b : Od), LvIn D a → LvIn C b → (W ∈ lay C D a b ↔ (∀ w ∈ W, LvOk w ∧ ∀ x ∈ w, x ∈ C ∨ x ∈ D) ∧ onlyO D W = a ∧ onlyO C W = b)
  | [], a, b, ha, hb => by
    rw [lay_nil, onlyO_nil, onlyO_nil]
    constructor
    · rintro ⟨rfl, rfl⟩
      exact ⟨nofun, rfl, rfl⟩
    · rintro ⟨_, rfl, rfl⟩
      exact ⟨rfl, rfl⟩
  | w :: W, a, b, ha, hb => by
    rw [lay_cons, only_cons, only_cons]
    constructor
    · rintro (⟨a', rfl, t, h⟩ | ⟨b', rfl, t, h⟩ | ⟨l, m, a', b', rfl, rfl, rfl, t, h⟩)
      · obtain ⟨h1, h2, h3⟩ := (mem_lay W a' b ha.tl hb).mp h
        obtain ⟨k1, k2⟩ := ha w List.mem_cons_self
        refine ⟨fun z m => ?_, ?_, ?_⟩
        · rcases List.mem_cons.mp m with rfl | m
          · exact ⟨k1, fun x hx => .inr (k2 x hx)⟩
          · exact h1 z m
        · rw [tie_own k2, if_neg k1.ne, h2]
        · rw [if_pos t, h3]
      · obtain ⟨h1, h2, h3⟩ := (mem_lay W a b' ha hb.tl).mp h
        obtain ⟨k1, k2⟩ := hb w List.mem_cons_self
        refine ⟨fun z m => ?_, ?_, ?_⟩
        · rcases List.mem_cons.mp m with rfl | m
          · exact ⟨k1, fun x hx => .inl (k2 x hx)⟩
          · exact h1 z m
        · rw [if_pos t, h2]
        · rw [tie_own k2, if_neg k1.ne, h3]
      · obtain ⟨h1, h2, h3⟩ := (mem_lay W a' b' ha.tl hb.tl).mp h
        obtain ⟨k1, k2⟩ := ha l List.mem_cons_self
        obtain ⟨g1, g2⟩ := hb m List.mem_cons_self
        have e1 := tie_set k1 k2 t
        have e2 : tie C (setS (l ++ m)) = m := by rw [set_swap]; exact tie_set g1 g2 t.symm
        refine ⟨fun z m => ?_, ?_, ?_⟩
        · rcases List.mem_cons.mp m with rfl | m
          · refine ⟨set_lv k1.ne, fun x hx => ?_⟩
            rcases List.mem_append.mp (mem_set.mp hx) with q | q
            · exact .inr (k2 x q)
            · exact .inl (g2 x q)
          · exact h1 z m
        · rw [e1, if_neg k1.ne, h2]
        · rw [e2, if_neg g1.ne, h3]
    · rintro ⟨h1, h2, h3⟩
      obtain ⟨k1, k2⟩ := h1 w List.mem_cons_self
      have h1' : ∀ w ∈ W, LvOk w ∧ ∀ x ∈ w, x ∈ C ∨ x ∈ D := fun z m => h1 z (List.mem_cons_of_mem _ m)
      by_cases tD : tie D w = []
      · have wC : ∀ x ∈ w, x ∈ C := fun x m => (k2 x m).resolve_right fun q => by
          have : x ∈ tie D w := mem_tie.mpr ⟨m, q⟩
          rw [tD] at this
          cases this
        rw [if_pos tD] at h2
        rw [tie_own wC, if_neg k1.ne] at h3
        subst h3
        exact .inr (.inl ⟨_, rfl, tD, (mem_lay W a _ ha hb.tl).mpr ⟨h1', h2, rfl⟩⟩)
      · rw [if_neg tD] at h2
        by_cases tC : tie C w = []
        · have wD : ∀ x ∈ w, x ∈ D := fun x m => (k2 x m).resolve_left fun q => by
            have : x ∈ tie C w := mem_tie.mpr ⟨m, q⟩
            rw [tC] at this
            cases this
          rw [if_pos tC] at h3
          rw [tie_own wD] at h2
          subst h2
          exact .inl ⟨_, rfl, tC, (mem_lay W _ b ha.tl hb).mpr ⟨h1', rfl, h3⟩⟩
        · rw [if_neg tC] at h3
          subst h2
          subst h3
          refine .inr (.inr ⟨tie D w, tie C w, _, _, rfl, rfl, ?_, ?_, (mem_lay W _ _ ha.tl hb.tl).mpr ⟨h1', rfl, rfl⟩⟩)
          · refine asc_same k1.asc k1.nd (set_asc _) (set_nd _) fun x => ?_
            rw [mem_set, List.mem_append, mem_tie, mem_tie]
            constructor
            · intro m
              exact (k2 x m).elim (fun q => .inr ⟨m, q⟩) fun q => .inl ⟨m, q⟩
            · rintro (⟨m, _⟩ | ⟨m, _⟩) <;> exact m
          · unfold tie
            rw [List.filter_filter, List.filter_filter]
            congr 1
            funext x
            exact Bool.and_comm _ _
termination_by W => W.length
theorem nodup_map_cons {w : Lv} {L : List Od} (h : L.Nodup) : (L.map (w :: ·)).Nodup := List.pairwise_map.mpr (h.imp fun n e => n (List.cons.inj e).2)
/-- each way stands once -/
theorem lay_nd {C D : List Str} : ∀ (n : Nat) (a b : Od), a.length + b.length ≤ n → LvIn D a → LvIn C b → (lay C D a b).Nodup
  | n, [], [], _, _, _ => by simp [lay]
  | 0, _ :: _, _, hn, _, _ => by simp at hn
  | 0, [], _ :: _, hn, _, _ => by simp at hn
  | n + 1, l :: a, [], hn, ha, hb => by
    rw [lay]
    split
    · exact nodup_map_cons (lay_nd n a [] (by simp only [List.length_cons] at hn ⊢; omega) ha.tl hb)
    · exact List.nodup_nil
  | n + 1, [], m :: b, hn, ha, hb => by
    rw [lay]
    split
    · exact nodup_map_cons (lay_nd n [] b (by simp only [List.length_cons] at hn ⊢; omega) ha hb.tl)
    · exact List.nodup_nil
  | n + 1, l :: a, m :: b, hn, ha, hb => by
    simp only [List.length_cons] at hn
    have i1 := nodup_map_cons (w := l) (lay_nd n a (m :: b) (by simp only [List.length_cons]; omega) ha.tl hb)
    have i2 := nodup_map_cons (w := m) (lay_nd n (l :: a) b (by simp only [List.length_cons]; omega) ha hb.tl)
    have i3 := nodup_map_cons (w := setS (l ++ m)) (lay_nd n a b (by omega) ha.tl hb.tl)
    obtain ⟨k1, k2⟩ := ha l List.mem_cons_self
    obtain ⟨g1, g2⟩ := hb m List.mem_cons_self
    have hd : ∀ {p q : Prop} [Decidable p] [Decidable q] {u v : Lv} {L M : List Od}, (p → q → u ≠ v) → ∀ x ∈ (if p then L.map (u :: ·) else []), ∀ y ∈ (if q then M.map (v :: ·) else []), x ≠ y := by
      intro p q _ _ u v L M huv x hx y hy e
      obtain ⟨hp, hx⟩ := mem_if.mp hx
      obtain ⟨hq, hy⟩ := mem_if.mp hy
      obtain ⟨x', _, rfl⟩ := List.mem_map.mp hx
      obtain ⟨y', _, rfl⟩ := List.mem_map.mp hy
      exact huv hp hq (List.cons.inj e).1
    have nif : ∀ {p : Prop} [Decidable p] {L : List Od}, L.Nodup → (if p then L else []).Nodup := by
      intro p _ L h
      split
      · exact h
      · exact List.nodup_nil
    rw [lay]
    obtain ⟨x, l', el⟩ := List.exists_cons_of_ne_nil k1.ne
    obtain ⟨y, m', em⟩ := List.exists_cons_of_ne_nil g1.ne
    have xl : x ∈ l := by rw [el]; exact List.mem_cons_self
    have ym : y ∈ m := by rw [em]; exact List.mem_cons_self
    refine List.nodup_append.mpr ⟨List.nodup_append.mpr ⟨nif i1, nif i2, hd fun h1 h2 e => ?_⟩, nif i3, fun z hz u hu => ?_⟩
    · subst e
      have : y ∈ tie D l := mem_tie.mpr ⟨ym, k2 y ym⟩
      rw [h2] at this
      cases this
    · rcases List.mem_append.mp hz with hz | hz
      · refine hd (fun h1 h2 e => ?_) z hz u hu
        have : y ∈ tie C l := mem_tie.mpr ⟨by rw [e]; exact mem_set.mpr (List.mem_append.mpr (.inr ym)), g2 y ym⟩
        rw [h1] at this
        cases this
      · refine hd (fun h1 h2 e => ?_) z hz u hu
        have : x ∈ tie D m := mem_tie.mpr ⟨by rw [e]; exact mem_set.mpr (List.mem_append.mpr (.inl xl)), k2 x xl⟩
        rw [h1] at this
        cases this
/-! ### all orders of some points, each once -/
def insL (p : Str) (V : Od) : List Od := (List.range (V.length + 1)).flatMap fun k => (V.take k ++ [p] :: V.drop k) :: (match V.drop k with
  | [] => []
  | r :: rs => [V.take k ++ (r ++ [p]) :: rs])
def allL (ps : List Str) : List Od := ps.foldl (fun F p => F.flatMap (insL p)) [[]]
theorem allL_snoc (ps : List Str) (p : Str) : allL (ps ++ [p]) = (allL ps).flatMap (insL p) := by
  unfold allL
  rw [List.foldl_append]
  rfl
theorem mem_ins {p : Str} {V W : Od} : W ∈ insL p V ↔ (∃ A B, V = A ++ B ∧ W = A ++ [p] :: B) ∨ ∃ A r B, V = A ++ r :: B ∧ W = A ++ (r ++ [p]) :: B := by
  unfold insL
  rw [List.mem_flatMap]
  constructor
  · rintro ⟨k, hk, m⟩
    rcases List.mem_cons.mp m with rfl | m
    · exact .inl ⟨_, _, (List.take_append_drop k V).symm, rfl⟩
    · cases e : V.drop k with
      | nil => rw [e] at m; cases m
      | cons r rs =>
        rw [e] at m
        rw [List.mem_singleton.mp m]
        exact .inr ⟨_, r, rs, by rw [← e, List.take_append_drop], rfl⟩
  · rintro (⟨A, B, rfl, rfl⟩ | ⟨A, r, B, rfl, rfl⟩)
    · refine ⟨A.length, List.mem_range.mpr (by rw [List.length_append]; omega), List.mem_cons.mpr (.inl ?_)⟩
      rw [List.take_left, List.drop_left]
    · refine ⟨A.length, List.mem_range.mpr (by rw [List.length_append]; omega), List.mem_cons.mpr (.inr ?_)⟩
      rw [List.drop_left, List.take_left]
      exact List.mem_singleton.mpr rfl
/-- an order of the points ps -/
structure OrdOf (ps : List Str) (W : Od) : Prop where
  lv : ∀ w ∈ W, LvOk w
  nd : W.flatten.Nodup
  mem : ∀ x, x ∈ W.flatten ↔ x ∈ ps
theorem asc_snoc {l : List Str} {p : Str} (h : Asc (l ++ [p])) : Asc l ∧ ∀ x ∈ l, leS x p = true := by
  obtain ⟨h1, _, h3⟩ := List.pairwise_append.mp h
  exact ⟨h1, fun x m => h3 x m p (List.mem_singleton.mpr rfl)⟩
theorem snoc_asc {l : List Str} {p : Str} (h : Asc l) (h2 : ∀ x ∈ l, leS x p = true) : Asc (l ++ [p]) := List.pairwise_append.mpr ⟨h, List.pairwise_singleton .., fun x m y my => by rw [List.mem_singleton.mp my]; exact h2 x m⟩
theorem fl_mid (A B : Od) (w : Lv) : (A ++ w :: B).flatten.Perm (w ++ (A ++ B).flatten) := by
  rw [List.flatten_append, List.flatten_cons, List.flatten_append]
  refine (List.perm_append_comm_assoc ..).trans ?_
  exact List.Perm.refl _
theorem fl_sn (A B : Od) (r : Lv) (p : Str) : (A ++ (r ++ [p]) :: B).flatten.Perm ((A ++ r :: B).flatten ++ [p]) := by
  refine (fl_mid A B (r ++ [p])).trans ?_
  refine List.Perm.trans ?_ (List.Perm.append_right [p] (fl_mid A B r).symm)
  rw [List.append_assoc, List.append_assoc]
  exact List.Perm.append_left r List.perm_append_comm
theorem perm_cons_nd {W V : List Str} {p : Str} (h : W.Perm (V ++ [p])) : (W.Nodup ↔ V.Nodup ∧ p ∉ V) ∧ ∀ x, x ∈ W ↔ x ∈ V ∨ x = p := by
  refine ⟨h.nodup_iff.trans ?_, fun x => h.mem_iff.trans ?_⟩
  · rw [List.nodup_append]
    constructor
    · rintro ⟨h1, _, h3⟩
      exact ⟨h1, fun m => h3 p m p (List.mem_singleton.mpr rfl) rfl⟩
    · rintro ⟨h1, h2⟩
      exact ⟨h1, List.nodup_cons.mpr ⟨nofun, List.nodup_nil⟩, fun x m y my e => h2 (by rw [List.mem_singleton.mp my] at e; exact e ▸ m)⟩
  · rw [List.mem_append, List.mem_singleton]
theorem snoc_ind {α : Type} {p : List α → Prop} (h0 : p []) (h1 : ∀ l x, p l → p (l ++ [x])) (l : List α) : p l := by
  have r : ∀ r : List α, p r.reverse := fun r => by
    induction r with
    | nil => exact h0
    | cons x r ih => rw [List.reverse_cons]; exact h1 _ _ ih
  have := r l.reverse
  rwa [List.reverse_reverse] at this
theorem mem_allL (l : List Str) : Asc l → l.Nodup → ∀ W, W ∈ allL l ↔ OrdOf l W := by
  refine snoc_ind (p := fun l => Asc l → l.Nodup → ∀ W, W ∈ allL l ↔ OrdOf l W) ?_ ?_ l
  · intro _ _ W
    show W ∈ [[]] ↔ _
    rw [List.mem_singleton]
    constructor
    · rintro rfl
      exact ⟨nofun, List.nodup_nil, fun x => Iff.rfl⟩
    · intro h
      cases W with
      | nil => rfl
      | cons w W =>
        exfalso
        obtain ⟨x, r, e⟩ := List.exists_cons_of_ne_nil (h.lv w List.mem_cons_self).ne
        have := (h.mem x).mp (by rw [e]; simp)
        cases this
  · intro qs p ih ha nd W
    obtain ⟨ha1, ha2⟩ := asc_snoc ha
    obtain ⟨n1, n2⟩ := (perm_cons_nd (List.Perm.refl (qs ++ [p]))).1.mp nd
    have ih := ih ha1 n1
    rw [allL_snoc, List.mem_flatMap]
    constructor
    · rintro ⟨V, hV, hW⟩
      have o := (ih V).mp hV
      have pV : p ∉ V.flatten := fun m => n2 ((o.mem p).mp m)
      rcases mem_ins.mp hW with ⟨A, B, rfl, rfl⟩ | ⟨A, r, B, rfl, rfl⟩
      · have pm : (A ++ [p] :: B).flatten.Perm ((A ++ B).flatten ++ [p]) := (fl_mid A B [p]).trans List.perm_append_comm
        obtain ⟨c1, c2⟩ := perm_cons_nd pm
        refine ⟨fun w m => ?_, c1.mpr ⟨o.nd, pV⟩, fun x => by rw [c2, o.mem, List.mem_append, List.mem_singleton]⟩
        rcases List.mem_append.mp m with m | m
        · exact o.lv w (List.mem_append.mpr (.inl m))
        · rcases List.mem_cons.mp m with rfl | m
          · exact ⟨List.pairwise_singleton .., List.nodup_cons.mpr ⟨nofun, List.nodup_nil⟩, nofun⟩
          · exact o.lv w (List.mem_append.mpr (.inr m))
      · obtain ⟨c1, c2⟩ := perm_cons_nd (fl_sn A B r p)
        have hr := o.lv r (List.mem_append.mpr (.inr List.mem_cons_self))
        have rV : ∀ x ∈ r, x ∈ (A ++ r :: B).flatten := fun x m => List.mem_flatten.mpr ⟨r, List.mem_append.mpr (.inr List.mem_cons_self), m⟩
        refine ⟨fun w m => ?_, c1.mpr ⟨o.nd, pV⟩, fun x => by rw [c2, o.mem, List.mem_append, List.mem_singleton]⟩
        rcases List.mem_append.mp m with m | m
        · exact o.lv w (List.mem_append.mpr (.inl m))
        · rcases List.mem_cons.mp m with rfl | m
          · refine ⟨snoc_asc hr.asc fun x m => ha2 x ((o.mem x).mp (rV x m)), ?_, by simp⟩
            exact (perm_cons_nd (List.Perm.refl _)).1.mpr ⟨hr.nd, fun m => pV (rV p m)⟩
          · exact o.lv w (List.mem_append.mpr (.inr (List.mem_cons_of_mem _ m)))
    · intro o
      obtain ⟨w, mw, pw⟩ := List.mem_flatten.mp ((o.mem p).mpr (List.mem_append.mpr (.inr (List.mem_singleton.mpr rfl))))
      obtain ⟨A, B, rfl⟩ := List.append_of_mem mw
      obtain ⟨s, t, rfl⟩ := List.append_of_mem pw
      have hw := o.lv _ mw
      have ht : t = [] := by
        cases t with
        | nil => rfl
        | cons y t =>
          exfalso
          have yp : y ≠ p := fun e => by
            have := hw.nd
            rw [List.nodup_append] at this
            exact (List.nodup_cons.mp this.2.1).1 (by rw [e]; exact List.mem_cons_self)
          have m1 : y ∈ qs ++ [p] := (o.mem y).mp (List.mem_flatten.mpr ⟨_, mw, by simp⟩)
          have m2 : y ∈ qs := (List.mem_append.mp m1).resolve_right fun q => yp (List.mem_singleton.mp q)
          have l1 := ha2 y m2
          have l2 : leS p y = true := by
            have := hw.asc
            obtain ⟨_, h2, _⟩ := List.pairwise_append.mp this
            exact (List.pairwise_cons.mp h2).1 y List.mem_cons_self
          exact yp (leS_anti l1 l2)
      subst ht
      have key : ∀ V : Od, (A ++ (s ++ [p]) :: B).flatten.Perm (V.flatten ++ [p]) → (∀ w ∈ V, LvOk w) → V ∈ allL qs := fun V pm lv => by
        obtain ⟨c1, c2⟩ := perm_cons_nd pm
        obtain ⟨d1, d2⟩ := c1.mp o.nd
        refine (ih V).mpr ⟨lv, d1, fun x => ?_⟩
        have e := (c2 x).symm.trans ((o.mem x).trans (by rw [List.mem_append, List.mem_singleton]))
        constructor
        · intro m
          exact (e.mp (.inl m)).resolve_right fun q => d2 (q ▸ m)
        · intro m
          exact (e.mpr (.inl m)).resolve_right fun q => n2 (q ▸ m)
      cases s with
      | nil =>
        refine ⟨A ++ B, key _ ((fl_mid A B [p]).trans List.perm_append_comm) fun w m => o.lv w ?_, mem_ins.mpr (.inl ⟨A, B, rfl, rfl⟩)⟩
        rcases List.mem_append.mp m with m | m
        · exact List.mem_append.mpr (.inl m)
        · exact List.mem_append.mpr (.inr (List.mem_cons_of_mem _ m))
      | cons y s =>
        refine ⟨A ++ (y :: s) :: B, key _ (fl_sn A B (y :: s) p) fun w m => ?_, mem_ins.mpr (.inr ⟨A, y :: s, B, rfl, rfl⟩)⟩
        rcases List.mem_append.mp m with m | m
        · exact o.lv w (List.mem_append.mpr (.inl m))
        · rcases List.mem_cons.mp m with rfl | m
          · have hnd := (perm_cons_nd (List.Perm.refl ((y :: s) ++ [p]))).1.mp hw.nd
            exact ⟨(asc_snoc hw.asc).1, hnd.1, nofun⟩
          · exact o.lv w (List.mem_append.mpr (.inr (List.mem_cons_of_mem _ m)))
theorem only_all {qs : List Str} : ∀ {V : Od}, (∀ v ∈ V, v ≠ [] ∧ ∀ x ∈ v, x ∈ qs) → onlyO qs V = V
  | [], _ => rfl
  | v :: V, h => by
    obtain ⟨h1, h2⟩ := h v List.mem_cons_self
    rw [only_cons, tie_own h2, if_neg h1, only_all fun w m => h w (List.mem_cons_of_mem _ m)]
theorem only_app (qs : List Str) (A B : Od) : onlyO qs (A ++ B) = onlyO qs A ++ onlyO qs B := by
  unfold onlyO
  rw [List.map_append, List.filter_append]
theorem ins_back {qs : List Str} {p : Str} {V W : Od} (hp : p ∉ qs) (hV : ∀ v ∈ V, v ≠ [] ∧ ∀ x ∈ v, x ∈ qs) (h : W ∈ insL p V) : onlyO qs W = V := by
  have tp : tie qs [p] = [] := by simp [tie, hp]
  rcases mem_ins.mp h with ⟨A, B, rfl, rfl⟩ | ⟨A, r, B, rfl, rfl⟩
  · rw [only_app, only_cons, tp, if_pos rfl, ← only_app]
    exact only_all hV
  · have hr := hV r (List.mem_append.mpr (.inr List.mem_cons_self))
    have tr : tie qs (r ++ [p]) = r := by
      unfold tie
      rw [List.filter_append]
      show tie qs r ++ tie qs [p] = r
      rw [tp, tie_own hr.2, List.append_nil]
    rw [only_app, only_cons, tr, if_neg hr.1]
    have := only_all hV
    rw [only_app, only_cons, tie_own hr.2, if_neg hr.1] at this
    exact this
theorem lvO_at {p : Str} {A B : Od} {w : Lv} (hA : p ∉ A.flatten) (hw : p ∈ w) : lvO (A ++ w :: B) p = some A.length := by
  unfold lvO
  rw [List.findIdx?_append]
  have : List.findIdx? (fun l => decide (p ∈ l)) A = none := List.findIdx?_eq_none_iff.mpr fun l m => by simp; exact fun h => hA (List.mem_flatten.mpr ⟨l, m, h⟩)
  rw [this, List.findIdx?_cons]
  simp [hw]
theorem ins_nd {p : Str} {V : Od} (hp : p ∉ V.flatten) : (insL p V).Nodup := by
  have hA : ∀ k, p ∉ (V.take k).flatten := fun k m => by
    obtain ⟨l, ml, h⟩ := List.mem_flatten.mp m
    exact hp (List.mem_flatten.mpr ⟨l, List.mem_of_mem_take ml, h⟩)
  have lv : ∀ k, k ≤ V.length → ∀ W ∈ ((V.take k ++ [p] :: V.drop k) :: (match V.drop k with
      | [] => []
      | r :: rs => [V.take k ++ (r ++ [p]) :: rs]) : List Od), lvO W p = some k := by
    intro k hk W m
    have hl : (V.take k).length = k := by rw [List.length_take]; omega
    rcases List.mem_cons.mp m with rfl | m
    · rw [lvO_at (hA k) (List.mem_singleton.mpr rfl), hl]
    · cases e : V.drop k with
      | nil => rw [e] at m; cases m
      | cons r rs =>
        rw [e] at m
        rw [List.mem_singleton.mp m, lvO_at (hA k) (by simp), hl]
  unfold insL
  refine List.pairwise_flatMap.mpr ⟨fun k hk => ?_, ?_⟩
  · cases e : V.drop k with
    | nil => simp
    | cons r rs =>
      refine List.pairwise_cons.mpr ⟨fun W m h => ?_, List.pairwise_singleton ..⟩
      rw [List.mem_singleton.mp m] at h
      have := congrArg List.length h
      simp at this
  · refine (List.nodup_range (n := V.length + 1)).imp_of_mem fun {i j} hi hj n x hx y hy h => n ?_
    have a := lv i (by have := List.mem_range.mp hi; omega) x hx
    have b := lv j (by have := List.mem_range.mp hj; omega) y hy
    rw [h, b] at a
    exact (Option.some.inj a).symm
theorem allL_nd (l : List Str) : Asc l → l.Nodup → (allL l).Nodup := by
  refine snoc_ind (p := fun l => Asc l → l.Nodup → (allL l).Nodup) ?_ ?_ l
  · intro _ _; exact List.nodup_cons.mpr ⟨nofun, List.nodup_nil⟩
  · intro qs p ih ha nd
    obtain ⟨ha1, ha2⟩ := asc_snoc ha
    obtain ⟨n1, n2⟩ := (perm_cons_nd (List.Perm.refl (qs ++ [p]))).1.mp nd
    rw [allL_snoc]
    have fc : ∀ V ∈ allL qs, (p ∉ V.flatten) ∧ ∀ v ∈ V, v ≠ [] ∧ ∀ x ∈ v, x ∈ qs := fun V hV => by
      have o := (mem_allL qs ha1 n1 V).mp hV
      exact ⟨fun m => n2 ((o.mem p).mp m), fun v m => ⟨(o.lv v m).ne, fun x hx => (o.mem x).mp (List.mem_flatten.mpr ⟨v, m, hx⟩)⟩⟩
    refine List.pairwise_flatMap.mpr ⟨fun V hV => ins_nd (fc V hV).1, ?_⟩
    refine (ih ha1 n1).imp_of_mem fun {V U} hV hU n x hx y hy h => n ?_
    rw [← ins_back n2 (fc V hV).2 hx, h, ins_back n2 (fc U hU).2 hy]
/-- both ways to reckon give the same -/
theorem lay_all {C D ps : List Str} {one other : Od} (h1 : LvIn D one) (h2 : LvIn C other) (e1 : ∀ x, x ∈ one.flatten ↔ x ∈ D) (e2 : ∀ x, x ∈ other.flatten ↔ x ∈ C) (n1 : one.flatten.Nodup) (n2 : other.flatten.Nodup) (ha : Asc ps) (hn : ps.Nodup) (hp : ∀ x, x ∈ ps ↔ x ∈ C ∨ x ∈ D) :
    (lay C D one other).Perm ((allL ps).filter fun W => decide (onlyO D W = one) && decide (onlyO C W = other)) := by
  refine perm_nd (lay_nd _ one other (Nat.le_refl _) h1 h2) ((allL_nd ps ha hn).filter _) fun W => ?_
  rw [mem_lay W one other h1 h2, List.mem_filter, mem_allL ps ha hn W, Bool.and_eq_true, decide_eq_true_eq, decide_eq_true_eq]
  constructor
  · rintro ⟨a, b, c⟩
    refine ⟨⟨fun w m => (a w m).1, ?_, fun x => ?_⟩, b, c⟩
    · -- no point twice
      have fD := onlyO_flat D W
      have fC := onlyO_flat C W
      rw [b] at fD
      rw [c] at fC
      have all : ∀ x ∈ W.flatten, x ∈ C ∨ x ∈ D := fun x m => by
        obtain ⟨w, mw, hx⟩ := List.mem_flatten.mp m
        exact (a w mw).2 x hx
      rw [fD] at n1
      rw [fC] at n2
      generalize W.flatten = L at all n1 n2
      clear fD fC b c a hp ha hn
      induction L with
      | nil => exact List.nodup_nil
      | cons x L ih =>
        have nx : x ∉ L := fun m => by
          rcases all x List.mem_cons_self with q | q
          · rw [List.filter_cons, if_pos (by simp [q])] at n2
            exact (List.nodup_cons.mp n2).1 (List.mem_filter.mpr ⟨m, by simp [q]⟩)
          · rw [List.filter_cons, if_pos (by simp [q])] at n1
            exact (List.nodup_cons.mp n1).1 (List.mem_filter.mpr ⟨m, by simp [q]⟩)
        refine List.nodup_cons.mpr ⟨nx, ih (fun y m => all y (List.mem_cons_of_mem _ m)) ?_ ?_⟩
        · rw [List.filter_cons] at n1
          split at n1
          · exact (List.nodup_cons.mp n1).2
          · exact n1
        · rw [List.filter_cons] at n2
          split at n2
          · exact (List.nodup_cons.mp n2).2
          · exact n2
    · rw [hp]
      constructor
      · intro m
        obtain ⟨w, mw, hx⟩ := List.mem_flatten.mp m
        exact (a w mw).2 x hx
      · rintro (q | q)
        · have := (e2 x).mpr q
          rw [← c, onlyO_flat] at this
          exact (List.mem_filter.mp this).1
        · have := (e1 x).mpr q
          rw [← b, onlyO_flat] at this
          exact (List.mem_filter.mp this).1
  · rintro ⟨o, b, c⟩
    exact ⟨fun w m => ⟨o.lv w m, fun x hx => (hp x).mp ((o.mem x).mp (List.mem_flatten.mpr ⟨w, m, hx⟩))⟩, b, c⟩
end Kt

set_option Elab.async false
set_option linter.all false
set_option maxRecDepth 100000
namespace Kt
open PySem L2 PyProof.Rows
/-! ### comprehensions with two sources -/
section
variable {K : PySem.W.Frag} {σ σ2 : L2.St} {H : Hp} {Q : VK} {a : Addr} {xs ys : List V} {Ps : List SP} {g g1 : TG} {tt tt1 : TT} {te : TE} {wi wi1 : TI} {vs vs1 : List Nat}
/-- what a turn of the first source has to reach: the second source's own loop -/
abbrev In2 (wi1 : TI) (g1 : TG) (tt1 : TT) (te : TE) (vs1 : List Nat) (D : Addr) (N : Hp → Prop) (σ2 : L2.St) (H3 : Hp) : Prop := wi1 σ2 H3 fun J1 H4 => ∃ W1 : Nat → Nat → Hp → Prop, (∃ m, W1 0 m H4) ∧ ∀ j k H, W1 j k H →
  (J1.stop j H ∧ N H) ∨ (J1.go j H ∧ ∃ Nx1 : Hp → Prop, (∀ H', Nx1 H' → ∃ k', k' < k ∧ W1 (j + 1) k' H') ∧ ∀ x H', J1.yld j H x H' → g1 x (wipe σ2 vs1) H' fun σ3 H5 => wipe σ3 vs1 = wipe σ2 vs1 ∧ tt1 σ3 H5 fun b H6 =>
    if b = true then te σ3 H6 fun y H7 => ∃ acc, H7 D = some (.lst acc) ∧ acc.length < sizeLine ∧ Nx1 (upd H7 D (.lst (acc ++ [y]))) else Nx1 H6)
abbrev Lc2W (Jt : It) (g : TG) (tt : TT) (wi1 : TI) (g1 : TG) (tt1 : TT) (te : TE) (vs vs1 : List Nat) (Q : VK) (σ : L2.St) (H1 : Hp) : Prop := ∀ D, H1 D = none → ∃ W : Nat → Nat → Hp → Prop, (∃ m, W 0 m (upd H1 D (.lst []))) ∧ ∀ i m H, W i m H →
  (Jt.stop i H ∧ Q (.ref D) H) ∨ (Jt.go i H ∧ ∃ Nx : Hp → Prop, (∀ H', Nx H' → ∃ m', m' < m ∧ W (i + 1) m' H') ∧ ∀ x H', Jt.yld i H x H' → g x (wipe σ vs) H' fun σ2 H2 => wipe σ2 vs = wipe σ vs ∧ tt σ2 H2 fun b H3 =>
    if b = true then In2 wi1 g1 tt1 te vs1 D Nx σ2 H3 else Nx H3)
theorem r_tlc2 (h : wi σ H fun Jt H1 => Lc2W Jt g tt wi1 g1 tt1 te vs vs1 Q σ H1) : tLc2 wi g tt wi1 g1 tt1 te vs vs1 σ H Q := h
theorem r_lc2_tup (J : CW) (S : Sep Ps H) (h0 : J 0 [] Ps) (hl : ∀ D i acc Ps H, i ≤ xs.length → J i acc Ps → Sep (pt D (.lst acc) :: Ps) H → SqT K H a xs) (hl0 : SqT K H a xs)
    (hs : ∀ D i x acc Ps H, xs[i]? = some x → J i acc Ps → Sep (pt D (.lst acc) :: Ps) H → g x (wipe σ vs) H fun σ2 H2 => wipe σ2 vs = wipe σ vs ∧ tt σ2 H2 fun b H3 => if b = true then In2 wi1 g1 tt1 te vs1 D (CN J D (i + 1)) σ2 H3 else CN J D (i + 1) H3)
    (hd : ∀ D acc Ps H, J xs.length acc Ps → Sep (pt D (.lst acc) :: Ps) H → Q (.ref D) H) : ∃ a', V.ref a = .ref a' ∧ (∃ xs, SqT K H a' xs) ∧ Lc2W (Itt K a') g tt wi1 g1 tt1 te vs vs1 Q σ H := by
  refine ⟨a, rfl, ⟨xs, hl0⟩, fun D nD => ⟨fun i m H => m = xs.length - i ∧ i ≤ xs.length ∧ CN J D i H, ⟨xs.length, (Nat.sub_zero _).symm, Nat.zero_le _, [], Ps, h0, S.new _ nD⟩, ?_⟩⟩
  rintro i m H ⟨rfl, hi, c⟩
  obtain ⟨acc, Qs, j, T⟩ := id c
  have sq := hl D i acc Qs H hi j T
  rcases Nat.lt_or_ge i xs.length with lt | ge
  · refine .inr ⟨⟨xs, xs[i], sq, List.getElem?_eq_getElem lt⟩, CN J D (i + 1), fun H' c' => ⟨xs.length - (i + 1), by omega, rfl, lt, c'⟩, fun x H' ⟨e, y⟩ => ?_⟩
    subst e
    exact hs D i x acc Qs _ (y xs sq) j T
  · obtain rfl : i = xs.length := Nat.le_antisymm hi ge
    exact .inl ⟨⟨xs, sq, Nat.le_refl _⟩, hd D acc Qs H j T⟩
theorem r_in2_tup {D : Addr} {acc : List V} {N : Hp → Prop} (J : CW) (S : Sep (pt D (.lst acc) :: Ps) H) (h0 : J 0 acc Ps) (hl : ∀ i acc Ps H, i ≤ ys.length → J i acc Ps → Sep (pt D (.lst acc) :: Ps) H → SqT K H a ys)
    (hs : ∀ i x acc Ps H, ys[i]? = some x → J i acc Ps → Sep (pt D (.lst acc) :: Ps) H → g1 x (wipe σ2 vs1) H fun σ3 H5 => wipe σ3 vs1 = wipe σ2 vs1 ∧ tt1 σ3 H5 fun b H6 =>
      if b = true then te σ3 H6 fun y H7 => ∃ acc, H7 D = some (.lst acc) ∧ acc.length < sizeLine ∧ CN J D (i + 1) (upd H7 D (.lst (acc ++ [y]))) else CN J D (i + 1) H6)
    (hd : ∀ acc Ps H, J ys.length acc Ps → Sep (pt D (.lst acc) :: Ps) H → N H) : ∃ a', V.ref a = .ref a' ∧ (∃ ys, SqT K H a' ys) ∧ ∃ W1 : Nat → Nat → Hp → Prop, (∃ m, W1 0 m H) ∧ ∀ j k H, W1 j k H →
      ((Itt K a').stop j H ∧ N H) ∨ ((Itt K a').go j H ∧ ∃ Nx1 : Hp → Prop, (∀ H', Nx1 H' → ∃ k', k' < k ∧ W1 (j + 1) k' H') ∧ ∀ x H', (Itt K a').yld j H x H' → g1 x (wipe σ2 vs1) H' fun σ3 H5 => wipe σ3 vs1 = wipe σ2 vs1 ∧ tt1 σ3 H5 fun b H6 =>
        if b = true then te σ3 H6 fun y H7 => ∃ acc, H7 D = some (.lst acc) ∧ acc.length < sizeLine ∧ Nx1 (upd H7 D (.lst (acc ++ [y]))) else Nx1 H6) := by
  refine ⟨a, rfl, ⟨ys, hl 0 acc Ps H (Nat.zero_le _) h0 S⟩, fun i m H => m = ys.length - i ∧ i ≤ ys.length ∧ CN J D i H, ⟨ys.length, (Nat.sub_zero _).symm, Nat.zero_le _, acc, Ps, h0, S⟩, ?_⟩
  rintro i m H ⟨rfl, hi, c⟩
  obtain ⟨acc, Qs, j, T⟩ := id c
  have sq := hl i acc Qs H hi j T
  rcases Nat.lt_or_ge i ys.length with lt | ge
  · refine .inr ⟨⟨ys, ys[i], sq, List.getElem?_eq_getElem lt⟩, CN J D (i + 1), fun H' c' => ⟨ys.length - (i + 1), by omega, rfl, lt, c'⟩, fun x H' ⟨e, y⟩ => ?_⟩
    subst e
    exact hs i x acc Qs _ (y ys sq) j T
  · obtain rfl : i = ys.length := Nat.le_antisymm hi ge
    exact .inl ⟨⟨ys, sq, Nat.le_refl _⟩, hd acc Qs H j T⟩
end
/-! ### comprehensions that make a dict -/
section
variable {K : PySem.W.Frag} {σ : L2.St} {H : Hp} {Q : VK} {a : Addr} {xs : List V} {Ps : List SP} {g : TG} {tt : TT} {tk tv : TE} {wi : TI} {vs : List Nat}
abbrev DW := Nat → List (Key × V) → List SP → Prop
def DN (J : DW) (D : Addr) (i : Nat) : Hp → Prop := fun H => ∃ kvs Ps, J i kvs Ps ∧ Sep (pt D (.dK kvs) :: Ps) H
abbrev DcW (Jt : It) (g : TG) (tt : TT) (tk tv : TE) (vs : List Nat) (Q : VK) (σ : L2.St) (H1 : Hp) : Prop := ∀ D, H1 D = none → ∃ W : Nat → Nat → Hp → Prop, (∃ m, W 0 m (upd H1 D (.dK []))) ∧ ∀ i m H, W i m H →
  (Jt.stop i H ∧ Q (.ref D) H) ∨ (Jt.go i H ∧ ∃ Nx : Hp → Prop, (∀ H', Nx H' → ∃ m', m' < m ∧ W (i + 1) m' H') ∧ ∀ x H', Jt.yld i H x H' → g x (wipe σ vs) H' fun σ2 H2 => wipe σ2 vs = wipe σ vs ∧ tt σ2 H2 fun b H3 =>
    if b = true then tk σ2 H3 fun y H4 => tv σ2 H4 fun z H5 => ∃ kvs k, y = kV k ∧ H5 D = some (.dK kvs) ∧ kvs.length < sizeLine ∧ Nx (upd H5 D (.dK (putK kvs k z))) else Nx H3)
theorem r_tdc (h : wi σ H fun Jt H1 => DcW Jt g tt tk tv vs Q σ H1) : tDc wi g tt tk tv vs σ H Q := h
theorem r_dc_list (J : DW) (S : Sep Ps H) (h0 : J 0 [] Ps) (hl : ∀ D i kvs Ps H, i ≤ xs.length → J i kvs Ps → Sep (pt D (.dK kvs) :: Ps) H → SqL K H a xs) (hl0 : SqL K H a xs)
    (hs : ∀ D i x kvs Ps H, xs[i]? = some x → J i kvs Ps → Sep (pt D (.dK kvs) :: Ps) H → g x (wipe σ vs) H fun σ2 H2 => wipe σ2 vs = wipe σ vs ∧ tt σ2 H2 fun b H3 =>
      if b = true then tk σ2 H3 fun y H4 => tv σ2 H4 fun z H5 => ∃ kvs k, y = kV k ∧ H5 D = some (.dK kvs) ∧ kvs.length < sizeLine ∧ DN J D (i + 1) (upd H5 D (.dK (putK kvs k z))) else DN J D (i + 1) H3)
    (hd : ∀ D kvs Ps H, J xs.length kvs Ps → Sep (pt D (.dK kvs) :: Ps) H → Q (.ref D) H) : ∃ a', V.ref a = .ref a' ∧ (∃ xs, SqL K H a' xs) ∧ DcW (Itl K a') g tt tk tv vs Q σ H := by
  refine ⟨a, rfl, ⟨xs, hl0⟩, fun D nD => ⟨fun i m H => m = xs.length - i ∧ i ≤ xs.length ∧ DN J D i H, ⟨xs.length, (Nat.sub_zero _).symm, Nat.zero_le _, [], Ps, h0, S.new _ nD⟩, ?_⟩⟩
  rintro i m H ⟨rfl, hi, c⟩
  obtain ⟨kvs, Qs, j, T⟩ := id c
  have sq := hl D i kvs Qs H hi j T
  rcases Nat.lt_or_ge i xs.length with lt | ge
  · refine .inr ⟨⟨xs, xs[i], sq, List.getElem?_eq_getElem lt⟩, DN J D (i + 1), fun H' c' => ⟨xs.length - (i + 1), by omega, rfl, lt, c'⟩, fun x H' ⟨e, y⟩ => ?_⟩
    subst e
    exact hs D i x kvs Qs _ (y xs sq) j T
  · obtain rfl : i = xs.length := Nat.le_antisymm hi ge
    exact .inl ⟨⟨xs, sq, Nat.le_refl _⟩, hd D kvs Qs H j T⟩
theorem dn_in {J : DW} {D : Addr} {i : Nat} {kvs : List (Key × V)} {k : Key} {z : V} (S : Sep (pt D (.dK kvs) :: Ps) H) (hl : kvs.length < 100000) (j : J i (putK kvs k z) Ps) : ∃ kvs k', kV k = kV k' ∧ H D = some (.dK kvs) ∧ kvs.length < sizeLine ∧ DN J D i (upd H D (.dK (putK kvs k' z))) :=
  ⟨kvs, k, rfl, S.hd_at, Nat.lt_of_lt_of_le hl (by decide), putK kvs k z, Ps, j, S.hd_set _⟩
theorem valV_snd {kvs : List (Key × V)} {x : Str} : (valV kvs (kS x)).isSome = true ↔ kS x ∈ kvs.map Prod.fst := by
  induction kvs with
  | nil => exact ⟨nofun, nofun⟩
  | cons p l ih =>
    rw [List.map_cons, List.mem_cons]
    by_cases e : p.1 = kS x
    · rw [valV_pos e]
      exact ⟨fun _ => .inl e.symm, fun _ => rfl⟩
    · rw [valV_neg e, ih]
      exact ⟨.inr, fun h => h.resolve_left fun q => e q.symm⟩
theorem r_dinV {p : Str} {kvs : List (Key × V)} {C : List Str} {d : Addr} (e : Rd H d (.dK kvs)) (hC : ∀ x, kS x ∈ kvs.map Prod.fst ↔ x ∈ C) (q : Q (.bl (decide (p ∈ C))) H) : kDIn Q (.str p) (.ref d) H := by
  refine ⟨d, _, rfl, .inl ⟨kvs, kS p, e, rfl, rfl⟩, ?_⟩
  have : (valV kvs (kS p)).isSome = decide (p ∈ C) := by
    rw [Bool.eq_iff_iff, valV_snd, hC, decide_eq_true_eq]
  rw [this]
  exact q
theorem putK_keys {kvs : List (Key × V)} {k j : Key} {z : V} : j ∈ (putK kvs k z).map Prod.fst ↔ j = k ∨ j ∈ kvs.map Prod.fst := by
  unfold putK
  split
  · rename_i h
    rw [List.any_eq_true] at h
    obtain ⟨p, mp, hp⟩ := h
    have hp := of_decide_eq_true hp
    rw [List.map_map]
    have e : (Prod.fst ∘ fun kv : Key × V => if kv.1 = k then (kv.1, z) else kv) = Prod.fst := by
      funext kv
      show (if kv.1 = k then (kv.1, z) else kv).1 = kv.1
      split <;> rfl
    rw [e]
    constructor
    · exact .inr
    · rintro (rfl | h)
      · exact List.mem_map.mpr ⟨p, mp, hp⟩
      · exact h
  · rw [List.map_append, List.mem_append, List.map_cons, List.map_nil, List.mem_singleton, or_comm]
end
/-! ### downwards; dicts with tuple keys -/
section
variable {K : PySem.W.Frag} {σ : L2.St} {H : Hp} {Q : VK} {D : Ends} {d : Addr} {Ps R : List SP} {g : TG} {tb : TS} {n : Nat}
theorem r_irng3 {ta : TA} {R : It → Hp → Prop} (h : ta σ H fun vs H1 => ∃ (i j c : Int) (n : Nat), vs = [.int i, .int j, .int c] ∧ RgC i j c n ∧ R (Itc i c n) H1) : iRng3 ta σ H R := h
/-- over range(n, -1, -1): the turn i has the number n - i -/
theorem r_for_down {e : Int} (J : LW) (S : Sep Ps H) (he : e = (n : Int)) (hn : n ≤ 100000) (h0 : J 0 σ Ps)
    (hs : ∀ (i : Nat) σ Ps H, i ≤ n → J i σ Ps → Sep Ps H → g (.int ((n - i : Nat) : Int)) σ H fun σ2 H2 => tb { D with nx := Nx J (i + 1), ct := Nx J (i + 1), bk := D.nx } σ2 H2) (hd : ∀ σ Ps H, J (n + 1) σ Ps → Sep Ps H → D.nx σ H) :
    ∃ (i j c : Int) (m : Nat), [V.int e, V.int (-1), V.int (-1)] = [.int i, .int j, .int c] ∧ RgC i j c m ∧ ForW (Itc i c m) g tb D σ H := by
  subst he
  refine ⟨n, -1, -1, n + 1, rfl, ?_, for_rangeC (Nx J) ⟨Ps, h0, S⟩ (fun i σ H hi ⟨Ps, j, S⟩ => ?_) fun σ H ⟨Ps, j, S⟩ => hd σ Ps H j S⟩
  · have := RgC.neg (i := (n : Int)) (j := -1) (by omega) (by omega) (by decide) (by decide)
    rw [show ((n : Int) - -1).toNat = n + 1 by omega] at this
    exact this
  · have e : (n : Int) + (i : Nat) * (-1) = ((n - i : Nat) : Int) := by omega
    rw [e]
    exact hs i σ Ps H (by omega) j S
theorem r_dnewT (S : Sep Ps H) (q : ∀ p H', Sep (pt p (.dT []) :: Ps) H' → Q (.ref p) H') : tDNewT σ H Q := fun p np => q p _ (S.new _ np)
theorem r_dgetT {k : List Key} {kvs : List (List Key × V)} {b : Addr} {v : V} (e : H d = some (.dT kvs)) (eb : H b = some (.tup (k.map kV))) (hv : valV kvs k = some v) (q : Q v H) : kDGet Q (.ref d) (.ref b) H :=
  ⟨d, v, rfl, .inr ⟨kvs, k, b, .inl e, rfl, eb, hv.symm⟩, q⟩
theorem r_dputT {k : List Key} {kvs : List (List Key × V)} {b : Addr} {v : V} (S : Sep (pt d (.dT kvs) :: R) H) (eb : H b = some (.tup (k.map kV))) (hl : kvs.length ≤ 100000) (q : ∀ H', Sep (pt d (.dT (putK kvs k v)) :: R) H' → D.nx σ H') : kDPut D σ v (.ref d) (.ref b) H :=
  ⟨d, _, rfl, .inr ⟨kvs, k, b, S.hd_at, rfl, eb, Nat.lt_of_le_of_lt hl (by decide), rfl⟩, q _ (S.hd_set _)⟩
theorem putK_len {κ : Type} [DecidableEq κ] (kvs : List (κ × V)) (k : κ) (v : V) : (putK kvs k v).length ≤ kvs.length + 1 := length_putK kvs k v
end
/-! ### == of data -/
theorem eqv_strs : ∀ l m : List Str, PyData.eqvAll (l.map PyData.str) (m.map PyData.str) = decide (l = m)
  | [], [] => by simp [PyData.eqvAll]
  | [], y :: m => by simp [PyData.eqvAll]
  | x :: l, [] => by simp [PyData.eqvAll]
  | x :: l, y :: m => by
    rw [List.map_cons, List.map_cons, PyData.eqvAll, eqv_strs l m, PyData.eqv]
    by_cases e : x = y
    · subst e
      simp
    · have : (x == y) = false := beq_eq_false_iff_ne.mpr e
      simp [e]
theorem eqv_lv (l m : Lv) : PyData.eqv (dLv l) (dLv m) = decide (l = m) := by
  show PyData.eqv (.tuple _) (.tuple _) = _
  rw [PyData.eqv, eqv_strs]
theorem eqv_lvs : ∀ l m : Od, PyData.eqvAll (l.map dLv) (m.map dLv) = decide (l = m)
  | [], [] => by simp [PyData.eqvAll]
  | [], y :: m => by simp [PyData.eqvAll]
  | x :: l, [] => by simp [PyData.eqvAll]
  | x :: l, y :: m => by
    rw [List.map_cons, List.map_cons, PyData.eqvAll, eqv_lvs l m, eqv_lv]
    by_cases e : x = y
    · subst e
      simp
    · simp [e]
theorem eqv_od (a b : Od) : PyData.eqv (dOd a) (dOd b) = decide (a = b) := by
  show PyData.eqv (.tuple _) (.tuple _) = _
  rw [PyData.eqv, eqv_lvs]
section
variable {K : PySem.W.Frag} {H : Hp} {Q : VK} {x y : V} {k : Nat}
theorem r_eq_lv {l m : Lv} (h1 : Dp K H x (dLv l)) (h2 : Dp K H y (dLv m)) (o1 : Nms l) (o2 : Nms m) (q : Q (.bl (decide (l = m))) H) : rEqA K x y H Q :=
  .inr ⟨_, _, h1, h2, (okd_lv o1).shaped (by decide), (okd_lv o2).shaped (by decide), by rw [eqv_lv]; exact q⟩
theorem r_eq_od {l m : Od} (h1 : Dp K H x (dOd l)) (h2 : Dp K H y (dOd m)) (o1 : Nms l.flatten) (o2 : Nms m.flatten) (q : Q (.bl (decide (l = m))) H) : rEqA K x y H Q :=
  .inr ⟨_, _, h1, h2, (okd_od o1).shaped (by decide), (okd_od o2).shaped (by decide), by rw [eqv_od]; exact q⟩
theorem r_ne_od {l m : Od} (h1 : Dp K H x (dOd l)) (h2 : Dp K H y (dOd m)) (o1 : Nms l.flatten) (o2 : Nms m.flatten) (q : Q (.bl (!decide (l = m))) H) : rNeA K x y H Q :=
  .inr ⟨_, _, h1, h2, (okd_od o1).shaped (by decide), (okd_od o2).shaped (by decide), by rw [eqv_od]; exact q⟩
end
end Kt

set_option Elab.async false
set_option linter.all false
set_option maxRecDepth 100000
namespace Kt
open PySem L2 PyProof.Rows
/-! ### statements and bodies, with their containers: false a list, true a tuple -/
mutual
inductive Stm where
  | two (w v u : Str)
  | one (w v : Str)
  | call (v f : Str) (t : Bool) (as : List Str)
  | either (t : Bool) (bs : List Bdy)
  | loop (b : Bdy)
inductive Bdy where
  | mk (t : Bool) (l : List Stm)
end
def sqD (t : Bool) (ds : List PyData) : PyData := if t = true then .tuple ds else .list ds
def dStrs (t : Bool) (l : List Str) : PyData := sqD t (l.map PyData.str)
mutual
def Stm.enc : Stm → PyData
  | .two w v u => .tuple [.str w, .str v, .str u]
  | .one w v => .tuple [.str w, .str v]
  | .call v f t as => .tuple [.str "call", .str v, .str f, dStrs t as]
  | .either t bs => .tuple [.str "either", sqD t (encBs bs)]
  | .loop b => .tuple [.str "loop", Bdy.enc b]
def Bdy.enc : Bdy → PyData
  | .mk t l => sqD t (encSs l)
def encBs : List Bdy → List PyData
  | [] => []
  | b :: bs => Bdy.enc b :: encBs bs
def encSs : List Stm → List PyData
  | [] => []
  | s :: l => Stm.enc s :: encSs l
end
theorem encBs_map : ∀ bs : List Bdy, encBs bs = bs.map Bdy.enc
  | [] => rfl
  | b :: bs => by rw [encBs, encBs_map bs]; rfl
theorem encSs_map : ∀ l : List Stm, encSs l = l.map Stm.enc
  | [] => rfl
  | s :: l => by rw [encSs, encSs_map l]; rfl
mutual
/-- how many statements, those within counted too -/
def Stm.size : Stm → Nat
  | .two _ _ _ => 1
  | .one _ _ => 1
  | .call _ _ _ _ => 1
  | .either _ bs => 1 + sizeBs bs
  | .loop b => 1 + Bdy.size b
def Bdy.size : Bdy → Nat
  | .mk _ l => sizeSs l
def sizeBs : List Bdy → Nat
  | [] => 0
  | b :: bs => Bdy.size b + sizeBs bs
def sizeSs : List Stm → Nat
  | [] => 0
  | s :: l => Stm.size s + sizeSs l
end
mutual
/-- bodies within bodies -/
def Stm.dep : Stm → Nat
  | .two _ _ _ => 0
  | .one _ _ => 0
  | .call _ _ _ _ => 0
  | .either _ bs => 1 + depBs bs
  | .loop b => 1 + Bdy.dep b
def Bdy.dep : Bdy → Nat
  | .mk _ l => depSs l
def depBs : List Bdy → Nat
  | [] => 0
  | b :: bs => max (Bdy.dep b) (depBs bs)
def depSs : List Stm → Nat
  | [] => 0
  | s :: l => max (Stm.dep s) (depSs l)
end
mutual
/-- the names that stand in a statement -/
def Stm.names : Stm → List Str
  | .two _ v u => [v, u]
  | .one _ v => [v]
  | .call v _ _ as => v :: as
  | .either _ bs => namesBs bs
  | .loop b => Bdy.names b
def Bdy.names : Bdy → List Str
  | .mk _ l => namesSs l
def namesBs : List Bdy → List Str
  | [] => []
  | b :: bs => Bdy.names b ++ namesBs bs
def namesSs : List Stm → List Str
  | [] => []
  | s :: l => Stm.names s ++ namesSs l
end
def w1S : List Str := ["new", "set", "keep", "look"]
def w2S : List Str := ["take", "cut", "put", "copy", "copycut", "copyput"]
mutual
/-- right words, and names and callees of which p holds -/
def Stm.Ok (p : Str → Prop) : Stm → Prop
  | .two w v u => w ∈ w2S ∧ p v ∧ p u
  | .one w v => w ∈ w1S ∧ p v
  | .call v f _ as => p v ∧ p f ∧ ∀ a ∈ as, p a
  | .either _ bs => bs.length ≤ 100 ∧ okBs p bs
  | .loop b => Bdy.Ok p b
def Bdy.Ok (p : Str → Prop) : Bdy → Prop
  | .mk _ l => okSs p l
def okBs (p : Str → Prop) : List Bdy → Prop
  | [] => True
  | b :: bs => Bdy.Ok p b ∧ okBs p bs
def okSs (p : Str → Prop) : List Stm → Prop
  | [] => True
  | s :: l => Stm.Ok p s ∧ okSs p l
end
theorem okBs_iff {p : Str → Prop} : ∀ {bs : List Bdy}, okBs p bs ↔ ∀ b ∈ bs, Bdy.Ok p b
  | [] => by simp [okBs]
  | b :: bs => by rw [okBs, okBs_iff, List.forall_mem_cons]
theorem okSs_iff {p : Str → Prop} : ∀ {l : List Stm}, okSs p l ↔ ∀ s ∈ l, Stm.Ok p s
  | [] => by simp [okSs]
  | s :: l => by rw [okSs, okSs_iff, List.forall_mem_cons]
def Stm.word : Stm → Str
  | .two w _ _ => w
  | .one w _ => w
  | .call _ _ _ _ => "call"
  | .either _ _ => "either"
  | .loop _ => "loop"
def Stm.inner : Stm → List Bdy
  | .two _ _ _ => []
  | .one _ _ => []
  | .call _ _ _ _ => []
  | .either _ bs => bs
  | .loop b => [b]
def Stm.own : Stm → List Str
  | .two _ v u => [v, u]
  | .one _ v => [v]
  | .call v _ _ as => v :: as
  | .either _ _ => []
  | .loop _ => []
def Bdy.list : Bdy → List Stm
  | .mk _ l => l
theorem bdy_names (b : Bdy) : Bdy.names b = namesSs b.list := by cases b; rw [Bdy.names, Bdy.list]
theorem bdy_size (b : Bdy) : Bdy.size b = sizeSs b.list := by cases b; rw [Bdy.size, Bdy.list]
theorem namesSs_app : ∀ a b : List Stm, namesSs (a ++ b) = namesSs a ++ namesSs b
  | [], b => by rw [namesSs, List.nil_append, List.nil_append]
  | s :: a, b => by rw [List.cons_append, namesSs, namesSs, namesSs_app a b, List.append_assoc]
theorem sizeSs_app : ∀ a b : List Stm, sizeSs (a ++ b) = sizeSs a + sizeSs b
  | [], b => by rw [sizeSs, List.nil_append, Nat.zero_add]
  | s :: a, b => by rw [List.cons_append, sizeSs, sizeSs, sizeSs_app a b, Nat.add_assoc]
theorem namesBs_flat : ∀ bs : List Bdy, namesBs bs = namesSs (bs.flatMap Bdy.list)
  | [] => rfl
  | b :: bs => by rw [namesBs, List.flatMap_cons, namesSs_app, namesBs_flat bs, bdy_names]
theorem sizeBs_flat : ∀ bs : List Bdy, sizeBs bs = sizeSs (bs.flatMap Bdy.list)
  | [] => rfl
  | b :: bs => by rw [sizeBs, List.flatMap_cons, sizeSs_app, sizeBs_flat bs, bdy_size]
theorem stm_names (s : Stm) : s.names = s.own ++ namesSs (s.inner.flatMap Bdy.list) := by
  cases s with
  | either t bs => rw [Stm.names, Stm.own, Stm.inner, namesBs_flat, List.nil_append]
  | loop b => rw [Stm.names, Stm.own, Stm.inner, bdy_names, List.flatMap_cons, List.flatMap_nil, List.append_nil, List.nil_append]
  | two w v u => rw [Stm.names]; rfl
  | one w v => rw [Stm.names]; rfl
  | call v f t as => rw [Stm.names]; simp [Stm.own, Stm.inner, namesSs]
theorem stm_size (s : Stm) : s.size = 1 + sizeSs (s.inner.flatMap Bdy.list) := by
  cases s with
  | either t bs => rw [Stm.size, Stm.inner, sizeBs_flat]
  | loop b => rw [Stm.size, Stm.inner, bdy_size, List.flatMap_cons, List.flatMap_nil, List.append_nil]
  | two w v u => rw [Stm.size]; rfl
  | one w v => rw [Stm.size]; rfl
  | call v f t as => rw [Stm.size]; rfl
theorem size_len : ∀ l : List Stm, l.length ≤ sizeSs l
  | [] => Nat.zero_le _
  | s :: l => by
    have := size_len l
    have := stm_size s
    rw [sizeSs, List.length_cons]
    omega
theorem inner_ok {p : Str → Prop} {s : Stm} (h : s.Ok p) : ∀ b ∈ s.inner, Bdy.Ok p b := by
  cases s with
  | either t bs => exact okBs_iff.mp (by rw [Stm.Ok] at h; exact h.2)
  | loop b =>
    intro x m
    rw [Stm.inner, List.mem_singleton] at m
    subst m
    rw [Stm.Ok] at h
    exact h
  | two w v u => nofun
  | one w v => nofun
  | call v f t as => nofun
theorem inner_len {p : Str → Prop} {s : Stm} (h : s.Ok p) : s.inner.length ≤ 100 := by
  cases s with
  | either t bs => rw [Stm.Ok] at h; exact h.1
  | loop b => exact Nat.le_of_ble_eq_true rfl
  | two w v u => exact Nat.zero_le _
  | one w v => exact Nat.zero_le _
  | call v f t as => exact Nat.zero_le _
theorem size_pre (bs : List Bdy) (i : Nat) : sizeSs ((bs.take i).flatMap Bdy.list) ≤ sizeSs (bs.flatMap Bdy.list) := by
  have e : bs.flatMap Bdy.list = (bs.take i).flatMap Bdy.list ++ (bs.drop i).flatMap Bdy.list := by rw [← List.flatMap_append, List.take_append_drop]
  rw [e, sizeSs_app]
  omega
theorem list_ok {p : Str → Prop} {b : Bdy} (h : Bdy.Ok p b) : ∀ s ∈ b.list, Stm.Ok p s := by
  cases b with
  | mk t l => exact okSs_iff.mp (by rw [Bdy.Ok] at h; exact h)
theorem bdy_enc (b : Bdy) : ∃ t, Bdy.enc b = sqD t (b.list.map Stm.enc) := by
  cases b with
  | mk t l => exact ⟨t, by rw [Bdy.enc, encSs_map]; rfl⟩
section
variable {K : PySem.W.Frag} {G H : Hp} {v : V} {t : Bool} {ds : List PyData}
theorem dp_sqInv (h : Dp K G v (sqD t ds)) : ∃ a xs, v = .ref a ∧ (SqL K G a xs ∨ SqT K G a xs) ∧ DpAll K G xs ds := by
  unfold sqD at h
  cases t with
  | true =>
    obtain ⟨a, xs, e, s, d⟩ := dp_tupInv (show Dp K G v (.tuple ds) from h)
    exact ⟨a, xs, e, .inr s, d⟩
  | false =>
    obtain ⟨a, xs, e, s, d⟩ := dp_lstInv (show Dp K G v (.list ds) from h)
    exact ⟨a, xs, e, .inl s, d⟩
theorem sq_le {a : Addr} {xs : List V} (l : Le G H) (h : SqL K G a xs ∨ SqT K G a xs) : SqL K H a xs ∨ SqT K H a xs := h.imp (SqL.le l) (SqT.le l)
end
/-! ### drawn statements: names out of nm, calls as C says; within bodies of at most three -/
mutual
def Stm.Wf (nm : List Str) (C : Bool → Str → Nat → Prop) : Bool → Stm → Prop
  | _, .two w v u => w ∈ w2S ∧ v ∈ nm ∧ u ∈ nm
  | _, .one w v => w ∈ w1S ∧ v ∈ nm
  | fr, .call v f t as => v ∈ nm ∧ (∀ a ∈ as, a ∈ nm) ∧ t = true ∧ C fr f as.length
  | fr, .either t bs => t = false ∧ 1 ≤ bs.length ∧ bs.length ≤ 3 ∧ wfBs nm C fr bs
  | _, .loop b => Bdy.Wf nm C true b
def Bdy.Wf (nm : List Str) (C : Bool → Str → Nat → Prop) : Bool → Bdy → Prop
  | fr, .mk t l => t = false ∧ l.length ≤ 3 ∧ wfSs nm C fr l
def wfBs (nm : List Str) (C : Bool → Str → Nat → Prop) : Bool → List Bdy → Prop
  | _, [] => True
  | fr, b :: bs => Bdy.Wf nm C fr b ∧ wfBs nm C fr bs
def wfSs (nm : List Str) (C : Bool → Str → Nat → Prop) : Bool → List Stm → Prop
  | _, [] => True
  | fr, s :: l => Stm.Wf nm C fr s ∧ wfSs nm C fr l
end
section
variable {nm : List Str} {C : Bool → Str → Nat → Prop} {p : Str → Prop} {fr : Bool}
theorem wfBs_iff : ∀ {bs : List Bdy}, wfBs nm C fr bs ↔ ∀ b ∈ bs, Bdy.Wf nm C fr b
  | [] => by simp [wfBs]
  | b :: bs => by rw [wfBs, wfBs_iff, List.forall_mem_cons]
theorem wfSs_iff : ∀ {l : List Stm}, wfSs nm C fr l ↔ ∀ s ∈ l, Stm.Wf nm C fr s
  | [] => by simp [wfSs]
  | s :: l => by rw [wfSs, wfSs_iff, List.forall_mem_cons]
mutual
theorem wf_ok (hn : ∀ x ∈ nm, p x) (hC : ∀ fr f n, C fr f n → p f) : ∀ (s : Stm) (fr : Bool), s.Wf nm C fr → s.Ok p
  | .two w v u, fr, h => by
    rw [Stm.Wf] at h
    rw [Stm.Ok]
    exact ⟨h.1, hn v h.2.1, hn u h.2.2⟩
  | .one w v, fr, h => by
    rw [Stm.Wf] at h
    rw [Stm.Ok]
    exact ⟨h.1, hn v h.2⟩
  | .call v f t as, fr, h => by
    rw [Stm.Wf] at h
    rw [Stm.Ok]
    exact ⟨hn v h.1, hC _ _ _ h.2.2.2, fun a m => hn a (h.2.1 a m)⟩
  | .either t bs, fr, h => by
    rw [Stm.Wf] at h
    rw [Stm.Ok]
    exact ⟨Nat.le_trans h.2.2.1 (by decide), wfBs_ok hn hC bs fr h.2.2.2⟩
  | .loop b, fr, h => by
    rw [Stm.Wf] at h
    rw [Stm.Ok]
    exact wfB_ok hn hC b true h
theorem wfB_ok (hn : ∀ x ∈ nm, p x) (hC : ∀ fr f n, C fr f n → p f) : ∀ (b : Bdy) (fr : Bool), b.Wf nm C fr → b.Ok p
  | .mk t l, fr, h => by
    rw [Bdy.Wf] at h
    rw [Bdy.Ok]
    exact wfSs_ok hn hC l fr h.2.2
theorem wfBs_ok (hn : ∀ x ∈ nm, p x) (hC : ∀ fr f n, C fr f n → p f) : ∀ (bs : List Bdy) (fr : Bool), wfBs nm C fr bs → okBs p bs
  | [], _, _ => by rw [okBs]; trivial
  | b :: bs, fr, h => by
    rw [wfBs] at h
    rw [okBs]
    exact ⟨wfB_ok hn hC b fr h.1, wfBs_ok hn hC bs fr h.2⟩
theorem wfSs_ok (hn : ∀ x ∈ nm, p x) (hC : ∀ fr f n, C fr f n → p f) : ∀ (l : List Stm) (fr : Bool), wfSs nm C fr l → okSs p l
  | [], _, _ => by rw [okSs]; trivial
  | s :: l, fr, h => by
    rw [wfSs] at h
    rw [okSs]
    exact ⟨wf_ok hn hC s fr h.1, wfSs_ok hn hC l fr h.2⟩
end
/-- as many statements as a depth lets -/
def sizeB : Nat → Nat
  | 0 => 1
  | d + 1 => 1 + 9 * sizeB d
theorem sizeB_mono : ∀ {a b : Nat}, a ≤ b → sizeB a ≤ sizeB b
  | 0, 0, _ => Nat.le_refl _
  | 0, b + 1, _ => by
    have := sizeB_mono (Nat.zero_le b)
    show 1 ≤ 1 + 9 * sizeB b
    omega
  | a + 1, b + 1, h => by
    have := sizeB_mono (Nat.le_of_succ_le_succ h)
    show 1 + 9 * sizeB a ≤ 1 + 9 * sizeB b
    omega
mutual
theorem wf_size : ∀ (s : Stm) (fr : Bool) (d : Nat), s.Wf nm C fr → s.dep ≤ d → s.size ≤ sizeB d
  | .two w v u, fr, d, _, _ => by
    rw [Stm.size]
    exact sizeB_mono (Nat.zero_le d)
  | .one w v, fr, d, _, _ => by
    rw [Stm.size]
    exact sizeB_mono (Nat.zero_le d)
  | .call v f t as, fr, d, _, _ => by
    rw [Stm.size]
    exact sizeB_mono (Nat.zero_le d)
  | .either t bs, fr, 0, h, hd => by
    rw [Stm.dep] at hd
    omega
  | .either t bs, fr, d + 1, h, hd => by
    rw [Stm.Wf] at h
    rw [Stm.dep] at hd
    rw [Stm.size]
    have := wfBs_size bs fr d h.2.2.2 (by omega)
    have h2 : bs.length * (3 * sizeB d) ≤ 3 * (3 * sizeB d) := Nat.mul_le_mul_right _ h.2.2.1
    show 1 + _ ≤ 1 + 9 * sizeB d
    omega
  | .loop b, fr, 0, h, hd => by
    rw [Stm.dep] at hd
    omega
  | .loop b, fr, d + 1, h, hd => by
    rw [Stm.Wf] at h
    rw [Stm.dep] at hd
    rw [Stm.size]
    have := wfB_size b true d h (by omega)
    show 1 + _ ≤ 1 + 9 * sizeB d
    omega
theorem wfB_size : ∀ (b : Bdy) (fr : Bool) (d : Nat), b.Wf nm C fr → b.dep ≤ d → b.size ≤ 3 * sizeB d
  | .mk t l, fr, d, h, hd => by
    rw [Bdy.Wf] at h
    rw [Bdy.dep] at hd
    rw [Bdy.size]
    exact Nat.le_trans (wfSs_size l fr d h.2.2 hd) (Nat.mul_le_mul_right _ h.2.1)
theorem wfBs_size : ∀ (bs : List Bdy) (fr : Bool) (d : Nat), wfBs nm C fr bs → depBs bs ≤ d → sizeBs bs ≤ bs.length * (3 * sizeB d)
  | [], _, _, _, _ => by rw [sizeBs]; exact Nat.zero_le _
  | b :: bs, fr, d, h, hd => by
    rw [wfBs] at h
    rw [depBs] at hd
    rw [sizeBs, List.length_cons, Nat.succ_mul]
    have := wfB_size b fr d h.1 (by omega)
    have := wfBs_size bs fr d h.2 (by omega)
    omega
theorem wfSs_size : ∀ (l : List Stm) (fr : Bool) (d : Nat), wfSs nm C fr l → depSs l ≤ d → sizeSs l ≤ l.length * sizeB d
  | [], _, _, _, _ => by rw [sizeSs]; exact Nat.zero_le _
  | s :: l, fr, d, h, hd => by
    rw [wfSs] at h
    rw [depSs] at hd
    rw [sizeSs, List.length_cons, Nat.succ_mul]
    have := wf_size s fr d h.1 (by omega)
    have := wfSs_size l fr d h.2 (by omega)
    omega
end
end
theorem depSs_le {d : Nat} : ∀ {l : List Stm}, depSs l ≤ d ↔ ∀ s ∈ l, s.dep ≤ d
  | [] => by simp [depSs]
  | s :: l => by rw [depSs, List.forall_mem_cons, ← depSs_le (l := l)]; omega
theorem depBs_le {d : Nat} : ∀ {l : List Bdy}, depBs l ≤ d ↔ ∀ s ∈ l, s.dep ≤ d
  | [] => by simp [depBs]
  | s :: l => by rw [depBs, List.forall_mem_cons, ← depBs_le (l := l)]; omega
end Kt

set_option Elab.async false
set_option linter.all false
set_option maxRecDepth 100000
namespace Kt
open PySem PySem.Spec L2 PyProof.Rows
/-! ### dicts of the top with text keys: asked at a key -/
def KHas (K : PySem.W.Frag) (w : World) (d : Addr) (x : Str) (v : V) : Prop := ∃ es n u, KDict K w d es n ∧ PySem.W.nsIn K d x = some (some u) ∧ RelV v u
def KNo (K : PySem.W.Frag) (w : World) (d : Addr) (x : Str) : Prop := ∃ es n, KDict K w d es n ∧ PySem.W.nsIn K d x = some none
def rKIn (K : PySem.W.Frag) (w : World) : R2 := fun x y H Q => ∃ z d, x = .str z ∧ y = .ref d ∧ ((∃ v, KHas K w d z v ∧ Q (.bl true) H) ∨ (KNo K w d z ∧ Q (.bl false) H))
section
variable {X : Cx}
theorem op_kin : OpR X (compareOp .In) (rKIn X.K X.w) := by
  intro pins s σ H x y v u Q I rx ry h
  obtain ⟨z, d, ex, ey, h⟩ := h
  rcases h with ⟨r, ⟨es, n, uu, D, e, _⟩, q⟩ | ⟨⟨es, n, D, e⟩, q⟩
  · exact op_in_kd D pins s σ H x y v u Q I rx ry ⟨z, _, ex, ey, e, q⟩
  · exact op_in_kd D pins s σ H x y v u Q I rx ry ⟨z, _, ex, ey, e, q⟩
def kKGet (K : PySem.W.Frag) (w : World) (Q : VK) (x y : V) (H : Hp) : Prop := ∃ d z, x = .ref d ∧ y = .str z ∧ ((∃ v, KHas K w d z v ∧ Q v H) ∨ (KNo K w d z ∧ Q .non H))
def tKGet (K : PySem.W.Frag) (w : World) (td ty : TE) : TE := fun σ H Q => td σ H fun x H1 => (∃ d, x = .ref d ∧ ∃ es n, KDict K w d es n) ∧ ty σ H1 fun y H2 => kKGet K w Q x y H2
theorem pe_kget {o e : Expr} {apos cpos : Pos} {td ty : TE} (ho : PE X o td) (he : PE X e ty) (m : M1 X o "get" apos e cpos) : PE X (.Call (.Attribute o "get" apos) [e] [] cpos) (tKGet X.K X.w td ty) := by
  refine ⟨fun pins s σ H Q I h => ?_⟩
  refine wpAny_Call_method m.base m.few m.line PySem.F.plainAttrs_dict PySem.F.slot_dict_get PySem.F.type_dict_get (thn (ho.run pins s σ H _ I h) fun u s1 ⟨x, H1, I1, rx, ⟨d, ex, es, n, D⟩, q1⟩ => ?_)
  subst ex
  obtain rfl : u = Value.ref d := rx
  have mm := PySem.W.mapOf_K (prog := X.prog) (w := X.w) I1.kIn D.at_ D.lit
  refine ⟨mm.typeIs, mm.noDict, ?_⟩
  rw [m.trees]
  refine Calls.callWith_builtin rfl (Calls.evalArgs_plain (Calls.spliced_cons (thn (he.run pins s1 σ H1 _ I1 q1) fun iv s2 ⟨y, H2, I2, ry, d2, z, e2, ey, q2⟩ => Calls.spliced_nil ?_)))
  cases e2
  subst ey
  obtain ⟨t, rfl⟩ := ry
  rcases q2 with ⟨v, ⟨es2, n2, uu, D2, e, r⟩, q⟩ | ⟨⟨es2, n2, D2, e⟩, q⟩
  · have m2 := PySem.W.mapOf_K (prog := X.prog) (w := X.w) I2.kIn D2.at_ D2.lit
    refine call_meetsIn PySem.F.slot_dict_get m2.typeIs PySem.F.entry_dict_get (PySem.F.args_dict_get_2 _ _) (meets_dict_get (PySem.strKind X.prog X.w) d (PySem.strKind_is X.prog X.w z t) D2.low) ⟨_, m2, ?_⟩
    rw [PySem.W.find_K D2.at_ e]
    exact ⟨v, H2, I2.tok _, r, q⟩
  · have m2 := PySem.W.mapOf_K (prog := X.prog) (w := X.w) I2.kIn D2.at_ D2.lit
    refine call_meetsIn PySem.F.slot_dict_get m2.typeIs PySem.F.entry_dict_get (PySem.F.args_dict_get_2 _ _) (meets_dict_get (PySem.strKind X.prog X.w) d (PySem.strKind_is X.prog X.w z t) D2.low) ⟨_, m2, ?_⟩
    rw [PySem.W.find_K D2.at_ e]
    exact ⟨.non, H2, I2.tok _, rfl, q⟩
end
section
variable {K : PySem.W.Frag} {w : World} {σ : L2.St} {H : Hp} {Q : VK} {td ty te : TE}
theorem r_kget (h : td σ H fun x H1 => (∃ d, x = .ref d ∧ ∃ es n, KDict K w d es n) ∧ ty σ H1 fun y H2 => kKGet K w Q x y H2) : tKGet K w td ty σ H Q := h
/-! ### x or y by truth -/
theorem r_orT {ta tb : TE} (h : ta σ H fun x H1 => ∃ k, TruV K x H1 k ∧ if k = true then Q x H1 else tb σ H1 Q) : tOrT K ta tb σ H Q := h
end
/-! ### xs.extend(b), b any list, any tuple -/
section
theorem ext_with {T : String} (hT : T = "list" ∨ T = "tuple") (l b : Addr) (xs ys : Array Value) (n m : Nat) (dd : Option Addr) (sl : Array (Option Value)) (door : ¬ (!xs.isEmpty && Builtin.List.listTooLong (xs.size + ys.size)) = true) (h1 : xs.size ≤ sizeLine) (h2 : xs.size + ys.size ≤ sizeLine + 1) :
    Meets (Builtin.«list.extend» ⟨[.ref l, .ref b], []⟩) (fun _ R z => z.heap.get? l = some { cls := .type "list", data := .seq xs n } ∧ z.heap.get? b = some { cls := .type T, dict := dd, data := .seq ys m, slots := sl } ∧ R (.ok (.ret Value.none)) { z with heap := z.heap.update l (Obj.mapSeq fun x => x ++ ys) }) :=
  .of_wp fun prog w A R z hh => by
    obtain ⟨hp, g, d, tk, os⟩ := z
    obtain ⟨el, eb, hq⟩ := hh
    have u1 := AutoSeq1.idx_int
    have u2 := AutoSeq1.sub_tuple_tuple
    have u3 := AutoSeq1.sub_list_list
    have u4 := AutoSeq1.sub_tuple_list
    have u5 := AutoSeq1.sub_list_tuple
    have fit : (xs ++ ys).size ≤ sizeLine + 1 := by rw [Array.size_append]; exact h2
    rcases hT with rfl | rfl
    · wp_walk using (wpAny_updateSeq el rfl (hz := h1) (_hz' := fit)), AutoSeq1.wpAny_loadPart' el, AutoSeq1.wpAny_loadPart' eb
      exact ⟨_, rfl, hq⟩
    · wp_walk using (wpAny_updateSeq el rfl (hz := h1) (_hz' := fit)), AutoSeq1.wpAny_loadPart' el, AutoSeq1.wpAny_loadPart' eb
      exact ⟨_, rfl, hq⟩
def rExtA (K : PySem.W.Frag) : V → List V → Hp → VK → Prop := fun x vs H Q => ∃ l b xs zs, x = .ref l ∧ vs = [.ref b] ∧ H l = some (.lst xs) ∧ (SqL K H b zs ∨ SqT K H b zs) ∧ xs.length + zs.length ≤ sizeLine ∧ Q .non (upd H l (.lst (xs ++ zs)))
theorem mt_extendA {X : Cx} : MtM X "list.extend" (rExtA X.K) := by
  intro pins s σ H x vs v us Q I rx rv h
  obtain ⟨l, b, xs, zs, rfl, rfl, hH, hB, hz, q⟩ := h
  cases rx
  obtain ⟨u, rfl, ru⟩ := rv.one
  cases ru
  obtain ⟨z, its, n, r, hl, e⟩ := I.lstM hH
  obtain ⟨T, hT, its2, m, dd, sl, r2, e2⟩ : ∃ T, (T = "list" ∨ T = "tuple") ∧ ∃ (its2 : List Value) (m : Nat) (dd : Option Addr) (sl : Array (Option Value)), Vals zs its2 ∧ s.heap.get? b = some { cls := .type T, dict := dd, data := .seq its2.toArray m, slots := sl } := by
    rcases hB with hB | hB
    · obtain ⟨its2, r2, ⟨⟨oc, od, dt, sl⟩, m, eo, hc, _, hd⟩, _⟩ := I.list hB
      simp only at hc hd
      subst hc hd
      exact ⟨"list", .inl rfl, its2, m, od, sl, r2, eo⟩
    · obtain ⟨its2, r2, ⟨⟨oc, od, dt, sl⟩, eo, hc, m, hd⟩, _⟩ := I.tuple hB
      simp only at hc hd
      subst hc hd
      exact ⟨"tuple", .inr rfl, its2, m, od, sl, r2, eo⟩
  have l2 := r2.length
  have fit : its.toArray.size + its2.toArray.size ≤ sizeLine := by rw [List.size_toArray, List.size_toArray]; omega
  have door : ¬ (!its.toArray.isEmpty && Builtin.List.listTooLong (its.toArray.size + its2.toArray.size)) = true := by
    rw [notLongL fit, Bool.and_false]
    exact Bool.false_ne_true
  refine call_meets F.slot_list_extend ⟨_, e, rfl⟩ F.entry_list_extend (F.args_list_extend_2 _ _) (ext_with hT l b its.toArray its2.toArray n m dd sl door (by rw [List.size_toArray]; omega) (by omega)) ⟨e, e2, ?_⟩
  refine ⟨.non, _, I.lset (its' := its ++ its2) hH e (by simp) (r.append r2) ?_, rfl, q⟩
  rw [List.length_append]
  exact hz
end
theorem mt_extendAK {X : Cx} (K : PySem.W.Frag) (hK : X.K = K := by rfl) : MtM X "list.extend" (rExtA K) := by
  subst hK
  exact mt_extendA
theorem dpall_snocInv {K : PySem.W.Frag} {G : Hp} : ∀ {ds : List PyData} {d : PyData} {xs : List V}, DpAll K G xs (ds ++ [d]) → ∃ ys y, xs = ys ++ [y] ∧ DpAll K G ys ds ∧ Dp K G y d
  | [], _, _, .cons h .nil => ⟨[], _, rfl, .nil, h⟩
  | _ :: _, _, _, .cons h t => by
    obtain ⟨ys, y, rfl, h1, h2⟩ := dpall_snocInv t
    exact ⟨_ :: ys, y, rfl, .cons h h1, h2⟩
section
variable {K : PySem.W.Frag} {H : Hp} {Q : VK} {a b : Addr} {xs zs : List V} {y : V} {Ps Qs R : List SP}
theorem r_extA (S : Sep Ps H) (r : Repl a (.lst xs) (.lst (xs ++ zs)) Ps Qs) (s : SqL K H b zs ∨ SqT K H b zs) (hl : xs.length + zs.length ≤ 100000) (q : ∀ H', Sep Qs H' → Q .non H') : rExtA K (.ref a) [.ref b] H Q :=
  ⟨a, b, xs, zs, rfl, rfl, by obtain ⟨Rs, p, _⟩ := r.pick; exact S.at_ p, s, Nat.le_trans hl (by decide), q _ (S.set r)⟩
theorem r_pop (S : Sep (pt a (.lst (xs ++ [y])) :: R) H) (q : ∀ H', Sep (pt a (.lst xs) :: R) H' → Q y H') : rPop (.ref a) [] H Q :=
  ⟨a, xs ++ [y], y, rfl, rfl, S.hd_at, by simp, q _ (by
    have e : (xs ++ [y]).dropLast = xs := by simp
    rw [e]
    exact S.hd_set _)⟩
/-- a piece of a tuple -/
def kSlA (K : PySem.W.Frag) (Q : VK) : V → Option Int → Option Int → Hp → Prop := fun x lo hi H => rSlA K x lo hi H Q
theorem r_slA {σ : L2.St} {te : TE} {tl th : TO} (h : te σ H fun x H1 => tl σ H1 fun l H2 => th σ H2 fun u H3 => kSlA K Q x l u H3) : tSl (rSlA K) te tl th σ H Q := h
theorem r_sufT {n : Nat} (S : Sep Ps H) (s : SqT K H a xs) (h0 : 0 < n) (hn : 0 < xs.length) (q : ∀ p H', Sep (pt p (.tup (xs.drop n)) :: Ps) H' → Q (.ref p) H') : kSlA K Q (.ref a) (some (n : Int)) none H := by
  have ne : HT.sIx xs.length 0 (some (n : Int)) ≠ 0 := by
    unfold HT.sIx
    simp only
    rw [if_neg (by omega), Int.toNat_natCast]
    omega
  refine ⟨a, xs, rfl, s, fun h => absurd h.1 ne, fun _ p np => ?_⟩
  rw [cut_suf]
  exact q p _ (S.new _ np)
theorem r_preT {n : Nat} (S : Sep Ps H) (s : SqT K H a xs) (hn : n < xs.length) (q : ∀ p H', Sep (pt p (.tup (xs.take n)) :: Ps) H' → Q (.ref p) H') : kSlA K Q (.ref a) none (some (n : Int)) H := by
  have ne : HT.sIx xs.length xs.length (some (n : Int)) ≠ xs.length := by
    unfold HT.sIx
    simp only
    rw [if_neg (by omega), Int.toNat_natCast]
    omega
  refine ⟨a, xs, rfl, s, fun h => absurd h.2 ne, fun _ p np => ?_⟩
  rw [cut_pre]
  exact q p _ (S.new _ np)
end
end Kt

set_option Elab.async false
set_option linter.all false
set_option maxRecDepth 100000
namespace Kt
open PySem L2 PyProof.Rows
/-! ### names: one to eight small letters -/
structure NmOk (x : Str) : Prop where
  lo : 1 ≤ x.length
  hi : x.length ≤ 8
  az : ∀ c ∈ x.cps.toList, 97 ≤ c ∧ c ≤ 122
theorem nm_by {x : Str} (h : (decide (1 ≤ x.length) && decide (x.length ≤ 8) && x.cps.toList.all fun c => decide (97 ≤ c) && decide (c ≤ 122)) = true) : NmOk x := by
  simp only [Bool.and_eq_true, decide_eq_true_eq, List.all_eq_true] at h
  exact ⟨h.1.1, h.1.2, fun c m => h.2 c m⟩
theorem nm_str {x : Str} (h : NmOk x) : PyData.strOk x = true := by
  unfold PyData.strOk
  rw [← Array.all_toList, List.all_eq_true]
  intro c m
  have := (h.az c m).2
  exact decide_eq_true (by omega)
theorem sh_txt {k n : Nat} {x : Str} (h1 : PyData.strOk x = true) (h2 : x.length ≤ n) : Sh k n (.str x) := by
  refine ⟨okd_str h1, rfl, ?_, ?_⟩
  · rw [PyData.leavesShort, List.all_eq_true]
    intro c m
    unfold PyData.strOk at h1
    rw [← Array.all_toList, List.all_eq_true] at h1
    have := of_decide_eq_true (h1 c m)
    exact decide_eq_true (Nat.lt_of_lt_of_le this (by decide))
  · rw [PyData.weight]
    exact h2
theorem sh_nm {k : Nat} {x : Str} (h : NmOk x) : Sh k 8 (.str x) := sh_txt (nm_str h) h.hi
/-! ### letters -/
def lettersS : Str := "abcdefghijklmnopqrstuvwxyz"
def lt1 (c : Nat) : Str := ⟨#[c]⟩
theorem letters_eq : lettersS.cps.toList = (List.range 26).map (97 + ·) := by decide +kernel
theorem letters_at {k : Nat} (h : k < 26) : lettersS.cps.toList[k]? = some (97 + k) := by
  rw [letters_eq, List.getElem?_map, List.getElem?_range h]
  rfl
section
variable {K : PySem.W.Frag} {σ : L2.St} {H : Hp} {Q : VK} {z a b : Str} {n : Nat} {i : Int} {p : Addr} {ys : List Str} {Ps : List SP}
theorem r_letter (h0 : 0 ≤ i) (h1 : i < 26) (q : Q (.str (lt1 (97 + i.toNat))) H) : rIx K (.str lettersS) (.int i) H Q := by
  obtain ⟨k, rfl⟩ := Int.eq_ofNat_of_zero_le h0
  exact .inr (.inr ⟨_, _, _, rfl, rfl, (show (26 : Nat) ≤ sizeLine by decide), atI_nat (letters_at (by omega)), q⟩)
theorem r_addS (hl : a.length + b.length ≤ 1000) (q : Q (.str (a ++ b)) H) : rAddA (.str a) (.str b) H Q := .inr (.inr ⟨a, b, rfl, rfl, Nat.le_trans hl (by decide), q⟩)
/-! ### join, split -/
theorem r_m1 {r : V → List V → Hp → VK → Prop} {to te : TE} (h : to σ H fun x H1 => (∃ a, x = .str a) ∧ te σ H1 fun y H2 => r x [y] H2 Q) : tM1 r to te σ H Q := h
theorem r_isS {p : Prop} (h : p) : (∃ a, V.str z = .str a) ∧ p := ⟨⟨z, rfl⟩, h⟩
def rJoin (K : PySem.W.Frag) : V → List V → Hp → VK → Prop := fun x xs H Q => ∃ a p, ∃ ys : List Str, x = .str a ∧ xs = [.ref p] ∧ (SqL K H p (ys.map V.str) ∨ SqT K H p (ys.map V.str)) ∧ (ys.map (·.length)).sum + ys.length * a.length ≤ 16777216 ∧ Q (.str (Txt.join a ys)) H
theorem pe_joinK {X : Cx} (K : PySem.W.Frag) {o e : Expr} {to te : TE} {apos pos : Pos} (ho : PE X o to) (he : PE X e te) (hK : X.K = K := by rfl) (hs : starEach [e] X.env = [(false, eval e X.env)] := by rfl) (hbase : attributeBase o "join" X.env (eval o X.env) = eval o X.env := by rfl) (hline : (apos.endLine == pos.line) = true := by rfl) :
    PE X (.Call (.Attribute o "join" apos) [e] [] pos) (tM1 (rJoin K) to te) := by
  subst hK
  exact pe_join ho he hs hbase hline
def rSplit : V → List V → Hp → VK → Prop := fun x xs H Q => ∃ a b, x = .str a ∧ xs = [.str b] ∧ (b.length == 0) = false ∧ a.length + 2 ≤ sizeLine ∧ rNewStrs (Txt.split a b) H Q
theorem pe_splitK {X : Cx} {o e : Expr} {to te : TE} {apos pos : Pos} (ho : PE X o to) (he : PE X e te) (hs : starEach [e] X.env = [(false, eval e X.env)] := by rfl) (hbase : attributeBase o "split" X.env (eval o X.env) = eval o X.env := by rfl) (hline : (apos.endLine == pos.line) = true := by rfl) :
    PE X (.Call (.Attribute o "split" apos) [e] [] pos) (tM1 rSplit to te) := pe_split ho he hs hbase hline
theorem r_split (S : Sep Ps H) (e : Txt.split a b = ys) (hb : (b.length == 0) = false) (hl : a.length ≤ 1000) (q : ∀ p H', Sep (pt p (.lst (ys.map V.str)) :: Ps) H' → Q (.ref p) H') : rSplit (.str a) [.str b] H Q :=
  ⟨a, b, rfl, rfl, hb, Nat.le_trans (Nat.add_le_add_right hl 2) (by decide), fun p np => q p _ (by rw [e]; exact S.new _ np)⟩
end
theorem join0_cps : ∀ ys : List Str, (Str.join Str.empty ys).cps.toList = (ys.map fun y => y.cps.toList).flatten
  | [] => rfl
  | [x] => by simp [Str.join]
  | x :: z :: r => by
    have ih := join0_cps (z :: r)
    have e : Str.join Str.empty (x :: z :: r) = x ++ Str.empty ++ Str.join Str.empty (z :: r) := rfl
    rw [e, List.map_cons, List.flatten_cons, ← ih]
    show ((x.cps ++ Str.empty.cps) ++ _).toList = _
    rw [Array.toList_append, Array.toList_append]
    show (x.cps.toList ++ []) ++ _ = _
    rw [List.append_nil]
theorem r_join0 {K : PySem.W.Frag} {H : Hp} {Q : VK} {p : Addr} {cs : List Nat} (s : SqL K H p ((cs.map lt1).map V.str)) (hl : cs.length ≤ 1000) (q : ∀ z : Str, z.cps.toList = cs → Q (.str z) H) : rJoin K (.str Str.empty) [.ref p] H Q := by
  have e1 : ((cs.map lt1).map (·.length)).sum = cs.length := by
    rw [List.map_map]
    have : ((fun x : Str => x.length) ∘ lt1) = fun _ => 1 := rfl
    rw [this]
    have e2 : ∀ l : List Nat, (l.map fun _ => 1).sum = l.length := fun l => by
      induction l with
      | nil => rfl
      | cons c l ih => rw [List.map_cons, List.sum_cons, ih, List.length_cons, Nat.add_comm]
    exact e2 cs
  refine ⟨_, p, cs.map lt1, rfl, rfl, .inl s, ?_, q _ ?_⟩
  · rw [e1]
    show _ + _ * 0 ≤ _
    omega
  · rw [show Txt.join Str.empty (cs.map lt1) = Str.join Str.empty (cs.map lt1) from StrLaws.glued_eq_join _ _, join0_cps, List.map_map]
    have : ((fun y : Str => y.cps.toList) ∘ lt1) = fun c => [c] := rfl
    rw [this]
    have e3 : ∀ l : List Nat, (l.map fun c => [c]).flatten = l := fun l => by
      induction l with
      | nil => rfl
      | cons c l ih => rw [List.map_cons, List.flatten_cons, ih]; rfl
    exact e3 cs
/-- a base and one letter more -/
theorem add_lt_inj {z : Str} {c d : Nat} (h : z ++ lt1 c = z ++ lt1 d) : c = d := by
  have h := congrArg (fun x : Str => x.cps.toList) h
  have h2 : z.cps.toList ++ [c] = z.cps.toList ++ [d] := by
    have e : ∀ c, (z ++ lt1 c).cps.toList = z.cps.toList ++ [c] := fun c => by
      show (z.cps ++ #[c]).toList = _
      rw [Array.toList_append]
    rw [← e, ← e]
    exact h
  exact List.singleton_inj.mp (List.append_cancel_left h2)
theorem add_lt_ok {z : Str} {c : Nat} (h : ∀ c ∈ z.cps.toList, 97 ≤ c ∧ c ≤ 122) (hl : z.length ≤ 7) (hc : 97 ≤ c ∧ c ≤ 122) : NmOk (z ++ lt1 c) := by
  have e : (z ++ lt1 c).cps.toList = z.cps.toList ++ [c] := by
    show (z.cps ++ #[c]).toList = _
    rw [Array.toList_append]
  have e2 : (z ++ lt1 c).length = z.length + 1 := by
    show (z.cps ++ #[c]).size = _
    rw [Array.size_append]
    rfl
  refine ⟨by omega, by omega, fun d m => ?_⟩
  rw [e] at m
  rcases List.mem_append.mp m with m | m
  · exact h d m
  · rw [List.mem_singleton] at m
    subst m
    exact hc
/-! ### heads of functions -/
structure Hd where
  fn : Str
  names : List Str
  pars : List Str
  res : Str
structure HdOk (h : Hd) : Prop where
  nm : ∀ x ∈ h.names, NmOk x
  nd : h.names.Nodup
  n1 : h.names ≠ []
  nl : h.names.length ≤ 8
  pm : ∀ x ∈ h.pars, x ∈ h.names
  pd : h.pars.Nodup
  pl : h.pars.length ≤ 2
  rm : h.res ∈ h.names
structure HdsOk (hs : List Hd) : Prop where
  ln : hs.length ≤ 9
  each : ∀ h ∈ hs, HdOk h ∧ NmOk h.fn
  nd : (hs.map Hd.fn).Nodup
  main : (hs.map Hd.fn).head? = some "main"
def HdAt (K : PySem.W.Frag) (G : Hp) (v : V) (h : Hd) : Prop := ∃ a ni pi, v = .ref a ∧ G a = some (.dK [(.inr "names", .ref ni), (.inr "parameters", .ref pi), (.inr "result", .str h.res)]) ∧ LD K G ni (h.names.map PyData.str) ∧ LD K G pi (h.pars.map PyData.str)
def HdsAt (K : PySem.W.Frag) (G : Hp) (kvs : List (Key × V)) (hs : List Hd) : Prop := Paired (fun kv h => kv.1 = kS h.fn ∧ HdAt K G kv.2 h) kvs hs
section
variable {K : PySem.W.Frag} {G G' H : Hp} {v : V} {h : Hd} {hs : List Hd} {kvs : List (Key × V)} {σ : L2.St} {D : Ends} {R : List SP} {d : Addr} {x : Str}
theorem HdAt.le (h1 : HdAt K G v h) (l : Le G G') : HdAt K G' v h := by
  obtain ⟨a, ni, pi, rfl, e, d1, d2⟩ := h1
  exact ⟨a, ni, pi, rfl, l _ _ e, d1.le l, d2.le l⟩
theorem HdsAt.le (h1 : HdsAt K G kvs hs) (l : Le G G') : HdsAt K G' kvs hs := paired_imp (fun a b z => ⟨z.1, z.2.le l⟩) h1
theorem HdsAt.keys (h1 : HdsAt K G kvs hs) : kvs.map Prod.fst = hs.map fun h => kS h.fn := by
  induction h1 with
  | nil => rfl
  | cons z _ ih => rw [List.map_cons, List.map_cons, z.1, ih]
theorem HdsAt.snoc {a : V} (h1 : HdsAt K G kvs hs) (h2 : HdAt K G a h) : HdsAt K G (kvs ++ [(kS h.fn, a)]) (hs ++ [h]) := Paired.snoc h1 ⟨rfl, h2⟩
theorem putK_new {l : List (Key × V)} {k : Key} (hn : k ∉ l.map Prod.fst) : putK l k v = l ++ [(k, v)] := by
  unfold putK
  rw [if_neg]
  intro q
  obtain ⟨kv, m, hd⟩ := List.any_eq_true.mp q
  exact hn (by rw [← of_decide_eq_true hd]; exact List.mem_map_of_mem m)
theorem r_dputN (S : Sep (pt d (.dK kvs) :: R) H) (hn : kS x ∉ kvs.map Prod.fst) (hl : kvs.length ≤ 100000) (q : ∀ H', Sep (pt d (.dK (kvs ++ [(kS x, v)])) :: R) H' → D.nx σ H') : kDPut D σ v (.ref d) (.str x) H :=
  ⟨d, _, rfl, .inl ⟨_, kS x, S.hd_at, rfl, Nat.lt_of_le_of_lt hl (by decide), rfl⟩, q _ (by rw [← putK_new hn]; exact S.hd_set _)⟩
theorem valV_at : ∀ {l : List (Key × V)} {k : Key} {v : V}, (l.map Prod.fst).Nodup → (k, v) ∈ l → valV l k = some v
  | e :: l, k, v, nd, m => by
    rw [List.map_cons, List.nodup_cons] at nd
    unfold valV
    rw [List.find?_cons]
    rcases List.mem_cons.mp m with rfl | m
    · simp
    · have ne : e.1 ≠ k := fun q => nd.1 (by rw [q]; exact List.mem_map_of_mem (f := Prod.fst) m)
      rw [decide_eq_false ne]
      exact valV_at nd.2 m
theorem r_dgetV {Q : VK} (e : Rd H d (.dK kvs)) (hv : valV kvs (kS x) = some v) (q : Q v H) : kDGet Q (.ref d) (.str x) H :=
  ⟨d, _, rfl, .inl ⟨_, kS x, e, rfl, hv.symm⟩, q⟩
end
theorem mergeK_nd : ∀ {l l2 : List (Key × V)}, ((l ++ l2).map Prod.fst).Nodup → mergeK l l2 = l ++ l2
  | l, [], _ => by rw [List.append_nil]; rfl
  | l, e :: l2, hn => by
    have ne : e.1 ∉ l.map Prod.fst := fun m => by
      rw [List.map_append, List.nodup_append] at hn
      exact hn.2.2 _ m e.1 (by simp) rfl
    show mergeK (putK l e.1 e.2) l2 = _
    have e1 : l ++ e :: l2 = (l ++ [e]) ++ l2 := by simp
    rw [putK_new ne, e1]
    exact mergeK_nd (by rw [← e1]; exact hn)
theorem q_pair {tk tv : TE} {r : List (TE × TE)} {σ : L2.St} {H : Hp} {Q : List (V × V) → Hp → Prop} (h : tk σ H fun x H1 => tv σ H1 fun y H2 => tPairs r σ H2 fun ps H3 => Q ((x, y) :: ps) H3) : tPairs ((tk, tv) :: r) σ H Q := h
theorem q_pairN {σ : L2.St} {H : Hp} {Q : List (V × V) → Hp → Prop} (h : Q [] H) : tPairs [] σ H Q := h
theorem mt_indexK {X : Cx} (K : PySem.W.Frag) (hK : X.K = K := by rfl) : MtR X "list.index" (rIndex K) := by
  subst hK
  exact mt_index
theorem eqV_str (x y : Str) : eqV (.str x) (.str y) = decide (x = y) := by
  show (x == y) = _
  by_cases h : x = y
  · subst h; simp
  · rw [decide_eq_false h]; exact beq_eq_false_iff_ne.mpr h
section
variable {K : PySem.W.Frag} {H : Hp} {Q : VK} {a d : Addr} {fs : List Str} {f : Str} {j : Nat} {kvs : List (Key × V)} {Ps : List SP}
theorem r_index (s : SqL K H a (fs.map V.str)) (nd : fs.Nodup) (hj : fs[j]? = some f) (q : Q (.int j) H) : rIndex K (.ref a) [.str f] H Q := by
  have h1 := List.getElem?_eq_some_iff.mp hj
  refine ⟨a, fs.map V.str, .str f, j, .str f, rfl, rfl, s, rfl, flat_strs fs, by rw [List.getElem?_map, hj]; rfl, by rw [eqV_str]; simp, fun m z hm hz => ?_, q⟩
  rw [List.getElem?_map] at hz
  cases e : fs[m]? with
  | none => rw [e] at hz; cases hz
  | some y =>
    rw [e] at hz
    cases hz
    have h2 := List.getElem?_eq_some_iff.mp e
    rw [eqV_str]
    refine decide_eq_false fun q => ?_
    have := (List.getElem_inj (h₀ := h2.1) (h₁ := h1.1) nd).mp (h2.2.trans (q.trans h1.2.symm))
    omega
theorem r_listD (S : Sep (pt d (.dK kvs) :: Ps) H) (q : ∀ p H', Sep (pt p (.lst (kvs.map fun kv => kV kv.1)) :: pt d (.dK kvs) :: Ps) H' → Q (.ref p) H') : rListD [.ref d] H Q :=
  ⟨d, kvs, rfl, S.hd_at, fun p np => q p _ (S.new _ np)⟩
end
/-! ### a dict that is read, locked or not -/
theorem rd_part {D : SP} {d : Addr} {kvs : List (Key × V)} {R : List SP} {H : Hp} (hD : ∀ g, D g → Rd g d (.dK kvs)) (S : Sep (D :: R) H) : Rd H d (.dK kvs) := by
  obtain ⟨g, l, h, _⟩ := S
  exact Rd.le l (hD g h)
def rListR : List V → Hp → VK → Prop := fun xs H Q => ∃ (a : Addr) (kvs : List (Key × V)), xs = [.ref a] ∧ Rd H a (.dK kvs) ∧ ∀ p, H p = none → Q (.ref p) (upd H p (.lst (kvs.map fun kv => kV kv.1)))
theorem cr_listR {X : Cx} (hc : X.calm = true) : CallR X (.type "list") rListR := call_listD hc
theorem r_listR {d : Addr} {kvs : List (Key × V)} {Ps : List SP} {H : Hp} {Q : VK} (S : Sep Ps H) (e : Rd H d (.dK kvs)) (q : ∀ p H', Sep (pt p (.lst (kvs.map fun kv => kV kv.1)) :: Ps) H' → Q (.ref p) H') : rListR [.ref d] H Q :=
  ⟨d, kvs, rfl, e, fun p np => q p _ (S.new _ np)⟩
end Kt

set_option Elab.async false
set_option linter.all false
set_option maxRecDepth 100000
set_option maxHeartbeats 4000000
namespace PySem
open Sem (wp)
theorem args_sum2 (a b : Value) : argsOk "sum" ⟨[a, b], []⟩ := by unfold argsOk; kernel_rfl
section
variable {prog : Program} {w : World} {A : Around} {R : Result → Shared → Prop} {I : Addr} {fp wr : List Addr} {n : Nat} {P : Nat → Value → Prop} {St : Nat → Heap → Prop}
/-- sum of lists from a list: the loop -/
theorem codeAny_sum_loopL (h0 : Heap) (W : Walks prog w A.in1 I fp wr n P St) (hw0 : ∀ b ∈ wr, h0.get? b = none) (hsz : ∀ i h, St i h → ∀ b ∈ wr, b < h.objs.size) (hfp : ∀ i h, St i h → ∀ b ∈ fp, b < h.objs.size) (L : Nat → Addr) (its : Nat → Array Value) (hval : ∀ i v, P i v → v = .ref (L i))
    (hL : ∀ i, i < n → ∃ c, IsL h0 (L i) (its i) c) (S : Addr) (hS0 : h0.get? S = none) (hSf : S ∉ fp) (pre : Nat → Array Value) (hpre : ∀ i, i < n → pre (i + 1) = pre i ++ its i) (hz : ∀ i, i ≤ n → (pre i).size ≤ sizeLine) :
    ∀ (k i : Nat) (s : Shared) (T : Addr) (cT cS : Nat), n - i = k → i ≤ n → St i s.heap → (∀ b o, h0.get? b = some o → s.heap.get? b = some o) → s.heap.get? S = some { cls := .type "list", dict := none, data := .seq #[.ref T] cS, slots := #[] } →
    IsL s.heap T (pre i) cT → T ∉ wr → T ≠ S →
    (∀ h' tk T' c, (∀ b o, h0.get? b = some o → h'.get? b = some o) → IsL h' T' (pre n) c → ((i = n ∧ T' = T) ∨ h0.get? T' = none) → R (.ok (.ret (.ref T'))) { s with heap := h', toks := tk }) →
    codeAny (model prog w) A (.builtin "sum.loop" ⟨[.ref I, .ref S, rawInt 2, rawInt 0], []⟩) R s := by
  have hSw : S ∉ wr := fun h => hSf (W.sub _ h)
  have hne : ∀ b o, h0.get? b = some o → b ∉ wr ∧ b ≠ S := fun b o e => ⟨fun m => (by rw [hw0 b m] at e; cases e), fun q => (by rw [q, hS0] at e; cases e)⟩
  intro k
  induction k with
  | zero =>
    intro i s T cT cS hk hi hst h0k hS hT hTw hTS hR
    have hin : i = n := by omega
    subst hin
    refine codeAny_builtin F.entry_sum_loop ?_
    rw [Around.under_plainId F.plain_sum_loop _]
    show wpAny _ A.in1 (seqItems? (.ref S) >>= _) _ _ s
    refine wpAny_bind (wpAny_seqItems hS rfl ?_)
    show wpAny _ A.in1 (tryCatch (pyNext (.ref I)) _ >>= _) _ _ s
    refine wpAny_bind (wpAny_tryCatch (W.done s _ _ hst fun h' tk hk' => ?_))
    exact wpAny_pure (hR h' tk T cT (fun b o e => hk' b o (hne b o e).1 (h0k b o e)) (hk' T _ hTw hT) (.inl ⟨rfl, rfl⟩))
  | succ k ih =>
    intro i s T cT cS hk hi hst h0k hS hT hTw hTS hR
    have hlt : i < n := by omega
    refine codeAny_builtin F.entry_sum_loop ?_
    rw [Around.under_plainId F.plain_sum_loop _]
    show wpAny _ A.in1 (seqItems? (.ref S) >>= _) _ _ s
    refine wpAny_bind (wpAny_seqItems hS rfl ?_)
    show wpAny _ A.in1 (tryCatch (pyNext (.ref I)) _ >>= _) _ _ s
    refine wpAny_bind (wpAny_tryCatch (W.item i s _ _ hlt hst fun v h' tk hP hst' hk' => ?_))
    obtain rfl := hval i v hP
    have hS' := hk' S _ hSw hS
    have hT' := hk' T _ hTw hT
    have h0k' : ∀ b o, h0.get? b = some o → h'.get? b = some o := fun b o e => hk' b o (hne b o e).1 (h0k b o e)
    obtain ⟨cL, hLi⟩ := hL i hlt
    have hLi' := h0k' _ _ hLi
    have hz1 := hz (i + 1) hlt
    rw [hpre i hlt, Array.size_append] at hz1
    show wpAny _ A.in1 ((holding [Value.ref (L i)] (binaryOp .Add (.ref T) (.ref (L i)))).attempt >>= _) _ _ _
    refine wpAny_bind (wpAny_attempt (wpAny_holding (_root_.PySem.P.add_list hT' hLi' ?_ hz1)))
    have hSlt : S < h'.objs.size := Heap.lt_size hS'
    have hS2 := Heap.get?_push_of_some { cls := .type "list", data := .seq (pre i ++ its i) } hS'
    show wpAny _ A.in1 (updateSeq S (fun _ => #[.ref h'.objs.size]) >>= _) _ _ _
    refine wpAny_bind (wpAny_updateSeq hS2 rfl ?_)
    have hS3 := Heap.get?_update_self (Obj.mapSeq fun _ => #[Value.ref h'.objs.size]) hS2 rfl
    refine wpAny_bind (wpAny_letGo ?_)
    have hSp : S ≠ h'.objs.size := Nat.ne_of_lt hSlt
    have keep : ∀ b o, b ≠ S → h'.get? b = some o → (((h'.push { cls := .type "list", data := .seq (pre i ++ its i) }).update S (Obj.mapSeq fun _ => #[Value.ref h'.objs.size])).update S (Obj.mapSeq fun _ => #[Value.ref h'.objs.size])).get? b = some o := fun b o hb e =>
      (Heap.get?_update_other _ _ (Ne.symm hb)).trans ((Heap.get?_update_other _ _ (Ne.symm hb)).trans (Heap.get?_push_of_some _ e))
    refine wpAny_bind (wpAny_updateSeq hS3 rfl (wpAny_pure ⟨plainId_quiet F.plain_sum_loop _, ih (i + 1) _ h'.objs.size 0 _ (by omega) hlt (W.frame _ _ _ hst' fun b hb o e => keep b o (fun h => hSf (h ▸ hb)) e) (fun b o e => keep b o (hne b o e).2 (h0k' b o e)) (Heap.get?_update_self _ hS3 rfl) ?_ ?_ (Ne.symm hSp) ?_⟩))
    · rw [hpre i hlt]
      exact (Heap.get?_update_other _ _ hSp).trans ((Heap.get?_update_other _ _ hSp).trans (Heap.get?_push_size _ rfl))
    · exact fun m => Nat.lt_irrefl _ (hsz _ _ hst' _ m)
    · intro h'' tk'' T' c'' hk'' hT'' hor
      refine hR h'' tk'' T' c'' hk'' hT'' (.inr ?_)
      rcases hor with ⟨_, rfl⟩ | q
      · cases e : h0.get? h'.objs.size with
        | none => rfl
        | some o => exact absurd (Heap.lt_size (h0k' _ _ e)) (Nat.lt_irrefl _)
      · exact q
end
section
variable {prog : Program} {w : World} {A : Around} {E : Value → Shared → Prop} {s : Shared}
theorem call_sumL {l b : Addr} {ls : List Addr} {its : Nat → Array Value} {start : Array Value} {cb : Nat} {Q : Value → Shared → Prop} (hh : A.handled = none) (hl : s.heap.IsList l (ls.map Value.ref).toArray) (hb : IsL s.heap b start cb)
    (hL : ∀ i x, ls[i]? = some x → ∃ c, IsL s.heap x (its i) c) (pre : Nat → Array Value) (hp0 : pre 0 = start) (hpre : ∀ i, i < ls.length → pre (i + 1) = pre i ++ its i) (hz : ∀ i, i ≤ ls.length → (pre i).size ≤ sizeLine)
    (h : ∀ h' tk T' c, (∀ b o, s.heap.get? b = some o → h'.get? b = some o) → IsL h' T' (pre ls.length) c → ((ls = [] ∧ T' = b) ∨ s.heap.get? T' = none) → Q (.ref T') { s with heap := h', toks := tk }) :
    wpAny (model prog w) A (call (.builtin "sum") [.ref l, .ref b]) Q E s := by
  refine call_function_tree F.kind_sum F.plain_sum F.entry_sum (args_sum2 _ _) ?_
  unfold Builtin.«sum»
  simp only [List.length_cons, List.length_nil]
  rw [if_neg (by decide)]
  refine wpAny_bind (wpAny_of_eq (show Builtin.Builtins.bindParams "sum" ["start"] 0 ⟨[.ref b], []⟩ = pure [some (.ref b)] from rfl) ?_)
  refine wpAny_bind (wpAny_pyIter_list hl ?_)
  refine wpAny_bind (wpAny_pure ?_)
  have hlt : l < s.heap.objs.size := by obtain ⟨_, e, _⟩ := hl; exact Heap.lt_size e
  have hblt : b < s.heap.objs.size := Heap.lt_size hb
  have hb1 := Heap.get?_push_of_some (h := s.heap) { cls := .type "list_iterator", data := .fields #[.ref l, .int 0 0] } hb
  simp only [List.forIn_cons, List.forIn_nil]
  refine wpAny_bind (wpAny_bind (wpAny_bind (wpAny_isInstance (T := "list") (b := false) ⟨_, hb1, rfl⟩ F.sub_list_str ?_)))
  simp only [Bool.false_eq_true, if_false]
  refine wpAny_pure (wpAny_bind (wpAny_bind (wpAny_isInstance (T := "list") (b := false) ⟨_, hb1, rfl⟩ F.sub_list_bytes ?_)))
  simp only [Bool.false_eq_true, if_false]
  refine wpAny_pure (wpAny_bind (wpAny_bind (wpAny_isInstance (T := "list") (b := false) ⟨_, hb1, rfl⟩ F.sub_list_bytearray ?_)))
  simp only [Bool.false_eq_true, if_false]
  refine wpAny_pure (wpAny_pure ?_)
  refine wpAny_bind (wpAny_newObj_type ?_)
  have hIs : s.heap.get? s.heap.objs.size = none := by
    cases e : s.heap.get? s.heap.objs.size with
    | none => rfl
    | some o => exact absurd (Heap.lt_size e) (Nat.lt_irrefl _)
  have hsz1 : (s.heap.push { cls := .type "list_iterator", data := .fields #[.ref l, .int 0 0] }).objs.size = s.heap.objs.size + 1 := Heap.size_push ..
  have hS1 : s.heap.get? (s.heap.push { cls := .type "list_iterator", data := .fields #[.ref l, .int 0 0] }).objs.size = none := by
    cases e : s.heap.get? (s.heap.push { cls := .type "list_iterator", data := .fields #[.ref l, .int 0 0] }).objs.size with
    | none => rfl
    | some o =>
      have := Heap.lt_size e
      rw [hsz1] at this
      exact absurd (Nat.lt_of_succ_lt this) (Nat.lt_irrefl _)
  have hSf : (s.heap.push { cls := .type "list_iterator", data := .fields #[.ref l, .int 0 0] }).objs.size ∉ [s.heap.objs.size, l] := by
    rw [hsz1]
    intro m
    rcases List.mem_cons.mp m with e | m
    · exact absurd e (Nat.succ_ne_self _)
    · rw [List.mem_singleton] at m
      rw [← m] at hlt
      exact Nat.lt_irrefl _ (Nat.lt_of_succ_lt hlt)
  have hb2 := Heap.get?_push_of_some { cls := .type "list", data := .seq #[Value.ref b] } hb1
  have old : ∀ c o, s.heap.get? c = some o → ((s.heap.push { cls := .type "list_iterator", data := .fields #[.ref l, .int 0 0] }).push { cls := .type "list", data := .seq #[Value.ref b] }).get? c = some o := fun c o e => Heap.get?_push_of_some _ (Heap.get?_push_of_some _ e)
  refine wpAny_pure ⟨plainId_quiet F.plain_sum_loop _, codeAny_sum_loopL s.heap (Walks.list (A := A.in1) hh s.heap.objs.size l (Nat.ne_of_lt hlt) (ls.map Value.ref).toArray) (fun c m => ?_) (fun i h st c m => ?_) (fun i h st c m => ?_) (fun i => ls.getD i 0) its (fun i v hv => ?_) (fun i hi => ?_) _ hS1 hSf pre (fun i hi => hpre i (by simpa using hi)) (fun i hi => hz i (by simpa using hi)) _ 0 _ b cb 0 rfl (Nat.zero_le _) ⟨⟨_, Heap.get?_push_of_some _ (Heap.get?_push_size _ rfl), rfl, rfl⟩, hl.push _ |>.push _⟩ old (Heap.get?_push_size _ rfl) ?_ ?_ ?_ fun h' tk T' c k1 k2 k3 => ?_⟩
  · rw [List.mem_singleton] at m
    rw [m]
    exact hIs
  · rw [List.mem_singleton] at m
    rw [m]
    obtain ⟨⟨o, e, _⟩, _⟩ := st
    exact Heap.lt_size e
  · rcases List.mem_cons.mp m with e | m
    · rw [e]
      obtain ⟨⟨o, e, _⟩, _⟩ := st
      exact Heap.lt_size e
    · rw [List.mem_singleton] at m
      rw [m]
      obtain ⟨_, ⟨o, e, _⟩⟩ := st
      exact Heap.lt_size e
  · have hv : (ls.map Value.ref).toArray[i]? = some v := hv
    rw [List.getElem?_toArray, List.getElem?_map] at hv
    cases e : ls[i]? with
    | none => rw [e] at hv; cases hv
    | some x =>
      rw [e] at hv
      cases hv
      rw [List.getD_eq_getElem?_getD, e]
      rfl
  · have hi : i < ls.length := by simpa using hi
    obtain ⟨c, e⟩ := hL i ls[i] (List.getElem?_eq_getElem hi)
    refine ⟨c, ?_⟩
    rw [List.getD_eq_getElem?_getD, List.getElem?_eq_getElem hi]
    exact e
  · rw [hp0]
    exact hb2
  · intro m
    rw [List.mem_singleton] at m
    rw [m] at hblt
    exact Nat.lt_irrefl _ hblt
  · rw [hsz1]
    intro m
    rw [m] at hblt
    exact Nat.lt_irrefl _ (Nat.lt_of_succ_lt hblt)
  · refine h h' tk T' c k1 (by simpa using k2) ?_
    rcases k3 with ⟨e, q⟩ | q
    · refine .inl ⟨?_, q⟩
      have e : 0 = ls.length := by simpa using e
      exact List.length_eq_zero_iff.mp e.symm
    · exact .inr q
end
end PySem
namespace Kt
open PySem L2 PyProof.Rows
/-- sum(lists, start) -/
def rSumL (K : PySem.W.Frag) : List V → Hp → VK → Prop := fun vs H Q => ∃ (a b : Addr) (ls : List Addr) (xss : List (List V)) (zs : List V), vs = [.ref a, .ref b] ∧ SqL K H a (ls.map V.ref) ∧ H b = some (.lst zs) ∧ Paired (fun l xs => H l = some (.lst xs)) ls xss ∧ (zs ++ xss.flatten).length ≤ sizeLine ∧
  (ls = [] → Q (.ref b) H) ∧ ∀ p, H p = none → Q (.ref p) (upd H p (.lst (zs ++ xss.flatten)))
theorem vals_app : ∀ {xs ys : List V} {us vs : List Value}, Vals xs us → Vals ys vs → Vals (xs ++ ys) (us ++ vs)
  | _, _, _, _, h1, h2 => h1.append h2
theorem vals_refs : ∀ {ls : List Addr} {us : List Value}, Vals (ls.map V.ref) us → us = ls.map Value.ref
  | [], _, h => by cases h; rfl
  | l :: ls, _, h => by
    rw [List.map_cons] at h
    cases h with
    | cons h1 h2 =>
      cases h1
      rw [vals_refs h2]
      rfl
theorem lists_at {X : Cx} {pins : List (Addr × Obj)} {σ : L2.St} {H : Hp} {s : Shared} (I : L2.Inv X pins σ H s) : ∀ {ls : List Addr} {xss : List (List V)}, Paired (fun l xs => H l = some (.lst xs)) ls xss → ∃ vss : List (List Value), vss.length = ls.length ∧ (∀ i l, ls[i]? = some l → ∃ c, IsL s.heap l (vss.getD i []).toArray c) ∧ Vals xss.flatten vss.flatten
  | _, _, .nil => ⟨[], rfl, fun i l e => by simp at e, .nil⟩
  | l :: ls, xs :: xss, .cons h t => by
    obtain ⟨vss, h1, h2, h3⟩ := lists_at I t
    obtain ⟨_, its, n, r, _, e⟩ := I.lstM h
    refine ⟨its :: vss, by rw [List.length_cons, List.length_cons, h1], fun i x ex => ?_, r.append h3⟩
    cases i with
    | zero =>
      cases ex
      exact ⟨n, e⟩
    | succ i => exact h2 i x ex
theorem cr_sumL {X : Cx} (hc : X.calm = true) : CallR X (.builtin "sum") (rSumL X.K) := by
  intro pins s σ H vs us Q I r h
  obtain ⟨a, b, ls, xss, zs, rfl, hs, hb, hp, hz, q1, q2⟩ := h
  obtain ⟨its, rv, hl, _⟩ := I.list hs
  obtain ⟨zb, itb, nb, rb, hlb, eb⟩ := I.lstM hb
  obtain rfl := vals_refs rv
  cases r with | cons r1 r2 => cases r2 with | cons r3 r4 =>
  cases r4
  cases r1
  cases r3
  obtain ⟨vss, h1, h2, h3⟩ := lists_at I hp
  have hvl := (rb.append h3).length
  have tk : ∀ i, (vss.take i).flatten.length ≤ vss.flatten.length := fun i => by
    have e : vss.flatten = (vss.take i).flatten ++ (vss.drop i).flatten := by rw [← List.flatten_append, List.take_append_drop]
    rw [e, List.length_append]
    exact Nat.le_add_right _ _
  refine call_sumL (ls := ls) (its := fun i => (vss.getD i []).toArray) (start := itb.toArray) (I.ok.hd hc) hl.isList eb h2 (fun i => (itb ++ (vss.take i).flatten).toArray) (by rw [List.take_zero, List.flatten_nil, List.append_nil]) (fun i hi => ?_) (fun i hi => ?_) fun h' tk' T' c k1 k2 k3 => ?_
  · have hi2 : i < vss.length := by rw [h1]; exact hi
    have e1 : vss.getD i [] = vss[i] := by rw [List.getD_eq_getElem?_getD, List.getElem?_eq_getElem hi2]; rfl
    have e2 : (vss.take (i + 1)).flatten = (vss.take i).flatten ++ vss[i] := by rw [List.take_add_one, List.getElem?_eq_getElem hi2, List.flatten_append]; simp
    show (itb ++ (vss.take (i + 1)).flatten).toArray = (itb ++ (vss.take i).flatten).toArray ++ (vss.getD i []).toArray
    rw [e1, e2, ← List.append_assoc]
    simp
  · rw [List.size_toArray, List.length_append]
    have e3 : (itb ++ vss.flatten).length = itb.length + vss.flatten.length := List.length_append
    have := tk i
    omega
  · rw [show ls.length = vss.length from h1.symm, List.take_length] at k2
    rcases k3 with ⟨e, rfl⟩ | k3
    · exact ⟨.ref _, H, I.kept k1, rfl, q1 e⟩
    · have hn : H T' = none := by
        cases q : H T' with
        | none => rfl
        | some o =>
          obtain ⟨u, e⟩ := objOk_get (I.hok T' o q)
          rw [k3] at e
          cases e
      exact ⟨.ref T', _, I.laidN (o := .lst (zs ++ xss.flatten)) k1 k3 hn ⟨hz, itb ++ vss.flatten, c, rb.append h3, k2⟩, rfl, q2 T' hn⟩
/-! ### over a list or a tuple -/
def iAny (K : PySem.W.Frag) (td : TE) : TI := fun σ H R => td σ H fun v H1 => ∃ a, v = .ref a ∧ (((∃ xs, SqL K H1 a xs) ∧ R (Itl K a) H1) ∨ ((∃ xs, SqT K H1 a xs) ∧ R (Itt K a) H1))
theorem pi_any {X : Cx} {tg l : Expr} {tl : TE} (hl : PE X l tl) : PI X tg l (iAny X.K tl) := by
  refine ⟨fun pins s σ H R I h => ?_⟩
  refine thn (hl.run pins s σ H _ I h) fun v s1 ⟨x, H1, I1, r1, q1⟩ => ?_
  obtain ⟨a, e, q1⟩ := q1
  subst e
  cases r1
  have fin : ∀ b ∈ [s1.heap.objs.size], FpOk X pins H1 b := fun b hb => by
    have e : b = s1.heap.objs.size := by simpa using hb
    subst e
    exact I1.fpOk (Nat.le_refl _) (I1.hok.fresh (Nat.le_refl _))
  rcases q1 with ⟨⟨xs, hq⟩, q⟩ | ⟨⟨xs, hq⟩, q⟩
  · obtain ⟨its, rv, p, hz⟩ := I1.list hq
    refine wpAny_pyIter_list p.isList ?_
    exact ⟨s1.heap.objs.size, [s1.heap.objs.size], _, _, H1, rfl, I1.kept (t' := s1.toks) fun b o e => Heap.get?_push_of_some _ e, turn_list a _, ⟨_, Heap.get?_push_size _ rfl, rfl, rfl⟩, fin, q⟩
  · obtain ⟨its, rv, p, hz⟩ := I1.tuple hq
    refine wpAny_pyIter_tuple (show s1.heap.IsTuple a its.toArray from p) ?_
    exact ⟨s1.heap.objs.size, [s1.heap.objs.size], _, _, H1, rfl, I1.kept (t' := s1.toks) fun b o e => Heap.get?_push_of_some _ e, turn_tuple a _, ⟨_, Heap.get?_push_size _ rfl, rfl, rfl⟩, fin, q⟩
theorem pi_anyK {X : Cx} (K : PySem.W.Frag) {tg l : Expr} {tl : TE} (hl : PE X l tl) (hK : X.K = K := by rfl) : PI X tg l (iAny K tl) := hK ▸ pi_any hl
section
variable {K : PySem.W.Frag} {σ : L2.St} {G H : Hp} {D : Ends} {Q : VK} {a : Addr} {xs : List V} {Ps : List SP} {g : TG} {tb : TS} {tt : TT} {te : TE} {vs : List Nat}
theorem r_iany {R : It → Hp → Prop} {tl : TE} (h : tl σ H fun x H1 => ∃ a, x = .ref a ∧ (((∃ xs, SqL K H1 a xs) ∧ R (Itl K a) H1) ∨ ((∃ xs, SqT K H1 a xs) ∧ R (Itt K a) H1))) : iAny K tl σ H R := h
theorem r_for_any (J : LW) (hsq : SqL K G a xs ∨ SqT K G a xs) (S : Sep Ps H) (h0 : J 0 σ Ps) (hl : ∀ i σ Ps H, i ≤ xs.length → J i σ Ps → Sep Ps H → Le G H)
    (hs : ∀ i x σ Ps H, xs[i]? = some x → J i σ Ps → Sep Ps H → g x σ H fun σ2 H2 => tb { D with nx := Nx J (i + 1), ct := Nx J (i + 1), bk := D.nx } σ2 H2) (hd : ∀ σ Ps H, J xs.length σ Ps → Sep Ps H → D.nx σ H) :
    ∃ a', V.ref a = .ref a' ∧ (((∃ xs, SqL K H a' xs) ∧ ForW (Itl K a') g tb D σ H) ∨ ((∃ xs, SqT K H a' xs) ∧ ForW (Itt K a') g tb D σ H)) := by
  rcases hsq with q | q
  · obtain ⟨a', e, h1, h2⟩ := r_for_list (K := K) (a := a) (D := D) J S h0 (fun i σ Ps H hi j S => SqL.le (hl i σ Ps H hi j S) q) hs hd
    exact ⟨a', e, .inl ⟨h1, h2⟩⟩
  · obtain ⟨a', e, h1, h2⟩ := r_for_tup (K := K) (a := a) (D := D) J S h0 (fun i σ Ps H hi j S => SqT.le (hl i σ Ps H hi j S) q) hs hd
    exact ⟨a', e, .inr ⟨h1, h2⟩⟩
theorem r_lc_any (J : CW) (hsq : SqL K G a xs ∨ SqT K G a xs) (S : Sep Ps H) (h0 : J 0 [] Ps) (hl : ∀ D i acc Ps H, i ≤ xs.length → J i acc Ps → Sep (pt D (.lst acc) :: Ps) H → Le G H) (hl0 : Le G H)
    (hs : ∀ D i x acc Ps H, xs[i]? = some x → J i acc Ps → Sep (pt D (.lst acc) :: Ps) H → g x (wipe σ vs) H fun σ2 H2 => wipe σ2 vs = wipe σ vs ∧ tt σ2 H2 fun b H3 =>
      if b = true then te σ2 H3 fun y H4 => ∃ acc, H4 D = some (.lst acc) ∧ acc.length < sizeLine ∧ CN J D (i + 1) (upd H4 D (.lst (acc ++ [y]))) else CN J D (i + 1) H3)
    (hd : ∀ D acc Ps H, J xs.length acc Ps → Sep (pt D (.lst acc) :: Ps) H → Q (.ref D) H) : ∃ a', V.ref a = .ref a' ∧ (((∃ xs, SqL K H a' xs) ∧ LcW (Itl K a') g tt te vs Q σ H) ∨ ((∃ xs, SqT K H a' xs) ∧ LcW (Itt K a') g tt te vs Q σ H)) := by
  rcases hsq with q | q
  · obtain ⟨a', e, h1, h2⟩ := r_lc_list (K := K) (a := a) (xs := xs) J S h0 (fun D i acc Ps H hi j S => SqL.le (hl D i acc Ps H hi j S) q) (SqL.le hl0 q) hs hd
    exact ⟨a', e, .inl ⟨h1, h2⟩⟩
  · obtain ⟨a', e, h1, h2⟩ := r_lc_tup (K := K) (a := a) (xs := xs) J S h0 (fun D i acc Ps H hi j S => SqT.le (hl D i acc Ps H hi j S) q) (SqT.le hl0 q) hs hd
    exact ⟨a', e, .inr ⟨h1, h2⟩⟩
end
/-! ### enumerate of a list; list(range(n)) -/
theorem pi_enumK {X : Cx} (K : PySem.W.Frag) {e : Expr} {ta : TA} {p pos tpos : Pos} {elts : List Expr} {kk : Nat} (hg : Gl X "enumerate") (hm : X.mg "enumerate" = none) (ha : PA X [e] ta) (hK : X.K = K := by rfl) (hs : starEach [e] X.env = [(false, eval e X.env)] := by rfl) :
    PI X (.Tuple elts kk tpos) (.Call (.Name "enumerate" p) [e] [] pos) (iEnum K ta) := hK ▸ pi_enum hg hm ha hs
section
variable {K : PySem.W.Frag} {σ : L2.St} {H : Hp} {D : Ends} {Q : VK} {a : Addr} {xs : List V} {Ps : List SP} {g : TG} {tb : TS} {tr : TA} {ta : TE}
def kEnum (K : PySem.W.Frag) (R : It → Hp → Prop) : List V → Hp → Prop := fun vs H1 => ∃ a xs, vs = [.ref a] ∧ SqL K H1 a xs ∧ R (Ite K a) H1
theorem r_ienum {R : It → Hp → Prop} (h : tr σ H (kEnum K R)) : iEnum K tr σ H R := h
theorem r_for_enum (J : LW) (S : Sep Ps H) (h0 : J 0 σ Ps) (hl : ∀ i σ Ps H, J i σ Ps → Sep Ps H → SqL K H a xs)
    (hs : ∀ i x T σ Ps H, xs[i]? = some x → J i σ Ps → Sep (pt T (.tup [.int (i : Nat), x]) :: Ps) H → g (.ref T) σ H fun σ2 H2 => tb { D with nx := Nx J (i + 1), ct := Nx J (i + 1), bk := D.nx } σ2 H2) (hd : ∀ σ Ps H, J xs.length σ Ps → Sep Ps H → D.nx σ H) :
    kEnum K (fun Jt H1 => ForW Jt g tb D σ H1) [.ref a] H := by
  refine ⟨a, xs, rfl, hl 0 σ Ps H h0 S, fun i m σ H => m = xs.length - i ∧ i ≤ xs.length ∧ Nx J i σ H, ⟨xs.length, by simp, Nat.zero_le _, Ps, h0, S⟩, ?_⟩
  rintro i m σ H ⟨rfl, hi, Ps, j, S⟩
  by_cases he : i = xs.length
  · subst he
    exact .inl ⟨⟨xs, hl _ σ Ps H j S, Nat.le_refl _⟩, hd σ Ps H j S⟩
  · have hlt : i < xs.length := by omega
    refine .inr ⟨⟨xs, xs[i], hl _ σ Ps H j S, List.getElem?_eq_getElem hlt⟩, Nx J (i + 1), fun σ' H' n => ⟨xs.length - (i + 1), by omega, rfl, by omega, n⟩, ?_⟩
    rintro x H' ⟨T, y, rfl, hT, rfl, hy⟩
    exact hs i y T σ Ps _ (hy xs (hl _ σ Ps H j S)) j (S.new _ hT)
def kLrg (Q : VK) : VK := fun x H1 => ∃ n, x = .int n ∧ (RgOk 0 n ∧ ∀ q, H1 q = none → Q (.ref q) (upd H1 q (.lst (rgV 0 n))))
theorem r_lrg (h : ta σ H (kLrg Q)) : tLstRg (tRg1 ta) σ H Q := h
theorem r_klrg {n : Nat} (S : Sep Ps H) (hn : n ≤ 100000) (h : ∀ p H', Sep (pt p (.lst ((List.range n).map fun i => V.int (i : Nat))) :: Ps) H' → Q (.ref p) H') : kLrg Q (.int n) H := by
  refine ⟨n, rfl, RgOk.of_le (Int.le_refl 0) (by omega) (by omega) (by omega), fun q nq => h q _ ?_⟩
  have e : rgV 0 (n : Int) = (List.range n).map fun i => V.int (i : Nat) := by
    unfold rgV
    rw [Int.sub_zero, Int.toNat_natCast]
    refine List.map_congr_left fun i _ => ?_
    rw [Int.zero_add]
  rw [e]
  exact S.new _ nq
end
end Kt

set_option Elab.async false
set_option linter.all false
set_option maxRecDepth 100000
namespace Kt
open PySem PySem.Spec L2 PyProof.Rows
/-! ### texts of data in which flat dicts stand -/
/-- a value that can be shown, told of the model's own heap -/
structure Shn (P : Program) (w : World) (h : Heap) (u : Value) (d : PyData) : Prop where
  rd : ∃ as, Reads h u d as
  kk : ∃ bs, ReadAtMost h d.depth bs ∧ ReprK P w bs h d.depth u d.shown
section
variable {P : Program} {w : World} {h : Heap} {u : Value} {d : PyData}
theorem shn_plain {as : List Addr} (r : Reads h u d as) (hs : d.showable = true) (hn : d.hasDict = false) (hz : d.shown.length ≤ sizeLine) : Shn P w h u d :=
  ⟨⟨as, r⟩, ReprK.of_reads r hs (fun z => by rw [hn] at z; cases z) hz⟩
theorem shn_all : ∀ {us : List Value} {ds : List PyData}, Paired (Shn P w h) us ds →
    (∃ as, ReadsAll h us ds as) ∧ ∃ bs, ReadAtMost h (PyData.depthAll ds) bs ∧ ReprAllK P w bs h (PyData.depthAll ds) us (PyData.shownAll ds)
  | _, _, .nil => ⟨⟨[], .nil⟩, [], nofun, .nil⟩
  | _, _, .cons ⟨⟨as, r⟩, b1, m1, k1⟩ t => by
    obtain ⟨⟨as2, r2⟩, b2, m2, k2⟩ := shn_all t
    refine ⟨⟨_, .cons r r2⟩, b1 ++ b2, ?_, ?_⟩
    · rw [PyData.depthAll]
      exact (m1.mono (Nat.le_max_left ..)).append (m2.mono (Nat.le_max_right ..))
    · rw [PyData.depthAll, PyData.shownAll]
      exact .cons ((k1.more fun b m => List.mem_append.mpr (.inl m)).level_le (Nat.le_max_left ..)) (k2.more_le (fun b m => List.mem_append.mpr (.inr m)) (Nat.le_max_right ..))
theorem shn_list {a : Addr} {o : Obj} {vs : Array Value} {n : Nat} {ds : List PyData} (e : h.get? a = some o) (c : o.cls = .type "list") (dt : o.data = .seq vs n) (t : Paired (Shn P w h) vs.toList ds) : Shn P w h (.ref a) (.list ds) := by
  obtain ⟨⟨as, r⟩, bs, m, k⟩ := shn_all t
  have rr := Reads.list e c dt r
  have ap : a ∉ bs := not_mem_of_deeper rr (by rw [PyData.depth]; omega) m
  refine ⟨⟨_, rr⟩, a :: bs, ReadAtMost.cons rr (by rw [PyData.depth]; omega) m, ?_⟩
  rw [PyData.depth, PyData.shown]
  obtain ⟨l⟩ := vs
  cases l with
  | nil =>
    cases (show Paired (Shn P w h) [] ds from t)
    rw [PyData.shownAll, listText_nil]
    exact ReprK.listEmpty e c dt
  | cons x l => exact ReprK.list e c dt ap (by simpa using k.length_eq) fun i y q => k.item i y (by simpa using q)
theorem shn_tuple {a : Addr} {o : Obj} {vs : Array Value} {n : Nat} {ds : List PyData} (e : h.get? a = some o) (c : o.cls = .type "tuple") (dt : o.data = .seq vs n) (t : Paired (Shn P w h) vs.toList ds) : Shn P w h (.ref a) (.tuple ds) := by
  obtain ⟨⟨as, r⟩, bs, m, k⟩ := shn_all t
  have rr := Reads.tuple e c dt r
  have ap : a ∉ bs := not_mem_of_deeper rr (by rw [PyData.depth]; omega) m
  refine ⟨⟨_, rr⟩, a :: bs, ReadAtMost.cons rr (by rw [PyData.depth]; omega) m, ?_⟩
  rw [PyData.depth, PyData.shown]
  exact ReprK.tuple e c dt ap k
theorem shn_dict {a : Addr} {o : Obj} {es : Array DictEntry} {n : Nat} {ds : List (PyData × PyData)} (e : h.get? a = some o) (c : o.cls = .type "dict") (dt : o.data = .dict es n) (sm : (a == sysModules) = false)
    (t1 : Paired (Shn P w h) (es.toList.map (·.key)) (ds.map (·.1))) (t2 : Paired (Shn P w h) (es.toList.map (·.val)) (ds.map (·.2))) : Shn P w h (.ref a) (.dict ds) ∧ ∃ bs, a ∉ bs ∧ ReprEntriesK P w bs h (PyData.depthKv ds) es.toList (PyData.shownKv ds) := by
  obtain ⟨⟨as, r⟩, bs, m, k⟩ := shn_all t1
  obtain ⟨⟨as2, r2⟩, bs2, m2, k2⟩ := shn_all t2
  have rr := Reads.dict e c dt r r2
  have mm : ReadAtMost h (PyData.depthKv ds) (bs ++ bs2) := (m.mono (PyData.depthAll_keys_le ds)).append (m2.mono (PyData.depthAll_vals_le ds))
  have ap : a ∉ bs ++ bs2 := not_mem_of_deeper rr (by rw [PyData.depth]; omega) mm
  have en : ReprEntriesK P w (bs ++ bs2) h (PyData.depthKv ds) es.toList (PyData.shownKv ds) := by
    rw [PyData.shownKv_eq]
    exact ReprEntriesK.of_two es.toList _ _ (k.more_le (fun b m => List.mem_append.mpr (.inl m)) (PyData.depthAll_keys_le ds)) (k2.more_le (fun b m => List.mem_append.mpr (.inr m)) (PyData.depthAll_vals_le ds))
  refine ⟨⟨⟨_, rr⟩, a :: (bs ++ bs2), ReadAtMost.cons rr (by rw [PyData.depth]; omega) mm, ?_⟩, bs ++ bs2, ap, en⟩
  rw [PyData.depth, PyData.shown]
  exact ReprK.dict e c dt sm ap en
end
/-! ### values that are no container, flat dicts -/
inductive Lf : V → PyData → Prop where
  | int (i : Int) (h : i.natAbs.log2 < 1920) : Lf (.int i) (.int i)
  | str (x : Str) (h : (PyData.str x).shown.length ≤ sizeLine) : Lf (.str x) (.str x)
  | bl (b : Bool) : Lf (.bl b) (.bool b)
  | non : Lf .non .none
def keyD : Key → PyData
  | .inl i => .int i
  | .inr x => .str x
/-- the entries of a dict, as data -/
abbrev KvD : List (Key × V) → List (PyData × PyData) → Prop := Paired fun kv p => Lf (kV kv.1) p.1 ∧ Lf kv.2 p.2
section
variable {P : Program} {w : World} {h : Heap}
theorem Lf.shn {v : V} {u : Value} {d : PyData} (l : Lf v d) (r : RelV v u) : Shn P w h u d := by
  cases l with
  | int i hi =>
    obtain ⟨t, rfl⟩ := r
    refine ⟨⟨_, .int i t⟩, [], nofun, ?_⟩
    rw [PyData.shown]
    exact .of_is (ReprIs.int t hi) _ _ _
  | str x hx =>
    obtain ⟨t, rfl⟩ := r
    refine ⟨⟨_, .str x t⟩, [], nofun, ?_⟩
    rw [PyData.shown] at hx ⊢
    exact .of_is (ReprIs.str x t hx) _ _ _
  | bl b =>
    cases r
    refine ⟨⟨_, .bool b⟩, [], nofun, ?_⟩
    rw [PyData.shown]
    exact .of_is (ReprIs.bool b) _ _ _
  | non =>
    cases r
    refine ⟨⟨_, .none⟩, [], nofun, ?_⟩
    rw [PyData.shown]
    exact .of_is ReprIs.none _ _ _
theorem key_rel {k : Key} {u : Value} (e : keyIs k u = true) : RelV (kV k) u := by
  rcases keyIs_shape e with ⟨i, t, rfl, rfl⟩ | ⟨x, t, rfl, rfl⟩
  · exact ⟨t, rfl⟩
  · exact ⟨t, rfl⟩
theorem kv_shn : ∀ {es : List DictEntry} {vs : List (Key × Value)} {kvs : List (Key × V)} {ds : List (PyData × PyData)}, Pairs (mixKind P w) es vs → KV kvs vs → KvD kvs ds →
    Paired (Shn P w h) (es.map (·.key)) (ds.map (·.1)) ∧ Paired (Shn P w h) (es.map (·.val)) (ds.map (·.2))
  | _, _, _, _, .nil, .nil, .nil => ⟨.nil, .nil⟩
  | _, _, _, _, .cons hk hv t, .cons ⟨e, r⟩ t2, .cons ⟨l1, l2⟩ t3 => by
    obtain ⟨a, b⟩ := kv_shn t t2 t3
    refine ⟨.cons (l1.shn ?_) a, .cons (l2.shn ?_) b⟩
    · rw [e]; exact key_rel hk
    · show RelV _ (DictEntry.val _)
      rw [hv]; exact r
end
/-! ### as parts of the abstract heap -/
/-- a value that is data: no dict in it, or a flat dict itself -/
inductive Dx (K : PySem.W.Frag) (H : Hp) : V → PyData → Prop where
  | dp {v : V} {d : PyData} (h : Dp K H v d) (hs : d.showable = true) (hn : d.hasDict = false) (hz : d.shown.length ≤ sizeLine) : Dx K H v d
  | dct {a : Addr} {kvs : List (Key × V)} {ds : List (PyData × PyData)} (e : Rd H a (.dK kvs)) (t : KvD kvs ds) : Dx K H (.ref a) (.dict ds)
section
variable {X : Cx} {pins : List (Addr × Obj)} {σ : L2.St} {H : Hp} {s : Shared}
theorem dct_obj {a : Addr} {kvs : List (Key × V)} {ds : List (PyData × PyData)} (I : Inv X pins σ H s) (e : Rd H a (.dK kvs)) (t : KvD kvs ds) :
    ∃ o es n, s.heap.get? a = some o ∧ o.cls = .type "dict" ∧ o.data = .dict es n ∧ (a == sysModules) = false ∧ Paired (Shn X.prog X.w s.heap) (es.toList.map (·.key)) (ds.map (·.1)) ∧ Paired (Shn X.prog X.w s.heap) (es.toList.map (·.val)) (ds.map (·.2)) := by
  obtain ⟨_, sm, vs, r, o, es, ep, ho, hx, hd, _, pr, _⟩ := dk_rd I.hok e
  obtain ⟨a1, a2⟩ := kv_shn (h := s.heap) pr r t
  exact ⟨o, es, ep, ho, hx.1, hd, sm, a1, a2⟩
theorem Dx.shn {v : V} {u : Value} {d : PyData} (I : Inv X pins σ H s) (x : Dx X.K H v d) (r : RelV v u) : Shn X.prog X.w s.heap u d := by
  cases x with
  | dp h hs hn hz =>
    obtain ⟨as, rd⟩ := Dp.reads I d _ _ h r
    exact shn_plain rd hs hn hz
  | dct e t =>
    cases r
    obtain ⟨o, es, n, ho, hc, hd, sm, a1, a2⟩ := dct_obj I e t
    exact (shn_dict ho hc hd sm a1 a2).1
theorem dx_all (I : Inv X pins σ H s) : ∀ {vs : List V} {us : List Value} {ds : List PyData}, Vals vs us → Paired (Dx X.K H) vs ds → Paired (Shn X.prog X.w s.heap) us ds
  | _, _, _, .nil, .nil => .nil
  | _, _, _, .cons r t, .cons x t2 => .cons (x.shn I r) (dx_all I t t2)
/-- repr of a list of data with flat dicts among it; of a flat dict -/
def cReprX (K : PySem.W.Frag) : List V → Hp → VK → Prop := fun xs H Q => cRepr K xs H Q ∨
  (∃ (a : Addr) (vs : List V) (ds : List PyData), xs = [.ref a] ∧ SqL K H a vs ∧ Paired (Dx K H) vs ds ∧ PyData.depthAll ds ≤ 50 ∧ (PyData.list ds).shown.length ≤ sizeLine ∧ Q (.str (PyData.list ds).shown) H) ∨
  (∃ (a : Addr) (kvs : List (Key × V)) (ds : List (PyData × PyData)), xs = [.ref a] ∧ Rd H a (.dK kvs) ∧ KvD kvs ds ∧ PyData.depthKv ds ≤ 50 ∧ (PyData.dict ds).shown.length ≤ sizeLine ∧ Q (.str (PyData.dict ds).shown) H)
theorem call_reprX (hg : X.A.guards = some []) (hu : X.A.units + 64 < cLine) : CallR X (.builtin "repr") (cReprX X.K) := by
  intro pins s σ H xs us Q I r h
  rcases h with h | ⟨a, vs, ds, rfl, sq, t, dp, hz, q⟩ | ⟨a, kvs, ds, rfl, e, t, dp, hz, q⟩
  · exact call_reprA hg hu pins s σ H xs us Q I r h
  · obtain ⟨u, rfl, r1⟩ := vals1 r
    cases r1
    obtain ⟨its, rv, ⟨o, n, ho, hc, _, hd⟩, _⟩ := I.list sq
    obtain ⟨⟨as, rs⟩, bs, m, k⟩ := shn_all (dx_all I rv t)
    have rr := Reads.list (vs := its.toArray) ho hc hd (by simpa using rs)
    have ap : a ∉ bs := not_mem_of_deeper rr (by rw [PyData.depth]; omega) m
    rw [PyData.shown] at hz q
    refine call_repr_slot (by omega) ⟨o, ho, hc⟩ PySem.F.slot_list_repr.toG ?_
    cases its with
    | nil =>
      cases rv
      cases t
      rw [PyData.shownAll, listText_nil] at q
      exact call_list_repr_empty ⟨o, ho, hc⟩ ho hd ⟨_, _, rfl, .str "[]", H, I.tok _, ⟨_, rfl⟩, q⟩
    | cons x l =>
      exact call_list_reprK ho hc hd ap (by simpa using k.length_eq) (fun i y q => k.item i y (by simpa using q)) (A := X.A.in1) hg (fun b _ => Clear.nil b) (by show X.A.units + 1 + (PyData.depthAll ds + 1) < cLine; omega) (fun _ _ e => e) (fun h' u tk hk => ⟨_, _, rfl, .str _, H, I.kept hk, ⟨u, rfl⟩, q⟩) hz
  · obtain ⟨u, rfl, r1⟩ := vals1 r
    cases r1
    obtain ⟨o, es, n, ho, hc, hd, sm, a1, a2⟩ := dct_obj I e t
    obtain ⟨_, bs, ap, en⟩ := shn_dict ho hc hd sm a1 a2
    rw [PyData.shown] at hz q
    refine call_repr_slot (by omega) ⟨o, ho, hc⟩ PySem.F.slot_dict_repr ?_
    exact call_dict_reprK ho hc hd sm ap en (A := X.A.in1) hg (fun b _ => Clear.nil b) (by show X.A.units + 1 + (PyData.depthKv ds + 1) < cLine; omega) (fun _ _ e => e) (fun h' u tk hk => ⟨_, _, rfl, .str _, H, I.kept hk, ⟨u, rfl⟩, q⟩) hz
end
end Kt

set_option Elab.async false
set_option linter.all false
set_option maxRecDepth 100000
namespace Kt
open PySem L2 PyProof.Rows
/-! ### pieces of tuples, as long as may be; pieces from the midst of lists -/
section
variable {K : PySem.W.Frag} {H G : Hp} {Q : VK} {a : Addr} {xs : List V} {Ps R : List SP} {ds : List PyData}
theorem r_preA {n : Nat} (S : Sep Ps H) (s : SqT K H a xs) (q : ∀ p H', Sep Ps H' → SqT K H' p (xs.take n) → Q (.ref p) H') : kSlA K Q (.ref a) none (some (n : Int)) H := by
  rcases Nat.lt_or_ge n xs.length with h | h
  · exact r_preT S s h fun p H' S => q p H' S.tl (SqT.of S.hd_at)
  · have e : HT.sIx xs.length xs.length (some (n : Int)) = xs.length := by
      unfold HT.sIx
      simp only
      rw [if_neg (by omega), Int.toNat_natCast]
      omega
    refine ⟨a, xs, rfl, s, fun _ => q a H S (by rw [List.take_of_length_le h]; exact s), fun z => absurd ⟨rfl, e⟩ z⟩
theorem r_sufA {n : Nat} (S : Sep Ps H) (s : SqT K H a xs) (q : ∀ p H', Sep Ps H' → SqT K H' p (xs.drop n) → Q (.ref p) H') : kSlA K Q (.ref a) (some (n : Int)) none H := by
  by_cases h : 0 < n ∧ 0 < xs.length
  · exact r_sufT S s h.1 h.2 fun p H' S => q p H' S.tl (SqT.of S.hd_at)
  · have e : HT.sIx xs.length 0 (some (n : Int)) = 0 := by
      unfold HT.sIx
      simp only
      rw [if_neg (by omega), Int.toNat_natCast]
      omega
    have e2 : xs.drop n = xs := by
      by_cases z : n = 0
      · subst z; rfl
      · have : xs = [] := List.length_eq_zero_iff.mp (by omega)
        rw [this, List.drop_nil]
    refine ⟨a, xs, rfl, s, fun _ => q a H S (by rw [e2]; exact s), fun z => absurd ⟨e, rfl⟩ z⟩
theorem cut_mid {i j : Nat} (h : i ≤ j) : cutV xs (some (i : Int)) (some (j : Int)) = (xs.take j).drop i := by
  unfold cutV HT.sIx
  simp only
  rw [if_neg (by omega), if_neg (by omega), Int.toNat_natCast, Int.toNat_natCast, List.drop_take]
  rcases Nat.le_total i xs.length with h1 | h1
  · rw [Nat.min_eq_left h1]
    rcases Nat.le_total j xs.length with h2 | h2
    · rw [Nat.min_eq_left h2]
    · rw [Nat.min_eq_right h2, List.take_of_length_le (by rw [List.length_drop]; omega), List.take_of_length_le (by rw [List.length_drop]; omega)]
  · rw [Nat.min_eq_right h1, List.drop_eq_nil_of_le (Nat.le_refl _), List.take_nil, List.drop_eq_nil_of_le h1, List.take_nil]
theorem r_midD {i j : Nat} (S : Sep (hp G :: R) H) (hx : Dp K G (.ref a) (.list ds)) (hij : i ≤ j) (h : ∀ p G' H', Le G G' → LD K G' p ((ds.take j).drop i) → Sep (hp G' :: R) H' → Q (.ref p) H') : kSl K Q (.ref a) (some (i : Int)) (some (j : Int)) H := by
  obtain ⟨a', vs, e, hs, hv⟩ := dp_lstInv hx
  cases e
  refine r_ksl S (hp_sqL S hs) fun p H' S => ?_
  rw [cut_mid hij] at S
  obtain ⟨G', le, hd, S⟩ := hp_LD S (dpall_drop i (dpall_take j hv))
  exact h p G' H' le hd S
end
end Kt

set_option Elab.async false
set_option linter.all false
set_option maxRecDepth 100000
namespace Kt
open PySem PySem.Spec L2 PyProof.Rows
/-! ### dict(zip(xs, ys)), d.update(e) -/
theorem zip_rel {P : Program} {w : World} : ∀ {kvs : List (Key × V)} {is js : List Value}, Vals (kvs.map fun kv => kV kv.1) is → Vals (kvs.map (·.2)) js →
    ∃ rs : List (Key × Value), KV kvs rs ∧ rs.length = is.length ∧ rs.length = js.length ∧ ∀ (i : Nat) (key v : Value), is[i]? = some key → js[i]? = some v → ∃ k, rs[i]? = some (k, v) ∧ (mixKind P w).is k key = true
  | [], _, _, r, q => by
    rw [List.map_nil] at r q
    cases r
    cases q
    exact ⟨[], .nil, rfl, rfl, fun i key v h => by cases h⟩
  | p :: kvs, _, _, r, q => by
    rw [List.map_cons] at r q
    cases r with
    | @cons _ a _ as h t =>
      cases q with
      | @cons _ b _ bs h2 t2 =>
        obtain ⟨rs, c, l1, l2, q⟩ := zip_rel (P := P) (w := w) t t2
        refine ⟨(p.1, b) :: rs, .cons ⟨rfl, h2⟩ c, by simp [l1], by simp [l2], fun i key v e1 e2 => ?_⟩
        cases i with
        | zero =>
          cases e1
          cases e2
          exact ⟨p.1, rfl, kV_is h⟩
        | succ i => exact q i key v e1 e2
def tDZip (K : PySem.W.Frag) (ta : TA) : TE := fun σ H Q => ta σ H fun vs H1 => ∃ (a b : Addr) (kvs : List (Key × V)), vs = [.ref a, .ref b] ∧ SqL K H1 a (kvs.map fun kv => kV kv.1) ∧ SqL K H1 b (kvs.map (·.2)) ∧ kvs.length ≤ 100000 ∧
  ∀ p, H1 p = none → Q (.ref p) (upd H1 p (.dK (mergeK [] kvs)))
theorem pe_dzip {X : Cx} {e e2 : Expr} {ta : TA} {p p2 pos pos2 : Pos} (hcalm : X.calm = true) (hgd : Gl X "dict") (hmd : X.mg "dict" = none) (hgz : Gl X "zip") (hmz : X.mg "zip" = none) (ha : PA X [e, e2] ta)
    (hs : starEach [e, e2] X.env = (false, eval e X.env) :: starEach [e2] X.env := by rfl) (hpl : (backTo pos2 (starEach [e2] X.env)).any (·.1) = false := by rfl)
    (hs1 : starEach [.Call (.Name "zip" p2) [e, e2] [] pos2] X.env = (false, eval (.Call (.Name "zip" p2) [e, e2] [] pos2) X.env) :: starEach [] X.env := by rfl)
    (hpl1 : (backTo pos (starEach [] X.env)).any (·.1) = false := by rfl) :
    PE X (.Call (.Name "dict" p) [.Call (.Name "zip" p2) [e, e2] [] pos2] [] pos) (tDZip X.K ta) := by
  refine ⟨fun pins s σ H Q I h => ?_⟩
  refine wpAny_Call_Name_kw (ld_blt I hgd hmd boot_dict ?_ (by decide) (by decide))
  refine PyProof.Rows.callWith_type1 ?_ hs1 hpl1
  rw [hs1]
  show wpAny _ _ (spliced ((false, eval (.Call (.Name "zip" p2) [e, e2] [] pos2) X.env) :: backTo pos (starEach [] X.env))) _ _ s
  refine Calls.spliced_cons ?_
  refine wpAny_Call_Name_kw (ld_blt I hgz hmz PyProof.Rows.boot_zip ?_ (by decide) (by decide))
  refine PyProof.Rows.callWith_type1 (thn (ha.run pos2 pins s σ H _ I h) fun us s1 ⟨vs, H1, I1, r1, q1⟩ => ?_) hs hpl
  obtain ⟨a, b, kvs, ex, hqx, hqy, hl, q⟩ := q1
  subst ex
  cases r1 with
  | cons r rr =>
    cases rr with
    | cons r' rr =>
      cases rr
      cases r
      cases r'
      obtain ⟨its, rv, p1, _⟩ := I1.list hqx
      obtain ⟨its2, rv2, p2', _⟩ := I1.list hqy
      have la : a < s1.heap.objs.size := p1.lt
      have lb : b < s1.heap.objs.size := p2'.lt
      obtain ⟨rs, rel, l1, l2, hrs⟩ := zip_rel (P := X.prog) (w := X.w) rv rv2
      refine call_zip_2 p1.isList p2'.isList fun h' hz hTI hTO h1 h2 hsz hk => Calls.spliced_nil ?_
      refine call_dict_pairs (knd := mixKind X.prog X.w) (kvs := rs) (PairArg.zip _ _ _ _ _ _ _ (PySem.W.ktu_apart s1.heap.objs.size a b la lb) its.toArray its2.toArray) (I.ok.hd hcalm)
        ⟨hz, hTI, ⟨_, _, hTO⟩, h1, h2, p1.isList.at fun o e => hk _ o e, p2'.isList.at fun o e => hk _ o e⟩ ⟨?_, ?_⟩ ?_ fun h'' tk hd' hk' => ?_
      · simp [l1.symm, ← l2]
      · rintro i key v ⟨e1, e2⟩
        exact hrs i key v (by simpa using e1) (by simpa using e2)
      · have h1 := rel.length
        have : sizeLine = 16777216 := by decide
        simp only [List.size_toArray]
        omega
      · have hm : (h'.objs.size == sysModules) = false := beq_eq_false_iff_ne.mpr (Nat.ne_of_gt (Nat.lt_of_lt_of_le I1.big (by rw [hsz]; exact Nat.le_add_right _ _)))
        have hlen : (mergeK [] kvs).length ≤ sizeLine := by
          refine Nat.le_trans (length_mergeK kvs []) ?_
          have : sizeLine = 16777216 := by decide
          rw [List.length_nil]
          omega
        refine ⟨.ref h'.objs.size, upd H1 h'.objs.size (.dK (mergeK [] kvs)), I1.laid (t' := tk) (fun c o e => hk' c o (fun m => ?_) (hk c o e)) (by omega) ⟨hlen, hm, merged [] rs, KV.merge rel .nil, hd'⟩, rfl, q _ (I1.hok.fresh (by omega))⟩
        have hlt := Heap.lt_size e
        have hge : s1.heap.objs.size ≤ c := by
          simp only [List.mem_cons, List.not_mem_nil, or_false] at m
          rcases m with z | z | z | z <;> rw [z] <;> first | exact Nat.le_refl _ | exact Nat.le_add_right _ _
        exact Nat.lt_irrefl _ (Nat.lt_of_lt_of_le hlt hge)
def tDUpd (td ty : TE) : TE := fun σ H Q => td σ H fun x H1 => ∃ a, x = .ref a ∧ IsD H1 a ∧ ty σ H1 fun y H2 => ∃ b kvs more, y = .ref b ∧ a ≠ b ∧ H2 a = some (.dK kvs) ∧ Rd H2 b (.dK more) ∧ kvs.length + more.length ≤ 100000 ∧ Q .non (upd H2 a (.dK (mergeK kvs more)))
theorem pe_dupd {X : Cx} {o e : Expr} {apos cpos : Pos} {td ty : TE} (ho : PE X o td) (he : PE X e ty) (m : M1 X o "update" apos e cpos) : PE X (.Call (.Attribute o "update" apos) [e] [] cpos) (tDUpd td ty) := by
  refine ⟨fun pins s σ H Q I h => ?_⟩
  refine wpAny_Call_method m.base m.few m.line PySem.F.plainAttrs_dict PySem.F.slot_dict_update PySem.F.type_dict_update (thn (ho.run pins s σ H _ I h) fun u s1 ⟨x, H1, I1, rx, a, ex, d, q1⟩ => ?_)
  subst ex
  obtain rfl : u = Value.ref a := rx
  obtain ⟨t1, t2, _⟩ := isD_at I1 d
  refine ⟨t1, t2, ?_⟩
  rw [m.trees]
  refine Calls.callWith_builtin rfl (Calls.evalArgs_plain (Calls.spliced_cons (thn (he.run pins s1 σ H1 _ I1 q1) fun iv s2 ⟨y, H2, I2, ry, b, kvs, more, ey, ne, ea, eb, hl, q2⟩ => Calls.spliced_nil ?_)))
  subst ey
  obtain rfl : iv = Value.ref b := ry
  obtain ⟨z, hd, vs, rel, dd⟩ := dk_of I2.hok ea
  obtain ⟨z2, hd2, vs2, rel2, dd2⟩ := dk_rd I2.hok eb
  have hsz : sizeLine = 16777216 := by decide
  refine call_meetsIn PySem.F.slot_dict_update dd.typeIs PySem.F.entry_dict_update (PySem.F.args_dict_update_2 _ _) (meets_dict_update (mixKind X.prog X.w) a b ne hd2) ⟨vs, vs2, dd, dd2, by rw [← rel.length, ← rel2.length]; omega, fun h' dd' dd2' hs => ?_⟩
  have hz : (mergeK kvs more).length ≤ sizeLine := by
    have := length_mergeK more kvs
    omega
  have hex : ∃ q, h'.get? a = some q := let ⟨q, _, _, hq, _⟩ := dd'; ⟨q, hq⟩
  exact ⟨.non, _, d_write I2 (by rw [ea]; exact True.intro) hs hex (dk_new hz hd (rel2.merge rel) dd'), rfl, q2⟩
end Kt

set_option Elab.async false
set_option linter.all false
set_option maxRecDepth 100000
namespace Kt
open PySem L2 PyProof.Rows
/-! ### dicts whose keys are texts: what stands in them -/
section
variable {β : Type} {f : β → V}
def encG (f : β → V) (l : List (Str × β)) : List (Key × V) := l.map fun e => (kS e.1, f e.2)
theorem encG_len (l : List (Str × β)) : (encG f l).length = l.length := List.length_map ..
theorem encK_G (l : Rk) : encK l = encG V.int l := rfl
def lkG (l : List (Str × β)) (p : Str) : Option β := (l.find? fun e => decide (e.1 = p)).map (·.2)
theorem valV_G (l : List (Str × β)) (p : Str) : valV (encG f l) (kS p) = (lkG l p).map f := by
  unfold valV lkG encG
  rw [List.find?_map]
  have e : ((fun kv : Key × V => decide (kv.1 = kS p)) ∘ fun e : Str × β => (kS e.1, f e.2)) = fun e : Str × β => decide (e.1 = p) := by
    funext e
    exact decide_eq_decide.mpr ⟨fun h => Sum.inr.inj h, fun h => congrArg kS h⟩
  rw [e]
  cases (l.find? fun e => decide (e.1 = p)) <;> rfl
theorem lkG_mem {l : List (Str × β)} {p : Str} {y : β} (h : lkG l p = some y) : (p, y) ∈ l := by
  unfold lkG at h
  cases e : l.find? fun e => decide (e.1 = p) with
  | none => rw [e] at h; cases h
  | some z =>
    rw [e] at h
    have h1 := List.find?_some e
    have h2 := List.mem_of_find?_eq_some e
    obtain ⟨z1, z2⟩ := z
    cases h
    rw [← of_decide_eq_true h1]
    exact h2
/-- the merge of two of them -/
theorem merge_G : ∀ (m l : List (Str × β)), ∃ l', mergeK (encG f l) (encG f m) = encG f l' ∧ ((l.map Prod.fst).Nodup → (l'.map Prod.fst).Nodup) ∧ (∀ e ∈ l', e ∈ l ∨ e ∈ m) ∧ (∀ p, p ∈ l'.map Prod.fst ↔ p ∈ l.map Prod.fst ∨ p ∈ m.map Prod.fst) ∧ l'.length ≤ l.length + m.length
  | [], l => ⟨l, rfl, id, fun e h => .inl h, fun p => ⟨.inl, fun z => z.elim id fun y => by cases y⟩, by simp⟩
  | (p, v) :: m, l => by
    by_cases h : p ∈ l.map Prod.fst
    · have e1 : putK (encG f l) (kS p) (f v) = encG f (l.map fun e => if e.1 = p then (e.1, v) else e) := by
        unfold putK
        rw [if_pos]
        · unfold encG
          rw [List.map_map, List.map_map]
          refine List.map_congr_left fun e m => ?_
          show (if kS e.1 = kS p then (kS e.1, f v) else (kS e.1, f e.2)) = (kS (if e.1 = p then (e.1, v) else e).1, f (if e.1 = p then (e.1, v) else e).2)
          by_cases z : e.1 = p
          · rw [if_pos (congrArg kS z), if_pos z]
          · rw [if_neg (fun (y : kS e.1 = kS p) => z (Sum.inr.inj y)), if_neg z]
        · obtain ⟨e, me, he⟩ := List.mem_map.mp h
          exact List.any_eq_true.mpr ⟨(kS e.1, f e.2), List.mem_map.mpr ⟨e, me, rfl⟩, decide_eq_true (congrArg kS he)⟩
      have keys : (l.map fun e => if e.1 = p then (e.1, v) else e).map Prod.fst = l.map Prod.fst := by
        rw [List.map_map]
        refine List.map_congr_left fun e m => ?_
        show (if e.1 = p then (e.1, v) else e).1 = e.1
        split <;> rfl
      obtain ⟨l', a, b, c, d, g⟩ := merge_G m (l.map fun e => if e.1 = p then (e.1, v) else e)
      refine ⟨l', ?_, fun n => b (by rw [keys]; exact n), fun e he => ?_, fun q => ?_, by rw [List.length_map] at g; rw [List.length_cons]; omega⟩
      · show mergeK (putK (encG f l) (kS p) (f v)) (encG f m) = _
        rw [e1, a]
      · rcases c e he with z | z
        · obtain ⟨y, my, rfl⟩ := List.mem_map.mp z
          by_cases k : y.1 = p
          · rw [if_pos k, k]
            exact .inr List.mem_cons_self
          · rw [if_neg k]
            exact .inl my
        · exact .inr (List.mem_cons_of_mem _ z)
      · rw [d q, keys, List.map_cons, List.mem_cons]
        constructor
        · rintro (z | z)
          · exact .inl z
          · exact .inr (.inr z)
        · rintro (z | rfl | z)
          · exact .inl z
          · exact .inl h
          · exact .inr z
    · have e1 : putK (encG f l) (kS p) (f v) = encG f (l ++ [(p, v)]) := by
        unfold putK
        rw [if_neg]
        · unfold encG
          rw [List.map_append]
          rfl
        · intro q
          obtain ⟨kv, m, hd⟩ := List.any_eq_true.mp q
          obtain ⟨e, me, rfl⟩ := List.mem_map.mp m
          exact h (Sum.inr.inj (of_decide_eq_true hd) ▸ List.mem_map_of_mem (f := Prod.fst) me)
      obtain ⟨l', a, b, c, d, g⟩ := merge_G m (l ++ [(p, v)])
      refine ⟨l', ?_, fun n => b ?_, fun e he => ?_, fun q => ?_, by rw [List.length_append] at g; rw [List.length_cons]; simp at g; omega⟩
      · show mergeK (putK (encG f l) (kS p) (f v)) (encG f m) = _
        rw [e1, a]
      · rw [List.map_append]
        exact List.nodup_append.mpr ⟨n, by simp, fun x mx y my e => h (by rw [List.mem_singleton.mp my] at e; have e : x = p := e; exact e ▸ mx)⟩
      · rcases c e he with z | z
        · rcases List.mem_append.mp z with z | z
          · exact .inl z
          · exact .inr (List.mem_cons.mpr (.inl (List.mem_singleton.mp z)))
        · exact .inr (List.mem_cons_of_mem _ z)
      · rw [d q, List.map_append, List.mem_append]
        show (_ ∨ q ∈ [p]) ∨ _ ↔ _ ∨ q ∈ p :: m.map Prod.fst
        rw [List.mem_singleton, List.mem_cons, or_assoc]
end
section
variable {K : PySem.W.Frag} {σ : L2.St} {G H : Hp} {Q : VK} {d b : Addr} {kvs : List (Key × V)} {ty tx : TE} {x y z : V} {R Ps : List SP} {p : Str} {l : Rk} {ls : List (Str × Str)} {iv : Nat}
theorem encG_pr {β : Type} {f : β → V} {en : β → PyData} (hf : ∀ {v y}, Dp K G v (en y) → v = f y) : ∀ {l : List (Str × β)} {vs : List V}, DpAll K G vs (l.map fun e => PyData.tuple [.str e.1, en e.2]) → ∃ ps : List Addr, vs = ps.map V.ref ∧ Paired (fun p kv => SqT K G p [kV kv.1, kv.2]) ps (encG f l)
  | [], vs, h => by cases h; exact ⟨[], rfl, .nil⟩
  | e :: l, vs, h => by
    cases h with
    | cons h t =>
      obtain ⟨ps, rfl, pp⟩ := encG_pr (f := f) (en := en) hf t
      obtain ⟨a, xs, rfl, hs, ha⟩ := dp_tupInv (ds := [.str e.1, en e.2]) h
      cases ha with
      | cons h1 t1 =>
        cases t1 with
        | cons h2 t2 =>
          cases t2
          cases dp_strInv h1
          rw [hf h2] at hs
          exact ⟨a :: ps, rfl, .cons hs pp⟩
/-- dict(xs) of a list of pairs, keys may come twice -/
theorem r_dictG {β : Type} {f : β → V} {en : β → PyData} (hf : ∀ {v y}, Dp K G v (en y) → v = f y) {l : List (Str × β)} {a : Addr} (S : Sep (hp G :: R) H) (h : Dp K G (.ref a) (.list (l.map fun e => PyData.tuple [.str e.1, en e.2])))
    (q : ∀ p l' H', (l'.map Prod.fst).Nodup → (∀ e ∈ l', e ∈ l) → (∀ k, k ∈ l'.map Prod.fst ↔ k ∈ l.map Prod.fst) → l'.length ≤ l.length → Sep (pt p (.dK (encG f l')) :: hp G :: R) H' → Q (.ref p) H') : rDictP K [.ref a] H Q := by
  obtain ⟨a', vs, e, hs, hx⟩ := dp_lstInv h
  cases e
  obtain ⟨ps, rfl, hpp⟩ := encG_pr (f := f) (en := en) hf hx
  refine ⟨a, ps, encG f l, rfl, hp_sqL S hs, paired_imp (fun p kv => hp_sqT S) hpp, fun p np => ?_⟩
  obtain ⟨l', e, n, c, k, g⟩ := merge_G (f := f) l []
  rw [show mergeK [] (encG f l) = encG f l' from e]
  exact q p l' _ (n List.nodup_nil) (fun e m => (c e m).elim (fun z => by cases z) id) (fun x => (k x).trans ⟨fun z => z.elim (fun y => by cases y) id, .inr⟩) (by simpa using g) (S.new _ np)
def kDG (Q : VK) (d : Addr) (y z : V) (H : Hp) : Prop := ∃ o, DGet H d y o ∧ Q (o.getD z) H
theorem r_dget2 (hv : σ[iv]? = some (some (.ref d))) (e : Rd H d (.dK kvs)) (h : ty σ H fun y H2 => tx σ H2 fun z H3 => kDG Q d y z H3) : tDGet2 (tVar iv) ty tx σ H Q := q_var hv ⟨d, rfl, .inl ⟨kvs, e⟩, h⟩
theorem r_dget1 (hv : σ[iv]? = some (some (.ref d))) (e : Rd H d (.dK kvs)) (h : ty σ H fun y H2 => kDG Q d y .non H2) : tDGet1 (tVar iv) ty σ H Q := q_var hv ⟨d, rfl, .inl ⟨kvs, e⟩, h⟩
theorem r_dgS (e : Rd H d (.dK (encG V.str ls))) (q : Q (.str ((lkG ls p).getD p)) H) : kDG Q d (.str p) (.str p) H := by
  refine ⟨_, .inl ⟨_, kS p, e, rfl, rfl⟩, ?_⟩
  rw [valV_G]
  cases h : lkG ls p with
  | none => rw [h] at q; exact q
  | some y => rw [h] at q; exact q
theorem r_dgK (e : Rd H d (.dK (encK l))) (q : Q (vOptI (rkGet l p)) H) : kDG Q d (.str p) .non H := by
  refine ⟨_, .inl ⟨_, kS p, e, rfl, rfl⟩, ?_⟩
  rw [valV_enc]
  cases h : rkGet l p with
  | none => rw [h] at q; exact q
  | some y => rw [h] at q; exact q
def kDUpd (Q : VK) (d : Addr) (y : V) (H2 : Hp) : Prop := ∃ b kvs more, y = .ref b ∧ d ≠ b ∧ H2 d = some (.dK kvs) ∧ Rd H2 b (.dK more) ∧ kvs.length + more.length ≤ 100000 ∧ Q .non (upd H2 d (.dK (mergeK kvs more)))
theorem r_dupd (hv : σ[iv]? = some (some (.ref d))) (e : Rd H d (.dK kvs)) (h : ty σ H fun y H2 => kDUpd Q d y H2) : tDUpd (tVar iv) ty σ H Q := q_var hv ⟨d, rfl, .inl ⟨kvs, e⟩, h⟩
theorem r_updS {l m : List (Str × Str)} (S : Sep (pt d (.dK (encG V.str l)) :: pt b (.dK (encG V.str m)) :: R) H) (hl : l.length + m.length ≤ 1000)
    (q : ∀ l' H', ((l.map Prod.fst).Nodup → (l'.map Prod.fst).Nodup) → (∀ e ∈ l', e ∈ l ∨ e ∈ m) → l'.length ≤ l.length + m.length → Sep (pt d (.dK (encG V.str l')) :: pt b (.dK (encG V.str m)) :: R) H' → Q .non H') : kDUpd Q d (.ref b) H := by
  obtain ⟨l', e, n, c, k, g⟩ := merge_G (f := V.str) m l
  refine ⟨b, _, _, rfl, S.ne, S.hd_at, .inl S.tl.hd_at, by rw [encG_len, encG_len]; omega, ?_⟩
  rw [e]
  exact q l' _ n c g (S.hd_set _)
theorem r_dzip {ta : TA} (h : ta σ H fun vs H1 => ∃ (a b : Addr) (kvs : List (Key × V)), vs = [.ref a, .ref b] ∧ SqL K H1 a (kvs.map fun kv => kV kv.1) ∧ SqL K H1 b (kvs.map (·.2)) ∧ kvs.length ≤ 100000 ∧
  ∀ p, H1 p = none → Q (.ref p) (upd H1 p (.dK (mergeK [] kvs)))) : tDZip K ta σ H Q := h
end
/-! ### comprehensions over enumerate of a list -/
section
variable {K : PySem.W.Frag} {σ : L2.St} {H : Hp} {Q : VK} {a : Addr} {xs : List V} {Ps : List SP} {g : TG} {tt : TT} {te : TE} {vs : List Nat}
theorem r_lc_enum (J : CW) (S : Sep Ps H) (h0 : J 0 [] Ps) (hl : ∀ D i acc Ps H, J i acc Ps → Sep (pt D (.lst acc) :: Ps) H → SqL K H a xs) (hl0 : SqL K H a xs)
    (hs : ∀ D (i : Nat) x T acc Ps H, xs[i]? = some x → J i acc Ps → Sep (pt T (.tup [.int (i : Nat), x]) :: pt D (.lst acc) :: Ps) H → g (.ref T) (wipe σ vs) H fun σ2 H2 => wipe σ2 vs = wipe σ vs ∧ tt σ2 H2 fun b H3 =>
      if b = true then te σ2 H3 fun y H4 => ∃ acc, H4 D = some (.lst acc) ∧ acc.length < sizeLine ∧ CN J D (i + 1) (upd H4 D (.lst (acc ++ [y]))) else CN J D (i + 1) H3)
    (hd : ∀ D acc Ps H, J xs.length acc Ps → Sep (pt D (.lst acc) :: Ps) H → Q (.ref D) H) : kEnum K (fun Jt H1 => LcW Jt g tt te vs Q σ H1) [.ref a] H := by
  refine ⟨a, xs, rfl, hl0, fun D nD => ⟨fun i m H => m = xs.length - i ∧ i ≤ xs.length ∧ CN J D i H, ⟨xs.length, by simp, Nat.zero_le _, [], Ps, h0, S.new _ nD⟩, ?_⟩⟩
  rintro i m H ⟨rfl, hi, acc, Ps, j, S⟩
  by_cases he : i = xs.length
  · subst he
    exact .inl ⟨⟨xs, hl D _ acc Ps H j S, Nat.le_refl _⟩, hd D acc Ps H j S⟩
  · have hlt : i < xs.length := by omega
    refine .inr ⟨⟨xs, xs[i], hl D _ acc Ps H j S, List.getElem?_eq_getElem hlt⟩, CN J D (i + 1), fun H' n => ⟨xs.length - (i + 1), by omega, rfl, by omega, n⟩, ?_⟩
    rintro x H' ⟨T, y, rfl, hT, rfl, hy⟩
    exact hs D i y T acc Ps _ (hy xs (hl D _ acc Ps H j S)) j (S.new _ hT)
end
end Kt

set_option Elab.async false
set_option linter.all false
set_option maxRecDepth 100000
set_option maxHeartbeats 4000000
namespace Pf
open PySem L2 Kt
set_option hygiene false
local macro_rules | `(tactic| walk_at "mem") => `(tactic| (with_reducible (repeat (first | exact Pick.hd | apply Pick.tl)); done))
local macro_rules | `(tactic| walk_at "rep") => `(tactic| (with_reducible (repeat (first | exact Repl.hd | apply Repl.tl)); done))
local macro_rules | `(tactic| walk_at "sel") => `(tactic| ((repeat (with_reducible apply Sel.cons; (focus walk_at "mem"))); (with_reducible apply Sel.nil); (with_reducible (repeat (first | exact Dr.all | apply Dr.skip)); done)))
local macro_rules | `(tactic| walk_at "at") => `(tactic| (refine' Sep.at_ (by assumption) ?kkpk; (case kkpk => walk_at "mem")))
local macro_rules | `(tactic| walk_at "sq") => `(tactic| first | assumption | (refine' Sep.sq (by assumption) ?kkpk; (case kkpk => walk_at "mem")))
local macro_rules | `(tactic| walk_at "st") => `(tactic| first | assumption | (refine' Sep.st (by assumption) ?kkpk; (case kkpk => walk_at "mem")))
local macro_rules | `(tactic| walk_at "lk") => `(tactic| (repeat (first | (with_reducible exact lk_eq) | exact rfl | refine (lk_ne (by decide +kernel)).trans ?_)))
local macro_rules | `(tactic| walk_at "pf") => `(tactic| (repeat (first | (with_reducible exact pf_nil) | (with_reducible exact pf_eq) | (apply pf_ne; (focus decide +kernel)))))
local macro_rules | `(tactic| walk_at "ty") => `(tactic| first | exact ty_int | (refine' ty_lst ?kkh; (case kkh => walk_at "at")))
local macro_rules | `(tactic| walk_at "k1") => `(tactic| with_reducible first
  | refine q_seq ?_ | refine q_set ?_ | refine q_asg ?_ | refine q_ret ?_ | refine q_drop ?_ | refine q_next ?_ | refine q_c ?_ | refine q_op ?_ | refine q_un ?_ | refine q_nil ?_ | refine q_cons ?_ | refine q_cb ?_
  | refine q_call ?_ | refine q_ifs ?_ | refine q_if ?_ | refine q_test ?_ | refine q_tb ?_ | refine q_bl ?_ | refine q_notT ?_ | refine q_andT ?_ | refine q_orT ?_ | refine q_andV ?_ | refine q_orV ?_ | refine q_notV ?_
  | refine q_addA ?_ | refine q_subI ?_ | refine q_ltI ?_ | refine q_leI ?_ | refine q_gtI ?_ | refine q_geI ?_ | refine q_eqI ?_ | refine q_neI ?_ | refine q_abs ?_ | refine q_int ?_ | refine q_intB ?_ | refine q_max ?_ | refine q_min ?_
  | refine q_ipAdd ?_ | refine q_ipSub ?_ | refine q_gsub ?_ | refine q_augs ?_ | refine q_lst ?_ | refine q_tup ?_ | refine q_blI ?_ | refine iteT ?_ | refine iteF ?_ | refine iteNT ?_ | refine iteNF ?_
  | refine r_prop ?_ | refine r_fld ?_ | refine r_sfld ?_ | refine r_meth ?_ | refine r_make ?_ | refine r_sl ?_ | refine r_nopart ?_ | refine r_part ?_ | refine r_parti ?_ | refine r_gsl ?_ | refine r_bm ?_ | refine r_bm0 ?_ | refine r_for ?_ | refine r_ilist ?_ | refine r_irng ?_
  | refine r_gname ?_ | refine r_gcons ?_ | refine r_gnil ?_ | refine r_par ?_ | refine r_parA ?_ | refine r_chain ?_ | refine r_isN ?_ | refine r_tlc ?_ | refine r_yes ?_ | refine r_makek ?_ | refine r_neg ?_)
local macro_rules | `(tactic| walk_at "k2") => `(tactic| first
  | ((with_reducible refine' q_var ?kke ?_); (case kke => rfl))
  | ((with_reducible refine' q_aug ?kke ?_); (case kke => rfl))
  | ((with_reducible refine' q_ixL ?kks ?kke ?_); (case kks => walk_at "sq"); (case kke => first | rfl | assumption))
  | ((with_reducible refine' q_ixT ?kks ?kke ?_); (case kks => walk_at "st"); (case kke => first | rfl | assumption))
  | ((with_reducible refine' q_ixLL ?kks ?kke ?_); (case kks => walk_at "sq"); (case kke => first | rfl | assumption))
  | ((with_reducible refine' q_lenL ?kks ?_); (case kks => walk_at "sq"))
  | ((with_reducible refine' q_mulI ?kkc ?_); (case kkc => first | exact .inl (by omega) | exact .inr (by omega)))
  | ((with_reducible refine' q_modI ?kkc ?_); (case kkc => omega))
  | ((with_reducible refine' q_divI ?kkc ?_); (case kkc => exact ⟨by omega, by omega⟩))
  | ((with_reducible refine' q_powI ?kkc ?_); (case kkc => exact ⟨by decide, by decide, by decide⟩))
  | ((with_reducible refine' r_kfld ?kkS ?kkp ?kkc ?kkn ?kkl ?_); (case kkS => assumption); (case kkp => walk_at "mem"); (case kkc => walk_at "cls"); (case kkn => walk_at "na"); (case kkl => walk_at "lk"))
  | ((with_reducible refine' r_kprop ?kkS ?kkp ?_); (case kkS => assumption); (case kkp => walk_at "mem"))
  | ((with_reducible refine' r_kmeth ?kkS ?kkp ?kkl ?_); (case kkS => assumption); (case kkp => walk_at "mem"); (case kkl => walk_at "lk"))
  | ((with_reducible refine' r_calll ?kks ?_); (case kks => rfl))
  | ((with_reducible refine' r_tyl ?kks ?_); (case kks => walk_at "sq"))
  | ((with_reducible refine' r_isi (k := true) ?kkt ?kke ?_); (case kkt => walk_at "ty"); (case kke => decide +kernel))
  | ((with_reducible refine' r_isi (k := false) ?kkt ?kke ?_); (case kkt => walk_at "ty"); (case kke => decide +kernel)))
local macro_rules | `(tactic| walk_at "k3") => `(tactic| first
  | ((with_reducible refine' q_setS ?kkS ?kkr ?kke ?_); (case kkS => assumption); (case kkr => walk_at "rep"); (case kke => rfl); intro H S)
  | ((with_reducible refine' r_kset ?kkS ?kkr ?kkc ?kkn ?kkl ?kke ?_); (case kkS => assumption); (case kkr => walk_at "rep"); (case kkc => walk_at "cls"); (case kkn => walk_at "na"); (case kkl => first | exact Nat.le_of_ble_eq_true rfl | assumption | omega | (simp; done) | (simp; omega)); (case kke => walk_at "pf"); intro H S)
  | ((with_reducible refine' q_new ?kkS ?kkl ?_); (case kkS => assumption); (case kkl => first | exact Nat.le_of_ble_eq_true rfl | assumption | omega | (simp; done) | (simp; omega)); intro p H S)
  | ((with_reducible refine' q_newT ?kkS ?kkl ?_); (case kkS => assumption); (case kkl => first | exact Nat.le_of_ble_eq_true rfl | assumption | omega | (simp; done) | (simp; omega)); intro p H S)
  | ((with_reducible refine' r_knew ?kkS ?_); (case kkS => assumption); intro x dx H S)
  | ((with_reducible refine' r_knewk ?kkS ?kkl1 ?kkl2 ?_); (case kkS => assumption); (case kkl1 => rfl); (case kkl2 => rfl); intro x dx H S)
  | ((with_reducible refine' r_ksl ?kkS ?kks ?_); (case kkS => assumption); (case kks => walk_at "sq"); intro p H S)
  | ((with_reducible refine' r_list ?kkS ?kks ?_); (case kkS => assumption); (case kks => walk_at "sq"); intro p H S)
  | ((with_reducible refine' r_cat ?kkS ?kks1 ?kks2 ?kkz ?_); (case kkS => assumption); (case kks1 => walk_at "at"); (case kks2 => walk_at "at"); (case kkz => first | omega | (simp; omega)); intro p H S)
  | ((with_reducible refine' r_append ?kkS ?kkr ?kkz ?_); (case kkS => assumption); (case kkr => walk_at "rep"); (case kkz => first | omega | (simp; omega)); intro H S)
  | ((with_reducible refine' r_reverse ?kkS ?kkr ?_); (case kkS => assumption); (case kkr => walk_at "rep"); intro H S)
  | ((with_reducible refine' r_clear ?kkS ?kkr ?_); (case kkS => assumption); (case kkr => walk_at "rep"); intro H S))
local macro_rules | `(tactic| walk_at "gn") => `(tactic| repeat (first | walk_at "k1" | walk_at "k2"))
local macro_rules | `(tactic| walk_at "go") => `(tactic| repeat (first | walk_at "k1" | walk_at "k2" | walk_at "k3"))

local macro_rules | `(tactic| walk_at "sq") => `(tactic| first | assumption | (refine' Sep.sq ?kkS ?kkpk; (case kkS => assumption); (case kkpk => walk_at "mem")) | (refine' hp_sqL ?kkS ?kkx; (case kkS => assumption); (case kkx => assumption)) | (refine' hp_sqL (Sep.tl ?kkS) ?kkx; (case kkS => assumption); (case kkx => assumption)) | (refine' hp_sqL (Sep.tl (Sep.tl ?kkS)) ?kkx; (case kkS => assumption); (case kkx => assumption)))
local macro_rules | `(tactic| walk_at "st") => `(tactic| first | assumption | (refine' Sep.st ?kkS ?kkpk; (case kkS => assumption); (case kkpk => walk_at "mem")) | (refine' hp_sqT ?kkS ?kkx; (case kkS => assumption); (case kkx => assumption)) | (refine' hp_sqT (Sep.tl ?kkS) ?kkx; (case kkS => assumption); (case kkx => assumption)) | (refine' hp_sqT (Sep.tl (Sep.tl ?kkS)) ?kkx; (case kkS => assumption); (case kkx => assumption)))
local macro_rules | `(tactic| walk_at "k1") => `(tactic| with_reducible first | refine r_ienumT ?_ | refine r_tru ?_ | refine r_itup ?_ | refine r_star ?_ | refine r_par3 ?_ | refine r_parA3 ?_ | refine r_dget ?_ | refine r_din ?_ | refine r_dnotin ?_ | refine r_dput ?_)

local macro_rules | `(tactic| walk_at "k1") => `(tactic| with_reducible first | refine r_tlc2 ?_ | refine r_tdc ?_ | refine r_irng3 ?_)

local macro_rules | `(tactic| walk_at "k1") => `(tactic| with_reducible first | refine r_slA ?_)

def top (i : Nat) : Stmt := PySem.Challenge.pw_sparetails_k50_orders_told.main.body.getD i (.Pass ⟨0, 0, 0, 0⟩)
abbrev s_points_of : Stmt := top 1
abbrev N_points_of : List Str := ["order", "level", "point"]
abbrev s_level_of : Stmt := top 2
abbrev N_level_of : List Str := ["order", "point", "at", "level"]
abbrev s_compare : Stmt := top 3
abbrev N_compare : List Str := ["order", "one", "other", "mine", "its"]
abbrev s_without_empty : Stmt := top 4
abbrev N_without_empty : List Str := ["levels", "level"]
abbrev s_only : Stmt := top 5
abbrev N_only : List Str := ["order", "points", "level", "point"]
abbrev s_lacking : Stmt := top 6
abbrev N_lacking : List Str := ["order", "points", "level", "point"]
abbrev s_renamed : Stmt := top 7
abbrev N_renamed : List Str := ["order", "names", "level", "point"]
abbrev s_l_bag : Stmt := top 9
abbrev N_l_bag : List Str := ["_law_script", "_law_cell"]
abbrev s_l_take : Stmt := top 10
abbrev N_l_take : List Str := ["_law_bag_here", "_law_many", "_law_cell", "_law_mixed_here", "_law_value", "_law_begin", "_law_second"]
abbrev s_l_alike : Stmt := top 11
abbrev N_l_alike : List Str := ["_law_found", "_law_due"]
abbrev s_l_mixed : Stmt := top 12
abbrev N_l_mixed : List Str := ["_law_bag_here", "_law_things", "_law_found", "_law_thing"]
abbrev s_l_drawn_order : Stmt := top 13
abbrev N_l_drawn_order : List Str := ["_law_bag_here", "_law_points", "_law_found", "_law_point", "_law_place"]
abbrev s_l_as_order : Stmt := top 14
abbrev N_l_as_order : List Str := ["_law_levels", "_law_level"]
abbrev s_l_ranks : Stmt := top 15
abbrev N_l_ranks : List Str := ["_law_order", "_law_found", "_law_at", "_law_point"]
abbrev s_l_order_of : Stmt := top 16
abbrev N_l_order_of : List Str := ["_law_ranks_here", "_law_levels", "_law_rank", "_law_point"]
abbrev s_l_names : Stmt := top 17
abbrev N_l_names : List Str := ["_law_bag_here", "_law_many", "_law_some"]
abbrev s_l_sign_of : Stmt := top 18
abbrev N_l_sign_of : List Str := ["_law_at", "_law_one", "_law_other", "_law_higher"]
abbrev s_l_reckon : Stmt := top 19
abbrev N_l_reckon : List Str := ["_law_order", "_law_names_here", "_law_led", "_law_ranks_here", "_law_found", "_law_one", "_law_other", "_law_some", "_law_rest", "_law_point"]
abbrev s_l_told : Stmt := top 20
abbrev N_l_told : List Str := ["_law_order", "_law_names_here", "_law_led", "_law_found", "_law_one", "_law_lists", "_law_told_here", "_law_other"]
abbrev s_law : Stmt := top 21
abbrev N_law : List Str := ["_law_script", "_law_bag_here", "_law_turn", "_law_names_here", "_law_order", "_law_some", "_law_led", "_law_at", "_law_level", "_law_points", "_law_due", "_law_shown", "_law_again", "_law_found", "_law_k", "_law_name", "_law_point"]
structure Txt (K : PySem.W.Frag) (mg : Str → Option Value) : Prop where
  z_enumerate : mg "enumerate" = none
  z_tuple : mg "tuple" = none
  z_sorted : mg "sorted" = none
  z_len : mg "len" = none
  z_int : mg "int" = none
  z_abs : mg "abs" = none
  z_set : mg "set" = none
  z_dict : mg "dict" = none
  z_zip : mg "zip" = none
  z_str : mg "str" = none
  z_range : mg "range" = none
  z_repr : mg "repr" = none
abbrev Tx (K : PySem.W.Frag) (mg : Str → Option Value) := Txt K mg
/-! ### what is small -/
def WfO (o : Od) : Prop := o.length ≤ 100 ∧ ∀ l ∈ o, l.length ≤ 100
def WfS (os : List Od) : Prop := os.length ≤ 100 ∧ ∀ o ∈ os, WfO o
section
variable {K : PySem.W.Frag} {G : Hp} {xs : List V}
theorem od_at {o : Od} {i : Nat} {x : V} (h : DpAll K G xs (o.map dLv)) (hi : xs[i]? = some x) : ∃ l b, o[i]? = some l ∧ x = .ref b ∧ SqT K G b (l.map V.str) := by
  obtain ⟨d, hd, hx⟩ := dpall_at h hi
  rw [List.getElem?_map] at hd
  cases e : o[i]? with
  | none => rw [e] at hd; cases hd
  | some l =>
    rw [e] at hd
    cases hd
    obtain ⟨b, ys, eb, _, _⟩ := dp_tupInv hx
    subst eb
    exact ⟨l, b, rfl, rfl, dlv_sq hx⟩
theorem sh_at {s : List Od} {i : Nat} {x : V} (h : DpAll K G xs (s.map dOd)) (hi : xs[i]? = some x) : ∃ o b, s[i]? = some o ∧ x = .ref b ∧ Dp K G (.ref b) (dOd o) := by
  obtain ⟨d, hd, hx⟩ := dpall_at h hi
  rw [List.getElem?_map] at hd
  cases e : s[i]? with
  | none => rw [e] at hd; cases hd
  | some o =>
    rw [e] at hd
    cases hd
    obtain ⟨b, ys, eb, _, _⟩ := dp_tupInv hx
    subst eb
    exact ⟨o, b, rfl, rfl, hx⟩
theorem fi_step {α : Type} {p : α → Bool} {l : List α} {i : Nat} {x : α} (h0 : (l.take i).findIdx? p = none) (hx : l[i]? = some x) : (p x = true → l.findIdx? p = some i) ∧ (p x = false → (l.take (i + 1)).findIdx? p = none) := by
  rw [List.findIdx?_eq_none_iff] at h0
  have hi := (List.getElem?_eq_some_iff.mp hx).1
  have hxe := (List.getElem?_eq_some_iff.mp hx).2
  constructor
  · intro hp
    rw [List.findIdx?_eq_some_iff_getElem]
    refine ⟨hi, by rw [hxe]; exact hp, fun j hj => ?_⟩
    have := h0 l[j] (List.mem_take_iff_getElem.mpr ⟨j, by omega, rfl⟩)
    simp [this]
  · intro hp
    rw [List.findIdx?_eq_none_iff]
    intro y hy
    rw [List.take_add_one, hx] at hy
    rcases List.mem_append.mp hy with m | m
    · exact h0 y m
    · simp at m; rw [m]; exact hp
end

theorem str_at {ps : List Str} {i : Nat} {x : V} (h : (ps.map V.str)[i]? = some x) : ∃ z, ps[i]? = some z ∧ V.str z = x := by
  rw [List.getElem?_map] at h
  cases e : ps[i]? with
  | none => rw [e] at h; cases h
  | some z => rw [e] at h; exact ⟨z, rfl, Option.some.inj h⟩
theorem fm_if {α : Type} {p : α → Bool} : ∀ l : List α, (l.filterMap fun x => if p x = true then some x else none) = l.filter p
  | [] => rfl
  | x :: l => by
    rw [List.filterMap_cons, List.filter_cons, fm_if l]
    cases p x <;> rfl
theorem fm_map {α β : Type} {f : α → β} : ∀ l : List α, (l.filterMap fun x => some (f x)) = l.map f
  | [] => rfl
  | x :: l => by rw [List.filterMap_cons, List.map_cons, fm_map l]
theorem fm_ifmap {α β : Type} {p : α → Bool} {f : α → β} : ∀ l : List α, (l.filterMap fun x => if p x = true then some (f x) else none) = (l.filter p).map f
  | [] => rfl
  | x :: l => by
    rw [List.filterMap_cons, List.filter_cons, fm_ifmap l]
    cases p x <;> rfl
section
variable {P : Program} {w : World} {K : PySem.W.Frag} {mg : Str → Option Value} {base : Heap}
theorem sc_points_of : FnScope N_points_of ["order"] (defScope s_points_of) := ⟨rfl, rfl, rfl, by decide +kernel, rfl, by decide +kernel, by decide +kernel⟩
def spPts (K : PySem.W.Frag) : Sp := fun vs H Q _ => ∃ (a : Addr) (o : Od) (G : Hp) (R : List SP), vs = [.ref a] ∧ o.flatten.length ≤ 1000 ∧ Dp K G (.ref a) (dOd o) ∧ Sep (hp G :: R) H ∧ ∀ t H', Sep (pt t (.lst ((sortS o.flatten).map V.str)) :: hp G :: R) H' → Q (.ref t) H'
theorem fl_at {o : Od} {i : Nat} {l : Lv} (h : o[i]? = some l) : (o.take (i + 1)).flatten = (o.take i).flatten ++ l := by
  rw [List.take_add_one, h, List.flatten_append]
  simp
theorem fl_le {o : Od} {i : Nat} {l : Lv} (h : o[i]? = some l) : (o.take i).flatten.length + l.length ≤ o.flatten.length := by
  have e : o.flatten = (o.take (i + 1)).flatten ++ (o.drop (i + 1)).flatten := by rw [← List.flatten_append, List.take_append_drop]
  rw [e, fl_at h, List.length_append, List.length_append]
  omega
theorem ok_points_of {f : Addr} (F : Dt K mg "points_of" s_points_of ["order"] f) (T : Tx K mg) : Df P w K mg base 1 "points_of" f ["order"] (spPts K) := by
  refine F.ok sc_points_of (fun vs H Q E h => ?_) (fun cdv A outer s H vs Q E hr h => ?_)
  · obtain ⟨a, o, G, R, rfl, _⟩ := h
    rfl
  obtain ⟨a, o, G, R, rfl, hl, hx, S, q⟩ := h
  refine ⟨_, (pss_one (ps_ret (pe_callB (r := rSortA K w) (cr_sortA rfl hr.units) (by rfl) T.z_sorted (by decide +kernel) (pa_cons (pe_lc2 (own := [("level", 1), ("point", 2)]) (vs1 := [2]) rfl sc_points_of.nd (pi_tupK K (pv 0)) (blkOk_by (own := [("level", 1), ("point", 2)]) (N := N_points_of) (sc := defScope s_points_of) (by decide +kernel)) (by decide) (fun _ _ _ _ _ => (pg_name (i := 1) sc_points_of.nd rfl (by first | exact Or.inl rfl | exact Or.inr rfl))) (fun _ _ _ _ _ => pts_nil) (fun _ _ _ _ _ => (pi_tupK K (pv 1))) (fun _ _ _ _ _ => (pg_name (i := 2) sc_points_of.nd rfl (by first | exact Or.inl rfl | exact Or.inr rfl))) (fun _ _ _ _ _ => pts_nil) (fun _ _ _ _ _ => (pv 2))) pa_nil)))), ?_⟩
  obtain ⟨a', xs, e, hs, ha⟩ := dp_tupInv (ds := o.map dLv) hx
  cases e
  have hln : xs.length = o.length := by rw [dpall_len ha, List.length_map]
  walk_at "go"
  refine r_lc2_tup (xs := xs) (fun i acc Ps => acc = (o.take i).flatten.map V.str ∧ Ps = hp G :: R) S ⟨rfl, rfl⟩ (fun D i acc Ps H hi ⟨_, e⟩ S => by subst e; exact hp_sqT S.tl hs) (hp_sqT S hs) ?_ ?_
  · rintro D i x acc Ps H hi ⟨rfl, rfl⟩ S
    obtain ⟨l, b, el, rfl, hb⟩ := od_at ha hi
    walk_at "go"
    refine ⟨rfl, ?_⟩
    walk_at "go"
    have hle := fl_le el
    refine r_in2_tup (ys := l.map V.str) (fun j acc Ps => acc = ((o.take i).flatten ++ l.take j).map V.str ∧ Ps = hp G :: R) S ⟨by rw [List.take_zero, List.append_nil], rfl⟩ (fun i acc Ps H hi ⟨_, e⟩ S => by subst e; exact hp_sqT S.tl hb) ?_ ?_
    · rintro j y acc Ps H hj ⟨rfl, rfl⟩ S
      obtain ⟨p, hp', rfl⟩ := str_at hj
      walk_at "go"
      refine ⟨rfl, ?_⟩
      walk_at "go"
      refine cn_in S (by rw [List.length_map, List.length_append, List.length_take]; omega) ⟨?_, rfl⟩
      rw [List.take_add_one, hp', ← List.append_assoc, List.map_append (l₂ := (some p).toList)]
      rfl
    · rintro acc Ps H ⟨rfl, rfl⟩ S
      refine cn_out S ⟨?_, rfl⟩
      rw [List.length_map, List.take_length, fl_at el]
  · rintro D acc Ps H ⟨rfl, rfl⟩ S
    rw [hln, List.take_length] at S
    obtain ⟨G2, le2, hd, S⟩ := hp_lst (K := K) S (dpall_strs o.flatten)
    walk_at "go"
    refine r_sortS (hp_le S) hd fun p np => ?_
    have S := S.new (.lst ((sortS o.flatten).map V.str)) np
    walk_at "go"
    exact q p _ (S.cons_mono fun _ => Sep.hd_mono fun _ z => le2.tr z)

theorem sc_level_of : FnScope N_level_of ["order", "point"] (defScope s_level_of) := ⟨rfl, rfl, rfl, by decide +kernel, rfl, by decide +kernel, by decide +kernel⟩
def spLevel (K : PySem.W.Frag) : Sp := fun vs H Q _ => ∃ (a : Addr) (o : Od) (p : Str) (G : Hp) (R : List SP), vs = [.ref a, .str p] ∧ Dp K G (.ref a) (dOd o) ∧ Sep (hp G :: R) H ∧ ∀ H', Sep (hp G :: R) H' → Q (vOpt (lvO o p)) H'
theorem ok_level_of {f : Addr} (F : Dt K mg "level_of" s_level_of ["order", "point"] f) (T : Tx K mg) : Df P w K mg base 1 "level_of" f ["order", "point"] (spLevel K) := by
  refine F.ok sc_level_of (fun vs H Q E h => ?_) (fun cdv A outer s H vs Q E hr h => ?_)
  · obtain ⟨a, o, p, G, R, rfl, _⟩ := h
    rfl
  obtain ⟨a, o, p, G, R, rfl, hx, S, q⟩ := h
  refine ⟨_, (pss_cons (ps_for PassesOwn.never rfl (pi_enumT K (by rfl) T.z_enumerate (pa_cons (pv 0) pa_nil)) (pg_tupK K rfl (pgs_cons (pg_name (i := 2) sc_level_of.nd rfl (by first | exact Or.inl rfl | exact Or.inr rfl)) (pgs_cons (pg_name (i := 3) sc_level_of.nd rfl (by first | exact Or.inl rfl | exact Or.inr rfl)) pgs_nil))) (pss_one (ps_if (pt_cmpR (r := rIn K false) op_in_seq (pv 1) (pv 3) (by rfl)) (pss_one (ps_ret (pv 2))) pss_nil)))
      (pss_one (ps_ret pe_non))), ?_⟩
  obtain ⟨a', xs, e, hs, ha⟩ := dp_tupInv (ds := o.map dLv) hx
  cases e
  have hl : xs.length = o.length := by rw [dpall_len ha, List.length_map]
  walk_at "go"
  refine r_for_enumT (xs := xs) (fun i σ Ps => (∃ u2 u3, σ = [some (.ref a), some (.str p), u2, u3]) ∧ Ps = hp G :: R ∧ (o.take i).findIdx? (fun l => decide (p ∈ l)) = none) S ⟨⟨_, _, rfl⟩, rfl, by simp⟩ (fun i σ Ps H ⟨_, e, _⟩ S => by subst e; walk_at "st") ?_ ?_
  · rintro i x T σ Ps H hi ⟨⟨u2, u3, rfl⟩, rfl, hn⟩ S
    obtain ⟨l, b, el, rfl, hb⟩ := od_at ha hi
    obtain ⟨st1, st2⟩ := fi_step hn el
    walk_at "go"
    refine r_gtup (by walk_at "st") rfl ?_
    walk_at "go"
    have hb' : SqT K H b (l.map V.str) := SqT.le (hp_le S.tl) hb
    refine r_in_strs (.inr hb') ?_
    walk_at "go"
    refine q_ite (fun hm => ?_) (fun hm => ?_)
    · walk_at "go"
      have := q H S.tl
      rw [show lvO o p = some i from st1 (by simpa using hm)] at this
      exact this
    · walk_at "go"
      exact ⟨_, ⟨⟨_, _, rfl⟩, rfl, st2 (by simpa using hm)⟩, S.tl⟩
  · rintro σ Ps H ⟨⟨u2, u3, rfl⟩, rfl, hn⟩ S
    walk_at "go"
    rw [hl, List.take_length] at hn
    have := q H S
    rw [show lvO o p = none from hn] at this
    exact this

theorem sc_compare : FnScope N_compare ["order", "one", "other"] (defScope s_compare) := ⟨rfl, rfl, rfl, by decide +kernel, rfl, by decide +kernel, by decide +kernel⟩
def spCmp (K : PySem.W.Frag) : Sp := fun vs H Q _ => ∃ (a : Addr) (o : Od) (p p2 : Str) (G : Hp) (R : List SP), vs = [.ref a, .str p, .str p2] ∧ Dp K G (.ref a) (dOd o) ∧ Sep (hp G :: R) H ∧ ∀ H', Sep (hp G :: R) H' → Q (vOptI (cmpO o p p2)) H'
theorem ok_compare {f f1 : Addr} (F : Dt K mg "compare" s_compare ["order", "one", "other"] f) (T : Tx K mg) (D_level_of : Df P w K mg base 1 "level_of" f1 ["order", "point"] (spLevel K)) : Df P w K mg base 2 "compare" f ["order", "one", "other"] (spCmp K) := by
  refine F.ok sc_compare (fun vs H Q E h => ?_) (fun cdv A outer s H vs Q E hr h => ?_)
  · obtain ⟨a, o, p, p2, G, R, rfl, _⟩ := h
    rfl
  obtain ⟨a, o, p, p2, G, R, rfl, hx, S, q⟩ := h
  refine ⟨_, (pss_cons (ps_set (i := 3) sc_compare.nd rfl (by first | exact Or.inl rfl | exact Or.inr rfl) (pe_df D_level_of (hr.mono (by first | decide | omega)) (pa_cons (pv 0) (pa_cons (pv 1) pa_nil))))
      (pss_cons (ps_set (i := 4) sc_compare.nd rfl (by first | exact Or.inl rfl | exact Or.inr rfl) (pe_df D_level_of (hr.mono (by first | decide | omega)) (pa_cons (pv 0) (pa_cons (pv 2) pa_nil))))
      (pss_cons (ps_if (PW.pt (pw_or (pt_cmpR (r := rIsN) op_isN (pv 3) pe_non (nomark _)) (pw_or1 (pt_cmpR (r := rIsN) op_isN (pv 4) pe_non (nomark _))))) (pss_one (ps_ret pe_non)) pss_nil)
      (pss_cons (ps_if (pt_cmpR (r := rEqA K) (op_eqA hr.units) (pv 3) (pv 4) (nomark _)) (pss_one (ps_ret pe_int)) pss_nil)
      (pss_one (ps_ret (pe_ifExp (pt_cmpR (r := rLtI) op_lt (pv 3) (pv 4) (nomark _)) (pe_un un_neg pe_int) pe_int))))))), ?_⟩
  walk_at "go"
  refine ⟨a, o, p, G, R, rfl, hx, S, fun H S => ?_⟩
  walk_at "go"
  refine ⟨a, o, p2, G, R, rfl, hx, S, fun H S => ?_⟩
  walk_at "go"
  unfold cmpO at q
  cases e1 : lvO o p with
  | none =>
    rw [e1] at q
    refine iteD rfl ?_
    walk_at "go"
    exact q H S
  | some i =>
    rw [e1] at q
    refine iteDN (fun h => nomatch h) ?_
    walk_at "go"
    cases e2 : lvO o p2 with
    | none =>
      rw [e2] at q
      refine iteD rfl ?_
      walk_at "go"
      exact q H S
    | some j =>
      rw [e2] at q
      refine iteDN (fun h => nomatch h) ?_
      walk_at "go"
      simp only [vOpt]
      walk_at "go"
      simp only [vOptI] at q
      refine q_ite (fun h1 => ?_) (fun h1 => ?_)
      · walk_at "go"
        rw [if_pos (by omega)] at q
        exact q H S
      · walk_at "go"
        refine q_ite (fun h2 => ?_) (fun h2 => ?_)
        · walk_at "go"
          rw [if_neg (by omega), if_pos (by omega)] at q
          exact q H S
        · walk_at "go"
          rw [if_neg (by omega), if_neg (by omega)] at q
          exact q H S

theorem sc_without_empty : FnScope N_without_empty ["levels"] (defScope s_without_empty) := ⟨rfl, rfl, rfl, by decide +kernel, rfl, by decide +kernel, by decide +kernel⟩
def spWE (K : PySem.W.Frag) : Sp := fun vs H Q _ => ∃ (a : Addr) (o : Od) (G : Hp) (R : List SP), vs = [.ref a] ∧ o.length ≤ 100 ∧ Dp K G (.ref a) (.list (o.map dLv)) ∧ Sep (hp G :: R) H ∧
  ∀ t G' H', Le G G' → Dp K G' (.ref t) (dOd (o.filter fun l => !l.isEmpty)) → Sep (hp G' :: R) H' → Q (.ref t) H'
theorem ok_without_empty {f : Addr} (F : Dt K mg "_without_empty" s_without_empty ["levels"] f) (T : Tx K mg) : Df P w K mg base 1 "_without_empty" f ["levels"] (spWE K) := by
  refine F.ok sc_without_empty (fun vs H Q E h => ?_) (fun cdv A outer s H vs Q E hr h => ?_)
  · obtain ⟨a, o, G, R, rfl, _⟩ := h
    rfl
  obtain ⟨a, o, G, R, rfl, hl, hx, S, q⟩ := h
  refine ⟨_, (pss_one (ps_ret (pe_callTy (r := cTup K) call_tupA (by rfl) T.z_tuple (by decide +kernel) (pa_cons (pe_lc (own := [("level", 1)]) rfl sc_without_empty.nd (pi_listK K (pv 0)) (blkOk_by (own := [("level", 1)]) (N := N_without_empty) (sc := defScope s_without_empty) (by decide +kernel)) (fun _ _ _ _ _ => (pg_name (i := 1) sc_without_empty.nd rfl (by first | exact Or.inl rfl | exact Or.inr rfl))) (fun _ _ _ _ _ => (pts_one (pt_truK K (pv 1)))) (fun _ _ _ _ _ => (pv 1))) pa_nil)))), ?_⟩
  walk_at "go"
  refine r_lcL S hx (by omega) (fun l => if (!l.isEmpty) = true then some l else none) dLv (fun l hl => ?_) (fun D acc G' H' le hacc S => ?_)
  · intro D acc Gi x H N le hx hn S kY kN
    obtain ⟨b, ys, rfl, _, _⟩ := dp_tupInv (ds := l.map PyData.str) hx
    have hb := dlv_sq hx
    walk_at "go"
    refine ⟨rfl, ?_⟩
    walk_at "go"
    refine r_truT (SqT.le (hp_le S.tl) hb) ?_
    cases l with
    | nil =>
      refine iteF ?_
      exact kN rfl H S
    | cons x l =>
      refine iteT ?_
      walk_at "go"
      exact kY _ _ Gi H Le.rfl rfl hx S
  · walk_at "go"
    refine r_tupOf S (by walk_at "sq") fun t H S => ?_
    have S2 : Sep (pt t (.tup acc) :: hp G' :: R) H := S.s2 (by walk_at "sel")
    obtain ⟨G2, le2, hd, S3⟩ := hp_tup S2 hacc
    rw [fm_if] at hd
    exact q t G2 H (le.tr le2) hd S3

theorem sc_only : FnScope N_only ["order", "points"] (defScope s_only) := ⟨rfl, rfl, rfl, by decide +kernel, rfl, by decide +kernel, by decide +kernel⟩
def spOnly (K : PySem.W.Frag) : Sp := fun vs H Q _ => ∃ (a b : Addr) (o : Od) (ps : List Str) (G : Hp) (R : List SP), vs = [.ref a, .ref b] ∧ WfO o ∧ Dp K G (.ref a) (dOd o) ∧ Dp K G (.ref b) (dNs ps) ∧ Sep (hp G :: R) H ∧
  ∀ t G' H', Le G G' → Dp K G' (.ref t) (dOd (onlyO ps o)) → Sep (hp G' :: R) H' → Q (.ref t) H'
theorem ok_only {f f1 : Addr} (F : Dt K mg "only" s_only ["order", "points"] f) (T : Tx K mg) (D_without_empty : Df P w K mg base 1 "_without_empty" f1 ["levels"] (spWE K)) : Df P w K mg base 2 "only" f ["order", "points"] (spOnly K) := by
  refine F.ok sc_only (fun vs H Q E h => ?_) (fun cdv A outer s H vs Q E hr h => ?_)
  · obtain ⟨a, b, o, ps, G, R, rfl, _⟩ := h
    rfl
  obtain ⟨a, b, o, ps, G, R, rfl, wf, hx, hb, S, q⟩ := h
  refine ⟨_, (pss_one (ps_ret (pe_df D_without_empty (hr.mono (by first | decide | omega)) (pa_cons (pe_lc (own := [("level", 2)]) rfl sc_only.nd (pi_tupK K (pv 0)) (blkOk_by (own := [("level", 2)]) (N := N_only) (sc := defScope s_only) (by decide +kernel)) (fun _ _ _ _ _ => (pg_name (i := 2) sc_only.nd rfl (by first | exact Or.inl rfl | exact Or.inr rfl))) (fun _ _ _ _ _ => pts_nil) (fun _ _ _ _ _ => (pe_callTy (r := cTup K) call_tupA (by rfl) T.z_tuple (by decide +kernel) (pa_cons (pe_lc (own := [("point", 3)]) rfl sc_only.nd (pi_tupK K (pv 2)) (by show BlkOk N_only { kind := ScopeKind.function, names := [(Str.ofString ".0", NameKind.local), (Str.ofString "level", NameKind.local), (Str.ofString "tuple", NameKind.globalImplicit), (Str.ofString "points", NameKind.cell)], isGenerator := false, isCoroutine := false } _ [("point", 3)]; exact blkOk_by (by decide +kernel)) (fun _ _ _ _ _ => (pg_name (i := 3) sc_only.nd rfl (by first | exact Or.inl rfl | exact Or.inr rfl))) (fun _ _ _ _ _ => (pts_one (pt_cmpR (r := rIn K false) op_in_seq (pv 3) (pv 1) (by rfl)))) (fun _ _ _ _ _ => (pv 3))) pa_nil)))) pa_nil)))), ?_⟩
  walk_at "go"
  refine r_lcT (l := o) (enc := dLv) S hx (by have := wf.1; omega) (fun l => some (l.filter fun x => decide (x ∈ ps))) dLv (fun l hl => ?_) (fun D acc G' H' le hacc S => ?_)
  · intro D acc Gi x H N le hx hn S kY kN
    obtain ⟨c, ys, rfl, _, _⟩ := dp_tupInv (ds := l.map PyData.str) hx
    walk_at "go"
    refine ⟨rfl, ?_⟩
    walk_at "go"
    refine r_lcT (l := l) (enc := PyData.str) S.swap hx (by have := wf.2 l hl; omega) (fun x => if decide (x ∈ ps) = true then some x else none) PyData.str (fun x hm => ?_) (fun D2 acc2 G' H' le2 hacc S => ?_)
    · intro D2 acc2 Gj y H N2 le2 hy hn S kY kN
      cases dp_strInv hy
      walk_at "go"
      refine ⟨rfl, ?_⟩
      walk_at "go"
      have hb2 : SqL K H b (ps.map V.str) := SqL.le (hp_le S.tl) (SqL.le (le.tr le2) (dns_sq hb))
      refine r_in_strs (.inl hb2) ?_
      walk_at "go"
      by_cases hm : x ∈ ps
      · rw [decide_eq_true hm]
        refine iteT ?_
        walk_at "go"
        exact kY _ _ Gj H Le.rfl (by simp [hm]) hy S
      · rw [decide_eq_false hm]
        refine iteF ?_
        exact kN (by simp [hm]) H S
    · walk_at "go"
      refine r_tupOf S (by walk_at "sq") fun t H S => ?_
      have S2 : Sep (pt t (.tup acc2) :: hp G' :: pt D (.lst acc) :: R) H := S.s3 (by walk_at "sel")
      obtain ⟨G2, le3, hd, S3⟩ := hp_tup S2 hacc
      rw [fm_if] at hd
      exact kY _ _ G2 H (le2.tr le3) rfl hd S3.swap
  · walk_at "go"
    obtain ⟨G2, le2, hd, S3⟩ := hp_lst S hacc
    rw [fm_map] at hd
    refine ⟨D, _, G2, R, rfl, by rw [List.length_map]; exact wf.1, hd, S3, fun t G3 H le3 hd S => ?_⟩
    exact q t G3 H ((le.tr le2).tr le3) hd S

theorem sc_lacking : FnScope N_lacking ["order", "points"] (defScope s_lacking) := ⟨rfl, rfl, rfl, by decide +kernel, rfl, by decide +kernel, by decide +kernel⟩
def lackO (ps : List Str) (o : Od) : Od := (o.map (List.filter fun x => !decide (x ∈ ps))).filter fun l => !l.isEmpty
def spLack (K : PySem.W.Frag) : Sp := fun vs H Q _ => ∃ (a b : Addr) (o : Od) (ps : List Str) (G : Hp) (R : List SP), vs = [.ref a, .ref b] ∧ WfO o ∧ Dp K G (.ref a) (dOd o) ∧ Dp K G (.ref b) (dNs ps) ∧ Sep (hp G :: R) H ∧
  ∀ t G' H', Le G G' → Dp K G' (.ref t) (dOd (lackO ps o)) → Sep (hp G' :: R) H' → Q (.ref t) H'
theorem ok_lacking {f f1 : Addr} (F : Dt K mg "lacking" s_lacking ["order", "points"] f) (T : Tx K mg) (D_without_empty : Df P w K mg base 1 "_without_empty" f1 ["levels"] (spWE K)) : Df P w K mg base 2 "lacking" f ["order", "points"] (spLack K) := by
  refine F.ok sc_lacking (fun vs H Q E h => ?_) (fun cdv A outer s H vs Q E hr h => ?_)
  · obtain ⟨a, b, o, ps, G, R, rfl, _⟩ := h
    rfl
  obtain ⟨a, b, o, ps, G, R, rfl, wf, hx, hb, S, q⟩ := h
  refine ⟨_, (pss_one (ps_ret (pe_df D_without_empty (hr.mono (by first | decide | omega)) (pa_cons (pe_lc (own := [("level", 2)]) rfl sc_lacking.nd (pi_tupK K (pv 0)) (blkOk_by (own := [("level", 2)]) (N := N_lacking) (sc := defScope s_lacking) (by decide +kernel)) (fun _ _ _ _ _ => (pg_name (i := 2) sc_lacking.nd rfl (by first | exact Or.inl rfl | exact Or.inr rfl))) (fun _ _ _ _ _ => pts_nil) (fun _ _ _ _ _ => (pe_callTy (r := cTup K) call_tupA (by rfl) T.z_tuple (by decide +kernel) (pa_cons (pe_lc (own := [("point", 3)]) rfl sc_lacking.nd (pi_tupK K (pv 2)) (by show BlkOk N_lacking { kind := ScopeKind.function, names := [(Str.ofString ".0", NameKind.local), (Str.ofString "level", NameKind.local), (Str.ofString "tuple", NameKind.globalImplicit), (Str.ofString "points", NameKind.cell)], isGenerator := false, isCoroutine := false } _ [("point", 3)]; exact blkOk_by (by decide +kernel)) (fun _ _ _ _ _ => (pg_name (i := 3) sc_lacking.nd rfl (by first | exact Or.inl rfl | exact Or.inr rfl))) (fun _ _ _ _ _ => (pts_one (pt_cmpR (r := rIn K true) op_notIn_seq (pv 3) (pv 1) (by rfl)))) (fun _ _ _ _ _ => (pv 3))) pa_nil)))) pa_nil)))), ?_⟩
  walk_at "go"
  refine r_lcT (l := o) (enc := dLv) S hx (by have := wf.1; omega) (fun l => some (l.filter fun x => !decide (x ∈ ps))) dLv (fun l hl => ?_) (fun D acc G' H' le hacc S => ?_)
  · intro D acc Gi x H N le hx hn S kY kN
    obtain ⟨c, ys, rfl, _, _⟩ := dp_tupInv (ds := l.map PyData.str) hx
    walk_at "go"
    refine ⟨rfl, ?_⟩
    walk_at "go"
    refine r_lcT (l := l) (enc := PyData.str) S.swap hx (by have := wf.2 l hl; omega) (fun x => if (!decide (x ∈ ps)) = true then some x else none) PyData.str (fun x hm => ?_) (fun D2 acc2 G' H' le2 hacc S => ?_)
    · intro D2 acc2 Gj y H N2 le2 hy hn S kY kN
      cases dp_strInv hy
      walk_at "go"
      refine ⟨rfl, ?_⟩
      walk_at "go"
      have hb2 : SqL K H b (ps.map V.str) := SqL.le (hp_le S.tl) (SqL.le (le.tr le2) (dns_sq hb))
      refine r_notin_strs (.inl hb2) ?_
      walk_at "go"
      by_cases hm : x ∈ ps
      · rw [decide_eq_true hm]
        refine iteF ?_
        exact kN (by simp [hm]) H S
      · rw [decide_eq_false hm]
        refine iteT ?_
        walk_at "go"
        exact kY _ _ Gj H Le.rfl (by simp [hm]) hy S
    · walk_at "go"
      refine r_tupOf S (by walk_at "sq") fun t H S => ?_
      have S2 : Sep (pt t (.tup acc2) :: hp G' :: pt D (.lst acc) :: R) H := S.s3 (by walk_at "sel")
      obtain ⟨G2, le3, hd, S3⟩ := hp_tup S2 hacc
      rw [fm_if] at hd
      exact kY _ _ G2 H (le2.tr le3) rfl hd S3.swap
  · walk_at "go"
    obtain ⟨G2, le2, hd, S3⟩ := hp_lst S hacc
    rw [fm_map] at hd
    refine ⟨D, _, G2, R, rfl, by rw [List.length_map]; exact wf.1, hd, S3, fun t G3 H le3 hd S => ?_⟩
    exact q t G3 H ((le.tr le2).tr le3) hd S

theorem sc_renamed : FnScope N_renamed ["order", "names"] (defScope s_renamed) := ⟨rfl, rfl, rfl, by decide +kernel, rfl, by decide +kernel, by decide +kernel⟩
def renO (f : Str → Str) (o : Od) : Od := o.map fun l => setS (l.map f)
def lookR (ls : List (Str × Str)) (p : Str) : Str := (lkG ls p).getD p
def spRen (K : PySem.W.Frag) : Sp := fun vs H Q _ => ∃ (a b : Addr) (o : Od) (ls : List (Str × Str)) (G : Hp) (R : List SP), vs = [.ref a, .ref b] ∧ WfO o ∧ Dp K G (.ref a) (dOd o) ∧ Sep (hp G :: pt b (.dK (encG V.str ls)) :: R) H ∧
  ∀ t G' H', Le G G' → Dp K G' (.ref t) (dOd (renO (lookR ls) o)) → Sep (hp G' :: pt b (.dK (encG V.str ls)) :: R) H' → Q (.ref t) H'
theorem ok_renamed {f : Addr} (F : Dt K mg "renamed" s_renamed ["order", "names"] f) (T : Tx K mg) : Df P w K mg base 1 "renamed" f ["order", "names"] (spRen K) := by
  refine F.ok sc_renamed (fun vs H Q E h => ?_) (fun cdv A outer s H vs Q E hr h => ?_)
  · obtain ⟨a, b, o, ls, G, R, rfl, _⟩ := h
    rfl
  obtain ⟨a, b, o, ls, G, R, rfl, wf, hx, S, q⟩ := h
  refine ⟨_, (pss_one (ps_ret (pe_callTy (r := cTup K) call_tupA (by rfl) T.z_tuple (by decide +kernel) (pa_cons (pe_lc (own := [("level", 2)]) rfl sc_renamed.nd (pi_tupK K (pv 0)) (blkOk_by (own := [("level", 2)]) (N := N_renamed) (sc := defScope s_renamed) (by decide +kernel)) (fun _ _ _ _ _ => (pg_name (i := 2) sc_renamed.nd rfl (by first | exact Or.inl rfl | exact Or.inr rfl))) (fun _ _ _ _ _ => pts_nil) (fun _ _ _ _ _ => (pe_callTy (r := cTup K) call_tupA (by rfl) T.z_tuple (by decide +kernel) (pa_cons (pe_callB (r := rSortB K P w) (cr_sortB rfl hr.units) (by rfl) T.z_sorted (by decide +kernel) (pa_cons (pe_callTy (r := rSetB K P w) (cr_setB rfl) (by rfl) T.z_set (by decide +kernel) (pa_cons (pe_lc (own := [("point", 3)]) rfl sc_renamed.nd (pi_tupK K (pv 2)) (by show BlkOk N_renamed { kind := ScopeKind.function, names := [(Str.ofString ".0", NameKind.local), (Str.ofString "level", NameKind.local), (Str.ofString "tuple", NameKind.globalImplicit), (Str.ofString "sorted", NameKind.globalImplicit), (Str.ofString "set", NameKind.globalImplicit), (Str.ofString "names", NameKind.cell)], isGenerator := false, isCoroutine := false } _ [("point", 3)]; exact blkOk_by (by decide +kernel)) (fun _ _ _ _ _ => (pg_name (i := 3) sc_renamed.nd rfl (by first | exact Or.inl rfl | exact Or.inr rfl))) (fun _ _ _ _ _ => pts_nil) (fun _ _ _ _ _ => (pe_dget2 (Nat.lt_of_le_of_lt (Nat.add_le_add_left (by decide) _) hr.units) (pv 1) (pv 3) (pv 3) ⟨rfl, rfl, rfl, rfl⟩))) pa_nil)) pa_nil)) pa_nil)))) pa_nil)))), ?_⟩
  walk_at "go"
  refine r_lcT (l := o) (enc := dLv) S hx (by have := wf.1; omega) (fun l => some (setS (l.map (lookR ls)))) dLv (fun l hl => ?_) (fun D acc G' H' le hacc S => ?_)
  · intro D acc Gi x H N le hx hn S kY kN
    obtain ⟨c, ys, rfl, _, _⟩ := dp_tupInv (ds := l.map PyData.str) hx
    have hll := wf.2 l hl
    walk_at "go"
    refine ⟨rfl, ?_⟩
    walk_at "go"
    refine r_lcT (l := l) (enc := PyData.str) S.swap hx (by omega) (fun x => some (lookR ls x)) PyData.str (fun x hm => ?_) (fun D2 acc2 G' H' le2 hacc S => ?_)
    · intro D2 acc2 Gj y H N2 le2 hy hn S kY kN
      cases dp_strInv hy
      walk_at "go"
      refine ⟨rfl, ?_⟩
      walk_at "go"
      have hd : H b = some (.dK (encG V.str ls)) := (S.s1 (A := pt b (.dK (encG V.str ls))) (by walk_at "sel")).hd_at
      refine r_dget2 rfl (.inl hd) ?_
      walk_at "go"
      refine r_dgS (.inl hd) ?_
      exact kY _ _ Gj H Le.rfl rfl (.str _) S
    · rw [fm_map] at hacc
      cases dpall_strsInv hacc
      walk_at "go"
      refine .inr (r_setX S (.inl (by walk_at "sq")) (by rw [List.length_map]; omega) fun ps ks H nd hm hkl S => ?_)
      rw [List.length_map] at hkl
      walk_at "go"
      refine .inr (r_sortSetX S S.hd_at (by omega) fun pz H S => ?_)
      rw [set_eq nd hm] at S
      walk_at "go"
      refine r_tupOf S (by walk_at "sq") fun t H S => ?_
      have S : Sep (pt t (.tup ((setS (l.map (lookR ls))).map V.str)) :: hp G' :: pt D (.lst acc) :: pt b (.dK (encG V.str ls)) :: R) H := S.s4 (by walk_at "sel")
      obtain ⟨G6, le6, hd, S⟩ := hp_tup (K := K) S (dpall_strs _)
      exact kY _ _ G6 H (le2.tr le6) rfl hd S.swap
  · rw [fm_map] at hacc
    walk_at "go"
    refine r_tupOf S (by walk_at "sq") fun t H S => ?_
    have S2 : Sep (pt t (.tup acc) :: hp G' :: pt b (.dK (encG V.str ls)) :: R) H := S.s3 (by walk_at "sel")
    obtain ⟨G2, le2, hd, S3⟩ := hp_tup S2 hacc
    exact q t G2 H (le.tr le2) hd S3

end
end Pf

set_option Elab.async false
set_option linter.all false
set_option maxRecDepth 100000
set_option maxHeartbeats 8000000
namespace Pf
open PySem L2 Kt
set_option hygiene false
local macro_rules | `(tactic| walk_at "mem") => `(tactic| (with_reducible (repeat (first | exact Pick.hd | apply Pick.tl)); done))
local macro_rules | `(tactic| walk_at "rep") => `(tactic| (with_reducible (repeat (first | exact Repl.hd | apply Repl.tl)); done))
local macro_rules | `(tactic| walk_at "sel") => `(tactic| ((repeat (with_reducible apply Sel.cons; (focus walk_at "mem"))); (with_reducible apply Sel.nil); (with_reducible (repeat (first | exact Dr.all | apply Dr.skip)); done)))
local macro_rules | `(tactic| walk_at "at") => `(tactic| (refine' Sep.at_ (by assumption) ?kkpk; (case kkpk => walk_at "mem")))
local macro_rules | `(tactic| walk_at "sq") => `(tactic| first | assumption | (refine' Sep.sq (by assumption) ?kkpk; (case kkpk => walk_at "mem")))
local macro_rules | `(tactic| walk_at "st") => `(tactic| first | assumption | (refine' Sep.st (by assumption) ?kkpk; (case kkpk => walk_at "mem")))
local macro_rules | `(tactic| walk_at "lk") => `(tactic| (repeat (first | (with_reducible exact lk_eq) | exact rfl | refine (lk_ne (by decide +kernel)).trans ?_)))
local macro_rules | `(tactic| walk_at "pf") => `(tactic| (repeat (first | (with_reducible exact pf_nil) | (with_reducible exact pf_eq) | (apply pf_ne; (focus decide +kernel)))))
local macro_rules | `(tactic| walk_at "ty") => `(tactic| first | exact ty_int | (refine' ty_lst ?kkh; (case kkh => walk_at "at")))
local macro_rules | `(tactic| walk_at "k1") => `(tactic| with_reducible first
  | refine q_seq ?_ | refine q_set ?_ | refine q_asg ?_ | refine q_ret ?_ | refine q_drop ?_ | refine q_next ?_ | refine q_c ?_ | refine q_op ?_ | refine q_un ?_ | refine q_nil ?_ | refine q_cons ?_ | refine q_cb ?_
  | refine q_call ?_ | refine q_ifs ?_ | refine q_if ?_ | refine q_test ?_ | refine q_tb ?_ | refine q_bl ?_ | refine q_notT ?_ | refine q_andT ?_ | refine q_orT ?_ | refine q_andV ?_ | refine q_orV ?_ | refine q_notV ?_
  | refine q_addA ?_ | refine q_subI ?_ | refine q_ltI ?_ | refine q_leI ?_ | refine q_gtI ?_ | refine q_geI ?_ | refine q_eqI ?_ | refine q_neI ?_ | refine q_abs ?_ | refine q_int ?_ | refine q_intB ?_ | refine q_max ?_ | refine q_min ?_
  | refine q_ipAdd ?_ | refine q_ipSub ?_ | refine q_gsub ?_ | refine q_augs ?_ | refine q_lst ?_ | refine q_tup ?_ | refine q_blI ?_ | refine iteT ?_ | refine iteF ?_ | refine iteNT ?_ | refine iteNF ?_
  | refine r_prop ?_ | refine r_fld ?_ | refine r_sfld ?_ | refine r_meth ?_ | refine r_make ?_ | refine r_sl ?_ | refine r_nopart ?_ | refine r_part ?_ | refine r_parti ?_ | refine r_gsl ?_ | refine r_bm ?_ | refine r_bm0 ?_ | refine r_for ?_ | refine r_ilist ?_ | refine r_irng ?_
  | refine r_gname ?_ | refine r_gcons ?_ | refine r_gnil ?_ | refine r_par ?_ | refine r_parA ?_ | refine r_chain ?_ | refine r_isN ?_ | refine r_tlc ?_ | refine r_yes ?_ | refine r_makek ?_ | refine r_neg ?_)
local macro_rules | `(tactic| walk_at "k2") => `(tactic| first
  | ((with_reducible refine' q_var ?kke ?_); (case kke => rfl))
  | ((with_reducible refine' q_aug ?kke ?_); (case kke => rfl))
  | ((with_reducible refine' q_ixL ?kks ?kke ?_); (case kks => walk_at "sq"); (case kke => first | rfl | assumption))
  | ((with_reducible refine' q_ixT ?kks ?kke ?_); (case kks => walk_at "st"); (case kke => first | rfl | assumption))
  | ((with_reducible refine' q_ixLL ?kks ?kke ?_); (case kks => walk_at "sq"); (case kke => first | rfl | assumption))
  | ((with_reducible refine' q_lenL ?kks ?_); (case kks => walk_at "sq"))
  | ((with_reducible refine' q_mulI ?kkc ?_); (case kkc => first | exact .inl (by omega) | exact .inr (by omega)))
  | ((with_reducible refine' q_modI ?kkc ?_); (case kkc => omega))
  | ((with_reducible refine' q_divI ?kkc ?_); (case kkc => exact ⟨by omega, by omega⟩))
  | ((with_reducible refine' q_powI ?kkc ?_); (case kkc => exact ⟨by decide, by decide, by decide⟩))
  | ((with_reducible refine' r_kfld ?kkS ?kkp ?kkc ?kkn ?kkl ?_); (case kkS => assumption); (case kkp => walk_at "mem"); (case kkc => walk_at "cls"); (case kkn => walk_at "na"); (case kkl => walk_at "lk"))
  | ((with_reducible refine' r_kprop ?kkS ?kkp ?_); (case kkS => assumption); (case kkp => walk_at "mem"))
  | ((with_reducible refine' r_kmeth ?kkS ?kkp ?kkl ?_); (case kkS => assumption); (case kkp => walk_at "mem"); (case kkl => walk_at "lk"))
  | ((with_reducible refine' r_calll ?kks ?_); (case kks => rfl))
  | ((with_reducible refine' r_tyl ?kks ?_); (case kks => walk_at "sq"))
  | ((with_reducible refine' r_isi (k := true) ?kkt ?kke ?_); (case kkt => walk_at "ty"); (case kke => decide +kernel))
  | ((with_reducible refine' r_isi (k := false) ?kkt ?kke ?_); (case kkt => walk_at "ty"); (case kke => decide +kernel)))
local macro_rules | `(tactic| walk_at "k3") => `(tactic| first
  | ((with_reducible refine' q_setS ?kkS ?kkr ?kke ?_); (case kkS => assumption); (case kkr => walk_at "rep"); (case kke => rfl); intro H S)
  | ((with_reducible refine' r_kset ?kkS ?kkr ?kkc ?kkn ?kkl ?kke ?_); (case kkS => assumption); (case kkr => walk_at "rep"); (case kkc => walk_at "cls"); (case kkn => walk_at "na"); (case kkl => first | exact Nat.le_of_ble_eq_true rfl | assumption | omega | (simp; done) | (simp; omega)); (case kke => walk_at "pf"); intro H S)
  | ((with_reducible refine' q_new ?kkS ?kkl ?_); (case kkS => assumption); (case kkl => first | exact Nat.le_of_ble_eq_true rfl | assumption | omega | (simp; done) | (simp; omega)); intro p H S)
  | ((with_reducible refine' q_newT ?kkS ?kkl ?_); (case kkS => assumption); (case kkl => first | exact Nat.le_of_ble_eq_true rfl | assumption | omega | (simp; done) | (simp; omega)); intro p H S)
  | ((with_reducible refine' r_knew ?kkS ?_); (case kkS => assumption); intro x dx H S)
  | ((with_reducible refine' r_knewk ?kkS ?kkl1 ?kkl2 ?_); (case kkS => assumption); (case kkl1 => rfl); (case kkl2 => rfl); intro x dx H S)
  | ((with_reducible refine' r_ksl ?kkS ?kks ?_); (case kkS => assumption); (case kks => walk_at "sq"); intro p H S)
  | ((with_reducible refine' r_list ?kkS ?kks ?_); (case kkS => assumption); (case kks => walk_at "sq"); intro p H S)
  | ((with_reducible refine' r_cat ?kkS ?kks1 ?kks2 ?kkz ?_); (case kkS => assumption); (case kks1 => walk_at "at"); (case kks2 => walk_at "at"); (case kkz => first | omega | (simp; omega)); intro p H S)
  | ((with_reducible refine' r_append ?kkS ?kkr ?kkz ?_); (case kkS => assumption); (case kkr => walk_at "rep"); (case kkz => first | omega | (simp; omega)); intro H S)
  | ((with_reducible refine' r_reverse ?kkS ?kkr ?_); (case kkS => assumption); (case kkr => walk_at "rep"); intro H S)
  | ((with_reducible refine' r_clear ?kkS ?kkr ?_); (case kkS => assumption); (case kkr => walk_at "rep"); intro H S))
local macro_rules | `(tactic| walk_at "gn") => `(tactic| repeat (first | walk_at "k1" | walk_at "k2"))
local macro_rules | `(tactic| walk_at "go") => `(tactic| repeat (first | walk_at "k1" | walk_at "k2" | walk_at "k3"))

local macro_rules | `(tactic| walk_at "sq") => `(tactic| first | assumption | (refine' Sep.sq ?kkS ?kkpk; (case kkS => assumption); (case kkpk => walk_at "mem")) | (refine' hp_sqL ?kkS ?kkx; (case kkS => assumption); (case kkx => assumption)) | (refine' hp_sqL (Sep.tl ?kkS) ?kkx; (case kkS => assumption); (case kkx => assumption)) | (refine' hp_sqL (Sep.tl (Sep.tl ?kkS)) ?kkx; (case kkS => assumption); (case kkx => assumption)))
local macro_rules | `(tactic| walk_at "st") => `(tactic| first | assumption | (refine' Sep.st ?kkS ?kkpk; (case kkS => assumption); (case kkpk => walk_at "mem")) | (refine' hp_sqT ?kkS ?kkx; (case kkS => assumption); (case kkx => assumption)) | (refine' hp_sqT (Sep.tl ?kkS) ?kkx; (case kkS => assumption); (case kkx => assumption)) | (refine' hp_sqT (Sep.tl (Sep.tl ?kkS)) ?kkx; (case kkS => assumption); (case kkx => assumption)))
local macro_rules | `(tactic| walk_at "k1") => `(tactic| with_reducible first | refine r_ienumT ?_ | refine r_tru ?_ | refine r_itup ?_ | refine r_star ?_ | refine r_par3 ?_ | refine r_parA3 ?_ | refine r_dget ?_ | refine r_din ?_ | refine r_dnotin ?_ | refine r_dput ?_)

local macro_rules | `(tactic| walk_at "k1") => `(tactic| with_reducible first | refine r_tlc2 ?_ | refine r_tdc ?_ | refine r_irng3 ?_)

/-! ### many parts as one -/
theorem Sep.b_nil {R : List SP} {H : Hp} (S : Sep R H) : Sep (Sep [] :: R) H := Sep.unflat (As := []) S
theorem Sep.b_add {P : SP} {Ps R : List SP} {H : Hp} (S : Sep (P :: Sep Ps :: R) H) : Sep (Sep (Ps ++ [P]) :: R) H := by
  have S1 : Sep (P :: (Ps ++ R)) H := S.cons_mono fun _ => Sep.flat
  have S2 : Sep (Ps ++ P :: R) H := (pick_mid _).back S1
  refine Sep.unflat (As := Ps ++ [P]) ?_
  rw [List.append_assoc]
  exact S2
theorem Sep.b_open {P : SP} {Ps Qs R : List SP} {H : Hp} (S : Sep (Sep (Ps ++ P :: Qs) :: R) H) : Sep (P :: Sep (Ps ++ Qs) :: R) H := by
  have S1 : Sep (Ps ++ P :: (Qs ++ R)) H := by
    have S0 := S.flat
    rw [List.append_assoc] at S0
    exact S0
  have S2 : Sep (P :: (Ps ++ (Qs ++ R))) H := (pick_mid _).go S1
  rw [← List.append_assoc] at S2
  exact S2.cons_mono fun _ => Sep.unflat
theorem Sep.b_shut {P : SP} {Ps Qs R : List SP} {H : Hp} (S : Sep (P :: Sep (Ps ++ Qs) :: R) H) : Sep (Sep (Ps ++ P :: Qs) :: R) H := by
  have S1 : Sep (P :: (Ps ++ (Qs ++ R))) H := by
    rw [← List.append_assoc]
    exact S.cons_mono fun _ => Sep.flat
  have S2 : Sep (Ps ++ P :: (Qs ++ R)) H := (pick_mid _).back S1
  refine Sep.unflat (As := Ps ++ P :: Qs) ?_
  rw [List.append_assoc]
  exact S2

/-- the drawing bag at b -/
def bag (b : Addr) : SP := fun G => ∃ (x y z : Int) (c : Addr) (ns : List Int), 0 ≤ z ∧ Sep [pt b (.lst [.int x, .int y, .int z, .ref c]), pt c (.lst (ns.map V.int))] G
def spTake : Sp := fun vs H Q _ => ∃ (b : Addr) (n : Int) (R : List SP), vs = [.ref b, .int n] ∧ 0 < n ∧ n < 1073741824 ∧ Sep (bag b :: R) H ∧ ∀ v H', 0 ≤ v → v < n → Sep (bag b :: R) H' → Q (.int v) H'
def spBag (K : PySem.W.Frag) : Sp := fun vs H Q _ => ∃ (a : Addr) (ns : List Int) (R : List SP), vs = [.ref a] ∧ SqL K H a (ns.map V.int) ∧ ns.length ≤ 63 ∧ Sep R H ∧ ∀ b H', Sep (bag b :: R) H' → Q (.ref b) H'
theorem bag_open {b : Addr} {R : List SP} {H : Hp} (S : Sep (bag b :: R) H) : ∃ (x y z : Int) (c : Addr) (ns : List Int), 0 ≤ z ∧ Sep (pt b (.lst [.int x, .int y, .int z, .ref c]) :: pt c (.lst (ns.map V.int)) :: R) H := by
  obtain ⟨x, S⟩ := S.ex
  obtain ⟨y, S⟩ := S.ex
  obtain ⟨z, S⟩ := S.ex
  obtain ⟨c, S⟩ := S.ex
  obtain ⟨ns, S⟩ := S.ex
  obtain ⟨hz, S⟩ := S.pure
  exact ⟨x, y, z, c, ns, hz, S.flat⟩
theorem bag_shut {b : Addr} {R : List SP} {H : Hp} {x y z : Int} {c : Addr} {ns : List Int} (hz : 0 ≤ z) (S : Sep (pt b (.lst [.int x, .int y, .int z, .ref c]) :: pt c (.lst (ns.map V.int)) :: R) H) : Sep (bag b :: R) H :=
  Sep.ex_in x (Sep.ex_in y (Sep.ex_in z (Sep.ex_in c (Sep.ex_in ns (Sep.pure_in hz (Sep.unflat (As := [_, _]) S))))))
section
variable {P : Program} {w : World} {K : PySem.W.Frag} {mg : Str → Option Value} {base : Heap}
theorem sc_l_take : FnScope N_l_take ["_law_bag_here", "_law_many"] (defScope s_l_take) := ⟨rfl, rfl, rfl, by decide +kernel, rfl, by decide +kernel, by decide +kernel⟩
theorem ok_l_take {f : Addr} (F : Dt K mg "_law_take" s_l_take ["_law_bag_here", "_law_many"] f) (T : Tx K mg) : Df P w K mg base 1 "_law_take" f ["_law_bag_here", "_law_many"] spTake := by
  refine F.ok sc_l_take (fun vs H Q E h => ?_) (fun cdv A outer s H vs Q E hr h => ?_)
  · obtain ⟨b, n, R, rfl, _⟩ := h
    rfl
  obtain ⟨b, n, R, rfl, h0, h1, S, q⟩ := h
  refine ⟨_, (C8.pss_cut (ps_if (pt_cmpR (r := rEqA K) (op_eqA hr.units) (pe_ix (r := rIx K) ix_seq (pv 0) pe_int (fun _ _ => rfl)) pe_int (nomark _)) (pss_cons (ps_set (i := 2) sc_l_take.nd rfl (by first | exact Or.inl rfl | exact Or.inr rfl) pe_int)
      (C8.pss_cut (ps_if (pt_cmpR (r := rLtI) op_lt (pe_ix (r := rIx K) ix_seq (pv 0) pe_int (fun _ _ => rfl)) (pe_callB (r := cOr (cLenQ K) cLenS) call_lenA (by rfl) T.z_len (by decide +kernel) (pa_cons (pe_ix (r := rIx K) ix_seq (pv 0) pe_int (fun _ _ => rfl)) pa_nil)) (nomark _)) (pss_one (ps_set (i := 2) sc_l_take.nd rfl (by first | exact Or.inl rfl | exact Or.inr rfl) (pe_ix (r := rIx K) ix_seq (pe_ix (r := rIx K) ix_seq (pv 0) pe_int (fun _ _ => rfl)) (pe_ix (r := rIx K) ix_seq (pv 0) pe_int (fun _ _ => rfl)) (fun _ _ => rfl)))) pss_nil)
      (pss_cons (ps_augS (tget := rIxL K) (pv 0) pe_int get_list pe_int ip_add set_list)
      (C8.pss_cut (ps_if (pt_cmpR (r := rGeI) op_ge (pv 2) pe_int (nomark _)) (pss_one (ps_asg (pv 2) (pg_sub (pv 0) pe_int set_list))) pss_nil)
      (pss_cons (ps_set (i := 3) sc_l_take.nd rfl (by first | exact Or.inl rfl | exact Or.inr rfl) (pe_op (r := rAddA) op_addA (pe_op (r := rAddA) op_addA (pe_op (r := rMulA) op_mulA (pe_ix (r := rIx K) ix_seq (pv 0) pe_int (fun _ _ => rfl)) pe_int) (pe_op (r := rModI) op_mod (pe_callTy (r := cInt) call_int1 (by rfl) T.z_int (by decide +kernel) (pa_cons (pv 2) pa_nil)) pe_int)) (pe_op (r := rMulA) op_mulA pe_int (pe_ix (r := rIx K) ix_seq (pv 0) pe_int (fun _ _ => rfl)))))
      (pss_one (ps_asg (pe_op (r := rModI) op_mod (pe_callTy (r := cInt) call_int1 (by rfl) T.z_int (by decide +kernel) (pa_cons (pv 3) pa_nil)) pe_int) (pg_sub (pv 0) pe_int set_list)))))))) pss_nil)
      (pss_cons (ps_if (pt_cmpR (r := rGtI) op_gt (pe_ix (r := rIx K) ix_seq (pv 0) pe_int (fun _ _ => rfl)) pe_int (nomark _)) (pss_cons (ps_set (i := 4) sc_l_take.nd rfl (by first | exact Or.inl rfl | exact Or.inr rfl) (pe_op (r := rModI) op_mod (pe_callTy (r := cInt) call_int1 (by rfl) T.z_int (by decide +kernel) (pa_cons (pe_ix (r := rIx K) ix_seq (pv 0) pe_int (fun _ _ => rfl)) pa_nil)) (pv 1)))
      (pss_cons (ps_asg (pe_op (r := rDivI) op_fdiv (pe_ix (r := rIx K) ix_seq (pv 0) pe_int (fun _ _ => rfl)) (pv 1)) (pg_sub (pv 0) pe_int set_list))
      (pss_one (ps_ret (pv 4))))) pss_nil)
      (pss_cons (ps_set (i := 5) sc_l_take.nd rfl (by first | exact Or.inl rfl | exact Or.inr rfl) (pe_op (r := rModI) op_mod (pe_callTy (r := cInt) call_int1 (by rfl) T.z_int (by decide +kernel) (pa_cons (pe_op (r := rMulA) op_mulA (pe_op (r := rAddA) op_addA (pe_ix (r := rIx K) ix_seq (pv 0) pe_int (fun _ _ => rfl)) pe_int) pe_int) pa_nil)) pe_int))
      (pss_cons (ps_set (i := 6) sc_l_take.nd rfl (by first | exact Or.inl rfl | exact Or.inr rfl) (pe_op (r := rModI) op_mod (pe_callTy (r := cInt) call_int1 (by rfl) T.z_int (by decide +kernel) (pa_cons (pe_op (r := rMulA) op_mulA (pe_op (r := rModI) op_mod (pe_callTy (r := cInt) call_int1 (by rfl) T.z_int (by decide +kernel) (pa_cons (pe_op (r := rMulA) op_mulA (pv 5) (pv 5)) pa_nil)) pe_int) pe_int) pa_nil)) pe_int))
      (pss_cons (ps_if (pt_cmpR (r := rGtI) op_gt (pv 1) pe_int (nomark _)) (pss_one (ps_ret (pe_op (r := rModI) op_mod (pe_callTy (r := cInt) call_int1 (by rfl) T.z_int (by decide +kernel) (pa_cons (pe_op (r := rAddA) op_addA (pe_op (r := rMulA) op_mulA (pv 6) pe_int) (pv 5)) pa_nil)) (pv 1)))) pss_nil)
      (pss_one (ps_ret (pe_op (r := rModI) op_mod (pe_callTy (r := cInt) call_int1 (by rfl) T.z_int (by decide +kernel) (pa_cons (pe_op (r := rDivI) op_fdiv (pv 6) pe_int) pa_nil)) (pv 1))))))))), ?_⟩
  obtain ⟨x, y, z, c, ns, hz, S⟩ := bag_open S
  refine q_cut (Mid := fun σ H => ∃ u2 u3, σ = [some (.ref b), some (.int n), u2, u3, none, none, none] ∧ ∃ (x y z : Int) (c : Addr) (ns : List Int), 0 ≤ z ∧ Sep (pt b (.lst [.int x, .int y, .int z, .ref c]) :: pt c (.lst (ns.map V.int)) :: R) H) ?_ ?_
  · walk_at "go"
    refine q_ite (fun hx => ?_) (fun hx => ?_)
    · walk_at "go"
      refine q_cut (Mid := fun σ H => ∃ u, σ = [some (.ref b), some (.int n), some (.int u), none, none, none, none] ∧ Sep (pt b (.lst [.int x, .int y, .int z, .ref c]) :: pt c (.lst (ns.map V.int)) :: R) H) ?_ ?_
      · walk_at "go"
        refine q_ite (fun hl => ?_) (fun hl => ?_)
        · walk_at "go"
          rw [List.length_map] at hl
          obtain ⟨j, rfl⟩ := Int.eq_ofNat_of_zero_le hz
          refine q_ixL (by walk_at "sq") (atI_nat (v := V.int (ns[j]'(by omega))) (by simp)) ?_
          exact ⟨_, rfl, S⟩
        · exact ⟨_, rfl, S⟩
      rintro σ H ⟨u, rfl, S⟩
      walk_at "go"
      refine q_cut (Mid := fun σ H => σ = [some (.ref b), some (.int n), some (.int u), none, none, none, none] ∧ ∃ x', Sep (pt b (.lst [.int x', .int y, .int (z + 1), .ref c]) :: pt c (.lst (ns.map V.int)) :: R) H) ?_ ?_
      · walk_at "go"
        refine q_ite (fun hu => ?_) (fun hu => ?_)
        · walk_at "go"
          exact ⟨rfl, _, S⟩
        · exact ⟨rfl, _, S⟩
      rintro σ H ⟨rfl, x', S⟩
      walk_at "go"
      exact ⟨_, _, rfl, _, _, _, _, _, by omega, S⟩
    · exact ⟨_, _, rfl, _, _, _, _, _, hz, S⟩
  rintro σ H ⟨u2, u3, rfl, x, y, z, c, ns, hz, S⟩
  walk_at "go"
  refine q_ite (fun hx => ?_) (fun hx => ?_)
  · walk_at "go"
    exact q _ _ (Int.emod_nonneg _ (by omega)) (Int.emod_lt_of_pos _ h0) (bag_shut hz S)
  · walk_at "go"
    refine q_ite (fun hm => ?_) (fun hm => ?_)
    · walk_at "go"
      exact q _ _ (Int.emod_nonneg _ (by omega)) (Int.emod_lt_of_pos _ h0) (bag_shut hz S)
    · walk_at "go"
      exact q _ _ (Int.emod_nonneg _ (by omega)) (Int.emod_lt_of_pos _ h0) (bag_shut hz S)
theorem sc_l_bag : FnScope N_l_bag ["_law_script"] (defScope s_l_bag) := ⟨rfl, rfl, rfl, by decide +kernel, rfl, by decide +kernel, by decide +kernel⟩
theorem ok_l_bag {f : Addr} (F : Dt K mg "_law_bag" s_l_bag ["_law_script"] f) (T : Tx K mg) : Df P w K mg base 1 "_law_bag" f ["_law_script"] (spBag K) := by
  refine F.ok sc_l_bag (fun vs H Q E h => ?_) (fun cdv A outer s H vs Q E hr h => ?_)
  · obtain ⟨a, ns, R, rfl, _⟩ := h
    rfl
  obtain ⟨a, ns, R, rfl, hq, hl, S, q⟩ := h
  refine ⟨_, (pss_one (ps_ret (pe_lst (pa_cons pe_int (pa_cons pe_int (pa_cons pe_int (pa_cons (pe_lc (own := [("_law_cell", 1)]) rfl sc_l_bag.nd (pi_listK K (pe_slice (r := rSlL K) sl_list (pv 0) po_none (po_some pe_int))) (blkOk_by (own := [("_law_cell", 1)]) (N := N_l_bag) (sc := defScope s_l_bag) (by decide +kernel)) (fun _ _ _ _ _ => (pg_name (i := 1) sc_l_bag.nd rfl (by first | exact Or.inl rfl | exact Or.inr rfl))) (fun _ _ _ _ _ => pts_nil) (fun _ _ _ _ _ => (pe_callB (r := cAbs) call_abs (by rfl) T.z_abs (by decide +kernel) (pa_cons (pv 1) pa_nil)))) pa_nil))))))), ?_⟩
  walk_at "go"
  have ec : cutV (ns.map V.int) none (some (63 : Int)) = (ns.take 63).map V.int := by
    have := cut_pre (xs := ns.map V.int) (n := 63)
    rw [List.map_take]
    exact this
  rw [ec] at S
  have hm : (ns.take 63).length ≤ 63 := by simp; omega
  generalize ns.take 63 = ms at S hm
  refine r_lc_list (xs := ms.map V.int) (fun i acc Ps => ∃ zs : List Int, acc = zs.map V.int ∧ zs.length = i ∧ Ps = pt p (.lst (ms.map V.int)) :: R) S ⟨[], rfl, rfl, rfl⟩ (fun D i acc Ps H hi ⟨_, _, _, e⟩ S => by subst e; walk_at "sq") (by walk_at "sq") ?_ ?_
  · rintro D i x acc Ps H hi ⟨zs, rfl, ez, rfl⟩ S
    obtain ⟨z, hz, rfl⟩ : ∃ z, ms[i]? = some z ∧ V.int z = x := by
      rw [List.getElem?_map] at hi
      cases e : ms[i]? with
      | none => rw [e] at hi; cases hi
      | some z => rw [e] at hi; exact ⟨z, rfl, Option.some.inj hi⟩
    walk_at "go"
    refine ⟨rfl, ?_⟩
    walk_at "go"
    have hi' := (List.getElem?_eq_some_iff.mp hz).1
    refine cn_in S (by rw [List.length_map]; omega) ⟨zs ++ [if z < 0 then -z else z], by simp, by simp [ez], rfl⟩
  · rintro D acc Ps H ⟨zs, rfl, ez, rfl⟩ S
    walk_at "go"
    exact q _ _ (bag_shut (x := 0) (y := 1234567891) (z := 0) (c := D) (ns := zs) (by decide) (S.s2 (by walk_at "sel")))
end

/-! ### lists of texts, by their places -/
abbrev CL := Addr × List Str
def cl (e : CL) : SP := pt e.1 (.lst (e.2.map V.str))
def cls (l : List CL) : SP := Sep (l.map cl)
section
variable {K : PySem.W.Frag} {R : List SP} {H : Hp} {l : List CL} {e e' : CL} {k : Nat}
theorem cls_nil (S : Sep R H) : Sep (cls [] :: R) H := Sep.b_nil S
theorem cls_split (l : List CL) (k : Nat) : l.map cl = (l.take k).map cl ++ (l.drop k).map cl := by rw [← List.map_append, List.take_append_drop]
theorem cls_add (k : Nat) (S : Sep (cl e :: cls l :: R) H) : Sep (cls (l.take k ++ e :: l.drop k) :: R) H := by
  unfold cls at S ⊢
  rw [List.map_append, List.map_cons]
  rw [cls_split l k] at S
  exact Sep.b_shut S
theorem cls_at (h : l[k]? = some e) : l = l.take k ++ e :: l.drop (k + 1) := by
  obtain ⟨hk, rfl⟩ := List.getElem?_eq_some_iff.mp h
  rw [List.getElem_cons_drop, List.take_append_drop]
theorem cls_open (h : l[k]? = some e) (S : Sep (cls l :: R) H) : Sep (cl e :: cls (l.take k ++ l.drop (k + 1)) :: R) H := by
  unfold cls at S ⊢
  have S : Sep (Sep ((l.take k).map cl ++ cl e :: (l.drop (k + 1)).map cl) :: R) H := by
    rw [← List.map_cons, ← List.map_append, ← cls_at h]
    exact S
  rw [List.map_append]
  exact Sep.b_open S
theorem cls_shut (S : Sep (cl e' :: cls (l.take k ++ l.drop (k + 1)) :: R) H) : Sep (cls (l.take k ++ e' :: l.drop (k + 1)) :: R) H := by
  unfold cls at S ⊢
  rw [List.map_append] at S
  rw [List.map_append, List.map_cons]
  exact Sep.b_shut S
theorem cls_pool : ∀ {l : List CL} {G : Hp} {R : List SP}, Sep (cls l :: hp G :: R) H → ∃ G', Le G G' ∧ DpAll K G' (l.map fun c : CL => V.ref c.1) (l.map fun c => dNs c.2) ∧ Sep (hp G' :: R) H
  | [], G, R, S => ⟨G, Le.rfl, .nil, S.tl⟩
  | e :: l, G, R, S => by
    have S1 : Sep (cl e :: cls l :: hp G :: R) H := by
      have S0 := Sep.flat S
      exact S0.cons_mono fun _ S => Sep.unflat (As := l.map cl) S
    have S2 : Sep (cls l :: hp G :: cl e :: R) H := S1.s3 (A := cls l) (B := hp G) (C := cl e) (by walk_at "sel")
    obtain ⟨G1, le1, h1, S3⟩ := cls_pool S2
    obtain ⟨G2, le2, h2, S4⟩ := hp_lst (K := K) S3.swap (dpall_strs e.2)
    exact ⟨G2, le1.tr le2, .cons h2 (DpAll.le le2 _ _ h1), S4⟩
end

section
variable {P : Program} {w : World} {K : PySem.W.Frag} {mg : Str → Option Value} {base : Heap}
theorem int_at {ps : List Int} {i : Nat} {x : V} (h : (ps.map V.int)[i]? = some x) : ∃ z, ps[i]? = some z ∧ V.int z = x := by
  rw [List.getElem?_map] at h
  cases e : ps[i]? with
  | none => rw [e] at h; cases h
  | some z => rw [e] at h; exact ⟨z, rfl, Option.some.inj h⟩
theorem ins_perm {α : Type} {l m : List α} {z : α} (k : Nat) (h : l.Perm m) : (l.take k ++ z :: l.drop k).Perm (m ++ [z]) := by
  have h1 : (l.take k ++ z :: l.drop k).Perm (z :: (l.take k ++ l.drop k)) := List.perm_middle
  rw [List.take_append_drop] at h1
  exact h1.trans ((h.cons z).trans (List.perm_append_singleton z m).symm)
theorem sc_l_mixed : FnScope N_l_mixed ["_law_bag_here", "_law_things"] (defScope s_l_mixed) := ⟨rfl, rfl, rfl, by decide +kernel, rfl, by decide +kernel, by decide +kernel⟩
def spMixed (K : PySem.W.Frag) : Sp := fun vs H Q _ => ∃ (b a : Addr) (ps : List Str) (G : Hp) (R : List SP), vs = [.ref b, .ref a] ∧ ps.length ≤ 100 ∧ Dp K G (.ref a) (dNs ps) ∧ Sep (hp G :: bag b :: R) H ∧
  ∀ (t : Addr) (qs : List Str) (G' H' : Hp), qs.Perm ps → Le G G' → LD K G' t (qs.map PyData.str) → Sep (hp G' :: bag b :: R) H' → Q (.ref t) H'
theorem ok_l_mixed {f f1 : Addr} (F : Dt K mg "_law_mixed" s_l_mixed ["_law_bag_here", "_law_things"] f) (T : Tx K mg) (D_l_take : Df P w K mg base 1 "_law_take" f1 ["_law_bag_here", "_law_many"] spTake) : Df P w K mg base 2 "_law_mixed" f ["_law_bag_here", "_law_things"] (spMixed K) := by
  refine F.ok sc_l_mixed (fun vs H Q E h => ?_) (fun cdv A outer s H vs Q E hr h => ?_)
  · obtain ⟨b, a, ps, G, R, rfl, _⟩ := h
    rfl
  obtain ⟨b, a, ps, G, R, rfl, hl, hx, S, q⟩ := h
  refine ⟨_, (pss_cons (ps_set (i := 2) sc_l_mixed.nd rfl (by first | exact Or.inl rfl | exact Or.inr rfl) (pe_lst pa_nil))
      (pss_cons (ps_for PassesOwn.never rfl (pi_listK K (pv 1)) (pg_name (i := 3) sc_l_mixed.nd rfl (by first | exact Or.inl rfl | exact Or.inr rfl)) (pss_one (ps_expr (pe_bmK K PySem.F.plainAttrs_list PySem.F.slot_list_insert PySem.F.type_list_insert mt_insertK (pv 2) (pa_cons (pe_df D_l_take (hr.mono (by first | decide | omega)) (pa_cons (pv 0) (pa_cons (pe_op (r := rAddA) op_addA (pe_callB (r := cOr (cLenQ K) cLenS) call_lenA (by rfl) T.z_len (by decide +kernel) (pa_cons (pv 2) pa_nil)) pe_int) pa_nil))) (pa_cons (pv 3) pa_nil))))))
      (pss_one (ps_ret (pv 2))))), ?_⟩
  have sq := dns_sq hx
  walk_at "go"
  refine r_for_list (xs := ps.map V.str) (fun i σ Ps => ∃ (u : Option V) (qs : List Str), σ = [some (.ref b), some (.ref a), some (.ref p), u] ∧ qs.Perm (ps.take i) ∧ Ps = pt p (.lst (qs.map V.str)) :: hp G :: bag b :: R) S ⟨_, [], rfl, by simp, rfl⟩ (fun i σ Ps H hi ⟨_, _, _, _, e⟩ S => by subst e; exact hp_sqL S.tl sq) ?_ ?_
  · rintro i x σ Ps H hi ⟨u, qs, rfl, hpm, rfl⟩ S
    obtain ⟨z, hz, rfl⟩ := str_at hi
    have hi' := (List.getElem?_eq_some_iff.mp hz).1
    have hlen : qs.length = i := by rw [hpm.length_eq, List.length_take]; omega
    walk_at "go"
    refine ⟨b, _, _, rfl, by rw [List.length_map]; omega, by rw [List.length_map]; omega, S.s1 (A := bag b) (by walk_at "sel"), fun v H hv0 hv1 S => ?_⟩
    rw [List.length_map] at hv1
    walk_at "go"
    refine r_ins (S.s1 (A := pt p (.lst (qs.map V.str))) (by walk_at "sel")) hv0 (by omega) (by rw [List.length_map]; omega) fun H S => ?_
    have e : (qs.map V.str).take v.toNat ++ .str z :: (qs.map V.str).drop v.toNat = (qs.take v.toNat ++ z :: qs.drop v.toNat).map V.str := by simp
    rw [e] at S
    walk_at "go"
    refine ⟨_, ⟨_, _, rfl, ?_, rfl⟩, S.s3 (A := pt p (.lst ((qs.take v.toNat ++ z :: qs.drop v.toNat).map V.str))) (B := hp G) (C := bag b) (by walk_at "sel")⟩
    rw [List.take_add_one, hz]
    exact ins_perm _ hpm
  · rintro σ Ps H ⟨u, qs, rfl, hpm, rfl⟩ S
    rw [List.length_map, List.take_length] at hpm
    obtain ⟨G', le, hd, S⟩ := hp_LD (K := K) S (dpall_strs qs)
    walk_at "go"
    exact q p qs G' H hpm le hd S
theorem sc_l_drawn_order : FnScope N_l_drawn_order ["_law_bag_here", "_law_points"] (defScope s_l_drawn_order) := ⟨rfl, rfl, rfl, by decide +kernel, rfl, by decide +kernel, by decide +kernel⟩
def spDrawn (K : PySem.W.Frag) : Sp := fun vs H Q _ => ∃ (b a : Addr) (ps : List Str) (G : Hp) (R : List SP), vs = [.ref b, .ref a] ∧ ps.length ≤ 100 ∧ Dp K G (.ref a) (dNs ps) ∧ Sep (hp G :: bag b :: R) H ∧
  ∀ (t : Addr) (lv : List (List Str)) (G' H' : Hp), lv.flatten.Perm ps → (∀ l ∈ lv, l ≠ []) → Le G G' → LD K G' t (lv.map dNs) → Sep (hp G' :: bag b :: R) H' → Q (.ref t) H'
theorem fl_ins (l : List (List Str)) (k : Nat) (z : Str) : (l.take k ++ [z] :: l.drop k).flatten.Perm (l.flatten ++ [z]) := by
  have e : l.flatten = (l.take k).flatten ++ (l.drop k).flatten := by rw [← List.flatten_append, List.take_append_drop]
  rw [List.flatten_append, List.flatten_cons, e]
  show (_ ++ z :: (l.drop k).flatten).Perm _
  exact List.perm_middle.trans (List.perm_append_singleton z _).symm
theorem fl_app (l : List (List Str)) (k : Nat) (x : List Str) (z : Str) : (l.take k ++ (x ++ [z]) :: l.drop (k + 1)).flatten.Perm ((l.take k ++ x :: l.drop (k + 1)).flatten ++ [z]) := by
  rw [List.flatten_append, List.flatten_cons, List.flatten_append, List.flatten_cons, List.append_assoc, List.append_assoc, List.append_assoc]
  refine List.Perm.append_left _ (List.Perm.append_left _ ?_)
  exact (List.perm_append_singleton z _).symm
theorem ok_l_drawn_order {f f1 f2 : Addr} (F : Dt K mg "_law_drawn_order" s_l_drawn_order ["_law_bag_here", "_law_points"] f) (T : Tx K mg) (D_l_take : Df P w K mg base 1 "_law_take" f1 ["_law_bag_here", "_law_many"] spTake) (D_l_mixed : Df P w K mg base 2 "_law_mixed" f2 ["_law_bag_here", "_law_things"] (spMixed K)) : Df P w K mg base 3 "_law_drawn_order" f ["_law_bag_here", "_law_points"] (spDrawn K) := by
  refine F.ok sc_l_drawn_order (fun vs H Q E h => ?_) (fun cdv A outer s H vs Q E hr h => ?_)
  · obtain ⟨b, a, ps, G, R, rfl, _⟩ := h
    rfl
  obtain ⟨b, a, ps, G, R, rfl, hl, hx, S, q⟩ := h
  refine ⟨_, (pss_cons (ps_set (i := 2) sc_l_drawn_order.nd rfl (by first | exact Or.inl rfl | exact Or.inr rfl) (pe_lst pa_nil))
      (pss_cons (ps_for PassesOwn.never rfl (pi_listK K (pe_df D_l_mixed (hr.mono (by first | decide | omega)) (pa_cons (pv 0) (pa_cons (pv 1) pa_nil)))) (pg_name (i := 3) sc_l_drawn_order.nd rfl (by first | exact Or.inl rfl | exact Or.inr rfl)) (pss_cons (ps_set (i := 4) sc_l_drawn_order.nd rfl (by first | exact Or.inl rfl | exact Or.inr rfl) (pe_df D_l_take (hr.mono (by first | decide | omega)) (pa_cons (pv 0) (pa_cons (pe_op (r := rAddA) op_addA (pe_op (r := rMulA) op_mulA pe_int (pe_callB (r := cOr (cLenQ K) cLenS) call_lenA (by rfl) T.z_len (by decide +kernel) (pa_cons (pv 2) pa_nil))) pe_int) pa_nil))))
      (pss_one (ps_if (pt_cmpR (r := rEqA K) (op_eqA hr.units) (pv 4) (pe_op (r := rMulA) op_mulA pe_int (pe_op (r := rDivI) op_fdiv (pv 4) pe_int)) (nomark _)) (pss_one (ps_expr (pe_bmK K PySem.F.plainAttrs_list PySem.F.slot_list_insert PySem.F.type_list_insert mt_insertK (pv 2) (pa_cons (pe_op (r := rDivI) op_fdiv (pv 4) pe_int) (pa_cons (pe_lst (pa_cons (pv 3) pa_nil)) pa_nil))))) (pss_one (ps_expr (pe_bmK K PySem.F.plainAttrs_list PySem.F.slot_list_append PySem.F.type_list_append mt_append (pe_ix (r := rIx K) ix_seq (pv 2) (pe_op (r := rDivI) op_fdiv (pv 4) pe_int) (fun _ _ => rfl)) (pa_cons (pv 3) pa_nil))))))))
      (pss_one (ps_ret (pv 2))))), ?_⟩
  walk_at "go"
  obtain ⟨F, rfl⟩ : ∃ F, F = p := ⟨p, rfl⟩
  refine ⟨b, a, ps, G, _, rfl, hl, hx, S.s2 (A := hp G) (B := bag b) (by walk_at "sel"), fun m qs G1 H hm le1 hd1 S => ?_⟩
  have sq := hd1.sq
  have hlq : qs.length = ps.length := hm.length_eq
  have S : Sep (pt F (.lst (([] : List CL).map fun c : CL => V.ref c.1)) :: cls [] :: hp G1 :: bag b :: R) H := (S.s3 (A := pt F (.lst [])) (B := hp G1) (C := bag b) (by walk_at "sel")).cons_mono fun _ => cls_nil
  refine r_for_list (xs := qs.map V.str) (fun i σ Ps => ∃ (u u2 : Option V) (cs : List CL), σ = [some (.ref b), some (.ref a), some (.ref F), u, u2] ∧ (cs.map Prod.snd).flatten.Perm (qs.take i) ∧ (∀ c ∈ cs, c.2 ≠ []) ∧ cs.length ≤ i ∧ Ps = pt F (.lst (cs.map fun c : CL => V.ref c.1)) :: cls cs :: hp G1 :: bag b :: R) S ⟨_, _, [], rfl, by simp, by simp, Nat.le_refl _, rfl⟩ (fun i σ Ps H hi ⟨_, _, _, _, _, _, _, e⟩ S => by subst e; exact hp_sqL S.tl.tl sq) ?_ ?_
  · rintro i x σ Ps H hi ⟨u, u2, cs, rfl, hpm, hne, hln, rfl⟩ S
    obtain ⟨z, hz, rfl⟩ := str_at hi
    have hi' := (List.getElem?_eq_some_iff.mp hz).1
    walk_at "go"
    refine ⟨b, _, _, rfl, by rw [List.length_map]; omega, by rw [List.length_map]; omega, S.s1 (A := bag b) (by walk_at "sel"), fun v H hv0 hv1 S => ?_⟩
    rw [List.length_map] at hv1
    walk_at "go"
    refine q_ite (fun he => ?_) (fun he => ?_)
    · walk_at "go"
      refine r_ins (S.s1 (A := pt F (.lst (cs.map fun c : CL => V.ref c.1))) (by walk_at "sel")) (by omega) (by omega) (by rw [List.length_map]; omega) fun H S => ?_
      generalize (v / 2).toNat = k at S
      have e : (cs.map fun c : CL => V.ref c.1).take k ++ .ref p :: (cs.map fun c : CL => V.ref c.1).drop k = (cs.take k ++ (p, [z]) :: cs.drop k).map fun c : CL => V.ref c.1 := by simp
      rw [e] at S
      have S := S.s5 (A := pt p (.lst [.str z])) (B := cls cs) (C := pt F (.lst ((cs.take k ++ (p, [z]) :: cs.drop k).map fun c : CL => V.ref c.1))) (D := hp G1) (E := bag b) (by walk_at "sel")
      have S : Sep (cl (p, [z]) :: cls cs :: pt F (.lst ((cs.take k ++ (p, [z]) :: cs.drop k).map fun c : CL => V.ref c.1)) :: hp G1 :: bag b :: R) H := S
      have S := (cls_add k S).swap
      walk_at "go"
      refine ⟨_, ⟨_, _, _, rfl, ?_, ?_, ?_, rfl⟩, S⟩
      · rw [List.take_add_one, hz, List.map_append, List.map_cons, List.map_take, List.map_drop]
        exact (fl_ins _ k z).trans (hpm.append_right _)
      · intro c m
        rcases List.mem_append.mp m with m | m
        · exact hne c (List.mem_of_mem_take m)
        · rcases List.mem_cons.mp m with rfl | m
          · exact List.cons_ne_nil _ _
          · exact hne c (List.mem_of_mem_drop m)
      · rw [List.length_append, List.length_cons, List.length_take, List.length_drop]
        omega
    · walk_at "go"
      obtain ⟨k, hk⟩ : ∃ k : Nat, v / 2 = (k : Int) := Int.eq_ofNat_of_zero_le (by omega)
      have hkl : k < cs.length := by omega
      obtain ⟨e, he⟩ : ∃ e, cs[k]? = some e := ⟨cs[k], List.getElem?_eq_getElem hkl⟩
      rw [hk]
      refine q_ixL (v := .ref e.1) (by walk_at "sq") (atI_nat (by rw [List.getElem?_map, he]; rfl)) ?_
      have S : Sep (pt e.1 (.lst (e.2.map V.str)) :: cls (cs.take k ++ cs.drop (k + 1)) :: pt F (.lst (cs.map fun c : CL => V.ref c.1)) :: hp G1 :: bag b :: R) H := cls_open he (S.s4 (A := cls cs) (B := pt F (.lst (cs.map fun c : CL => V.ref c.1))) (C := hp G1) (D := bag b) (by walk_at "sel"))
      have hsmall : e.2.length ≤ 1000 := by
        have h1 : e.2.length ≤ (cs.map Prod.snd).flatten.length := by
          have := congrArg (fun l : List CL => (l.map Prod.snd).flatten.length) (cls_at he)
          simp only [List.map_append, List.map_cons, List.flatten_append, List.flatten_cons, List.length_append] at this
          omega
        rw [hpm.length_eq, List.length_take] at h1
        omega
      walk_at "go"
      have e2 : e.2.map V.str ++ [.str z] = (e.2 ++ [z]).map V.str := by simp
      rw [e2] at S
      have S := cls_shut (e' := (e.1, e.2 ++ [z])) S
      have e3 : cs.map (fun c : CL => V.ref c.1) = (cs.take k ++ (e.1, e.2 ++ [z]) :: cs.drop (k + 1)).map fun c : CL => V.ref c.1 := by
        have := congrArg (List.map fun c : CL => V.ref c.1) (cls_at he)
        rw [this]
        simp
      rw [e3] at S
      refine ⟨_, ⟨_, _, _, rfl, ?_, ?_, ?_, rfl⟩, S.swap⟩
      · rw [List.take_add_one, hz, List.map_append, List.map_cons, List.map_take, List.map_drop]
        refine (fl_app _ k e.2 z).trans (List.Perm.append_right _ ?_)
        have := congrArg (List.map (Prod.snd : CL → List Str)) (cls_at he)
        rw [List.map_append, List.map_cons, List.map_take, List.map_drop] at this
        rw [← this]
        exact hpm
      · intro c m
        rcases List.mem_append.mp m with m | m
        · exact hne c (List.mem_of_mem_take m)
        · rcases List.mem_cons.mp m with rfl | m
          · simp
          · exact hne c (List.mem_of_mem_drop m)
      · rw [List.length_append, List.length_cons, List.length_take, List.length_drop]
        omega
  · rintro σ Ps H ⟨u, u2, cs, rfl, hpm, hne, hln, rfl⟩ S
    rw [List.length_map, List.take_length] at hpm
    have S : Sep (cls cs :: hp G1 :: pt F (.lst (cs.map fun c : CL => V.ref c.1)) :: bag b :: R) H := S.s3 (A := cls cs) (B := hp G1) (C := pt F (.lst (cs.map fun c : CL => V.ref c.1))) (by walk_at "sel")
    obtain ⟨G2, le2, hda, S⟩ := cls_pool (K := K) S
    obtain ⟨G3, le3, hd, S⟩ := hp_LD (K := K) S.swap hda
    walk_at "go"
    refine q F (cs.map Prod.snd) G3 H (hpm.trans hm) (fun l m => ?_) ((le1.tr le2).tr le3) ?_ S
    · obtain ⟨c, hc, rfl⟩ := List.mem_map.mp m
      exact hne c hc
    · rw [List.map_map]
      exact hd

end
end Pf

set_option Elab.async false
set_option linter.all false
set_option maxRecDepth 100000
set_option maxHeartbeats 8000000
namespace Pf
open PySem L2 Kt
set_option hygiene false
local macro_rules | `(tactic| walk_at "mem") => `(tactic| (with_reducible (repeat (first | exact Pick.hd | apply Pick.tl)); done))
local macro_rules | `(tactic| walk_at "rep") => `(tactic| (with_reducible (repeat (first | exact Repl.hd | apply Repl.tl)); done))
local macro_rules | `(tactic| walk_at "sel") => `(tactic| ((repeat (with_reducible apply Sel.cons; (focus walk_at "mem"))); (with_reducible apply Sel.nil); (with_reducible (repeat (first | exact Dr.all | apply Dr.skip)); done)))
local macro_rules | `(tactic| walk_at "at") => `(tactic| (refine' Sep.at_ (by assumption) ?kkpk; (case kkpk => walk_at "mem")))
local macro_rules | `(tactic| walk_at "sq") => `(tactic| first | assumption | (refine' Sep.sq (by assumption) ?kkpk; (case kkpk => walk_at "mem")))
local macro_rules | `(tactic| walk_at "st") => `(tactic| first | assumption | (refine' Sep.st (by assumption) ?kkpk; (case kkpk => walk_at "mem")))
local macro_rules | `(tactic| walk_at "lk") => `(tactic| (repeat (first | (with_reducible exact lk_eq) | exact rfl | refine (lk_ne (by decide +kernel)).trans ?_)))
local macro_rules | `(tactic| walk_at "pf") => `(tactic| (repeat (first | (with_reducible exact pf_nil) | (with_reducible exact pf_eq) | (apply pf_ne; (focus decide +kernel)))))
local macro_rules | `(tactic| walk_at "ty") => `(tactic| first | exact ty_int | (refine' ty_lst ?kkh; (case kkh => walk_at "at")))
local macro_rules | `(tactic| walk_at "k1") => `(tactic| with_reducible first
  | refine q_seq ?_ | refine q_set ?_ | refine q_asg ?_ | refine q_ret ?_ | refine q_drop ?_ | refine q_next ?_ | refine q_c ?_ | refine q_op ?_ | refine q_un ?_ | refine q_nil ?_ | refine q_cons ?_ | refine q_cb ?_
  | refine q_call ?_ | refine q_ifs ?_ | refine q_if ?_ | refine q_test ?_ | refine q_tb ?_ | refine q_bl ?_ | refine q_notT ?_ | refine q_andT ?_ | refine q_orT ?_ | refine q_andV ?_ | refine q_orV ?_ | refine q_notV ?_
  | refine q_addA ?_ | refine q_subI ?_ | refine q_ltI ?_ | refine q_leI ?_ | refine q_gtI ?_ | refine q_geI ?_ | refine q_eqI ?_ | refine q_neI ?_ | refine q_abs ?_ | refine q_int ?_ | refine q_intB ?_ | refine q_max ?_ | refine q_min ?_
  | refine q_ipAdd ?_ | refine q_ipSub ?_ | refine q_gsub ?_ | refine q_augs ?_ | refine q_lst ?_ | refine q_tup ?_ | refine q_blI ?_ | refine iteT ?_ | refine iteF ?_ | refine iteNT ?_ | refine iteNF ?_
  | refine r_prop ?_ | refine r_fld ?_ | refine r_sfld ?_ | refine r_meth ?_ | refine r_make ?_ | refine r_sl ?_ | refine r_nopart ?_ | refine r_part ?_ | refine r_parti ?_ | refine r_gsl ?_ | refine r_bm ?_ | refine r_bm0 ?_ | refine r_for ?_ | refine r_ilist ?_ | refine r_irng ?_
  | refine r_gname ?_ | refine r_gcons ?_ | refine r_gnil ?_ | refine r_par ?_ | refine r_parA ?_ | refine r_chain ?_ | refine r_isN ?_ | refine r_tlc ?_ | refine r_yes ?_ | refine r_makek ?_ | refine r_neg ?_)
local macro_rules | `(tactic| walk_at "k2") => `(tactic| first
  | ((with_reducible refine' q_var ?kke ?_); (case kke => rfl))
  | ((with_reducible refine' q_aug ?kke ?_); (case kke => rfl))
  | ((with_reducible refine' q_ixL ?kks ?kke ?_); (case kks => walk_at "sq"); (case kke => first | rfl | assumption))
  | ((with_reducible refine' q_ixT ?kks ?kke ?_); (case kks => walk_at "st"); (case kke => first | rfl | assumption))
  | ((with_reducible refine' q_ixLL ?kks ?kke ?_); (case kks => walk_at "sq"); (case kke => first | rfl | assumption))
  | ((with_reducible refine' q_lenL ?kks ?_); (case kks => walk_at "sq"))
  | ((with_reducible refine' q_mulI ?kkc ?_); (case kkc => first | exact .inl (by omega) | exact .inr (by omega)))
  | ((with_reducible refine' q_modI ?kkc ?_); (case kkc => omega))
  | ((with_reducible refine' q_divI ?kkc ?_); (case kkc => exact ⟨by omega, by omega⟩))
  | ((with_reducible refine' q_powI ?kkc ?_); (case kkc => exact ⟨by decide, by decide, by decide⟩))
  | ((with_reducible refine' r_kfld ?kkS ?kkp ?kkc ?kkn ?kkl ?_); (case kkS => assumption); (case kkp => walk_at "mem"); (case kkc => walk_at "cls"); (case kkn => walk_at "na"); (case kkl => walk_at "lk"))
  | ((with_reducible refine' r_kprop ?kkS ?kkp ?_); (case kkS => assumption); (case kkp => walk_at "mem"))
  | ((with_reducible refine' r_kmeth ?kkS ?kkp ?kkl ?_); (case kkS => assumption); (case kkp => walk_at "mem"); (case kkl => walk_at "lk"))
  | ((with_reducible refine' r_calll ?kks ?_); (case kks => rfl))
  | ((with_reducible refine' r_tyl ?kks ?_); (case kks => walk_at "sq"))
  | ((with_reducible refine' r_isi (k := true) ?kkt ?kke ?_); (case kkt => walk_at "ty"); (case kke => decide +kernel))
  | ((with_reducible refine' r_isi (k := false) ?kkt ?kke ?_); (case kkt => walk_at "ty"); (case kke => decide +kernel)))
local macro_rules | `(tactic| walk_at "k3") => `(tactic| first
  | ((with_reducible refine' q_setS ?kkS ?kkr ?kke ?_); (case kkS => assumption); (case kkr => walk_at "rep"); (case kke => rfl); intro H S)
  | ((with_reducible refine' r_kset ?kkS ?kkr ?kkc ?kkn ?kkl ?kke ?_); (case kkS => assumption); (case kkr => walk_at "rep"); (case kkc => walk_at "cls"); (case kkn => walk_at "na"); (case kkl => first | exact Nat.le_of_ble_eq_true rfl | assumption | omega | (simp; done) | (simp; omega)); (case kke => walk_at "pf"); intro H S)
  | ((with_reducible refine' q_new ?kkS ?kkl ?_); (case kkS => assumption); (case kkl => first | exact Nat.le_of_ble_eq_true rfl | assumption | omega | (simp; done) | (simp; omega)); intro p H S)
  | ((with_reducible refine' q_newT ?kkS ?kkl ?_); (case kkS => assumption); (case kkl => first | exact Nat.le_of_ble_eq_true rfl | assumption | omega | (simp; done) | (simp; omega)); intro p H S)
  | ((with_reducible refine' r_knew ?kkS ?_); (case kkS => assumption); intro x dx H S)
  | ((with_reducible refine' r_knewk ?kkS ?kkl1 ?kkl2 ?_); (case kkS => assumption); (case kkl1 => rfl); (case kkl2 => rfl); intro x dx H S)
  | ((with_reducible refine' r_ksl ?kkS ?kks ?_); (case kkS => assumption); (case kks => walk_at "sq"); intro p H S)
  | ((with_reducible refine' r_list ?kkS ?kks ?_); (case kkS => assumption); (case kks => walk_at "sq"); intro p H S)
  | ((with_reducible refine' r_cat ?kkS ?kks1 ?kks2 ?kkz ?_); (case kkS => assumption); (case kks1 => walk_at "at"); (case kks2 => walk_at "at"); (case kkz => first | omega | (simp; omega)); intro p H S)
  | ((with_reducible refine' r_append ?kkS ?kkr ?kkz ?_); (case kkS => assumption); (case kkr => walk_at "rep"); (case kkz => first | omega | (simp; omega)); intro H S)
  | ((with_reducible refine' r_reverse ?kkS ?kkr ?_); (case kkS => assumption); (case kkr => walk_at "rep"); intro H S)
  | ((with_reducible refine' r_clear ?kkS ?kkr ?_); (case kkS => assumption); (case kkr => walk_at "rep"); intro H S))
local macro_rules | `(tactic| walk_at "gn") => `(tactic| repeat (first | walk_at "k1" | walk_at "k2"))
local macro_rules | `(tactic| walk_at "go") => `(tactic| repeat (first | walk_at "k1" | walk_at "k2" | walk_at "k3"))

local macro_rules | `(tactic| walk_at "sq") => `(tactic| first | assumption | (refine' Sep.sq ?kkS ?kkpk; (case kkS => assumption); (case kkpk => walk_at "mem")) | (refine' hp_sqL ?kkS ?kkx; (case kkS => assumption); (case kkx => assumption)) | (refine' hp_sqL (Sep.tl ?kkS) ?kkx; (case kkS => assumption); (case kkx => assumption)) | (refine' hp_sqL (Sep.tl (Sep.tl ?kkS)) ?kkx; (case kkS => assumption); (case kkx => assumption)))
local macro_rules | `(tactic| walk_at "st") => `(tactic| first | assumption | (refine' Sep.st ?kkS ?kkpk; (case kkS => assumption); (case kkpk => walk_at "mem")) | (refine' hp_sqT ?kkS ?kkx; (case kkS => assumption); (case kkx => assumption)) | (refine' hp_sqT (Sep.tl ?kkS) ?kkx; (case kkS => assumption); (case kkx => assumption)) | (refine' hp_sqT (Sep.tl (Sep.tl ?kkS)) ?kkx; (case kkS => assumption); (case kkx => assumption)))
local macro_rules | `(tactic| walk_at "k1") => `(tactic| with_reducible first | refine r_ienumT ?_ | refine r_tru ?_ | refine r_itup ?_ | refine r_star ?_ | refine r_par3 ?_ | refine r_parA3 ?_ | refine r_dget ?_ | refine r_din ?_ | refine r_dnotin ?_ | refine r_dput ?_)

local macro_rules | `(tactic| walk_at "k1") => `(tactic| with_reducible first | refine r_tlc2 ?_ | refine r_tdc ?_ | refine r_irng3 ?_)

section
variable {P : Program} {w : World} {K : PySem.W.Frag} {mg : Str → Option Value} {base : Heap}
theorem sc_l_as_order : FnScope N_l_as_order ["_law_levels"] (defScope s_l_as_order) := ⟨rfl, rfl, rfl, by decide +kernel, rfl, by decide +kernel, by decide +kernel⟩
def asO (lv : List (List Str)) : Od := (lv.filter fun l => !l.isEmpty).map sortS
def spAsOrder (K : PySem.W.Frag) : Sp := fun vs H Q _ => ∃ (a : Addr) (lv : List (List Str)) (G : Hp) (R : List SP), vs = [.ref a] ∧ lv.length ≤ 100 ∧ (∀ l ∈ lv, Nms l) ∧ Dp K G (.ref a) (.list (lv.map dNs)) ∧ Sep (hp G :: R) H ∧
  ∀ t G' H', Le G G' → Dp K G' (.ref t) (dOd (asO lv)) → Sep (hp G' :: R) H' → Q (.ref t) H'
theorem ok_l_as_order {f : Addr} (F : Dt K mg "_law_as_order" s_l_as_order ["_law_levels"] f) (T : Tx K mg) : Df P w K mg base 1 "_law_as_order" f ["_law_levels"] (spAsOrder K) := by
  refine F.ok sc_l_as_order (fun vs H Q E h => ?_) (fun cdv A outer s H vs Q E hr h => ?_)
  · obtain ⟨a, lv, G, R, rfl, _⟩ := h
    rfl
  obtain ⟨a, lv, G, R, rfl, hl, hnm, hx, S, q⟩ := h
  refine ⟨_, (pss_one (ps_ret (pe_callTy (r := cTup K) call_tupA (by rfl) T.z_tuple (by decide +kernel) (pa_cons (pe_lc (own := [("_law_level", 1)]) rfl sc_l_as_order.nd (pi_listK K (pv 0)) (blkOk_by (own := [("_law_level", 1)]) (N := N_l_as_order) (sc := defScope s_l_as_order) (by decide +kernel)) (fun _ _ _ _ _ => (pg_name (i := 1) sc_l_as_order.nd rfl (by first | exact Or.inl rfl | exact Or.inr rfl))) (fun _ _ _ _ _ => (pts_one (pt_cmpR (r := rNeA K) (op_neA hr.units) (pv 1) (pe_lst pa_nil) (nomark _)))) (fun _ _ _ _ _ => (pe_callTy (r := cTup K) call_tupA (by rfl) T.z_tuple (by decide +kernel) (pa_cons (pe_callB (r := rSortA K w) (cr_sortA rfl hr.units) (by rfl) T.z_sorted (by decide +kernel) (pa_cons (pv 1) pa_nil)) pa_nil)))) pa_nil)))), ?_⟩
  walk_at "go"
  refine r_lcL (l := lv) (enc := dNs) S hx (by omega) (fun l => if (!l.isEmpty) = true then some (sortS l) else none) dLv (fun l hl => ?_) (fun D acc G' H' le hacc S => ?_)
  · intro D acc Gi x H N le hx hn S kY kN
    obtain ⟨c, ys, rfl, _, _⟩ := dp_lstInv hx
    walk_at "go"
    refine ⟨rfl, ?_⟩
    walk_at "go"
    refine r_ne_nilL (hp_dp S.tl.tl hx) (okd_ns (hnm l hl)) (by decide) (by walk_at "sq") ?_
    walk_at "go"
    have S : Sep (hp Gi :: pt D (.lst acc) :: R) H := S.s2 (A := hp Gi) (B := pt D (.lst acc)) (by walk_at "sel")
    cases l with
    | nil =>
      refine iteF ?_
      exact kN rfl H S.swap
    | cons z l =>
      refine iteT ?_
      walk_at "go"
      refine r_sortS (hp_le S) hx fun p np => ?_
      have S := S.new (.lst ((sortS (z :: l)).map V.str)) np
      walk_at "go"
      refine r_tupOf S (by walk_at "sq") fun t H S => ?_
      have S2 : Sep (pt t (.tup ((sortS (z :: l)).map V.str)) :: hp Gi :: pt D (.lst acc) :: R) H := S.s3 (A := pt t (.tup ((sortS (z :: l)).map V.str))) (B := hp Gi) (C := pt D (.lst acc)) (by walk_at "sel")
      obtain ⟨G2, le2, hd, S3⟩ := hp_tup (K := K) S2 (dpall_strs _)
      exact kY _ _ G2 H le2 rfl hd S3.swap
  · walk_at "go"
    refine r_tupOf S (by walk_at "sq") fun t H S => ?_
    have S2 : Sep (pt t (.tup acc) :: hp G' :: R) H := S.s2 (by walk_at "sel")
    obtain ⟨G2, le2, hd, S3⟩ := hp_tup S2 hacc
    rw [fm_ifmap] at hd
    exact q t G2 H (le.tr le2) hd S3

theorem sc_l_ranks : FnScope N_l_ranks ["_law_order"] (defScope s_l_ranks) := ⟨rfl, rfl, rfl, by decide +kernel, rfl, by decide +kernel, by decide +kernel⟩
theorem flat_at {α : Type} {o : List (List α)} {i : Nat} {l : List α} (h : o[i]? = some l) : (o.take (i + 1)).flatten = (o.take i).flatten ++ l := by
  rw [List.take_add_one, h, List.flatten_append]
  simp
theorem nd_at {o : Od} {i j : Nat} {l : Lv} {p : Str} (nd : o.flatten.Nodup) (hi : o[i]? = some l) (hj : l[j]? = some p) : p ∉ (o.take i).flatten ++ l.take j := by
  have e : o.flatten = (o.take (i + 1)).flatten ++ (o.drop (i + 1)).flatten := by rw [← List.flatten_append, List.take_append_drop]
  rw [e, flat_at hi] at nd
  have nd := (List.nodup_append.mp nd).1
  obtain ⟨hjl, rfl⟩ := List.getElem?_eq_some_iff.mp hj
  have e2 : l = l.take j ++ l[j] :: l.drop (j + 1) := by rw [List.getElem_cons_drop, List.take_append_drop]
  have e3 : (o.take i).flatten ++ l = ((o.take i).flatten ++ l.take j) ++ l[j] :: l.drop (j + 1) := by
    rw [List.append_assoc, ← e2]
  rw [e3] at nd
  intro m
  exact (List.nodup_append.mp nd).2.2 _ m _ List.mem_cons_self rfl
structure SmO (o : Od) : Prop where
  ln : o.length ≤ 100
  nd : o.flatten.Nodup
  fl : o.flatten.length ≤ 50
def spRanks (K : PySem.W.Frag) : Sp := fun vs H Q _ => ∃ (a : Addr) (o : Od) (G : Hp) (R : List SP), vs = [.ref a] ∧ SmO o ∧ Dp K G (.ref a) (dOd o) ∧ Sep (hp G :: R) H ∧ ∀ d H', Sep (pt d (.dK (encK (rkF 0 o))) :: hp G :: R) H' → Q (.ref d) H'
theorem ok_l_ranks {f : Addr} (F : Dt K mg "_law_ranks" s_l_ranks ["_law_order"] f) (T : Tx K mg) : Df P w K mg base 1 "_law_ranks" f ["_law_order"] (spRanks K) := by
  refine F.ok sc_l_ranks (fun vs H Q E h => ?_) (fun cdv A outer s H vs Q E hr h => ?_)
  · obtain ⟨a, o, G, R, rfl, _⟩ := h
    rfl
  obtain ⟨a, o, G, R, rfl, sm, hx, S, q⟩ := h
  refine ⟨_, (pss_cons (ps_set (i := 1) sc_l_ranks.nd rfl (by first | exact Or.inl rfl | exact Or.inr rfl) pe_dnewK)
      (pss_cons (ps_for PassesOwn.never rfl (pi_range1 rfl T.z_range (pa_cons (pe_callB (r := cOr (cLenQ K) cLenS) call_lenA (by rfl) T.z_len (by decide +kernel) (pa_cons (pv 0) pa_nil)) pa_nil)) (pg_name (i := 2) sc_l_ranks.nd rfl (by first | exact Or.inl rfl | exact Or.inr rfl)) (pss_one (ps_for PassesOwn.never rfl (pi_tupK K (pe_ix (r := rIx K) ix_seq (pv 0) (pv 2) (fun _ _ => rfl))) (pg_name (i := 3) sc_l_ranks.nd rfl (by first | exact Or.inl rfl | exact Or.inr rfl)) (pss_one (ps_dput (Nat.lt_of_le_of_lt (Nat.add_le_add_left (by decide) _) hr.units) (pv 1) (pv 3) (pv 2) rfl)))))
      (pss_one (ps_ret (pv 1))))), ?_⟩
  obtain ⟨a', xs, e, hs, ha⟩ := dp_tupInv (ds := o.map dLv) hx
  cases e
  have hl : xs.length = o.length := by rw [dpall_len ha, List.length_map]
  have hln := sm.ln
  walk_at "go"
  refine r_dnew S fun d H S => ?_
  walk_at "go"
  refine q_lenT (by walk_at "st") ?_
  walk_at "go"
  refine r_for_rng (fun i σ Ps => ∃ u2 u3, σ = [some (.ref a), some (.ref d), u2, u3] ∧ Ps = pt d (.dK (encK (rkF 0 (o.take i)))) :: hp G :: R) S (by omega) (by omega) ⟨_, _, rfl, rfl⟩ ?_ ?_
  · rintro i σ Ps H hi ⟨u2, u3, rfl, rfl⟩ S
    have hi : i < xs.length := by omega
    obtain ⟨l, c, el, ec, hb⟩ := od_at ha (List.getElem?_eq_getElem hi)
    walk_at "go"
    refine q_ixT (v := .ref c) (by walk_at "st") (atI_nat (by rw [List.getElem?_eq_getElem hi, ec])) ?_
    have hlen : (o.take i).flatten.length + l.length ≤ 50 := by
      have e : o.flatten = (o.take (i + 1)).flatten ++ (o.drop (i + 1)).flatten := by rw [← List.flatten_append, List.take_append_drop]
      have := sm.fl
      rw [e, flat_at el, List.length_append, List.length_append] at this
      omega
    have S : Sep (pt d (.dK (encK (rkF 0 (o.take i) ++ (l.take 0).map fun x => (x, (i : Int))))) :: hp G :: R) H := by
      rw [List.take_zero, List.map_nil, List.append_nil]
      exact S
    refine r_for_tup (xs := l.map V.str) (fun j σ Ps => ∃ u3, σ = [some (.ref a), some (.ref d), some (.int i), u3] ∧ Ps = pt d (.dK (encK (rkF 0 (o.take i) ++ (l.take j).map fun x => (x, (i : Int))))) :: hp G :: R) S ⟨_, rfl, rfl⟩ (fun i σ Ps H _ ⟨_, _, e⟩ S => by subst e; exact hp_sqT S.tl hb) ?_ ?_
    · rintro j x σ Ps H hj ⟨u3, rfl, rfl⟩ S
      obtain ⟨p, hp', rfl⟩ := str_at hj
      have hj' := (List.getElem?_eq_some_iff.mp hp').1
      walk_at "go"
      refine r_dputK S (fun e m ee => ?_) ?_ fun H S => ?_
      · refine nd_at sm.nd el hp' ?_
        rw [← ee]
        have := List.mem_map_of_mem (f := Prod.fst) m
        rw [List.map_append, rkF_keys, List.map_map] at this
        rw [show l.take j = (l.take j).map (Prod.fst ∘ fun x => (x, (i : Int))) from (List.map_id _).symm]
        exact this
      · rw [List.length_append, rkF_len, List.length_map, List.length_take]
        omega
      · walk_at "go"
        refine ⟨_, ⟨_, rfl, ?_⟩, S⟩
        rw [List.take_add_one, hp', List.map_append, List.append_assoc]
        rfl
    · rintro σ Ps H ⟨u3, rfl, rfl⟩ S
      walk_at "go"
      refine ⟨_, ⟨_, _, rfl, ?_⟩, S⟩
      rw [List.length_map, List.take_length, rkF_take el]
  · rintro σ Ps H ⟨u2, u3, rfl, rfl⟩ S
    walk_at "go"
    rw [Int.toNat_natCast, hl, List.take_length] at S
    exact q d H S

theorem sc_l_order_of : FnScope N_l_order_of ["_law_ranks_here"] (defScope s_l_order_of) := ⟨rfl, rfl, rfl, by decide +kernel, rfl, by decide +kernel, by decide +kernel⟩
def spOrdOf (K : PySem.W.Frag) : Sp := fun vs H Q _ => ∃ (d : Addr) (kv : Rk) (ms : List Int) (G : Hp) (R : List SP), vs = [.ref d] ∧ kv.length ≤ 50 ∧ (kv.map Prod.fst).Nodup ∧ ms.Pairwise (· < ·) ∧ (∀ k, k ∈ ms ↔ k ∈ kv.map Prod.snd) ∧ Sep (pt d (.dK (encK kv)) :: hp G :: R) H ∧
  ∀ t G' H', Le G G' → Dp K G' (.ref t) (dOd (ordL kv ms)) → Sep (hp G' :: R) H' → Q (.ref t) H'
theorem fm_str {kv : Rk} {p : Str × Int → Bool} : ∀ l : Rk, (l.filterMap fun e => if p e = true then some e.1 else none) = (l.filter p).map Prod.fst := fm_ifmap
theorem nodup_len : ∀ {ms ns : List Int}, ms.Nodup → (∀ k ∈ ms, k ∈ ns) → ms.length ≤ ns.length
  | [], _, _, _ => Nat.zero_le _
  | x :: ms, ns, hd, hs => by
    obtain ⟨h1, h2⟩ := List.nodup_cons.mp hd
    have m := hs x List.mem_cons_self
    have := nodup_len (ns := ns.erase x) h2 fun k mk => (List.mem_erase_of_ne fun (e : k = x) => h1 (e ▸ mk)).mpr (hs k (List.mem_cons_of_mem _ mk))
    rw [List.length_erase_of_mem m] at this
    have := List.length_pos_of_mem m
    rw [List.length_cons]
    omega
theorem asc_len {ms : List Int} (h : ms.Pairwise (· < ·)) {ns : List Int} (hs : ∀ k ∈ ms, k ∈ ns) : ms.length ≤ ns.length := nodup_len (h.imp fun a => Int.ne_of_lt a) hs
theorem ok_l_order_of {f : Addr} (F : Dt K mg "_law_order_of" s_l_order_of ["_law_ranks_here"] f) (T : Tx K mg) : Df P w K mg base 1 "_law_order_of" f ["_law_ranks_here"] (spOrdOf K) := by
  refine F.ok sc_l_order_of (fun vs H Q E h => ?_) (fun cdv A outer s H vs Q E hr h => ?_)
  · obtain ⟨d, kv, ms, G, R, rfl, _⟩ := h
    rfl
  obtain ⟨d, kv, ms, G, R, rfl, hl, nd, hm, hmi, S, q⟩ := h
  have hml : ms.length ≤ 50 := by
    have := asc_len hm fun k m => (hmi k).mp m
    rw [List.length_map] at this
    omega
  refine ⟨_, (pss_cons (ps_set (i := 1) sc_l_order_of.nd rfl (by first | exact Or.inl rfl | exact Or.inr rfl) (pe_lst pa_nil))
      (pss_cons (ps_for PassesOwn.never rfl (pi_listK K (pe_callB (r := rSortA K w) (cr_sortA rfl hr.units) (by rfl) T.z_sorted (by decide +kernel) (pa_cons (pe_callTy (r := rSetL K w) (cr_setL rfl) (by rfl) T.z_set (by decide +kernel) (pa_cons (pe_lock (pe_lc (own := [("_law_point", 3)]) rfl sc_l_order_of.nd (pi_keys (pv 0)) (blkOk_by (own := [("_law_point", 3)]) (N := N_l_order_of) (sc := defScope s_l_order_of) (by decide +kernel)) (fun _ _ _ _ _ => (pg_name (i := 3) sc_l_order_of.nd rfl (by first | exact Or.inl rfl | exact Or.inr rfl))) (fun _ _ _ _ _ => pts_nil) (fun _ _ _ _ _ => (pe_dget (Nat.lt_of_le_of_lt (Nat.add_le_add_left (by decide) _) hr.units) (pv 0) (pv 3) (by first | rfl | trivial | exact fun _ _ => rfl))))) pa_nil)) pa_nil))) (pg_name (i := 2) sc_l_order_of.nd rfl (by first | exact Or.inl rfl | exact Or.inr rfl)) (pss_one (ps_expr (pe_bmK K PySem.F.plainAttrs_list PySem.F.slot_list_append PySem.F.type_list_append mt_append (pv 1) (pa_cons (pe_callTy (r := cTup K) call_tupA (by rfl) T.z_tuple (by decide +kernel) (pa_cons (pe_callB (r := rSortA K w) (cr_sortA rfl hr.units) (by rfl) T.z_sorted (by decide +kernel) (pa_cons (pe_lock (pe_lc (own := [("_law_point", 3)]) rfl sc_l_order_of.nd (pi_keys (pv 0)) (blkOk_by (own := [("_law_point", 3)]) (N := N_l_order_of) (sc := defScope s_l_order_of) (by decide +kernel)) (fun _ _ _ _ _ => (pg_name (i := 3) sc_l_order_of.nd rfl (by first | exact Or.inl rfl | exact Or.inr rfl))) (fun _ _ _ _ _ => (pts_one (pt_cmpR (r := rEqA K) (op_eqA hr.units) (pe_dget (Nat.lt_of_le_of_lt (Nat.add_le_add_left (by decide) _) hr.units) (pv 0) (pv 3) (by first | rfl | trivial | exact fun _ _ => rfl)) (pv 2) (nomark _)))) (fun _ _ _ _ _ => (pv 3)))) pa_nil)) pa_nil)) pa_nil)))))
      (pss_one (ps_ret (pe_callTy (r := cTup K) call_tupA (by rfl) T.z_tuple (by decide +kernel) (pa_cons (pv 1) pa_nil)))))), ?_⟩
  walk_at "go"
  obtain ⟨L, rfl⟩ : ∃ L, L = p := ⟨p, rfl⟩
  have S : Sep (pt d (.dK (encK kv)) :: hp G :: pt L (.lst []) :: R) H := S.s3 (A := pt d (.dK (encK kv))) (B := hp G) (C := pt L (.lst [])) (by walk_at "sel")
  refine r_lcD (K := K) S rfl (by omega) (fun e => some e.2) PyData.int (fun e he od => ?_) (fun D acc G1 H le1 hacc S => ?_)
  · intro D acc Gi x H N le hx hn S kY kN
    cases dp_strInv hx
    walk_at "go"
    refine ⟨rfl, ?_⟩
    walk_at "go"
    refine r_dgetK (.inr ⟨od, S.tl.tl.hd_at⟩) (rkGet_mem nd he) ?_
    exact kY _ _ Gi H Le.rfl rfl (.int _) S
  · rw [fm_map] at hacc
    cases dpall_intsInv hacc
    walk_at "go"
    refine r_setI S (by walk_at "sq") (by rw [List.length_map]; omega) fun s c H hc S => ?_
    rw [List.length_map] at hc
    walk_at "go"
    refine r_sortSet S.hd_at (by omega) hm hmi fun Z nZ => ?_
    have S := S.new (.lst (ms.map V.int)) nZ
    have S : Sep (pt L (.lst []) :: hp G1 :: pt Z (.lst (ms.map V.int)) :: pt d (.dK (encK kv)) :: R) _ := S.s4 (A := pt L (.lst [])) (B := hp G1) (C := pt Z (.lst (ms.map V.int))) (D := pt d (.dK (encK kv))) (by walk_at "sel")
    refine r_for_list (xs := ms.map V.int) (fun i σ Ps => ∃ u2 u3 acc2 Gi, σ = [some (.ref d), some (.ref L), u2, u3] ∧ Le G1 Gi ∧ acc2.length = i ∧ DpAll K Gi acc2 ((ordL kv (ms.take i)).map dLv) ∧ Ps = pt L (.lst acc2) :: hp Gi :: pt Z (.lst (ms.map V.int)) :: pt d (.dK (encK kv)) :: R) S ⟨_, _, [], G1, rfl, Le.rfl, rfl, .nil, rfl⟩ (fun i σ Ps H hi ⟨_, _, _, _, _, _, _, _, e⟩ S => by subst e; walk_at "sq") ?_ ?_
    · rintro i x σ Ps H hi ⟨u2, u3, acc2, Gi, rfl, le2, eacc, hacc2, rfl⟩ S
      obtain ⟨k, hk, rfl⟩ := int_at hi
      have hi' := (List.getElem?_eq_some_iff.mp hk).1
      walk_at "go"
      have S : Sep (pt d (.dK (encK kv)) :: hp Gi :: pt L (.lst acc2) :: pt Z (.lst (ms.map V.int)) :: R) H := S.s4 (A := pt d (.dK (encK kv))) (B := hp Gi) (C := pt L (.lst acc2)) (D := pt Z (.lst (ms.map V.int))) (by walk_at "sel")
      refine r_lcD (K := K) S rfl (by omega) (fun e => if decide (e.2 = k) = true then some e.1 else none) PyData.str (fun e he od => ?_) (fun D2 acc3 G2 H le3 hacc3 S => ?_)
      · intro D2 acc3 Gj x H N le hx hn S kY kN
        cases dp_strInv hx
        walk_at "go"
        refine ⟨rfl, ?_⟩
        walk_at "go"
        refine r_dgetK (.inr ⟨od, S.tl.tl.hd_at⟩) (rkGet_mem nd he) ?_
        walk_at "go"
        refine q_ite (fun h => ?_) (fun h => ?_)
        · walk_at "go"
          exact kY _ _ Gj H Le.rfl (by rw [decide_eq_true h]; rfl) hx S
        · exact kN (by rw [decide_eq_false h]; rfl) H S
      · rw [fm_str (kv := kv)] at hacc3
        walk_at "go"
        obtain ⟨G3, le4, hd, S⟩ := hp_lst S hacc3
        refine r_sortS (hp_le S) hd fun p np => ?_
        generalize hsl : sortS ((kv.filter fun e => decide (e.2 = k)).map Prod.fst) = sl
        have S := S.new (.lst (sl.map V.str)) np
        walk_at "go"
        refine r_tupOf S (by walk_at "sq") fun t H S => ?_
        have S2 : Sep (pt t (.tup (sl.map V.str)) :: hp G3 :: pt L (.lst acc2) :: pt Z (.lst (ms.map V.int)) :: pt d (.dK (encK kv)) :: R) H := S.s5 (A := pt t (.tup (sl.map V.str))) (B := hp G3) (C := pt L (.lst acc2)) (D := pt Z (.lst (ms.map V.int))) (E := pt d (.dK (encK kv))) (by walk_at "sel")
        obtain ⟨G4, le5, hd4, S⟩ := hp_tup (K := K) S2 (dpall_strs _)
        walk_at "go"
        refine ⟨_, ⟨_, _, _, G4, rfl, ((le2.tr le3).tr le4).tr le5, ?_, ?_, rfl⟩, S.s4 (A := pt L (.lst (acc2 ++ [.ref t]))) (B := hp G4) (C := pt Z (.lst (ms.map V.int))) (D := pt d (.dK (encK kv))) (by walk_at "sel")⟩
        · rw [List.length_append, eacc]
          rfl
        · have e : ordL kv (ms.take (i + 1)) = ordL kv (ms.take i) ++ [sl] := by
            unfold ordL
            rw [List.take_add_one, hk, List.map_append, ← hsl]
            rfl
          rw [e, List.map_append]
          exact dpall_snoc (DpAll.le ((le3.tr le4).tr le5) _ _ hacc2) hd4
    · rintro σ Ps H ⟨u2, u3, acc2, Gi, rfl, le2, eacc, hacc2, rfl⟩ S
      rw [List.length_map, List.take_length] at hacc2
      walk_at "go"
      refine r_tupOf S (by walk_at "sq") fun t H S => ?_
      have S2 : Sep (pt t (.tup acc2) :: hp Gi :: R) H := S.s2 (by walk_at "sel")
      obtain ⟨G4, le5, hd4, S⟩ := hp_tup S2 hacc2
      exact q t G4 H ((le1.tr le2).tr le5) hd4 S

theorem sc_l_sign_of : FnScope N_l_sign_of ["_law_at", "_law_one", "_law_other"] (defScope s_l_sign_of) := ⟨rfl, rfl, rfl, by decide +kernel, rfl, by decide +kernel, by decide +kernel⟩
def sgI : Option Int → Option Int → Option Int
  | some i, some j => some (if i = j then 0 else if i < j then -1 else 1)
  | _, _ => none
def spSign (K : PySem.W.Frag) : Sp := fun vs H Q _ => ∃ (d : Addr) (kv : Rk) (p p2 : Str) (R : List SP), vs = [.ref d, .str p, .str p2] ∧ Sep (pt d (.dK (encK kv)) :: R) H ∧ ∀ H', Sep (pt d (.dK (encK kv)) :: R) H' → Q (vOptI (sgI (rkGet kv p) (rkGet kv p2))) H'
theorem ok_l_sign_of {f : Addr} (F : Dt K mg "_law_sign_of" s_l_sign_of ["_law_at", "_law_one", "_law_other"] f) (T : Tx K mg) : Df P w K mg base 1 "_law_sign_of" f ["_law_at", "_law_one", "_law_other"] (spSign K) := by
  refine F.ok sc_l_sign_of (fun vs H Q E h => ?_) (fun cdv A outer s H vs Q E hr h => ?_)
  · obtain ⟨d, kv, p, p2, R, rfl, _⟩ := h
    rfl
  obtain ⟨d, kv, p, p2, R, rfl, S, q⟩ := h
  refine ⟨_, (pss_cons (ps_if (PW.pt (pw_or (pt_cmp (pc_dnotin (Nat.lt_of_le_of_lt (Nat.add_le_add_left (by decide) _) hr.units) (pv 1) (pv 0))) (pw_or1 (pt_cmp (pc_dnotin (Nat.lt_of_le_of_lt (Nat.add_le_add_left (by decide) _) hr.units) (pv 2) (pv 0)))))) (pss_one (ps_ret pe_non)) pss_nil)
      (pss_cons (ps_set (i := 3) sc_l_sign_of.nd rfl (by first | exact Or.inl rfl | exact Or.inr rfl) (pe_callTy (r := cInt) call_int1 (by rfl) T.z_int (by decide +kernel) (pa_cons (pe_cmpR (r := rGtI) op_gt (pe_dget (Nat.lt_of_le_of_lt (Nat.add_le_add_left (by decide) _) hr.units) (pv 0) (pv 1) (by first | rfl | trivial | exact fun _ _ => rfl)) (pe_dget (Nat.lt_of_le_of_lt (Nat.add_le_add_left (by decide) _) hr.units) (pv 0) (pv 2) (by first | rfl | trivial | exact fun _ _ => rfl)) (nomark _)) pa_nil)))
      (pss_one (ps_ret (pe_op (r := rSubI) op_sub (pv 3) (pe_callTy (r := cInt) call_int1 (by rfl) T.z_int (by decide +kernel) (pa_cons (pe_cmpR (r := rLtI) op_lt (pe_dget (Nat.lt_of_le_of_lt (Nat.add_le_add_left (by decide) _) hr.units) (pv 0) (pv 1) (by first | rfl | trivial | exact fun _ _ => rfl)) (pe_dget (Nat.lt_of_le_of_lt (Nat.add_le_add_left (by decide) _) hr.units) (pv 0) (pv 2) (by first | rfl | trivial | exact fun _ _ => rfl)) (nomark _)) pa_nil))))))), ?_⟩
  walk_at "go"
  refine r_dnotinK (.inl S.hd_at) ?_
  walk_at "go"
  cases e1 : rkGet kv p with
  | none =>
    rw [e1] at q
    refine iteT ?_
    walk_at "go"
    exact q H S
  | some i =>
    rw [e1] at q
    refine iteF ?_
    walk_at "go"
    refine r_dnotinK (.inl S.hd_at) ?_
    walk_at "go"
    cases e2 : rkGet kv p2 with
    | none =>
      rw [e2] at q
      refine iteT ?_
      walk_at "go"
      exact q H S
    | some j =>
      rw [e2] at q
      refine iteF ?_
      walk_at "go"
      refine r_dgetK (.inl S.hd_at) e1 ?_
      walk_at "go"
      refine r_dgetK (.inl S.hd_at) e2 ?_
      walk_at "go"
      refine r_dgetK (.inl S.hd_at) e1 ?_
      walk_at "go"
      refine r_dgetK (.inl S.hd_at) e2 ?_
      walk_at "go"
      have := q H S
      have e : (if decide (i > j) = true then (1 : Int) else 0) - (if decide (i < j) = true then 1 else 0) = if i = j then 0 else if i < j then -1 else 1 := by
        by_cases h1 : i = j
        · subst h1; simp
        · by_cases h2 : i < j
          · simp [h1, h2]; omega
          · simp [h1, h2]; omega
      rw [e]
      exact this

theorem sc_l_names : FnScope N_l_names ["_law_bag_here", "_law_many"] (defScope s_l_names) := ⟨rfl, rfl, rfl, by decide +kernel, rfl, by decide +kernel, by decide +kernel⟩
def n12S : List Str := ["!", "+0", "+1", "=", "^", "a", "b", "ab", "abcdefgh", "z", "s", "t"]
def n5S : List Str := ["*", "A b", "0", "_", "<,-"]
def names17 : List Str := n12S ++ n5S
theorem nd17 : names17.Nodup := by decide +kernel
theorem ok17 : ∀ x ∈ names17, PyData.strOk x = true := by decide +kernel
structure NmsIn (ns : List Str) : Prop where
  nd : ns.Nodup
  sub : ∀ x ∈ ns, x ∈ names17
theorem NmsIn.nms {ns : List Str} (h : NmsIn ns) : Nms ns := fun x m => ok17 x (h.sub x m)
def spNames (K : PySem.W.Frag) : Sp := fun vs H Q _ => ∃ (b : Addr) (m : Nat) (G : Hp) (R : List SP), vs = [.ref b, .int (m : Int)] ∧ m ≤ 17 ∧ Sep (hp G :: bag b :: R) H ∧
  ∀ t ns G' H', ns.length = m → NmsIn ns → Le G G' → LD K G' t (ns.map PyData.str) → Sep (hp G' :: bag b :: R) H' → Q (.ref t) H'
theorem ok_l_names {f f1 : Addr} (F : Dt K mg "_law_names" s_l_names ["_law_bag_here", "_law_many"] f) (T : Tx K mg) (D_l_mixed : Df P w K mg base 2 "_law_mixed" f1 ["_law_bag_here", "_law_things"] (spMixed K)) : Df P w K mg base 3 "_law_names" f ["_law_bag_here", "_law_many"] (spNames K) := by
  refine F.ok sc_l_names (fun vs H Q E h => ?_) (fun cdv A outer s H vs Q E hr h => ?_)
  · obtain ⟨b, m, G, R, rfl, _⟩ := h
    rfl
  obtain ⟨b, m, G, R, rfl, hm, S, q⟩ := h
  refine ⟨_, (pss_cons (ps_set (i := 2) sc_l_names.nd rfl (by first | exact Or.inl rfl | exact Or.inr rfl) (pe_lst (pa_cons pe_str (pa_cons pe_str (pa_cons pe_str (pa_cons pe_str (pa_cons pe_str (pa_cons pe_str (pa_cons pe_str (pa_cons pe_str (pa_cons pe_str (pa_cons pe_str (pa_cons pe_str (pa_cons pe_str pa_nil))))))))))))))
      (pss_cons (ps_set (i := 2) sc_l_names.nd rfl (by first | exact Or.inl rfl | exact Or.inr rfl) (pe_op (r := rAddA) op_addA (pv 2) (pe_lst (pa_cons pe_str (pa_cons pe_str (pa_cons pe_str (pa_cons pe_str (pa_cons pe_str pa_nil))))))))
      (pss_one (ps_ret (pe_slice (r := rSlL K) sl_list (pe_df D_l_mixed (hr.mono (by first | decide | omega)) (pa_cons (pv 0) (pa_cons (pv 2) pa_nil))) po_none (po_some (pv 1))))))), ?_⟩
  walk_at "go"
  refine r_cat S (by walk_at "at") (by walk_at "at") (by decide) fun p H S => ?_
  have S : Sep (pt p (.lst (names17.map V.str)) :: _) H := S
  walk_at "go"
  obtain ⟨p1, hp1⟩ : ∃ z, z = p := ⟨p, rfl⟩
  rw [← hp1] at S ⊢
  have S : Sep (pt p1 (.lst (names17.map V.str)) :: hp G :: bag b :: R) H := S.s3 (by walk_at "sel")
  obtain ⟨G1, le1, hd, S⟩ := hp_lst (K := K) S (dpall_strs names17)
  refine ⟨b, p1, names17, G1, R, rfl, by decide, hd, S, fun nm qs G2 H hpm le2 hd2 S => ?_⟩
  walk_at "go"
  refine r_pre (n := m) S hd2.dp fun t G3 H le3 hd3 S => ?_
  rw [← List.map_take] at hd3
  have hl : qs.length = 17 := hpm.length_eq
  exact q t (qs.take m) G3 H (by rw [List.length_take]; omega) ⟨(hpm.nodup_iff.mpr nd17).sublist (List.take_sublist m qs), fun x mx => hpm.mem_iff.mp (List.mem_of_mem_take mx)⟩ ((le1.tr le2).tr le3) hd3 S

end
theorem lv_le {l : List Str} : ∀ {o : List (List Str)}, l ∈ o → l.length ≤ o.flatten.length
  | [], h => by cases h
  | x :: o, h => by
    rw [List.flatten_cons, List.length_append]
    rcases List.mem_cons.mp h with rfl | h
    · omega
    · have := lv_le h
      omega
theorem ordOf_len {ps : List Str} {W : Od} (o : OrdOf ps W) (hn : ps.Nodup) : W.flatten.length = ps.length := (perm_nd o.nd hn o.mem).length_eq

theorem sub_len : ∀ {a b : List Str}, a.Nodup → (∀ x ∈ a, x ∈ b) → a.length ≤ b.length
  | [], _, _, _ => Nat.zero_le _
  | x :: a, b, nd, h => by
    obtain ⟨h1, h2⟩ := List.nodup_cons.mp nd
    have m := h x List.mem_cons_self
    have := sub_len (b := b.erase x) h2 fun y my => (List.mem_erase_of_ne fun (e : y = x) => h1 (e ▸ my)).mpr (h y (List.mem_cons_of_mem _ my))
    rw [List.length_erase_of_mem m] at this
    have := List.length_pos_of_mem m
    rw [List.length_cons]
    omega
/-- an order of some of the names ns -/
structure OO (ns : List Str) (o : Od) : Prop where
  lv : ∀ l ∈ o, LvOk l
  nd : o.flatten.Nodup
  sub : ∀ x ∈ o.flatten, x ∈ ns
theorem flat_len : ∀ {o : Od}, (∀ l ∈ o, l ≠ []) → o.length ≤ o.flatten.length
  | [], _ => Nat.zero_le _
  | l :: o, h => by
    have ih := flat_len (o := o) fun x m => h x (List.mem_cons_of_mem _ m)
    have := List.length_pos_iff.mpr (h l List.mem_cons_self)
    rw [List.flatten_cons, List.length_append, List.length_cons]
    omega
section
variable {ns : List Str} {o : Od}
theorem OO.fl (h : OO ns o) : o.flatten.length ≤ ns.length := sub_len h.nd h.sub
theorem OO.ln (h : OO ns o) : o.length ≤ ns.length := Nat.le_trans (flat_len fun l m => (h.lv l m).ne) h.fl
theorem OO.ll (h : OO ns o) : ∀ l ∈ o, l.length ≤ ns.length := fun l m => Nat.le_trans (lv_le m) h.fl
theorem OO.asc (h : OO ns o) : ∀ l ∈ o, Asc l := fun l m => (h.lv l m).asc
theorem OO.sm (h : OO ns o) (hn : ns.length ≤ 17) : SmO o := ⟨by have := h.ln; omega, h.nd, by have := h.fl; omega⟩
theorem OO.wf (h : OO ns o) (hn : ns.length ≤ 17) : WfO o := ⟨by have := h.ln; omega, fun l m => by have := h.ll l m; omega⟩
theorem OO.nms (h : OO ns o) (hn : Nms ns) : Nms o.flatten := fun x m => hn x (h.sub x m)
theorem OO.only (h : OO ns o) (ps : List Str) : OO ns (onlyO ps o) := by
  refine ⟨fun l m => ?_, ?_, fun x m => ?_⟩
  · obtain ⟨y, hy, rfl⟩ := List.mem_map.mp (List.mem_filter.mp m).1
    have := h.lv y hy
    exact ⟨asc_filter _ this.asc, this.nd.filter _, onlyO_ne m⟩
  · rw [onlyO_flat]; exact h.nd.filter _
  · rw [onlyO_flat] at m
    exact h.sub x (List.mem_filter.mp m).1
theorem OO.inn (h : OO ns o) : LvIn o.flatten o := fun l m => ⟨h.lv l m, fun x hx => List.mem_flatten.mpr ⟨l, m, hx⟩⟩
end
theorem OO.of {ps : List Str} {W : Od} (h : OrdOf ps W) : OO ps W := ⟨h.lv, h.nd, fun x m => (h.mem x).mp m⟩

theorem asO_flat : ∀ lv : List (List Str), (asO lv).flatten.Perm lv.flatten
  | [] => List.Perm.refl _
  | l :: lv => by
    have ih := asO_flat lv
    unfold asO at ih ⊢
    rw [List.filter_cons]
    cases l with
    | nil => exact ih
    | cons x l =>
      show (sortS (x :: l) ++ _).Perm ((x :: l) ++ lv.flatten)
      exact (sort_perm _).append ih
theorem nd_lv {l : List Str} : ∀ {o : List (List Str)}, l ∈ o → o.flatten.Nodup → l.Nodup
  | [], h, _ => by cases h
  | x :: o, h, n => by
    rw [List.flatten_cons, List.nodup_append] at n
    rcases List.mem_cons.mp h with rfl | h
    · exact n.1
    · exact nd_lv h n.2.1
theorem asO_oo {ns : List Str} {lv : List (List Str)} (hn : ns.Nodup) (hp : lv.flatten.Perm ns) : OO ns (asO lv) := by
  have pm := (asO_flat lv).trans hp
  have nd := pm.nodup_iff.mpr hn
  refine ⟨fun l m => ?_, nd, fun x m => pm.mem_iff.mp m⟩
  have m0 := m
  obtain ⟨y, hy, rfl⟩ := List.mem_map.mp m
  have hne := (List.mem_filter.mp hy).2
  refine ⟨asc_sort y, nd_lv m0 nd, fun e => ?_⟩
  have := (sort_perm y).length_eq
  rw [e] at this
  cases y with
  | nil => simp at hne
  | cons z y => simp at this

end Pf

set_option Elab.async false
set_option linter.all false
set_option maxRecDepth 100000
set_option maxHeartbeats 8000000
namespace Pf
open PySem L2 Kt
set_option hygiene false
local macro_rules | `(tactic| walk_at "mem") => `(tactic| (with_reducible (repeat (first | exact Pick.hd | apply Pick.tl)); done))
local macro_rules | `(tactic| walk_at "rep") => `(tactic| (with_reducible (repeat (first | exact Repl.hd | apply Repl.tl)); done))
local macro_rules | `(tactic| walk_at "sel") => `(tactic| ((repeat (with_reducible apply Sel.cons; (focus walk_at "mem"))); (with_reducible apply Sel.nil); (with_reducible (repeat (first | exact Dr.all | apply Dr.skip)); done)))
local macro_rules | `(tactic| walk_at "at") => `(tactic| (refine' Sep.at_ (by assumption) ?kkpk; (case kkpk => walk_at "mem")))
local macro_rules | `(tactic| walk_at "sq") => `(tactic| first | assumption | (refine' Sep.sq (by assumption) ?kkpk; (case kkpk => walk_at "mem")))
local macro_rules | `(tactic| walk_at "st") => `(tactic| first | assumption | (refine' Sep.st (by assumption) ?kkpk; (case kkpk => walk_at "mem")))
local macro_rules | `(tactic| walk_at "lk") => `(tactic| (repeat (first | (with_reducible exact lk_eq) | exact rfl | refine (lk_ne (by decide +kernel)).trans ?_)))
local macro_rules | `(tactic| walk_at "pf") => `(tactic| (repeat (first | (with_reducible exact pf_nil) | (with_reducible exact pf_eq) | (apply pf_ne; (focus decide +kernel)))))
local macro_rules | `(tactic| walk_at "ty") => `(tactic| first | exact ty_int | (refine' ty_lst ?kkh; (case kkh => walk_at "at")))
local macro_rules | `(tactic| walk_at "k1") => `(tactic| with_reducible first
  | refine q_seq ?_ | refine q_set ?_ | refine q_asg ?_ | refine q_ret ?_ | refine q_drop ?_ | refine q_next ?_ | refine q_c ?_ | refine q_op ?_ | refine q_un ?_ | refine q_nil ?_ | refine q_cons ?_ | refine q_cb ?_
  | refine q_call ?_ | refine q_ifs ?_ | refine q_if ?_ | refine q_test ?_ | refine q_tb ?_ | refine q_bl ?_ | refine q_notT ?_ | refine q_andT ?_ | refine q_orT ?_ | refine q_andV ?_ | refine q_orV ?_ | refine q_notV ?_
  | refine q_addA ?_ | refine q_subI ?_ | refine q_ltI ?_ | refine q_leI ?_ | refine q_gtI ?_ | refine q_geI ?_ | refine q_eqI ?_ | refine q_neI ?_ | refine q_abs ?_ | refine q_int ?_ | refine q_intB ?_ | refine q_max ?_ | refine q_min ?_
  | refine q_ipAdd ?_ | refine q_ipSub ?_ | refine q_gsub ?_ | refine q_augs ?_ | refine q_lst ?_ | refine q_tup ?_ | refine q_blI ?_ | refine iteT ?_ | refine iteF ?_ | refine iteNT ?_ | refine iteNF ?_
  | refine r_prop ?_ | refine r_fld ?_ | refine r_sfld ?_ | refine r_meth ?_ | refine r_make ?_ | refine r_sl ?_ | refine r_nopart ?_ | refine r_part ?_ | refine r_parti ?_ | refine r_gsl ?_ | refine r_bm ?_ | refine r_bm0 ?_ | refine r_for ?_ | refine r_ilist ?_ | refine r_irng ?_
  | refine r_gname ?_ | refine r_gcons ?_ | refine r_gnil ?_ | refine r_par ?_ | refine r_parA ?_ | refine r_chain ?_ | refine r_isN ?_ | refine r_tlc ?_ | refine r_yes ?_ | refine r_makek ?_ | refine r_neg ?_)
local macro_rules | `(tactic| walk_at "k2") => `(tactic| first
  | ((with_reducible refine' q_var ?kke ?_); (case kke => rfl))
  | ((with_reducible refine' q_aug ?kke ?_); (case kke => rfl))
  | ((with_reducible refine' q_ixL ?kks ?kke ?_); (case kks => walk_at "sq"); (case kke => first | rfl | assumption))
  | ((with_reducible refine' q_ixT ?kks ?kke ?_); (case kks => walk_at "st"); (case kke => first | rfl | assumption))
  | ((with_reducible refine' q_ixLL ?kks ?kke ?_); (case kks => walk_at "sq"); (case kke => first | rfl | assumption))
  | ((with_reducible refine' q_lenL ?kks ?_); (case kks => walk_at "sq"))
  | ((with_reducible refine' q_mulI ?kkc ?_); (case kkc => first | exact .inl (by omega) | exact .inr (by omega)))
  | ((with_reducible refine' q_modI ?kkc ?_); (case kkc => omega))
  | ((with_reducible refine' q_divI ?kkc ?_); (case kkc => exact ⟨by omega, by omega⟩))
  | ((with_reducible refine' q_powI ?kkc ?_); (case kkc => exact ⟨by decide, by decide, by decide⟩))
  | ((with_reducible refine' r_kfld ?kkS ?kkp ?kkc ?kkn ?kkl ?_); (case kkS => assumption); (case kkp => walk_at "mem"); (case kkc => walk_at "cls"); (case kkn => walk_at "na"); (case kkl => walk_at "lk"))
  | ((with_reducible refine' r_kprop ?kkS ?kkp ?_); (case kkS => assumption); (case kkp => walk_at "mem"))
  | ((with_reducible refine' r_kmeth ?kkS ?kkp ?kkl ?_); (case kkS => assumption); (case kkp => walk_at "mem"); (case kkl => walk_at "lk"))
  | ((with_reducible refine' r_calll ?kks ?_); (case kks => rfl))
  | ((with_reducible refine' r_tyl ?kks ?_); (case kks => walk_at "sq"))
  | ((with_reducible refine' r_isi (k := true) ?kkt ?kke ?_); (case kkt => walk_at "ty"); (case kke => decide +kernel))
  | ((with_reducible refine' r_isi (k := false) ?kkt ?kke ?_); (case kkt => walk_at "ty"); (case kke => decide +kernel)))
local macro_rules | `(tactic| walk_at "k3") => `(tactic| first
  | ((with_reducible refine' q_setS ?kkS ?kkr ?kke ?_); (case kkS => assumption); (case kkr => walk_at "rep"); (case kke => rfl); intro H S)
  | ((with_reducible refine' r_kset ?kkS ?kkr ?kkc ?kkn ?kkl ?kke ?_); (case kkS => assumption); (case kkr => walk_at "rep"); (case kkc => walk_at "cls"); (case kkn => walk_at "na"); (case kkl => first | exact Nat.le_of_ble_eq_true rfl | assumption | omega | (simp; done) | (simp; omega)); (case kke => walk_at "pf"); intro H S)
  | ((with_reducible refine' q_new ?kkS ?kkl ?_); (case kkS => assumption); (case kkl => first | exact Nat.le_of_ble_eq_true rfl | assumption | omega | (simp; done) | (simp; omega)); intro p H S)
  | ((with_reducible refine' q_newT ?kkS ?kkl ?_); (case kkS => assumption); (case kkl => first | exact Nat.le_of_ble_eq_true rfl | assumption | omega | (simp; done) | (simp; omega)); intro p H S)
  | ((with_reducible refine' r_knew ?kkS ?_); (case kkS => assumption); intro x dx H S)
  | ((with_reducible refine' r_knewk ?kkS ?kkl1 ?kkl2 ?_); (case kkS => assumption); (case kkl1 => rfl); (case kkl2 => rfl); intro x dx H S)
  | ((with_reducible refine' r_ksl ?kkS ?kks ?_); (case kkS => assumption); (case kks => walk_at "sq"); intro p H S)
  | ((with_reducible refine' r_list ?kkS ?kks ?_); (case kkS => assumption); (case kks => walk_at "sq"); intro p H S)
  | ((with_reducible refine' r_cat ?kkS ?kks1 ?kks2 ?kkz ?_); (case kkS => assumption); (case kks1 => walk_at "at"); (case kks2 => walk_at "at"); (case kkz => first | omega | (simp; omega)); intro p H S)
  | ((with_reducible refine' r_append ?kkS ?kkr ?kkz ?_); (case kkS => assumption); (case kkr => walk_at "rep"); (case kkz => first | omega | (simp; omega)); intro H S)
  | ((with_reducible refine' r_reverse ?kkS ?kkr ?_); (case kkS => assumption); (case kkr => walk_at "rep"); intro H S)
  | ((with_reducible refine' r_clear ?kkS ?kkr ?_); (case kkS => assumption); (case kkr => walk_at "rep"); intro H S))
local macro_rules | `(tactic| walk_at "gn") => `(tactic| repeat (first | walk_at "k1" | walk_at "k2"))
local macro_rules | `(tactic| walk_at "go") => `(tactic| repeat (first | walk_at "k1" | walk_at "k2" | walk_at "k3"))

local macro_rules | `(tactic| walk_at "sq") => `(tactic| first | assumption | (refine' Sep.sq ?kkS ?kkpk; (case kkS => assumption); (case kkpk => walk_at "mem")) | (refine' hp_sqL ?kkS ?kkx; (case kkS => assumption); (case kkx => assumption)) | (refine' hp_sqL (Sep.tl ?kkS) ?kkx; (case kkS => assumption); (case kkx => assumption)) | (refine' hp_sqL (Sep.tl (Sep.tl ?kkS)) ?kkx; (case kkS => assumption); (case kkx => assumption)))
local macro_rules | `(tactic| walk_at "st") => `(tactic| first | assumption | (refine' Sep.st ?kkS ?kkpk; (case kkS => assumption); (case kkpk => walk_at "mem")) | (refine' hp_sqT ?kkS ?kkx; (case kkS => assumption); (case kkx => assumption)) | (refine' hp_sqT (Sep.tl ?kkS) ?kkx; (case kkS => assumption); (case kkx => assumption)) | (refine' hp_sqT (Sep.tl (Sep.tl ?kkS)) ?kkx; (case kkS => assumption); (case kkx => assumption)))
local macro_rules | `(tactic| walk_at "k1") => `(tactic| with_reducible first | refine r_ienumT ?_ | refine r_tru ?_ | refine r_itup ?_ | refine r_star ?_ | refine r_par3 ?_ | refine r_parA3 ?_ | refine r_dget ?_ | refine r_din ?_ | refine r_dnotin ?_ | refine r_dput ?_)

local macro_rules | `(tactic| walk_at "k1") => `(tactic| with_reducible first | refine r_tlc2 ?_ | refine r_tdc ?_ | refine r_irng3 ?_)

theorem rise_le {x y : Str} (h : (!PySem.Spec.ltCps y.cps.toList x.cps.toList) = true) : leS x y = true := by
  rw [PyProof.Rows.ltCps_eq, Bool.not_eq_true', decide_eq_false_iff_not] at h
  rw [leS_eq]
  exact decide_eq_true (List.not_lt.mp h)
theorem rise_asc : ∀ (r : List Str) (x : Str), PyProof.Rows.risingS x r = true → Asc (x :: r)
  | [], x, _ => List.pairwise_singleton ..
  | y :: r, x, h => by
    rw [PyProof.Rows.risingS, Bool.and_eq_true] at h
    have ih := rise_asc r y h.2
    have h1 := rise_le h.1
    refine List.pairwise_cons.mpr ⟨fun z m => ?_, ih⟩
    rcases List.mem_cons.mp m with rfl | m
    · exact h1
    · exact leS_trans _ _ _ h1 ((List.pairwise_cons.mp ih).1 z m)
theorem asc_of {l : List Str} (h : PyProof.Rows.sortedS l = true) : Asc l := by
  cases l with
  | nil => exact List.Pairwise.nil
  | cons x r => exact rise_asc r x h
def rSortDk : List V → Hp → VK → Prop := fun xs H Q => ∃ (a : Addr) (kvs : List (Key × V)) (ks : List Str), xs = [.ref a] ∧ Rd H a (.dK kvs) ∧ kvs.map (·.1) = ks.map Sum.inr ∧ ks.length < 64 ∧
    ∀ ys p, ys.Perm ks → PyProof.Rows.sortedS ys = true → H p = none → Q (.ref p) (upd H p (.lst (ys.map V.str)))
theorem cr_sortDk {X : Cx} (hc : X.calm = true) : CallR X (.builtin "sorted") rSortDk := call_sortedD hc
def rSortC (K : PySem.W.Frag) (P : Program) (w : World) : List V → Hp → VK → Prop := fun xs H Q => rSortB K P w xs H Q ∨ rSortDk xs H Q
theorem cr_sortC {X : Cx} (hc : X.calm = true) (hu : X.A.units + 64 < cLine) : CallR X (.builtin "sorted") (rSortC X.K X.prog X.w) := fun pins s σ H xs us Q I r h => h.elim (cr_sortB hc hu pins s σ H xs us Q I r) (cr_sortDk hc pins s σ H xs us Q I r)
theorem r_sortRk {H : Hp} {Ps : List SP} {Q : VK} {d : Addr} {kv : Rk} (S : Sep Ps H) (e : Rd H d (.dK (encK kv))) (hl : kv.length < 64) (q : ∀ p H', Sep (pt p (.lst ((sortS (kv.map Prod.fst)).map V.str)) :: Ps) H' → Q (.ref p) H') : rSortDk [.ref d] H Q := by
  refine ⟨d, encK kv, kv.map Prod.fst, rfl, e, ?_, by rw [List.length_map]; exact hl, fun ys p hp hs np => ?_⟩
  · rw [encK, List.map_map, List.map_map]
    rfl
  · have : sortS (kv.map Prod.fst) = ys := sort_uniq (asc_of hs) hp
    rw [← this]
    exact q p _ (S.new _ np)

theorem only_loc {ps qs : List Str} : ∀ {o : Od}, (∀ x ∈ o.flatten, x ∈ ps ↔ x ∈ qs) → onlyO ps o = onlyO qs o
  | [], _ => rfl
  | l :: o, h => by
    have e : tie ps l = tie qs l := List.filter_congr fun x m => decide_eq_decide.mpr (h x (List.mem_append.mpr (.inl m)))
    rw [only_cons, only_cons, e, only_loc fun x m => h x (List.mem_append.mpr (.inr m))]
theorem lack_eq (ps : List Str) (o : Od) : lackO ps o = onlyO (o.flatten.filter fun x => !decide (x ∈ ps)) o := by
  unfold lackO onlyO
  congr 1
  refine List.map_congr_left fun l ml => List.filter_congr fun x m => ?_
  have hx : x ∈ o.flatten := List.mem_flatten.mpr ⟨l, ml, m⟩
  rw [Bool.eq_iff_iff, decide_eq_true_eq, List.mem_filter]
  exact ⟨fun h => ⟨hx, h⟩, And.right⟩
theorem rkF_nd {o : Od} (h : o.flatten.Nodup) : ((rkF 0 o).map Prod.fst).Nodup := by rw [rkF_keys]; exact h
theorem mem_rkF {e : Str × Int} : ∀ {o : Od} {n : Nat}, e ∈ rkF n o ↔ ∃ (i : Nat) (l : Lv), o[i]? = some l ∧ e.1 ∈ l ∧ e.2 = ((n + i : Nat) : Int)
  | [], n => ⟨fun h => (by cases h), fun ⟨i, l, h, _⟩ => (by simp at h)⟩
  | l :: o, n => by
    show e ∈ l.map _ ++ rkF (n + 1) o ↔ _
    rw [List.mem_append, mem_rkF (o := o)]
    constructor
    · rintro (h | ⟨i, m, h1, h2, h3⟩)
      · obtain ⟨x, mx, rfl⟩ := List.mem_map.mp h
        exact ⟨0, l, rfl, mx, rfl⟩
      · exact ⟨i + 1, m, h1, h2, by rw [h3]; omega⟩
    · rintro ⟨i, m, h1, h2, h3⟩
      cases i with
      | zero =>
        cases h1
        refine .inl (List.mem_map.mpr ⟨e.1, h2, ?_⟩)
        rw [show (n : Int) = e.2 from h3.symm]
      | succ i => exact .inr ⟨i, m, h1, h2, by rw [h3]; omega⟩
/-- names that are made one stand in one level -/
def Mrg (f : Str → Str) (o : Od) : Prop := ∀ (i j : Nat) (l m : Lv) (p q : Str), o[i]? = some l → o[j]? = some m → p ∈ l → q ∈ m → f p = f q → i = j
def msR (n : Nat) : List Int := (List.range n).map fun i => ((i : Nat) : Int)
theorem ren_ord {f : Str → Str} {o : Od} {kv : Rk} (hm : Mrg f o) (hne : ∀ l ∈ o, l ≠ []) (nd : (kv.map Prod.fst).Nodup) (h1 : ∀ e ∈ kv, e ∈ (rkF 0 o).map fun e => (f e.1, e.2)) (h2 : ∀ k, k ∈ kv.map Prod.fst ↔ k ∈ ((rkF 0 o).map fun e => (f e.1, e.2)).map Prod.fst) :
    (msR o.length).Pairwise (· < ·) ∧ (∀ k, k ∈ msR o.length ↔ k ∈ kv.map Prod.snd) ∧ ordL kv (msR o.length) = renO f o := by
  have back : ∀ e ∈ kv, ∃ (i : Nat) (l : Lv) (p : Str), o[i]? = some l ∧ p ∈ l ∧ f p = e.1 ∧ e.2 = (i : Int) := fun e m => by
    obtain ⟨y, my, rfl⟩ := List.mem_map.mp (h1 e m)
    obtain ⟨i, l, a, b, c⟩ := mem_rkF.mp my
    exact ⟨i, l, y.1, a, b, rfl, by rw [show (f y.1, y.2).2 = y.2 from rfl, c, Nat.zero_add]⟩
  have fwd : ∀ (i : Nat) (l : Lv) (p : Str), o[i]? = some l → p ∈ l → (f p, (i : Int)) ∈ kv := fun i l p a b => by
    have : f p ∈ kv.map Prod.fst := (h2 _).mpr (List.mem_map.mpr ⟨(f p, (i : Int)), List.mem_map.mpr ⟨(p, (i : Int)), mem_rkF.mpr ⟨i, l, a, b, by rw [Nat.zero_add]⟩, rfl⟩, rfl⟩)
    obtain ⟨e, me, he⟩ := List.mem_map.mp this
    obtain ⟨j, m, q, c1, c2, c3, c4⟩ := back e me
    have := hm i j l m p q a c1 b c2 (he.symm.trans c3.symm)
    subst this
    rw [← he, ← c4]
    exact me
  refine ⟨List.pairwise_map.mpr (List.pairwise_lt_range.imp fun h => Int.ofNat_lt.mpr h), fun k => ?_, ?_⟩
  · unfold msR
    rw [List.mem_map]
    constructor
    · rintro ⟨i, mi, rfl⟩
      have hi := List.mem_range.mp mi
      obtain ⟨x, r, ex⟩ := List.exists_cons_of_ne_nil (hne o[i] (List.getElem_mem hi))
      exact List.mem_map.mpr ⟨_, fwd i o[i] x (List.getElem?_eq_getElem hi) (by rw [ex]; exact List.mem_cons_self), rfl⟩
    · intro m
      obtain ⟨e, me, rfl⟩ := List.mem_map.mp m
      obtain ⟨i, l, p, c1, _, _, c4⟩ := back e me
      exact ⟨i, List.mem_range.mpr (List.getElem?_eq_some_iff.mp c1).1, c4.symm⟩
  · unfold ordL renO msR
    rw [List.map_map]
    refine List.ext_getElem (by simp) fun i i1 i2 => ?_
    rw [List.length_map] at i2
    rw [List.getElem_map, List.getElem_map, List.getElem_range]
    show sortS _ = _
    refine asc_same (asc_sort _) ((sort_perm _).nodup_iff.mpr (nd.sublist (List.filter_sublist.map _))) (set_asc _) (set_nd _) fun x => ?_
    rw [(sort_perm _).mem_iff, mem_set, List.mem_map, List.mem_map]
    constructor
    · rintro ⟨e, me, rfl⟩
      obtain ⟨m1, m2⟩ := List.mem_filter.mp me
      obtain ⟨j, l, p, c1, c2, c3, c4⟩ := back e m1
      have m2 := of_decide_eq_true m2
      have : j = i := by
        have : (j : Int) = (i : Int) := c4.symm.trans m2
        omega
      subst this
      rw [List.getElem?_eq_getElem i2] at c1
      cases c1
      exact ⟨p, c2, c3⟩
    · rintro ⟨p, mp, rfl⟩
      exact ⟨_, List.mem_filter.mpr ⟨fwd i o[i] p (List.getElem?_eq_getElem i2) mp, decide_eq_true rfl⟩, rfl⟩
/-! ### what is told of an order -/
def lvI (o : Od) (x : Str) : Option Int := (lvO o x).map fun i : Nat => (i : Int)
def cellD (o : Od) (x y : Str) : PyData := .tuple [dOptI (lvI o x), dOptI (cmpO o x y)]
def cellsD (o : Od) (as ps : List Str) : List PyData := as.flatMap fun x => ps.map fun y => cellD o x y
theorem cells_s {o : Od} {as ps : List Str} {i : Nat} {x : Str} (h : as[i]? = some x) : cellsD o (as.take (i + 1)) ps = cellsD o (as.take i) ps ++ ps.map fun y => cellD o x y := by
  unfold cellsD
  rw [List.take_add_one, h, List.flatMap_append]
  simp
theorem cells_len (o : Od) : ∀ (as ps : List Str), (cellsD o as ps).length = as.length * ps.length
  | [], ps => by simp [cellsD]
  | a :: as, ps => by
    have := cells_len o as ps
    unfold cellsD at this ⊢
    rw [List.flatMap_cons, List.length_append, this, List.length_map, List.length_cons, Nat.succ_mul, Nat.add_comm]
theorem vOpt_I (o : Option Nat) : vOpt o = vOptI (o.map fun i : Nat => (i : Int)) := by cases o <;> rfl
theorem sg_cmp (o : Od) (x y : Str) : sgI (rkGet (rkF 0 o) x) (rkGet (rkF 0 o) y) = cmpO o x y := by
  rw [rkGet_0, rkGet_0]
  unfold cmpO
  cases lvO o x with
  | none => rfl
  | some i =>
    cases lvO o y with
    | none => rfl
    | some j =>
      show some (if ((i : Nat) : Int) = ((j : Nat) : Int) then (0 : Int) else if ((i : Nat) : Int) < ((j : Nat) : Int) then -1 else 1) = some (if i = j then 0 else if i < j then -1 else 1)
      congr 1
      by_cases e : i = j
      · subst e; simp
      · rw [if_neg e, if_neg (fun z : (i : Int) = (j : Int) => e (by omega))]
        by_cases l : i < j
        · rw [if_pos l, if_pos (by omega)]
        · rw [if_neg l, if_neg (by omega)]
def dueD (o : Od) (ps : List Str) (ls : List (Str × Str)) : List PyData := [dNs (sortS o.flatten), .list (cellsD o ps ps), dOd (onlyO ps o), dOd (lackO ps o), dOd (renO (lookR ls) o)]

section
variable {P : Program} {w : World} {K : PySem.W.Frag} {mg : Str → Option Value} {base : Heap}
theorem sc_l_reckon : FnScope N_l_reckon ["_law_order", "_law_names_here", "_law_led"] (defScope s_l_reckon) := ⟨rfl, rfl, rfl, by decide +kernel, rfl, by decide +kernel, by decide +kernel⟩
theorem keys_filter (ps : List Str) : ∀ l : Rk, (l.filter fun e => decide (e.1 ∈ ps)).map Prod.fst = (l.map Prod.fst).filter fun x => decide (x ∈ ps)
  | [] => rfl
  | e :: l => by
    rw [List.filter_cons, List.map_cons, List.filter_cons, ← keys_filter ps l]
    by_cases h : e.1 ∈ ps <;> simp [h]
theorem kvP_not (ps : List Str) (o : Od) : ((rkF 0 o).filter fun e => !decide (e.1 ∈ ps)) = kvP (o.flatten.filter fun x => !decide (x ∈ ps)) 0 o := by
  unfold kvP
  refine List.filter_congr fun e m => ?_
  have : e.1 ∈ o.flatten := by rw [← rkF_keys o 0]; exact List.mem_map_of_mem m
  rw [Bool.eq_iff_iff, decide_eq_true_eq, List.mem_filter]
  exact ⟨fun h => ⟨this, h⟩, And.right⟩
def spReck (K : PySem.W.Frag) : Sp := fun vs H Q _ => ∃ (a n d : Addr) (ns : List Str) (o : Od) (ps : List Str) (ls : List (Str × Str)) (G : Hp) (R : List SP), vs = [.ref a, .ref n, .ref d] ∧ OO ns o ∧ ns.length ≤ 17 ∧ ps.length ≤ 7 ∧ Mrg (lookR ls) o ∧ Dp K G (.ref a) (dOd o) ∧ Dp K G (.ref n) (dNs ps) ∧ Sep (hp G :: pt d (.dK (encG V.str ls)) :: R) H ∧
  ∀ t G' H', Le G G' → LD K G' t (dueD o ps ls) → Sep (hp G' :: pt d (.dK (encG V.str ls)) :: R) H' → Q (.ref t) H'
theorem ok_l_reckon {f f1 f2 f3 : Addr} (F : Dt K mg "_law_reckon" s_l_reckon ["_law_order", "_law_names_here", "_law_led"] f) (T : Tx K mg) (D_l_ranks : Df P w K mg base 1 "_law_ranks" f1 ["_law_order"] (spRanks K)) (D_l_order_of : Df P w K mg base 1 "_law_order_of" f2 ["_law_ranks_here"] (spOrdOf K))
    (D_l_sign_of : Df P w K mg base 1 "_law_sign_of" f3 ["_law_at", "_law_one", "_law_other"] (spSign K)) : Df P w K mg base 2 "_law_reckon" f ["_law_order", "_law_names_here", "_law_led"] (spReck K) := by
  refine F.ok sc_l_reckon (fun vs H Q E h => ?_) (fun cdv A outer s H vs Q E hr h => ?_)
  · obtain ⟨a, n, d, ns, o, ps, ls, G, R, rfl, _⟩ := h
    rfl
  obtain ⟨a, n, d, ns, o, ps, ls, G, R, rfl, oo, hn, hps, hm, hx, hy, S, q⟩ := h
  refine ⟨_, (pss_cons (ps_asg (pe_tup (pa_cons (pe_df D_l_ranks (hr.mono (by first | decide | omega)) (pa_cons (pv 0) pa_nil)) (pa_cons (pe_lst pa_nil) pa_nil))) (pg_tupK K rfl (pgs_cons (pg_name (i := 3) sc_l_reckon.nd rfl (by first | exact Or.inl rfl | exact Or.inr rfl)) (pgs_cons (pg_name (i := 4) sc_l_reckon.nd rfl (by first | exact Or.inl rfl | exact Or.inr rfl)) pgs_nil))))
      (pss_cons (ps_for PassesOwn.never rfl (pi_listK K (pv 1)) (pg_name (i := 5) sc_l_reckon.nd rfl (by first | exact Or.inl rfl | exact Or.inr rfl)) (pss_one (ps_for PassesOwn.never rfl (pi_listK K (pv 1)) (pg_name (i := 6) sc_l_reckon.nd rfl (by first | exact Or.inl rfl | exact Or.inr rfl)) (pss_one (ps_expr (pe_bmK K PySem.F.plainAttrs_list PySem.F.slot_list_append PySem.F.type_list_append mt_append (pv 4) (pa_cons (pe_tup (pa_cons (pe_dget1 (Nat.lt_of_le_of_lt (Nat.add_le_add_left (by decide) _) hr.units) (pv 3) (pv 5) ⟨rfl, rfl, rfl, rfl⟩) (pa_cons (pe_df D_l_sign_of (hr.mono (by first | decide | omega)) (pa_cons (pv 3) (pa_cons (pv 5) (pa_cons (pv 6) pa_nil)))) pa_nil))) pa_nil)))))))
      (pss_cons (ps_set (i := 7) sc_l_reckon.nd rfl (by first | exact Or.inl rfl | exact Or.inr rfl) (pe_callTy (r := rDictP K) (cr_dictP rfl) (by rfl) T.z_dict (by decide +kernel) (pa_cons (pe_lock (pe_lc (own := [("_law_point", 9)]) rfl sc_l_reckon.nd (pi_keys (pv 3)) (blkOk_by (own := [("_law_point", 9)]) (N := N_l_reckon) (sc := defScope s_l_reckon) (by decide +kernel)) (fun _ _ _ _ _ => (pg_name (i := 9) sc_l_reckon.nd rfl (by first | exact Or.inl rfl | exact Or.inr rfl))) (fun _ _ _ _ _ => (pts_one (pt_cmpR (r := rIn K false) op_in_seq (pv 9) (pv 1) (by rfl)))) (fun _ _ _ _ _ => (pe_tup (pa_cons (pv 9) (pa_cons (pe_dget (Nat.lt_of_le_of_lt (Nat.add_le_add_left (by decide) _) hr.units) (pv 3) (pv 9) (by first | rfl | trivial | exact fun _ _ => rfl)) pa_nil)))))) pa_nil)))
      (pss_cons (ps_set (i := 8) sc_l_reckon.nd rfl (by first | exact Or.inl rfl | exact Or.inr rfl) (pe_callTy (r := rDictP K) (cr_dictP rfl) (by rfl) T.z_dict (by decide +kernel) (pa_cons (pe_lock (pe_lc (own := [("_law_point", 9)]) rfl sc_l_reckon.nd (pi_keys (pv 3)) (blkOk_by (own := [("_law_point", 9)]) (N := N_l_reckon) (sc := defScope s_l_reckon) (by decide +kernel)) (fun _ _ _ _ _ => (pg_name (i := 9) sc_l_reckon.nd rfl (by first | exact Or.inl rfl | exact Or.inr rfl))) (fun _ _ _ _ _ => (pts_one (pt_cmpR (r := rIn K true) op_notIn_seq (pv 9) (pv 1) (by rfl)))) (fun _ _ _ _ _ => (pe_tup (pa_cons (pv 9) (pa_cons (pe_dget (Nat.lt_of_le_of_lt (Nat.add_le_add_left (by decide) _) hr.units) (pv 3) (pv 9) (by first | rfl | trivial | exact fun _ _ => rfl)) pa_nil)))))) pa_nil)))
      (pss_cons (ps_set (i := 6) sc_l_reckon.nd rfl (by first | exact Or.inl rfl | exact Or.inr rfl) (pe_callTy (r := rDictP K) (cr_dictP rfl) (by rfl) T.z_dict (by decide +kernel) (pa_cons (pe_lock (pe_lc (own := [("_law_point", 9)]) rfl sc_l_reckon.nd (pi_keys (pv 3)) (blkOk_by (own := [("_law_point", 9)]) (N := N_l_reckon) (sc := defScope s_l_reckon) (by decide +kernel)) (fun _ _ _ _ _ => (pg_name (i := 9) sc_l_reckon.nd rfl (by first | exact Or.inl rfl | exact Or.inr rfl))) (fun _ _ _ _ _ => pts_nil) (fun _ _ _ _ _ => (pe_tup (pa_cons (pe_dget2 (Nat.lt_of_le_of_lt (Nat.add_le_add_left (by decide) _) hr.units) (pv 2) (pv 9) (pv 9) ⟨rfl, rfl, rfl, rfl⟩) (pa_cons (pe_dget (Nat.lt_of_le_of_lt (Nat.add_le_add_left (by decide) _) hr.units) (pv 3) (pv 9) (by first | rfl | trivial | exact fun _ _ => rfl)) pa_nil)))))) pa_nil)))
      (pss_one (ps_ret (pe_lst (pa_cons (pe_callB (r := rSortDk) (cr_sortDk rfl) (by rfl) T.z_sorted (by decide +kernel) (pa_cons (pv 3) pa_nil)) (pa_cons (pv 4) (pa_cons (pe_df D_l_order_of (hr.mono (by first | decide | omega)) (pa_cons (pv 7) pa_nil)) (pa_cons (pe_df D_l_order_of (hr.mono (by first | decide | omega)) (pa_cons (pv 8) pa_nil)) (pa_cons (pe_df D_l_order_of (hr.mono (by first | decide | omega)) (pa_cons (pv 6) pa_nil)) pa_nil))))))))))))), ?_⟩
  have sm := oo.sm hn
  have hnq := dns_sq hy
  walk_at "go"
  refine ⟨a, o, G, _, rfl, sm, hx, S, fun r H S => ?_⟩
  walk_at "go"
  rename_i F1 _ _
  refine r_gtup (xs := [.ref r, .ref F1]) (by walk_at "st") rfl ?_
  walk_at "go"
  have S : Sep (pt F1 (.lst []) :: hp G :: pt r (.dK (encK (rkF 0 o))) :: pt d (.dK (encG V.str ls)) :: R) H := S.s4 (A := pt F1 (.lst [])) (B := hp G) (C := pt r (.dK (encK (rkF 0 o)))) (D := pt d (.dK (encG V.str ls))) (by walk_at "sel")
  refine r_for_list (xs := ps.map V.str) (fun i σ Ps => ∃ u5 u6 u7 u8 u9 acc Gi, σ = [some (.ref a), some (.ref n), some (.ref d), some (.ref r), some (.ref F1), u5, u6, u7, u8, u9] ∧ Le G Gi ∧ DpAll K Gi acc (cellsD o (ps.take i) ps) ∧ Ps = pt F1 (.lst acc) :: hp Gi :: pt r (.dK (encK (rkF 0 o))) :: pt d (.dK (encG V.str ls)) :: R) S ⟨_, _, _, _, _, [], G, rfl, Le.rfl, .nil, rfl⟩ (fun i σ Ps H hi ⟨_, _, _, _, _, _, _, _, le, _, e⟩ S => by subst e; exact hp_sqL S.tl (SqL.le le hnq)) ?_ ?_
  · rintro i x σ Ps H hi ⟨u5, u6, u7, u8, u9, acc, Gi, rfl, leI, hacc, rfl⟩ S
    obtain ⟨x, hx1, rfl⟩ := str_at hi
    have hil := (List.getElem?_eq_some_iff.mp hx1).1
    have hcl : (cellsD o (ps.take i) ps).length ≤ 49 := by
      rw [cells_len, List.length_take]
      exact Nat.mul_le_mul (show min i ps.length ≤ 7 by omega) hps
    walk_at "go"
    refine r_for_list (xs := ps.map V.str) (fun j σ Ps => ∃ u6 acc Gj, σ = [some (.ref a), some (.ref n), some (.ref d), some (.ref r), some (.ref F1), some (.str x), u6, u7, u8, u9] ∧ Le G Gj ∧ DpAll K Gj acc (cellsD o (ps.take i) ps ++ (ps.take j).map fun y => cellD o x y) ∧ Ps = pt F1 (.lst acc) :: hp Gj :: pt r (.dK (encK (rkF 0 o))) :: pt d (.dK (encG V.str ls)) :: R) S ⟨_, acc, Gi, rfl, leI, by rw [List.take_zero, List.map_nil, List.append_nil]; exact hacc, rfl⟩ (fun i σ Ps H hi ⟨_, _, _, _, le, _, e⟩ S => by subst e; exact hp_sqL S.tl (SqL.le le hnq)) ?_ ?_
    · rintro j y σ Ps H hj ⟨u6, acc, Gj, rfl, leJ, hacc, rfl⟩ S
      obtain ⟨y, hy1, rfl⟩ := str_at hj
      have hjl := (List.getElem?_eq_some_iff.mp hy1).1
      have hal := dpall_len hacc
      rw [List.length_append, List.length_map, List.length_take] at hal
      have hrr : H r = some (.dK (encK (rkF 0 o))) := S.tl.tl.hd_at
      walk_at "go"
      refine r_dget1 rfl (.inl hrr) ?_
      walk_at "go"
      refine r_dgK (.inl hrr) ?_
      walk_at "go"
      refine ⟨r, rkF 0 o, x, y, _, rfl, S.s1 (A := pt r (.dK (encK (rkF 0 o)))) (by walk_at "sel"), fun H S => ?_⟩
      rw [sg_cmp, show rkGet (rkF 0 o) x = lvI o x from rkGet_0 x o]
      walk_at "go"
      have S : Sep (pt p (.tup [vOptI (lvI o x), vOptI (cmpO o x y)]) :: hp Gj :: pt F1 (.lst (acc ++ [.ref p])) :: pt r (.dK (encK (rkF 0 o))) :: pt d (.dK (encG V.str ls)) :: R) H := S.s5 (A := pt p (.tup [vOptI (lvI o x), vOptI (cmpO o x y)])) (B := hp Gj) (C := pt F1 (.lst (acc ++ [.ref p]))) (D := pt r (.dK (encK (rkF 0 o)))) (E := pt d (.dK (encG V.str ls))) (by walk_at "sel")
      obtain ⟨G1, le1, h1, S⟩ := hp_tup (K := K) S (.cons (dp_optI _) (.cons (dp_optI _) .nil))
      refine ⟨_, ⟨_, acc ++ [.ref p], G1, rfl, leJ.tr le1, ?_, rfl⟩, S.swap⟩
      rw [List.take_add_one, hy1, List.map_append, ← List.append_assoc]
      exact dpall_snoc (DpAll.le le1 _ _ hacc) h1
    · rintro σ Ps H ⟨u6, acc, Gj, rfl, leJ, hacc, rfl⟩ S
      rw [List.length_map, List.take_length] at hacc
      refine ⟨_, ⟨_, _, _, _, _, acc, Gj, rfl, leJ, ?_, rfl⟩, S⟩
      rw [cells_s hx1]
      exact hacc
  · rintro σ Ps H ⟨u5, u6, u7, u8, u9, acc, G1, rfl, le1, hacc, rfl⟩ S
    rw [List.length_map, List.take_length] at hacc
    obtain ⟨G2, le2, hF, S⟩ := hp_LD (K := K) S hacc
    have hrl : (rkF 0 o).length ≤ 50 := by rw [rkF_len]; exact sm.fl
    have nd := rkF_nd sm.nd
    have hnq2 := SqL.le (le1.tr le2) hnq
    walk_at "go"
    refine r_lcD (K := K) (l := rkF 0 o) S.swap rfl (by omega) (fun e => if decide (e.1 ∈ ps) = true then some e else none) dPr (fun e he od => ?_) (fun D acc G4 H le4 hacc S => ?_)
    · intro D acc Gi x H N le hx hnn S kY kN
      cases dp_strInv hx
      walk_at "go"
      refine ⟨rfl, ?_⟩
      walk_at "go"
      refine r_in_strs (.inl (hp_sqL S.tl (SqL.le le hnq2))) ?_
      walk_at "go"
      refine q_ite (fun h => ?_) (fun h => ?_)
      · walk_at "go"
        refine r_dgetK (.inr ⟨od, S.tl.tl.hd_at⟩) (rkGet_mem nd he) ?_
        walk_at "go"
        obtain ⟨G6, le6, hd6, S⟩ := hp_tup (K := K) (S.s4 (A := pt p (.tup [.str e.1, .int e.2])) (B := hp Gi) (C := pt D (.lst acc)) (D := pt r (.frz od (.dK (encK (rkF 0 o))))) (by walk_at "sel")) (.cons (.str _) (.cons (.int _) .nil))
        exact kY _ _ G6 H le6 (by rw [decide_eq_true h]; rfl) hd6 S.swap
      · exact kN (by rw [decide_eq_false h]; rfl) H S
    rw [fm_if] at hacc
    obtain ⟨G5, le5, hd5, S⟩ := hp_lst (K := K) S hacc
    walk_at "go"
    have hkv : ((rkF 0 o).filter fun e => decide (e.1 ∈ ps)) = kvP ps 0 o := rfl
    rw [hkv] at hd5
    have ndk : ∀ qs, ((kvP qs 0 o).map Prod.fst).Nodup := fun qs => by
      show (((rkF 0 o).filter fun e => decide (e.1 ∈ qs)).map Prod.fst).Nodup
      rw [keys_filter]
      exact nd.filter _
    have lnk : ∀ qs, (kvP qs 0 o).length ≤ 50 := fun qs => by
      have := List.length_filter_le (fun e : Str × Int => decide (e.1 ∈ qs)) (rkF 0 o)
      show ((rkF 0 o).filter fun e => decide (e.1 ∈ qs)).length ≤ 50
      omega
    refine r_dictP S hd5 (ndk ps) fun d2 H S => ?_
    walk_at "go"
    have S : Sep (pt r (.dK (encK (rkF 0 o))) :: hp G5 :: pt d2 (.dK (encK (kvP ps 0 o))) :: pt d (.dK (encG V.str ls)) :: R) H := S.s4 (by walk_at "sel")
    have hnq5 := SqL.le (le4.tr le5) hnq2
    refine r_lcD (K := K) (l := rkF 0 o) S rfl (by omega) (fun e => if (!decide (e.1 ∈ ps)) = true then some e else none) dPr (fun e he od => ?_) (fun D acc G6 H le6 hacc S => ?_)
    · intro D acc Gi x H N le hx hnn S kY kN
      cases dp_strInv hx
      walk_at "go"
      refine ⟨rfl, ?_⟩
      walk_at "go"
      refine r_notin_strs (.inl (hp_sqL S.tl (SqL.le le hnq5))) ?_
      walk_at "go"
      by_cases h : e.1 ∈ ps
      · rw [decide_eq_true h]
        refine iteNT ?_
        exact kN (by rw [decide_eq_true h]; rfl) H S
      · rw [decide_eq_false h]
        refine iteNF ?_
        walk_at "go"
        refine r_dgetK (.inr ⟨od, S.tl.tl.hd_at⟩) (rkGet_mem nd he) ?_
        walk_at "go"
        obtain ⟨G6, le6, hd6, S⟩ := hp_tup (K := K) (S.s4 (A := pt p (.tup [.str e.1, .int e.2])) (B := hp Gi) (C := pt D (.lst acc)) (D := pt r (.frz od (.dK (encK (rkF 0 o))))) (by walk_at "sel")) (.cons (.str _) (.cons (.int _) .nil))
        exact kY _ _ G6 H le6 (by rw [decide_eq_false h]; rfl) hd6 S.swap
    rw [fm_if, kvP_not] at hacc
    generalize hqs : (o.flatten.filter fun x => !decide (x ∈ ps)) = qs at hacc
    obtain ⟨G7, le7, hd7, S⟩ := hp_lst (K := K) S hacc
    walk_at "go"
    refine r_dictP S hd7 (ndk qs) fun d3 H S => ?_
    walk_at "go"
    have S : Sep (pt r (.dK (encK (rkF 0 o))) :: hp G7 :: pt d3 (.dK (encK (kvP qs 0 o))) :: pt d2 (.dK (encK (kvP ps 0 o))) :: pt d (.dK (encG V.str ls)) :: R) H := S.s5 (by walk_at "sel")
    refine r_lcD (K := K) (l := rkF 0 o) S rfl (by omega) (fun e => some (lookR ls e.1, e.2)) dPr (fun e he od => ?_) (fun D acc G8 H le8 hacc S => ?_)
    · intro D acc Gi x H N le hx hnn S kY kN
      cases dp_strInv hx
      walk_at "go"
      refine ⟨rfl, ?_⟩
      walk_at "go"
      have hdd : H d = some (.dK (encG V.str ls)) := (S.s1 (A := pt d (.dK (encG V.str ls))) (by walk_at "sel")).hd_at
      refine r_dget2 rfl (.inl hdd) ?_
      walk_at "go"
      refine r_dgS (.inl hdd) ?_
      walk_at "go"
      refine r_dgetK (.inr ⟨od, S.tl.tl.hd_at⟩) (rkGet_mem nd he) ?_
      walk_at "go"
      obtain ⟨G6, le6, hd6, S⟩ := hp_tup (K := K) (S.s4 (A := pt p (.tup [.str ((lkG ls e.1).getD e.1), .int e.2])) (B := hp Gi) (C := pt D (.lst acc)) (D := pt r (.frz od (.dK (encK (rkF 0 o))))) (by walk_at "sel")) (.cons (.str _) (.cons (.int _) .nil))
      exact kY _ _ G6 H le6 rfl hd6 S.swap
    rw [fm_map] at hacc
    obtain ⟨G9, le9, hd9, S⟩ := hp_lst (K := K) S hacc
    walk_at "go"
    refine r_dictG (f := V.int) (en := PyData.int) dp_intInv S hd9 fun d4 kv H n1 n2 n3 n4 S => ?_
    rw [List.length_map] at n4
    obtain ⟨w1, w2, w3⟩ := ren_ord hm (fun l m => (oo.lv l m).ne) n1 n2 n3
    walk_at "go"
    have hrr : H r = some (.dK (encK (rkF 0 o))) := S.tl.tl.hd_at
    refine r_sortRk S (.inl hrr) (by omega) fun pz H S => ?_
    rw [rkF_keys] at S
    obtain ⟨G10, le10, h10, S⟩ := hp_LD (K := K) (S.s6 (A := pt pz (.lst ((sortS o.flatten).map V.str))) (B := hp G9) (C := pt d2 (.dK (encK (kvP ps 0 o)))) (D := pt d3 (.dK (encK (kvP qs 0 o)))) (E := pt d4 (.dK (encG V.int kv))) (F := pt d (.dK (encG V.str ls))) (by walk_at "sel")) (dpall_strs _)
    walk_at "go"
    refine ⟨d2, kvP ps 0 o, msO ps 0 o, G10, _, rfl, lnk ps, ndk ps, msO_asc _ _ _, fun k => msO_mem _ k o 0, S.swap, fun t1 G11 H le11 h11 S => ?_⟩
    rw [ordL_only _ _ _ oo.asc] at h11
    walk_at "go"
    refine ⟨d3, kvP qs 0 o, msO qs 0 o, G11, _, rfl, lnk qs, ndk qs, msO_asc _ _ _, fun k => msO_mem _ k o 0, S.s2 (A := pt d3 (.dK (encK (kvP qs 0 o)))) (B := hp G11) (by walk_at "sel"), fun t2 G12 H le12 h12 S => ?_⟩
    rw [ordL_only _ _ _ oo.asc, ← hqs, ← lack_eq] at h12
    walk_at "go"
    refine ⟨d4, kv, msR o.length, G12, _, rfl, by omega, n1, w1, w2, S.s2 (A := pt d4 (.dK (encG V.int kv))) (B := hp G12) (by walk_at "sel"), fun t3 G13 H le13 h13 S => ?_⟩
    rw [w3] at h13
    walk_at "go"
    have le9a := ((((((le4.tr le5).tr le6).tr le7).tr le8).tr le9).tr le10)
    obtain ⟨G14, le14, h14, S⟩ := hp_LD (K := K) (ds := dueD o ps ls) (S.s3 (A := pt p (.lst [.ref pz, .ref F1, .ref t1, .ref t2, .ref t3])) (B := hp G13) (C := pt d (.dK (encG V.str ls))) (by walk_at "sel"))
      (.cons (Dp.le ((le11.tr le12).tr le13) _ _ h10.dp) (.cons (Dp.le (((le9a.tr le11).tr le12).tr le13) _ _ hF.dp) (.cons (Dp.le (le12.tr le13) _ _ h11) (.cons (Dp.le le13 _ _ h12) (.cons h13 .nil)))))
    exact q p G14 H ((((((le1.tr le2).tr le9a).tr le11).tr le12).tr le13).tr le14) h14 (S.s2 (A := hp G14) (B := pt d (.dK (encG V.str ls))) (by walk_at "sel"))
end

end Pf

set_option Elab.async false
set_option linter.all false
set_option maxRecDepth 100000
set_option maxHeartbeats 8000000
namespace Pf
open PySem L2 Kt
set_option hygiene false
local macro_rules | `(tactic| walk_at "mem") => `(tactic| (with_reducible (repeat (first | exact Pick.hd | apply Pick.tl)); done))
local macro_rules | `(tactic| walk_at "rep") => `(tactic| (with_reducible (repeat (first | exact Repl.hd | apply Repl.tl)); done))
local macro_rules | `(tactic| walk_at "sel") => `(tactic| ((repeat (with_reducible apply Sel.cons; (focus walk_at "mem"))); (with_reducible apply Sel.nil); (with_reducible (repeat (first | exact Dr.all | apply Dr.skip)); done)))
local macro_rules | `(tactic| walk_at "at") => `(tactic| (refine' Sep.at_ (by assumption) ?kkpk; (case kkpk => walk_at "mem")))
local macro_rules | `(tactic| walk_at "sq") => `(tactic| first | assumption | (refine' Sep.sq (by assumption) ?kkpk; (case kkpk => walk_at "mem")))
local macro_rules | `(tactic| walk_at "st") => `(tactic| first | assumption | (refine' Sep.st (by assumption) ?kkpk; (case kkpk => walk_at "mem")))
local macro_rules | `(tactic| walk_at "lk") => `(tactic| (repeat (first | (with_reducible exact lk_eq) | exact rfl | refine (lk_ne (by decide +kernel)).trans ?_)))
local macro_rules | `(tactic| walk_at "pf") => `(tactic| (repeat (first | (with_reducible exact pf_nil) | (with_reducible exact pf_eq) | (apply pf_ne; (focus decide +kernel)))))
local macro_rules | `(tactic| walk_at "ty") => `(tactic| first | exact ty_int | (refine' ty_lst ?kkh; (case kkh => walk_at "at")))
local macro_rules | `(tactic| walk_at "k1") => `(tactic| with_reducible first
  | refine q_seq ?_ | refine q_set ?_ | refine q_asg ?_ | refine q_ret ?_ | refine q_drop ?_ | refine q_next ?_ | refine q_c ?_ | refine q_op ?_ | refine q_un ?_ | refine q_nil ?_ | refine q_cons ?_ | refine q_cb ?_
  | refine q_call ?_ | refine q_ifs ?_ | refine q_if ?_ | refine q_test ?_ | refine q_tb ?_ | refine q_bl ?_ | refine q_notT ?_ | refine q_andT ?_ | refine q_orT ?_ | refine q_andV ?_ | refine q_orV ?_ | refine q_notV ?_
  | refine q_addA ?_ | refine q_subI ?_ | refine q_ltI ?_ | refine q_leI ?_ | refine q_gtI ?_ | refine q_geI ?_ | refine q_eqI ?_ | refine q_neI ?_ | refine q_abs ?_ | refine q_int ?_ | refine q_intB ?_ | refine q_max ?_ | refine q_min ?_
  | refine q_ipAdd ?_ | refine q_ipSub ?_ | refine q_gsub ?_ | refine q_augs ?_ | refine q_lst ?_ | refine q_tup ?_ | refine q_blI ?_ | refine iteT ?_ | refine iteF ?_ | refine iteNT ?_ | refine iteNF ?_
  | refine r_prop ?_ | refine r_fld ?_ | refine r_sfld ?_ | refine r_meth ?_ | refine r_make ?_ | refine r_sl ?_ | refine r_nopart ?_ | refine r_part ?_ | refine r_parti ?_ | refine r_gsl ?_ | refine r_bm ?_ | refine r_bm0 ?_ | refine r_for ?_ | refine r_ilist ?_ | refine r_irng ?_
  | refine r_gname ?_ | refine r_gcons ?_ | refine r_gnil ?_ | refine r_par ?_ | refine r_parA ?_ | refine r_chain ?_ | refine r_isN ?_ | refine r_tlc ?_ | refine r_yes ?_ | refine r_makek ?_ | refine r_neg ?_)
local macro_rules | `(tactic| walk_at "k2") => `(tactic| first
  | ((with_reducible refine' q_var ?kke ?_); (case kke => rfl))
  | ((with_reducible refine' q_aug ?kke ?_); (case kke => rfl))
  | ((with_reducible refine' q_ixL ?kks ?kke ?_); (case kks => walk_at "sq"); (case kke => first | rfl | assumption))
  | ((with_reducible refine' q_ixT ?kks ?kke ?_); (case kks => walk_at "st"); (case kke => first | rfl | assumption))
  | ((with_reducible refine' q_ixLL ?kks ?kke ?_); (case kks => walk_at "sq"); (case kke => first | rfl | assumption))
  | ((with_reducible refine' q_lenL ?kks ?_); (case kks => walk_at "sq"))
  | ((with_reducible refine' q_mulI ?kkc ?_); (case kkc => first | exact .inl (by omega) | exact .inr (by omega)))
  | ((with_reducible refine' q_modI ?kkc ?_); (case kkc => omega))
  | ((with_reducible refine' q_divI ?kkc ?_); (case kkc => exact ⟨by omega, by omega⟩))
  | ((with_reducible refine' q_powI ?kkc ?_); (case kkc => exact ⟨by decide, by decide, by decide⟩))
  | ((with_reducible refine' r_kfld ?kkS ?kkp ?kkc ?kkn ?kkl ?_); (case kkS => assumption); (case kkp => walk_at "mem"); (case kkc => walk_at "cls"); (case kkn => walk_at "na"); (case kkl => walk_at "lk"))
  | ((with_reducible refine' r_kprop ?kkS ?kkp ?_); (case kkS => assumption); (case kkp => walk_at "mem"))
  | ((with_reducible refine' r_kmeth ?kkS ?kkp ?kkl ?_); (case kkS => assumption); (case kkp => walk_at "mem"); (case kkl => walk_at "lk"))
  | ((with_reducible refine' r_calll ?kks ?_); (case kks => rfl))
  | ((with_reducible refine' r_tyl ?kks ?_); (case kks => walk_at "sq"))
  | ((with_reducible refine' r_isi (k := true) ?kkt ?kke ?_); (case kkt => walk_at "ty"); (case kke => decide +kernel))
  | ((with_reducible refine' r_isi (k := false) ?kkt ?kke ?_); (case kkt => walk_at "ty"); (case kke => decide +kernel)))
local macro_rules | `(tactic| walk_at "k3") => `(tactic| first
  | ((with_reducible refine' q_setS ?kkS ?kkr ?kke ?_); (case kkS => assumption); (case kkr => walk_at "rep"); (case kke => rfl); intro H S)
  | ((with_reducible refine' r_kset ?kkS ?kkr ?kkc ?kkn ?kkl ?kke ?_); (case kkS => assumption); (case kkr => walk_at "rep"); (case kkc => walk_at "cls"); (case kkn => walk_at "na"); (case kkl => first | exact Nat.le_of_ble_eq_true rfl | assumption | omega | (simp; done) | (simp; omega)); (case kke => walk_at "pf"); intro H S)
  | ((with_reducible refine' q_new ?kkS ?kkl ?_); (case kkS => assumption); (case kkl => first | exact Nat.le_of_ble_eq_true rfl | assumption | omega | (simp; done) | (simp; omega)); intro p H S)
  | ((with_reducible refine' q_newT ?kkS ?kkl ?_); (case kkS => assumption); (case kkl => first | exact Nat.le_of_ble_eq_true rfl | assumption | omega | (simp; done) | (simp; omega)); intro p H S)
  | ((with_reducible refine' r_knew ?kkS ?_); (case kkS => assumption); intro x dx H S)
  | ((with_reducible refine' r_knewk ?kkS ?kkl1 ?kkl2 ?_); (case kkS => assumption); (case kkl1 => rfl); (case kkl2 => rfl); intro x dx H S)
  | ((with_reducible refine' r_ksl ?kkS ?kks ?_); (case kkS => assumption); (case kks => walk_at "sq"); intro p H S)
  | ((with_reducible refine' r_list ?kkS ?kks ?_); (case kkS => assumption); (case kks => walk_at "sq"); intro p H S)
  | ((with_reducible refine' r_cat ?kkS ?kks1 ?kks2 ?kkz ?_); (case kkS => assumption); (case kks1 => walk_at "at"); (case kks2 => walk_at "at"); (case kkz => first | omega | (simp; omega)); intro p H S)
  | ((with_reducible refine' r_append ?kkS ?kkr ?kkz ?_); (case kkS => assumption); (case kkr => walk_at "rep"); (case kkz => first | omega | (simp; omega)); intro H S)
  | ((with_reducible refine' r_reverse ?kkS ?kkr ?_); (case kkS => assumption); (case kkr => walk_at "rep"); intro H S)
  | ((with_reducible refine' r_clear ?kkS ?kkr ?_); (case kkS => assumption); (case kkr => walk_at "rep"); intro H S))
local macro_rules | `(tactic| walk_at "gn") => `(tactic| repeat (first | walk_at "k1" | walk_at "k2"))
local macro_rules | `(tactic| walk_at "go") => `(tactic| repeat (first | walk_at "k1" | walk_at "k2" | walk_at "k3"))

local macro_rules | `(tactic| walk_at "sq") => `(tactic| first | assumption | (refine' Sep.sq ?kkS ?kkpk; (case kkS => assumption); (case kkpk => walk_at "mem")) | (refine' hp_sqL ?kkS ?kkx; (case kkS => assumption); (case kkx => assumption)) | (refine' hp_sqL (Sep.tl ?kkS) ?kkx; (case kkS => assumption); (case kkx => assumption)) | (refine' hp_sqL (Sep.tl (Sep.tl ?kkS)) ?kkx; (case kkS => assumption); (case kkx => assumption)))
local macro_rules | `(tactic| walk_at "st") => `(tactic| first | assumption | (refine' Sep.st ?kkS ?kkpk; (case kkS => assumption); (case kkpk => walk_at "mem")) | (refine' hp_sqT ?kkS ?kkx; (case kkS => assumption); (case kkx => assumption)) | (refine' hp_sqT (Sep.tl ?kkS) ?kkx; (case kkS => assumption); (case kkx => assumption)) | (refine' hp_sqT (Sep.tl (Sep.tl ?kkS)) ?kkx; (case kkS => assumption); (case kkx => assumption)))
local macro_rules | `(tactic| walk_at "k1") => `(tactic| with_reducible first | refine r_ienumT ?_ | refine r_tru ?_ | refine r_itup ?_ | refine r_star ?_ | refine r_par3 ?_ | refine r_parA3 ?_ | refine r_dget ?_ | refine r_din ?_ | refine r_dnotin ?_ | refine r_dput ?_)

local macro_rules | `(tactic| walk_at "k1") => `(tactic| with_reducible first | refine r_tlc2 ?_ | refine r_tdc ?_ | refine r_irng3 ?_)

section
variable {P : Program} {w : World} {K : PySem.W.Frag} {mg : Str → Option Value} {base : Heap}
theorem sc_l_told : FnScope N_l_told ["_law_order", "_law_names_here", "_law_led"] (defScope s_l_told) := ⟨rfl, rfl, rfl, by decide +kernel, rfl, by decide +kernel, by decide +kernel⟩
def toldV (p f o1 o2 o3 : Addr) : List V := [.ref p, .ref f, .ref o1, .ref o2, .ref o3]
def spTold (K : PySem.W.Frag) : Sp := fun vs H Q _ => ∃ (a n d : Addr) (ns : List Str) (o : Od) (ps : List Str) (ls : List (Str × Str)) (G : Hp) (R : List SP), vs = [.ref a, .ref n, .ref d] ∧ OO ns o ∧ ns.length ≤ 17 ∧ ps.length ≤ 7 ∧ Nms ps ∧ Dp K G (.ref a) (dOd o) ∧ LD K G n (ps.map PyData.str) ∧ Sep (hp G :: pt d (.dK (encG V.str ls)) :: R) H ∧
  ∀ t p f o1 o2 o3 G' H', Le G G' → LD K G' f (cellsD o ps ps) → Dp K G' (.ref o1) (dOd (onlyO ps o)) → Dp K G' (.ref o2) (dOd (lackO ps o)) → Dp K G' (.ref o3) (dOd (renO (lookR ls) o)) →
    Sep (pt t (.lst (toldV p f o1 o2 o3)) :: pt p (.lst ((sortS o.flatten).map V.str)) :: hp G' :: pt d (.dK (encG V.str ls)) :: R) H' → Q (.ref t) H'
theorem mem_cut {ps : List Str} {x : Str} : x ∈ ps ++ ps.take 1 ↔ x ∈ ps := by
  rw [List.mem_append]
  exact ⟨fun h => h.elim id List.mem_of_mem_take, .inl⟩
theorem lack_congr {ps qs : List Str} (h : ∀ x, x ∈ ps ↔ x ∈ qs) (o : Od) : lackO ps o = lackO qs o := by
  unfold lackO
  congr 1
  refine List.map_congr_left fun l ml => List.filter_congr fun x m => ?_
  rw [decide_eq_decide.mpr (h x)]
theorem ok_l_told {f f1 f2 f3 f4 f5 f6 : Addr} (F : Dt K mg "_law_told" s_l_told ["_law_order", "_law_names_here", "_law_led"] f) (T : Tx K mg) (D_level_of : Df P w K mg base 1 "level_of" f1 ["order", "point"] (spLevel K)) (D_compare : Df P w K mg base 2 "compare" f2 ["order", "one", "other"] (spCmp K))
    (D_points_of : Df P w K mg base 1 "points_of" f3 ["order"] (spPts K)) (D_only : Df P w K mg base 2 "only" f4 ["order", "points"] (spOnly K)) (D_lacking : Df P w K mg base 2 "lacking" f5 ["order", "points"] (spLack K)) (D_renamed : Df P w K mg base 1 "renamed" f6 ["order", "names"] (spRen K)) :
    Df P w K mg base 3 "_law_told" f ["_law_order", "_law_names_here", "_law_led"] (spTold K) := by
  refine F.ok sc_l_told (fun vs H Q E h => ?_) (fun cdv A outer s H vs Q E hr h => ?_)
  · obtain ⟨a, n, d, ns, o, ps, ls, G, R, rfl, _⟩ := h
    rfl
  obtain ⟨a, n, d, ns, o, ps, ls, G, R, rfl, oo, hn, hps, hnm, hx, hy, S, q⟩ := h
  refine ⟨_, (pss_cons (ps_set (i := 3) sc_l_told.nd rfl (by first | exact Or.inl rfl | exact Or.inr rfl) (pe_lst pa_nil))
      (pss_cons (ps_for PassesOwn.never rfl (pi_listK K (pv 1)) (pg_name (i := 4) sc_l_told.nd rfl (by first | exact Or.inl rfl | exact Or.inr rfl)) (pss_one (ps_set (i := 3) sc_l_told.nd rfl (by first | exact Or.inl rfl | exact Or.inr rfl) (pe_op (r := rAddA) op_addA (pv 3) (pe_lc (own := [("_law_other", 7)]) rfl sc_l_told.nd (pi_listK K (pv 1)) (blkOk_by (own := [("_law_other", 7)]) (N := N_l_told) (sc := defScope s_l_told) (by decide +kernel)) (fun _ _ _ _ _ => (pg_name (i := 7) sc_l_told.nd rfl (by first | exact Or.inl rfl | exact Or.inr rfl))) (fun _ _ _ _ _ => pts_nil) (fun _ _ _ _ _ => (pe_tup (pa_cons (pe_df D_level_of (hr.mono (by first | decide | omega)) (pa_cons (pv 0) (pa_cons (pv 4) pa_nil))) (pa_cons (pe_df D_compare (hr.mono (by first | decide | omega)) (pa_cons (pv 0) (pa_cons (pv 4) (pa_cons (pv 7) pa_nil)))) pa_nil)))))))))
      (pss_cons (ps_set (i := 5) sc_l_told.nd rfl (by first | exact Or.inl rfl | exact Or.inr rfl) (pe_lst (pa_cons (pe_op (r := rAddA) op_addA (pv 1) (pe_slice (r := rSlL K) sl_list (pv 1) po_none (po_some pe_int))) (pa_cons (pe_op (r := rAddA) op_addA (pv 1) (pe_slice (r := rSlL K) sl_list (pv 1) po_none (po_some pe_int))) pa_nil))))
      (pss_cons (ps_set (i := 6) sc_l_told.nd rfl (by first | exact Or.inl rfl | exact Or.inr rfl) (pe_lst (pa_cons (pe_df D_points_of (hr.mono (by first | decide | omega)) (pa_cons (pv 0) pa_nil)) (pa_cons (pv 3) (pa_cons (pe_df D_only (hr.mono (by first | decide | omega)) (pa_cons (pv 0) (pa_cons (pe_ix (r := rIx K) ix_seq (pv 5) pe_int (fun _ _ => rfl)) pa_nil))) (pa_cons (pe_df D_lacking (hr.mono (by first | decide | omega)) (pa_cons (pv 0) (pa_cons (pe_ix (r := rIx K) ix_seq (pv 5) pe_int (fun _ _ => rfl)) pa_nil))) (pa_cons (pe_df D_renamed (hr.mono (by first | decide | omega)) (pa_cons (pv 0) (pa_cons (pv 2) pa_nil))) pa_nil)))))))
      (pss_one (ps_ret (pe_ifExp (pt_cmpR (r := rEqA K) (op_eqA hr.units) (pv 5) (pe_op (r := rMulA) op_mulA (pe_lst (pa_cons (pe_op (r := rAddA) op_addA (pv 1) (pe_slice (r := rSlL K) sl_list (pv 1) po_none (po_some pe_int))) pa_nil)) pe_int) (nomark _)) (pv 6) pe_non))))))), ?_⟩
  have hnq := hy.sq
  rw [show ps.map PyData.str = ps.map PyData.str from rfl] at hy
  walk_at "go"
  obtain ⟨G0, le0, hF0, S⟩ := hp_LD (K := K) (S.s3 (A := pt p (.lst [])) (B := hp G) (C := pt d (.dK (encG V.str ls))) (by walk_at "sel")) .nil
  refine r_for_list (xs := ps.map V.str) (fun i σ Ps => ∃ u4 u5 u6 u7 F1 Gi, σ = [some (.ref a), some (.ref n), some (.ref d), some (.ref F1), u4, u5, u6, u7] ∧ Le G Gi ∧ LD K Gi F1 (cellsD o (ps.take i) ps) ∧ Ps = hp Gi :: pt d (.dK (encG V.str ls)) :: R) S ⟨_, _, _, _, _, G0, rfl, le0, hF0, rfl⟩ (fun i σ Ps H hi ⟨_, _, _, _, _, _, _, le, _, e⟩ S => by subst e; exact hp_sqL S (SqL.le le hnq)) ?_ ?_
  · rintro i x σ Ps H hi ⟨u4, u5, u6, u7, F1, Gi, rfl, leI, hF, rfl⟩ S
    obtain ⟨x, hx1, rfl⟩ := str_at hi
    have hil := (List.getElem?_eq_some_iff.mp hx1).1
    have hcl : (cellsD o (ps.take i) ps).length ≤ 49 := by
      rw [cells_len, List.length_take]
      exact Nat.mul_le_mul (show min i ps.length ≤ 7 by omega) hps
    walk_at "go"
    refine r_lcL (l := ps) (enc := PyData.str) S (hy.le leI).dp (by omega) (fun y => some y) (fun y => cellD o x y) (fun y hm => ?_) (fun D acc G1 H le1 hacc S => ?_)
    · intro D acc Gj y' H N le hy' hnn S kY kN
      cases dp_strInv hy'
      walk_at "go"
      refine ⟨rfl, ?_⟩
      walk_at "go"
      refine ⟨a, o, x, Gj, _, rfl, Dp.le (leI.tr le) _ _ hx, S.swap, fun H S => ?_⟩
      rw [vOpt_I]
      walk_at "go"
      refine ⟨a, o, x, y, Gj, _, rfl, Dp.le (leI.tr le) _ _ hx, S, fun H S => ?_⟩
      walk_at "go"
      obtain ⟨G2, le2, h2, S⟩ := hp_tup (K := K) S (.cons (dp_optI _) (.cons (dp_optI _) .nil))
      exact kY _ _ G2 H le2 rfl h2 S.swap
    · rw [fm_map] at hacc
      obtain ⟨G2, le2, h2, S⟩ := hp_LD (K := K) S hacc
      walk_at "go"
      refine r_catD S (hF.le (le1.tr le2)) h2 (by rw [List.length_map, List.length_map]; omega) fun F2 G3 H le3 h3 S => ?_
      walk_at "go"
      refine ⟨_, ⟨_, _, _, _, F2, G3, rfl, ((leI.tr le1).tr le2).tr le3, ?_, rfl⟩, S⟩
      rw [cells_s hx1]
      rw [List.map_id'] at h3
      exact h3
  · rintro σ Ps H ⟨u4, u5, u6, u7, F1, G1, rfl, le1, hF, rfl⟩ S
    rw [List.length_map, List.take_length] at hF
    walk_at "go"
    have lnc : (ps.map PyData.str).length + ((ps.take 1).map PyData.str).length ≤ 100000 := by rw [List.length_map, List.length_map, List.length_take]; omega
    refine r_pre (n := 1) S (hy.le le1).dp fun c1 G2 H le2 hc1 S => ?_
    rw [← List.map_take] at hc1
    walk_at "go"
    refine r_catD S (hy.le (le1.tr le2)) hc1 lnc fun e1 G3 H le3 he1 S => ?_
    rw [← List.map_append] at he1
    walk_at "go"
    refine r_pre (n := 1) S (hy.le ((le1.tr le2).tr le3)).dp fun c2 G4 H le4 hc2 S => ?_
    rw [← List.map_take] at hc2
    walk_at "go"
    refine r_catD S (hy.le (((le1.tr le2).tr le3).tr le4)) hc2 lnc fun e2 G5 H le5 he2 S => ?_
    rw [← List.map_append] at he2
    have he1 := he1.le (le4.tr le5)
    have leA := (((le1.tr le2).tr le3).tr le4).tr le5
    have hF := hF.le (((le2.tr le3).tr le4).tr le5)
    walk_at "go"
    obtain ⟨L1, hL1⟩ : ∃ z, z = p := ⟨p, rfl⟩
    rw [← hL1] at S ⊢
    clear hL1 p
    refine ⟨a, o, G5, _, rfl, by have := oo.fl; omega, Dp.le leA _ _ hx, S.swap, fun pp H S => ?_⟩
    walk_at "go"
    refine ⟨a, e1, o, ps ++ ps.take 1, G5, _, rfl, oo.wf hn, Dp.le leA _ _ hx, he1.dp, S.swap, fun o1 G6 H le6 h6 S => ?_⟩
    rw [onlyO_congr fun x => mem_cut] at h6
    walk_at "go"
    refine ⟨a, e2, o, ps ++ ps.take 1, G6, _, rfl, oo.wf hn, Dp.le (leA.tr le6) _ _ hx, (he2.le le6).dp, S, fun o2 G7 H le7 h7 S => ?_⟩
    rw [lack_congr fun x => mem_cut] at h7
    walk_at "go"
    refine ⟨a, d, o, ls, G7, _, rfl, oo.wf hn, Dp.le ((leA.tr le6).tr le7) _ _ hx, S.s2 (A := hp G7) (B := pt d (.dK (encG V.str ls))) (by walk_at "sel"), fun o3 G8 H le8 h8 S => ?_⟩
    walk_at "go"
    have leB := ((leA.tr le6).tr le7).tr le8
    have le58 := (le6.tr le7).tr le8
    obtain ⟨T1, hT1⟩ : ∃ z, z = p := ⟨p, rfl⟩
    rw [← hT1] at S ⊢
    clear hT1 p
    have S : Sep (hp G8 :: pt T1 (.lst (toldV pp F1 o1 o2 o3)) :: pt pp (.lst ((sortS o.flatten).map V.str)) :: pt L1 (.lst [.ref e1, .ref e2]) :: pt d (.dK (encG V.str ls)) :: R) H := S.s5 (A := hp G8) (B := pt T1 (.lst [.ref pp, .ref F1, .ref o1, .ref o2, .ref o3])) (C := pt pp (.lst ((sortS o.flatten).map V.str))) (D := pt L1 (.lst [.ref e1, .ref e2])) (E := pt d (.dK (encG V.str ls))) (by walk_at "sel")
    refine r_pre (n := 1) S (hy.le leB).dp fun c3 G9 H le9 hc3 S => ?_
    rw [← List.map_take] at hc3
    walk_at "go"
    refine r_catD S (hy.le (leB.tr le9)) hc3 lnc fun e3 G10 H le10 he3 S => ?_
    rw [← List.map_append] at he3
    walk_at "go"
    obtain ⟨M1, hM1⟩ : ∃ z, z = p := ⟨p, rfl⟩
    rw [← hM1] at S ⊢
    clear hM1 p
    refine r_rep2 S S.hd_at (by decide) (by decide) (Nat.le_add_left 1 9) fun M2 H S => ?_
    have le510 := (le58.tr le9).tr le10
    have hp10 : Le G10 H := hp_le (S.s1 (A := hp G10) (by walk_at "sel"))
    have okL : Okd 2 (.list [dNs (ps ++ ps.take 1), dNs (ps ++ ps.take 1)]) := okd_list fun d m => by
      have : d = dNs (ps ++ ps.take 1) := by simpa using m
      rw [this]
      exact okd_ns fun x mx => hnm x (mem_cut.mp mx)
    refine r_eq_same (d := .list [dNs (ps ++ ps.take 1), dNs (ps ++ ps.take 1)]) (.lst (SqL.of (S.s1 (A := pt L1 (.lst [.ref e1, .ref e2])) (by walk_at "sel")).hd_at) (.cons (Dp.le (le510.tr hp10) _ _ he1.dp) (.cons (Dp.le (le510.tr hp10) _ _ he2.dp) .nil))) (.lst (SqL.of S.hd_at) (.cons (Dp.le hp10 _ _ he3.dp) (.cons (Dp.le hp10 _ _ he3.dp) .nil))) okL (by decide) ?_
    walk_at "go"
    exact q T1 pp F1 o1 o2 o3 G10 H ((leB.tr le9).tr le10) (hF.le le510) (Dp.le (((le7.tr le8).tr le9).tr le10) _ _ h6) (Dp.le ((le8.tr le9).tr le10) _ _ h7) (Dp.le (le9.tr le10) _ _ h8)
      (S.s4 (A := pt T1 (.lst (toldV pp F1 o1 o2 o3))) (B := pt pp (.lst ((sortS o.flatten).map V.str))) (C := hp G10) (D := pt d (.dK (encG V.str ls))) (by walk_at "sel"))
end

end Pf

set_option Elab.async false
set_option linter.all false
set_option maxRecDepth 100000
set_option maxHeartbeats 8000000
namespace Pf
open PySem L2 Kt
set_option hygiene false
local macro_rules | `(tactic| walk_at "mem") => `(tactic| (with_reducible (repeat (first | exact Pick.hd | apply Pick.tl)); done))
local macro_rules | `(tactic| walk_at "rep") => `(tactic| (with_reducible (repeat (first | exact Repl.hd | apply Repl.tl)); done))
local macro_rules | `(tactic| walk_at "sel") => `(tactic| ((repeat (with_reducible apply Sel.cons; (focus walk_at "mem"))); (with_reducible apply Sel.nil); (with_reducible (repeat (first | exact Dr.all | apply Dr.skip)); done)))
local macro_rules | `(tactic| walk_at "at") => `(tactic| (refine' Sep.at_ (by assumption) ?kkpk; (case kkpk => walk_at "mem")))
local macro_rules | `(tactic| walk_at "sq") => `(tactic| first | assumption | (refine' Sep.sq (by assumption) ?kkpk; (case kkpk => walk_at "mem")))
local macro_rules | `(tactic| walk_at "st") => `(tactic| first | assumption | (refine' Sep.st (by assumption) ?kkpk; (case kkpk => walk_at "mem")))
local macro_rules | `(tactic| walk_at "lk") => `(tactic| (repeat (first | (with_reducible exact lk_eq) | exact rfl | refine (lk_ne (by decide +kernel)).trans ?_)))
local macro_rules | `(tactic| walk_at "pf") => `(tactic| (repeat (first | (with_reducible exact pf_nil) | (with_reducible exact pf_eq) | (apply pf_ne; (focus decide +kernel)))))
local macro_rules | `(tactic| walk_at "ty") => `(tactic| first | exact ty_int | (refine' ty_lst ?kkh; (case kkh => walk_at "at")))
local macro_rules | `(tactic| walk_at "k1") => `(tactic| with_reducible first
  | refine q_seq ?_ | refine q_set ?_ | refine q_asg ?_ | refine q_ret ?_ | refine q_drop ?_ | refine q_next ?_ | refine q_c ?_ | refine q_op ?_ | refine q_un ?_ | refine q_nil ?_ | refine q_cons ?_ | refine q_cb ?_
  | refine q_call ?_ | refine q_ifs ?_ | refine q_if ?_ | refine q_test ?_ | refine q_tb ?_ | refine q_bl ?_ | refine q_notT ?_ | refine q_andT ?_ | refine q_orT ?_ | refine q_andV ?_ | refine q_orV ?_ | refine q_notV ?_
  | refine q_addA ?_ | refine q_subI ?_ | refine q_ltI ?_ | refine q_leI ?_ | refine q_gtI ?_ | refine q_geI ?_ | refine q_eqI ?_ | refine q_neI ?_ | refine q_abs ?_ | refine q_int ?_ | refine q_intB ?_ | refine q_max ?_ | refine q_min ?_
  | refine q_ipAdd ?_ | refine q_ipSub ?_ | refine q_gsub ?_ | refine q_augs ?_ | refine q_lst ?_ | refine q_tup ?_ | refine q_blI ?_ | refine iteT ?_ | refine iteF ?_ | refine iteNT ?_ | refine iteNF ?_
  | refine r_prop ?_ | refine r_fld ?_ | refine r_sfld ?_ | refine r_meth ?_ | refine r_make ?_ | refine r_sl ?_ | refine r_nopart ?_ | refine r_part ?_ | refine r_parti ?_ | refine r_gsl ?_ | refine r_bm ?_ | refine r_bm0 ?_ | refine r_for ?_ | refine r_ilist ?_ | refine r_irng ?_
  | refine r_gname ?_ | refine r_gcons ?_ | refine r_gnil ?_ | refine r_par ?_ | refine r_parA ?_ | refine r_chain ?_ | refine r_isN ?_ | refine r_tlc ?_ | refine r_yes ?_ | refine r_makek ?_ | refine r_neg ?_)
local macro_rules | `(tactic| walk_at "k2") => `(tactic| first
  | ((with_reducible refine' q_var ?kke ?_); (case kke => rfl))
  | ((with_reducible refine' q_aug ?kke ?_); (case kke => rfl))
  | ((with_reducible refine' q_ixL ?kks ?kke ?_); (case kks => walk_at "sq"); (case kke => first | rfl | assumption))
  | ((with_reducible refine' q_ixT ?kks ?kke ?_); (case kks => walk_at "st"); (case kke => first | rfl | assumption))
  | ((with_reducible refine' q_ixLL ?kks ?kke ?_); (case kks => walk_at "sq"); (case kke => first | rfl | assumption))
  | ((with_reducible refine' q_lenL ?kks ?_); (case kks => walk_at "sq"))
  | ((with_reducible refine' q_mulI ?kkc ?_); (case kkc => first | exact .inl (by omega) | exact .inr (by omega)))
  | ((with_reducible refine' q_modI ?kkc ?_); (case kkc => omega))
  | ((with_reducible refine' q_divI ?kkc ?_); (case kkc => exact ⟨by omega, by omega⟩))
  | ((with_reducible refine' q_powI ?kkc ?_); (case kkc => exact ⟨by decide, by decide, by decide⟩))
  | ((with_reducible refine' r_kfld ?kkS ?kkp ?kkc ?kkn ?kkl ?_); (case kkS => assumption); (case kkp => walk_at "mem"); (case kkc => walk_at "cls"); (case kkn => walk_at "na"); (case kkl => walk_at "lk"))
  | ((with_reducible refine' r_kprop ?kkS ?kkp ?_); (case kkS => assumption); (case kkp => walk_at "mem"))
  | ((with_reducible refine' r_kmeth ?kkS ?kkp ?kkl ?_); (case kkS => assumption); (case kkp => walk_at "mem"); (case kkl => walk_at "lk"))
  | ((with_reducible refine' r_calll ?kks ?_); (case kks => rfl))
  | ((with_reducible refine' r_tyl ?kks ?_); (case kks => walk_at "sq"))
  | ((with_reducible refine' r_isi (k := true) ?kkt ?kke ?_); (case kkt => walk_at "ty"); (case kke => decide +kernel))
  | ((with_reducible refine' r_isi (k := false) ?kkt ?kke ?_); (case kkt => walk_at "ty"); (case kke => decide +kernel)))
local macro_rules | `(tactic| walk_at "k3") => `(tactic| first
  | ((with_reducible refine' q_setS ?kkS ?kkr ?kke ?_); (case kkS => assumption); (case kkr => walk_at "rep"); (case kke => rfl); intro H S)
  | ((with_reducible refine' r_kset ?kkS ?kkr ?kkc ?kkn ?kkl ?kke ?_); (case kkS => assumption); (case kkr => walk_at "rep"); (case kkc => walk_at "cls"); (case kkn => walk_at "na"); (case kkl => first | exact Nat.le_of_ble_eq_true rfl | assumption | omega | (simp; done) | (simp; omega)); (case kke => walk_at "pf"); intro H S)
  | ((with_reducible refine' q_new ?kkS ?kkl ?_); (case kkS => assumption); (case kkl => first | exact Nat.le_of_ble_eq_true rfl | assumption | omega | (simp; done) | (simp; omega)); intro p H S)
  | ((with_reducible refine' q_newT ?kkS ?kkl ?_); (case kkS => assumption); (case kkl => first | exact Nat.le_of_ble_eq_true rfl | assumption | omega | (simp; done) | (simp; omega)); intro p H S)
  | ((with_reducible refine' r_knew ?kkS ?_); (case kkS => assumption); intro x dx H S)
  | ((with_reducible refine' r_knewk ?kkS ?kkl1 ?kkl2 ?_); (case kkS => assumption); (case kkl1 => rfl); (case kkl2 => rfl); intro x dx H S)
  | ((with_reducible refine' r_ksl ?kkS ?kks ?_); (case kkS => assumption); (case kks => walk_at "sq"); intro p H S)
  | ((with_reducible refine' r_list ?kkS ?kks ?_); (case kkS => assumption); (case kks => walk_at "sq"); intro p H S)
  | ((with_reducible refine' r_cat ?kkS ?kks1 ?kks2 ?kkz ?_); (case kkS => assumption); (case kks1 => walk_at "at"); (case kks2 => walk_at "at"); (case kkz => first | omega | (simp; omega)); intro p H S)
  | ((with_reducible refine' r_append ?kkS ?kkr ?kkz ?_); (case kkS => assumption); (case kkr => walk_at "rep"); (case kkz => first | omega | (simp; omega)); intro H S)
  | ((with_reducible refine' r_reverse ?kkS ?kkr ?_); (case kkS => assumption); (case kkr => walk_at "rep"); intro H S)
  | ((with_reducible refine' r_clear ?kkS ?kkr ?_); (case kkS => assumption); (case kkr => walk_at "rep"); intro H S))
local macro_rules | `(tactic| walk_at "gn") => `(tactic| repeat (first | walk_at "k1" | walk_at "k2"))
local macro_rules | `(tactic| walk_at "go") => `(tactic| repeat (first | walk_at "k1" | walk_at "k2" | walk_at "k3"))

local macro_rules | `(tactic| walk_at "sq") => `(tactic| first | assumption | (refine' Sep.sq ?kkS ?kkpk; (case kkS => assumption); (case kkpk => walk_at "mem")) | (refine' hp_sqL ?kkS ?kkx; (case kkS => assumption); (case kkx => assumption)) | (refine' hp_sqL (Sep.tl ?kkS) ?kkx; (case kkS => assumption); (case kkx => assumption)) | (refine' hp_sqL (Sep.tl (Sep.tl ?kkS)) ?kkx; (case kkS => assumption); (case kkx => assumption)))
local macro_rules | `(tactic| walk_at "st") => `(tactic| first | assumption | (refine' Sep.st ?kkS ?kkpk; (case kkS => assumption); (case kkpk => walk_at "mem")) | (refine' hp_sqT ?kkS ?kkx; (case kkS => assumption); (case kkx => assumption)) | (refine' hp_sqT (Sep.tl ?kkS) ?kkx; (case kkS => assumption); (case kkx => assumption)) | (refine' hp_sqT (Sep.tl (Sep.tl ?kkS)) ?kkx; (case kkS => assumption); (case kkx => assumption)))
local macro_rules | `(tactic| walk_at "k1") => `(tactic| with_reducible first | refine r_ienumT ?_ | refine r_tru ?_ | refine r_itup ?_ | refine r_star ?_ | refine r_par3 ?_ | refine r_parA3 ?_ | refine r_dget ?_ | refine r_din ?_ | refine r_dnotin ?_ | refine r_dput ?_)

local macro_rules | `(tactic| walk_at "k1") => `(tactic| with_reducible first | refine r_tlc2 ?_ | refine r_tdc ?_ | refine r_irng3 ?_)

section
variable {P : Program} {w : World} {K : PySem.W.Frag} {mg : Str → Option Value} {base : Heap}
/-! ### two things that are equal, and shown alike -/
def spAlike (K : PySem.W.Frag) : Sp := fun vs H Q _ => ∃ (a b : Addr) (d : PyData), vs = [.ref a, .ref b] ∧ Dp K H (.ref a) d ∧ Dp K H (.ref b) d ∧ Okd 60 d ∧ d.showable = true ∧ d.hasDict = false ∧ d.shown.length ≤ sizeLine ∧ Q (.bl true) H
theorem sc_l_alike : FnScope N_l_alike ["_law_found", "_law_due"] (defScope s_l_alike) := ⟨rfl, rfl, rfl, by decide +kernel, rfl, by decide +kernel, by decide +kernel⟩
theorem ok_l_alike {f : Addr} (F : Dt K mg "_law_alike" s_l_alike ["_law_found", "_law_due"] f) (T : Tx K mg) : Dg P w K mg base 1 "_law_alike" f ["_law_found", "_law_due"] (spAlike K) := by
  refine F.okG sc_l_alike (fun vs H Q E h => ?_) (fun cdv A outer s H vs Q E hg hr h => ?_)
  · obtain ⟨a, b, d, rfl, _⟩ := h
    rfl
  obtain ⟨a, b, d, rfl, h1, h2, ok, hs, hn, hz, q⟩ := h
  refine ⟨_, (pss_one (ps_ret (pe_and (pe_cmpR (r := rEqA K) (op_eqA hr.units) (pv 0) (pv 1) (nomark _)) (pe_one (pe_cmpR (r := rEqA K) (op_eqA hr.units) (pe_callB (r := cRepr K) (call_reprA hg hr.units) (by rfl) T.z_repr (by decide +kernel) (pa_cons (pv 0) pa_nil)) (pe_callB (r := cRepr K) (call_reprA hg hr.units) (by rfl) T.z_repr (by decide +kernel) (pa_cons (pv 1) pa_nil)) (nomark _)))))), ?_⟩
  walk_at "go"
  refine r_eq_same h1 h2 ok (by decide) ?_
  walk_at "go"
  refine ⟨a, d, rfl, h1, hs, hn, ok.2, hz, ?_⟩
  walk_at "go"
  refine ⟨b, d, rfl, h2, hs, hn, ok.2, hz, ?_⟩
  refine .inl ⟨rfl, ?_⟩
  rw [decide_eq_true (rfl : V.str d.shown = V.str d.shown)]
  exact q
end

theorem sh_name17 {k : Nat} {x : Str} (h : x ∈ names17) : Sh k 10 (.str x) := by
  have key : ∀ y ∈ names17, (PyData.strOk y && PyData.showable (.str y) && PyData.leavesShort 64 (.str y) && decide (PyData.weight (.str y) ≤ 10)) = true := by decide +kernel
  have := key x h
  simp only [Bool.and_eq_true, decide_eq_true_eq] at this
  obtain ⟨⟨⟨h1, h2⟩, h3⟩, h4⟩ := this
  exact ⟨okd_str h1, h2, h3, h4⟩
theorem sh_up {k W W' : Nat} {d : PyData} (h : Sh k W d) (hW : W ≤ W') : Sh k W' d := h.up (Nat.le_refl _) hW
theorem sh_ln {k W n : Nat} {ds : List PyData} (h : ∀ d ∈ ds, Sh k W d) (hl : ds.length ≤ n) : Sh (k + 1) (n * (W + 1)) (.list ds) := sh_up (sh_list h) (Nat.mul_le_mul_right _ hl)
theorem sh_tn {k W n : Nat} {ds : List PyData} (h : ∀ d ∈ ds, Sh k W d) (hl : ds.length ≤ n) : Sh (k + 1) (n * (W + 1)) (.tuple ds) := sh_up (sh_tuple h) (Nat.mul_le_mul_right _ hl)
theorem sh_oo {ns : List Str} {o : Od} {n : Nat} (h : OO ns o) (hn : ns.length ≤ n) (hs : ∀ x ∈ ns, x ∈ names17) : Sh 2 (n * (n * 11 + 1)) (dOd o) := by
  refine sh_tn (n := n) (W := n * 11) (fun d m => ?_) (by rw [List.length_map]; exact Nat.le_trans h.ln hn)
  obtain ⟨l, ml, rfl⟩ := List.mem_map.mp m
  refine sh_tn (n := n) (W := 10) (fun d m => ?_) (by rw [List.length_map]; exact Nat.le_trans (h.ll l ml) hn)
  obtain ⟨x, mx, rfl⟩ := List.mem_map.mp m
  exact sh_name17 (hs x (h.sub x (List.mem_flatten.mpr ⟨l, ml, mx⟩)))
theorem OO.mono {ns ms : List Str} {o : Od} (h : OO ns o) (hs : ∀ x ∈ ns, x ∈ ms) : OO ms o := ⟨h.lv, h.nd, fun x m => hs x (h.sub x m)⟩
theorem OO.onlyIn {ns : List Str} {o : Od} (h : OO ns o) (ps : List Str) : OO ps (onlyO ps o) := ⟨(h.only ps).lv, (h.only ps).nd, fun x m => by
  rw [onlyO_flat] at m
  simpa using (List.mem_filter.mp m).2⟩

/-! ### names that are led elsewhere -/
def newI (k : Nat) : Str := Str.ofString "new" ++ Str.ofString (toString (k : Int))
def bothI (k : Nat) : Str := Str.ofString "both" ++ Str.ofString (toString (k : Int))
def news : List Str := ["new0", "new1", "new2", "new3", "new4", "new5", "new6", "both0", "both1"]
def names26 : List Str := names17 ++ news
theorem new_in : ∀ k, k < 7 → newI k ∈ news := by decide +kernel
theorem both_in : ∀ k, k < 2 → bothI k ∈ news := by decide +kernel
theorem new_inj : ∀ j, j < 7 → ∀ k, k < 7 → newI j = newI k → j = k := by decide +kernel
theorem both_inj : ∀ j, j < 2 → ∀ k, k < 2 → bothI j = bothI k → j = k := by decide +kernel
theorem new_both : ∀ j, j < 7 → ∀ k, k < 2 → newI j ≠ bothI k := by decide +kernel
theorem n17_new : ∀ x ∈ names17, ∀ k, k < 7 → x ≠ newI k := by decide +kernel
theorem n17_both : ∀ x ∈ names17, ∀ k, k < 2 → x ≠ bothI k := by decide +kernel
theorem in26 {x : Str} (h : x ∈ names17) : x ∈ names26 := List.mem_append.mpr (.inl h)
theorem new26 {x : Str} (h : x ∈ news) : x ∈ names26 := List.mem_append.mpr (.inr h)
theorem sh_26 {k : Nat} {x : Str} (h : x ∈ names26) : Sh k 10 (.str x) := by
  have key : ∀ y ∈ names26, (PyData.strOk y && PyData.showable (.str y) && PyData.leavesShort 64 (.str y) && decide (PyData.weight (.str y) ≤ 10)) = true := by decide +kernel
  have := key x h
  simp only [Bool.and_eq_true, decide_eq_true_eq] at this
  obtain ⟨⟨⟨h1, h2⟩, h3⟩, h4⟩ := this
  exact ⟨okd_str h1, h2, h3, h4⟩
theorem lf_26 {x : Str} (h : x ∈ names26) : Lf (.str x) (.str x) := .str x ((sh_26 (k := 0) h).fits (by decide))
abbrev Ls := List (Str × Str)
structure LedA (o : Od) (ps : List Str) (l : Ls) : Prop where
  nd : (l.map Prod.fst).Nodup
  of : ∀ e ∈ l, (∃ k : Nat, ps[k]? = some e.1 ∧ e.2 = newI k) ∨ (∃ (i : Nat) (lv : Lv), i < 2 ∧ o[i]? = some lv ∧ e.1 ∈ lv ∧ e.2 = bothI i)
theorem lv_lt {o : Od} (nd : o.flatten.Nodup) {i j : Nat} {l m : Lv} {p : Str} (hi : o[i]? = some l) (hj : o[j]? = some m) (pl : p ∈ l) (pm : p ∈ m) : ¬ i < j := fun h => by
  obtain ⟨k, hk⟩ := List.mem_iff_getElem?.mp pm
  refine nd_at nd hj hk (List.mem_append.mpr (.inl (List.mem_flatten.mpr ⟨l, ?_, pl⟩)))
  exact List.mem_iff_getElem?.mpr ⟨i, by rw [List.getElem?_take_of_lt h]; exact hi⟩
theorem lv_uniq {o : Od} (nd : o.flatten.Nodup) {i j : Nat} {l m : Lv} {p : Str} (hi : o[i]? = some l) (hj : o[j]? = some m) (pl : p ∈ l) (pm : p ∈ m) : i = j := by
  have h1 := lv_lt nd hi hj pl pm
  have h2 := lv_lt nd hj hi pm pl
  omega
theorem look_cases (l : Ls) (p : Str) : (lookR l p = p ∧ lkG l p = none) ∨ ((p, lookR l p) ∈ l) := by
  unfold lookR
  cases h : lkG l p with
  | none => exact .inl ⟨rfl, rfl⟩
  | some y => exact .inr (lkG_mem h)
structure GoodL (o : Od) (l : Ls) : Prop where
  mrg : Mrg (lookR l) o
  len : l.length ≤ 20
  sh : ∀ e ∈ l, e.1 ∈ names26 ∧ e.2 ∈ names26
  r26 : ∀ x ∈ o.flatten, lookR l x ∈ names26
theorem good_of {o : Od} {l : Ls} (hn : ∀ x ∈ o.flatten, x ∈ names17) (m : Mrg (lookR l) o) (len : l.length ≤ 20) (sh : ∀ e ∈ l, e.1 ∈ names26 ∧ e.2 ∈ names26) : GoodL o l := ⟨m, len, sh, fun x mx => by
  rcases look_cases l x with ⟨h, _⟩ | h
  · rw [h]; exact in26 (hn x mx)
  · exact (sh _ h).2⟩
theorem led_good {o : Od} {ps : List Str} {l : Ls} (h : LedA o ps l) (nd : o.flatten.Nodup) (hn : ∀ x ∈ o.flatten, x ∈ names17) (hp : ps.length ≤ 7) (hpn : ∀ x ∈ ps, x ∈ names17) (len : l.length ≤ 20) : GoodL o l := by
  refine good_of hn (fun i j lv m p q hi hj pl qm e => ?_) len fun e me => ?_
  · have hp17 := hn p (List.mem_flatten.mpr ⟨lv, List.mem_of_getElem? hi, pl⟩)
    have hq17 := hn q (List.mem_flatten.mpr ⟨m, List.mem_of_getElem? hj, qm⟩)
    have bnd : ∀ {k : Nat} {x : Str}, ps[k]? = some x → k < 7 := fun h => Nat.lt_of_lt_of_le (List.getElem?_eq_some_iff.mp h).1 hp
    rcases look_cases l p with ⟨a1, _⟩ | a
    · rcases look_cases l q with ⟨b1, _⟩ | b
      · rw [a1, b1] at e
        subst e
        exact lv_uniq nd hi hj pl qm
      · rw [a1] at e
        rcases h.of _ b with ⟨k, k1, k2⟩ | ⟨at1, lv1, t1, t2, t3, t4⟩
        · exact absurd (e.trans k2) (n17_new p hp17 k (bnd k1))
        · exact absurd (e.trans t4) (n17_both p hp17 at1 t1)
    · rcases look_cases l q with ⟨b1, _⟩ | b
      · rw [b1] at e
        rcases h.of _ a with ⟨k, k1, k2⟩ | ⟨at1, lv1, t1, t2, t3, t4⟩
        · exact absurd (e.symm.trans k2) (n17_new q hq17 k (bnd k1))
        · exact absurd (e.symm.trans t4) (n17_both q hq17 at1 t1)
      · rcases h.of _ a with ⟨k, k1, k2⟩ | ⟨at1, lv1, t1, t2, t3, t4⟩
        · rcases h.of _ b with ⟨k', k1', k2'⟩ | ⟨at2, lv2, s1, s2, s3, s4⟩
          · have := new_inj k (bnd k1) k' (bnd k1') (k2.symm.trans (e.trans k2'))
            subst this
            rw [k1] at k1'
            have : p = q := Option.some.inj k1'
            subst this
            exact lv_uniq nd hi hj pl qm
          · exact absurd (k2.symm.trans (e.trans s4)) (new_both k (bnd k1) at2 s1)
        · rcases h.of _ b with ⟨k', k1', k2'⟩ | ⟨at2, lv2, s1, s2, s3, s4⟩
          · exact absurd (k2'.symm.trans (e.symm.trans t4)) (new_both k' (bnd k1') at1 t1)
          · have := both_inj at1 t1 at2 s1 (t4.symm.trans (e.trans s4))
            subst this
            rw [lv_uniq nd hi t2 pl t3, lv_uniq nd hj s2 qm s3]
  · rcases h.of e me with ⟨k, k1, k2⟩ | ⟨at1, lv1, t1, t2, t3, t4⟩
    · refine ⟨in26 (hpn _ (List.mem_of_getElem? k1)), ?_⟩
      rw [k2]
      exact new26 (new_in k (Nat.lt_of_lt_of_le (List.getElem?_eq_some_iff.mp k1).1 hp))
    · refine ⟨in26 (hn _ (List.mem_flatten.mpr ⟨lv1, List.mem_of_getElem? t2, t3⟩)), ?_⟩
      rw [t4]
      exact new26 (both_in at1 t1)
theorem zip_inj {p q y : Str} : ∀ {L M : List Str}, M.Nodup → (p, y) ∈ L.zip M → (q, y) ∈ L.zip M → p = q
  | [], _, _, h, _ => by simp at h
  | a :: L, [], _, h, _ => by simp at h
  | a :: L, b :: M, nd, h, h2 => by
    obtain ⟨n1, n2⟩ := List.nodup_cons.mp nd
    rw [List.zip_cons_cons] at h h2
    rcases List.mem_cons.mp h with g | g
    · cases g
      rcases List.mem_cons.mp h2 with g2 | g2
      · cases g2; rfl
      · exact absurd (List.of_mem_zip g2).2 n1
    · rcases List.mem_cons.mp h2 with g2 | g2
      · have : b = y := (congrArg Prod.snd g2).symm
        subst this
        exact absurd (List.of_mem_zip g).2 n1
      · exact zip_inj n2 g g2
theorem zip_good {o : Od} {L M : List Str} {l : Ls} (nd : o.flatten.Nodup) (hn : ∀ x ∈ o.flatten, x ∈ names17) (hL : ∀ x, x ∈ L ↔ x ∈ o.flatten) (hM : M.Perm L) (ndL : L.Nodup) (h1 : ∀ e ∈ l, e ∈ L.zip M) (h2 : ∀ k, k ∈ l.map Prod.fst ↔ k ∈ (L.zip M).map Prod.fst) (len : l.length ≤ 20) : GoodL o l := by
  have ndM := hM.nodup_iff.mpr ndL
  have hk : (L.zip M).map Prod.fst = L := List.map_fst_zip (by rw [hM.length_eq]; exact Nat.le_refl _)
  have tot : ∀ p ∈ o.flatten, (p, lookR l p) ∈ L.zip M := fun p mp => by
    rcases look_cases l p with ⟨_, h⟩ | h
    · have : p ∈ l.map Prod.fst := (h2 p).mpr (by rw [hk]; exact (hL p).mpr mp)
      obtain ⟨e, me, he⟩ := List.mem_map.mp this
      exfalso
      unfold lkG at h
      rw [Option.map_eq_none_iff, List.find?_eq_none] at h
      exact h e me (decide_eq_true he)
    · exact h1 _ h
  refine good_of hn (fun i j lv m p q hi hj pl qm e => ?_) len fun e me => ?_
  · have hp := List.mem_flatten.mpr ⟨lv, List.mem_of_getElem? hi, pl⟩
    have hq := List.mem_flatten.mpr ⟨m, List.mem_of_getElem? hj, qm⟩
    have a := tot p hp
    have b := tot q hq
    rw [← e] at b
    have := zip_inj ndM a b
    subst this
    exact lv_uniq nd hi hj pl qm
  · have := List.of_mem_zip (show (e.1, e.2) ∈ L.zip M from h1 e me)
    exact ⟨in26 (hn _ ((hL _).mp this.1)), in26 (hn _ ((hL _).mp (hM.mem_iff.mp this.2)))⟩
theorem one_good {o : Od} {l0 : Lv} {x y : Str} (nd : o.flatten.Nodup) (hn : ∀ x ∈ o.flatten, x ∈ names17) (h0 : o[0]? = some l0) (hx : x ∈ l0) (hy : y ∈ l0) : GoodL o [(x, y)] := by
  have look : ∀ p, lookR [(x, y)] p = if x = p then y else p := fun p => by
    unfold lookR lkG
    rw [List.find?_cons]
    by_cases h : x = p
    · simp [h]
    · simp [h]
  have fl : ∀ z ∈ l0, z ∈ names17 := fun z m => hn z (List.mem_flatten.mpr ⟨l0, List.mem_of_getElem? h0, m⟩)
  refine good_of hn (fun i j lv m p q hi hj pl qm e => ?_) (by decide : 1 ≤ 20) fun e me => ?_
  · rw [look, look] at e
    by_cases h : x = p
    · rw [if_pos h] at e
      have i0 := lv_uniq nd hi h0 pl (h ▸ hx)
      by_cases h' : x = q
      · exact i0.trans (lv_uniq nd hj h0 qm (h' ▸ hx)).symm
      · rw [if_neg h'] at e
        exact i0.trans (lv_uniq nd hj h0 qm (e ▸ hy)).symm
    · rw [if_neg h] at e
      by_cases h' : x = q
      · rw [if_pos h'] at e
        exact (lv_uniq nd hi h0 pl (e ▸ hy)).trans (lv_uniq nd hj h0 qm (h' ▸ hx)).symm
      · rw [if_neg h'] at e
        subst e
        exact lv_uniq nd hi hj pl qm
  · rw [List.mem_singleton.mp me]
    exact ⟨in26 (fl x hx), in26 (fl y hy)⟩
/-! ### what is shown -/
def dctD (l : Ls) : PyData := .dict (l.map fun e => (.str e.1, .str e.2))
theorem dct_kv : ∀ {l : Ls}, (∀ e ∈ l, e.1 ∈ names26 ∧ e.2 ∈ names26) → KvD (encG V.str l) (l.map fun e => (.str e.1, .str e.2))
  | [], _ => .nil
  | e :: l, h => .cons ⟨lf_26 (h e List.mem_cons_self).1, lf_26 (h e List.mem_cons_self).2⟩ (dct_kv fun x m => h x (List.mem_cons_of_mem _ m))
theorem dct_sm : ∀ {l : Ls}, (∀ e ∈ l, e.1 ∈ names26 ∧ e.2 ∈ names26) → PyData.leavesShortKv 64 (l.map fun e => (PyData.str e.1, PyData.str e.2)) = true ∧ PyData.weightKv (l.map fun e => (PyData.str e.1, PyData.str e.2)) ≤ l.length * 22 ∧ PyData.depthKv (l.map fun e => (PyData.str e.1, PyData.str e.2)) ≤ 1
  | [], _ => ⟨by simp [PyData.leavesShortKv], by simp [PyData.weightKv], by simp [PyData.depthKv]⟩
  | e :: l, h => by
    obtain ⟨a, b, c⟩ := dct_sm fun x m => h x (List.mem_cons_of_mem _ m)
    obtain ⟨h1, h2⟩ := h e List.mem_cons_self
    have s1 := sh_26 (k := 0) h1
    have s2 := sh_26 (k := 0) h2
    have w1 := s1.wt
    have w2 := s2.wt
    have d1 := s1.ok.2
    have d2 := s2.ok.2
    refine ⟨?_, ?_, ?_⟩
    · rw [List.map_cons, PyData.leavesShortKv, s1.sm, s2.sm, a]
      rfl
    · rw [List.map_cons, PyData.weightKv, List.length_cons]
      omega
    · rw [List.map_cons, PyData.depthKv]
      omega
theorem two_shown {ps : List Str} {l : Ls} (hp : ps.length ≤ 7) (hpn : ∀ x ∈ ps, x ∈ names17) (hl : l.length ≤ 20) (h : ∀ e ∈ l, e.1 ∈ names26 ∧ e.2 ∈ names26) : PyData.depthAll [dNs ps, dctD l] ≤ 50 ∧ (PyData.list [dNs ps, dctD l]).shown.length ≤ sizeLine ∧ (dNs ps).showable = true ∧ (dNs ps).hasDict = false ∧ (dNs ps).shown.length ≤ sizeLine := by
  have s1 : Sh 1 (7 * 11) (dNs ps) := sh_ln (n := 7) (W := 10) (fun d m => by
    obtain ⟨x, mx, rfl⟩ := List.mem_map.mp m
    exact sh_name17 (hpn x mx)) (by rw [List.length_map]; exact hp)
  obtain ⟨a, b, c⟩ := dct_sm h
  have d1 := s1.ok.2
  have w1 := s1.wt
  refine ⟨?_, ?_, s1.sh, s1.nd, s1.fits (by decide)⟩
  · rw [PyData.depthAll, PyData.depthAll, PyData.depthAll, dctD, PyData.depth]
    omega
  · have sm : (PyData.list [dNs ps, dctD l]).leavesShort 64 = true := by
      rw [PyData.leavesShort, PyData.leavesShortAll, PyData.leavesShortAll, PyData.leavesShortAll, s1.sm, dctD, PyData.leavesShort, a]
      rfl
    have wt : (PyData.list [dNs ps, dctD l]).weight ≤ 1000 := by
      rw [PyData.weight, PyData.weightAll, PyData.weightAll, PyData.weightAll, dctD, PyData.weight]
      have : l.length * 22 ≤ 20 * 22 := Nat.mul_le_mul_right _ hl
      omega
    have h1 := PyData.shown_le 64 (by decide) _ sm
    have h2 : (64 + 2) * (PyData.list [dNs ps, dctD l]).weight ≤ 66 * 1000 := Nat.mul_le_mul (by omega) wt
    have e : sizeLine = 16777216 := by decide
    omega

end Pf

set_option Elab.async false
set_option linter.all false
set_option maxRecDepth 100000
set_option maxHeartbeats 8000000
namespace Pf
open PySem L2 Kt
set_option hygiene false
local macro_rules | `(tactic| walk_at "mem") => `(tactic| (with_reducible (repeat (first | exact Pick.hd | apply Pick.tl)); done))
local macro_rules | `(tactic| walk_at "rep") => `(tactic| (with_reducible (repeat (first | exact Repl.hd | apply Repl.tl)); done))
local macro_rules | `(tactic| walk_at "sel") => `(tactic| ((repeat (with_reducible apply Sel.cons; (focus walk_at "mem"))); (with_reducible apply Sel.nil); (with_reducible (repeat (first | exact Dr.all | apply Dr.skip)); done)))
local macro_rules | `(tactic| walk_at "at") => `(tactic| (refine' Sep.at_ (by assumption) ?kkpk; (case kkpk => walk_at "mem")))
local macro_rules | `(tactic| walk_at "sq") => `(tactic| first | assumption | (refine' Sep.sq (by assumption) ?kkpk; (case kkpk => walk_at "mem")))
local macro_rules | `(tactic| walk_at "st") => `(tactic| first | assumption | (refine' Sep.st (by assumption) ?kkpk; (case kkpk => walk_at "mem")))
local macro_rules | `(tactic| walk_at "lk") => `(tactic| (repeat (first | (with_reducible exact lk_eq) | exact rfl | refine (lk_ne (by decide +kernel)).trans ?_)))
local macro_rules | `(tactic| walk_at "pf") => `(tactic| (repeat (first | (with_reducible exact pf_nil) | (with_reducible exact pf_eq) | (apply pf_ne; (focus decide +kernel)))))
local macro_rules | `(tactic| walk_at "ty") => `(tactic| first | exact ty_int | (refine' ty_lst ?kkh; (case kkh => walk_at "at")))
local macro_rules | `(tactic| walk_at "k1") => `(tactic| with_reducible first
  | refine q_seq ?_ | refine q_set ?_ | refine q_asg ?_ | refine q_ret ?_ | refine q_drop ?_ | refine q_next ?_ | refine q_c ?_ | refine q_op ?_ | refine q_un ?_ | refine q_nil ?_ | refine q_cons ?_ | refine q_cb ?_
  | refine q_call ?_ | refine q_ifs ?_ | refine q_if ?_ | refine q_test ?_ | refine q_tb ?_ | refine q_bl ?_ | refine q_notT ?_ | refine q_andT ?_ | refine q_orT ?_ | refine q_andV ?_ | refine q_orV ?_ | refine q_notV ?_
  | refine q_addA ?_ | refine q_subI ?_ | refine q_ltI ?_ | refine q_leI ?_ | refine q_gtI ?_ | refine q_geI ?_ | refine q_eqI ?_ | refine q_neI ?_ | refine q_abs ?_ | refine q_int ?_ | refine q_intB ?_ | refine q_max ?_ | refine q_min ?_
  | refine q_ipAdd ?_ | refine q_ipSub ?_ | refine q_gsub ?_ | refine q_augs ?_ | refine q_lst ?_ | refine q_tup ?_ | refine q_blI ?_ | refine iteT ?_ | refine iteF ?_ | refine iteNT ?_ | refine iteNF ?_
  | refine r_prop ?_ | refine r_fld ?_ | refine r_sfld ?_ | refine r_meth ?_ | refine r_make ?_ | refine r_sl ?_ | refine r_nopart ?_ | refine r_part ?_ | refine r_parti ?_ | refine r_gsl ?_ | refine r_bm ?_ | refine r_bm0 ?_ | refine r_for ?_ | refine r_ilist ?_ | refine r_irng ?_
  | refine r_gname ?_ | refine r_gcons ?_ | refine r_gnil ?_ | refine r_par ?_ | refine r_parA ?_ | refine r_chain ?_ | refine r_isN ?_ | refine r_tlc ?_ | refine r_yes ?_ | refine r_makek ?_ | refine r_neg ?_)
local macro_rules | `(tactic| walk_at "k2") => `(tactic| first
  | ((with_reducible refine' q_var ?kke ?_); (case kke => rfl))
  | ((with_reducible refine' q_aug ?kke ?_); (case kke => rfl))
  | ((with_reducible refine' q_ixL ?kks ?kke ?_); (case kks => walk_at "sq"); (case kke => first | rfl | assumption))
  | ((with_reducible refine' q_ixT ?kks ?kke ?_); (case kks => walk_at "st"); (case kke => first | rfl | assumption))
  | ((with_reducible refine' q_ixLL ?kks ?kke ?_); (case kks => walk_at "sq"); (case kke => first | rfl | assumption))
  | ((with_reducible refine' q_lenL ?kks ?_); (case kks => walk_at "sq"))
  | ((with_reducible refine' q_mulI ?kkc ?_); (case kkc => first | exact .inl (by omega) | exact .inr (by omega)))
  | ((with_reducible refine' q_modI ?kkc ?_); (case kkc => omega))
  | ((with_reducible refine' q_divI ?kkc ?_); (case kkc => exact ⟨by omega, by omega⟩))
  | ((with_reducible refine' q_powI ?kkc ?_); (case kkc => exact ⟨by decide, by decide, by decide⟩))
  | ((with_reducible refine' r_kfld ?kkS ?kkp ?kkc ?kkn ?kkl ?_); (case kkS => assumption); (case kkp => walk_at "mem"); (case kkc => walk_at "cls"); (case kkn => walk_at "na"); (case kkl => walk_at "lk"))
  | ((with_reducible refine' r_kprop ?kkS ?kkp ?_); (case kkS => assumption); (case kkp => walk_at "mem"))
  | ((with_reducible refine' r_kmeth ?kkS ?kkp ?kkl ?_); (case kkS => assumption); (case kkp => walk_at "mem"); (case kkl => walk_at "lk"))
  | ((with_reducible refine' r_calll ?kks ?_); (case kks => rfl))
  | ((with_reducible refine' r_tyl ?kks ?_); (case kks => walk_at "sq"))
  | ((with_reducible refine' r_isi (k := true) ?kkt ?kke ?_); (case kkt => walk_at "ty"); (case kke => decide +kernel))
  | ((with_reducible refine' r_isi (k := false) ?kkt ?kke ?_); (case kkt => walk_at "ty"); (case kke => decide +kernel)))
local macro_rules | `(tactic| walk_at "k3") => `(tactic| first
  | ((with_reducible refine' q_setS ?kkS ?kkr ?kke ?_); (case kkS => assumption); (case kkr => walk_at "rep"); (case kke => rfl); intro H S)
  | ((with_reducible refine' r_kset ?kkS ?kkr ?kkc ?kkn ?kkl ?kke ?_); (case kkS => assumption); (case kkr => walk_at "rep"); (case kkc => walk_at "cls"); (case kkn => walk_at "na"); (case kkl => first | exact Nat.le_of_ble_eq_true rfl | assumption | omega | (simp; done) | (simp; omega)); (case kke => walk_at "pf"); intro H S)
  | ((with_reducible refine' q_new ?kkS ?kkl ?_); (case kkS => assumption); (case kkl => first | exact Nat.le_of_ble_eq_true rfl | assumption | omega | (simp; done) | (simp; omega)); intro p H S)
  | ((with_reducible refine' q_newT ?kkS ?kkl ?_); (case kkS => assumption); (case kkl => first | exact Nat.le_of_ble_eq_true rfl | assumption | omega | (simp; done) | (simp; omega)); intro p H S)
  | ((with_reducible refine' r_knew ?kkS ?_); (case kkS => assumption); intro x dx H S)
  | ((with_reducible refine' r_knewk ?kkS ?kkl1 ?kkl2 ?_); (case kkS => assumption); (case kkl1 => rfl); (case kkl2 => rfl); intro x dx H S)
  | ((with_reducible refine' r_ksl ?kkS ?kks ?_); (case kkS => assumption); (case kks => walk_at "sq"); intro p H S)
  | ((with_reducible refine' r_list ?kkS ?kks ?_); (case kkS => assumption); (case kks => walk_at "sq"); intro p H S)
  | ((with_reducible refine' r_cat ?kkS ?kks1 ?kks2 ?kkz ?_); (case kkS => assumption); (case kks1 => walk_at "at"); (case kks2 => walk_at "at"); (case kkz => first | omega | (simp; omega)); intro p H S)
  | ((with_reducible refine' r_append ?kkS ?kkr ?kkz ?_); (case kkS => assumption); (case kkr => walk_at "rep"); (case kkz => first | omega | (simp; omega)); intro H S)
  | ((with_reducible refine' r_reverse ?kkS ?kkr ?_); (case kkS => assumption); (case kkr => walk_at "rep"); intro H S)
  | ((with_reducible refine' r_clear ?kkS ?kkr ?_); (case kkS => assumption); (case kkr => walk_at "rep"); intro H S))
local macro_rules | `(tactic| walk_at "gn") => `(tactic| repeat (first | walk_at "k1" | walk_at "k2"))
local macro_rules | `(tactic| walk_at "go") => `(tactic| repeat (first | walk_at "k1" | walk_at "k2" | walk_at "k3"))

local macro_rules | `(tactic| walk_at "sq") => `(tactic| first | assumption | (refine' Sep.sq ?kkS ?kkpk; (case kkS => assumption); (case kkpk => walk_at "mem")) | (refine' hp_sqL ?kkS ?kkx; (case kkS => assumption); (case kkx => assumption)) | (refine' hp_sqL (Sep.tl ?kkS) ?kkx; (case kkS => assumption); (case kkx => assumption)) | (refine' hp_sqL (Sep.tl (Sep.tl ?kkS)) ?kkx; (case kkS => assumption); (case kkx => assumption)))
local macro_rules | `(tactic| walk_at "st") => `(tactic| first | assumption | (refine' Sep.st ?kkS ?kkpk; (case kkS => assumption); (case kkpk => walk_at "mem")) | (refine' hp_sqT ?kkS ?kkx; (case kkS => assumption); (case kkx => assumption)) | (refine' hp_sqT (Sep.tl ?kkS) ?kkx; (case kkS => assumption); (case kkx => assumption)) | (refine' hp_sqT (Sep.tl (Sep.tl ?kkS)) ?kkx; (case kkS => assumption); (case kkx => assumption)))
local macro_rules | `(tactic| walk_at "k1") => `(tactic| with_reducible first | refine r_ienumT ?_ | refine r_tru ?_ | refine r_itup ?_ | refine r_star ?_ | refine r_par3 ?_ | refine r_parA3 ?_ | refine r_dget ?_ | refine r_din ?_ | refine r_dnotin ?_ | refine r_dput ?_)

local macro_rules | `(tactic| walk_at "k1") => `(tactic| with_reducible first | refine r_tlc2 ?_ | refine r_tdc ?_ | refine r_irng3 ?_)

local macro_rules | `(tactic| walk_at "k1") => `(tactic| with_reducible first | refine r_slA ?_)

section
variable {K : PySem.W.Frag} {H G : Hp} {Q : VK} {a : Addr} {R : List SP} {ds : List PyData}
theorem r_preD {n : Nat} (S : Sep (hp G :: R) H) (hx : Dp K G (.ref a) (.tuple ds)) (q : ∀ p G' H', Le G G' → Dp K G' (.ref p) (.tuple (ds.take n)) → Sep (hp G' :: R) H' → Q (.ref p) H') : kSlA K Q (.ref a) none (some (n : Int)) H := by
  obtain ⟨a', xs, e, hs, ha⟩ := dp_tupInv hx
  cases e
  have hl := dpall_len ha
  rcases Nat.lt_or_ge n xs.length with h | h
  · refine r_preT S (hp_sqT S hs) h fun p H S => ?_
    obtain ⟨G', le, hd, S⟩ := hp_tup S (dpall_take n ha)
    exact q p G' H le hd S
  · have e : HT.sIx xs.length xs.length (some (n : Int)) = xs.length := by
      unfold HT.sIx
      simp only
      rw [if_neg (by omega), Int.toNat_natCast]
      omega
    refine ⟨a, xs, rfl, hp_sqT S hs, fun _ => q a G H Le.rfl (by rw [List.take_of_length_le (by omega)]; exact hx) S, fun z => absurd ⟨rfl, e⟩ z⟩
end
theorem lg7 : ∀ j : Nat, j < 7 → (j : Int).natAbs.log2 < 1920 := by decide +kernel
theorem lnNew : ∀ j : Nat, j < 7 → (Str.ofString "new").length + (Str.ofString (toString (j : Int))).length ≤ 1000 := by decide +kernel
theorem lnBoth : ∀ j : Nat, j < 7 → (Str.ofString "both").length + (Str.ofString (toString (j : Int))).length ≤ 1000 := by decide +kernel
def prS (e : Str × Str) : PyData := .tuple [.str e.1, .str e.2]
theorem sh_op {k : Nat} {x : Option Int} (h : ∀ i, x = some i → i.natAbs < 10 ^ 60) : Sh k 200 (dOptI x) := by
  cases x with
  | none => exact sh_up sh_non (by decide)
  | some i => exact sh_int (h i rfl)
theorem lvI_small {o : Od} {x : Str} (h : o.length ≤ 7) : ∀ i, lvI o x = some i → i.natAbs < 10 ^ 60 := fun i e => by
  unfold lvI at e
  cases c : lvO o x with
  | none => rw [c] at e; cases e
  | some j =>
    rw [c] at e
    have e : (j : Int) = i := Option.some.inj e
    have := (List.findIdx?_eq_some_iff_getElem.mp c).1
    have : (10 : Nat) ^ 60 > 100 := by decide
    omega
theorem cmp_small {o : Od} {x y : Str} : ∀ i, cmpO o x y = some i → i.natAbs < 10 ^ 60 := fun i e => by
  have h1 : (10 : Nat) ^ 60 > 100 := by decide
  unfold cmpO at e
  cases c : lvO o x with
  | none => rw [c] at e; cases e
  | some j =>
    cases d : lvO o y with
    | none => rw [c, d] at e; cases e
    | some k =>
      rw [c, d] at e
      have e : (if j = k then (0 : Int) else if j < k then -1 else 1) = i := Option.some.inj e
      rw [← e]
      split
      · decide
      · split <;> decide
theorem sh_due {ns ps : List Str} {o : Od} {l : Ls} (oo : OO ns o) (hn : ns.length ≤ 7) (hns : ∀ x ∈ ns, x ∈ names17) (hp : ps.length ≤ 7) (g : GoodL o l) : Sh 4 (5 * 20001) (.list (dueD o ps l)) := by
  have up : ∀ {k W d}, Sh k W d → k ≤ 3 → W ≤ 20000 → Sh 3 20000 d := fun h a b => h.up a b
  have hol := oo.ln
  refine sh_ln (n := 5) (W := 20000) (fun d m => ?_) (Nat.le_refl 5)
  unfold dueD at m
  simp only [List.mem_cons, List.not_mem_nil, or_false] at m
  rcases m with rfl | rfl | rfl | rfl | rfl
  · refine up (sh_ln (k := 0) (n := 7) (W := 10) (fun d m => ?_) ?_) (by decide) (by decide)
    · obtain ⟨x, mx, rfl⟩ := List.mem_map.mp m
      exact sh_name17 (hns x (oo.sub x ((sort_perm _).mem_iff.mp mx)))
    · rw [List.length_map, (sort_perm _).length_eq]
      exact Nat.le_trans oo.fl hn
  · refine up (sh_ln (k := 1) (n := 49) (W := 402) (fun d m => ?_) ?_) (by decide) (by decide)
    · obtain ⟨x, mx, m⟩ := List.mem_flatMap.mp m
      obtain ⟨y, my, rfl⟩ := List.mem_map.mp m
      refine sh_tn (k := 0) (n := 2) (W := 200) (fun d m => ?_) (Nat.le_refl 2)
      simp only [List.mem_cons, List.not_mem_nil, or_false] at m
      rcases m with rfl | rfl
      · exact sh_op (lvI_small (by omega))
      · exact sh_op cmp_small
    · rw [cells_len]
      exact Nat.mul_le_mul hp hp
  · exact up (sh_oo (n := 7) (oo.only ps) hn hns) (by decide) (by decide)
  · rw [lack_eq]
    exact up (sh_oo (n := 7) (oo.only _) hn hns) (by decide) (by decide)
  · refine up (sh_tn (k := 1) (n := 7) (W := 77) (fun d m => ?_) ?_) (by decide) (by decide)
    · obtain ⟨w, mw, rfl⟩ := List.mem_map.mp m
      obtain ⟨v, mv, rfl⟩ := List.mem_map.mp mw
      refine sh_tn (k := 0) (n := 7) (W := 10) (fun d m => ?_) ?_
      · obtain ⟨x, mx, rfl⟩ := List.mem_map.mp m
        obtain ⟨y, my, rfl⟩ := List.mem_map.mp (mem_set.mp mx)
        exact sh_26 (g.r26 y (List.mem_flatten.mpr ⟨v, mv, my⟩))
      · rw [List.length_map]
        have h1 := sub_len (set_nd (v.map (lookR l))) fun x mx => mem_set.mp mx
        rw [List.length_map] at h1
        have := oo.ll v mv
        omega
    · rw [List.length_map]
      unfold renO
      rw [List.length_map]
      omega
section
variable {P : Program} {w : World} {K : PySem.W.Frag} {mg : Str → Option Value} {base : Heap}
def spLaw (K : PySem.W.Frag) : Sp := fun vs H Q _ => ∃ (a : Addr) (ns : List Int), vs = [.ref a] ∧ SqL K H a (ns.map V.int) ∧ ns.length ≤ 63 ∧ ∀ H', Q (.bl true) H'
theorem sc_law : FnScope N_law ["_law_script"] (defScope s_law) := ⟨rfl, rfl, rfl, by decide +kernel, rfl, by decide +kernel, by decide +kernel⟩
theorem ok_law {f f1 f2 f3 f4 f5 f6 f7 f8 f9 : Addr} {fd : FuncData} (F : Fun K "law" "law" s_law f fd) (T : Tx K mg) (D_l_bag : Df P w K mg base 1 "_law_bag" f1 ["_law_script"] (spBag K)) (D_l_take : Df P w K mg base 1 "_law_take" f2 ["_law_bag_here", "_law_many"] spTake)
    (D_l_names : Df P w K mg base 3 "_law_names" f3 ["_law_bag_here", "_law_many"] (spNames K)) (D_l_drawn_order : Df P w K mg base 3 "_law_drawn_order" f4 ["_law_bag_here", "_law_points"] (spDrawn K)) (D_l_as_order : Df P w K mg base 1 "_law_as_order" f5 ["_law_levels"] (spAsOrder K))
    (D_l_ranks : Df P w K mg base 1 "_law_ranks" f6 ["_law_order"] (spRanks K)) (D_l_reckon : Df P w K mg base 2 "_law_reckon" f7 ["_law_order", "_law_names_here", "_law_led"] (spReck K)) (D_l_told : Df P w K mg base 3 "_law_told" f8 ["_law_order", "_law_names_here", "_law_led"] (spTold K))
    (D_l_alike : Dg P w K mg base 1 "_law_alike" f9 ["_law_found", "_law_due"] (spAlike K)) : FnG P w K mg base 8 f fd ["_law_script"] (spLaw K) := by
  refine fnG_ok F sc_law (fun vs H Q E h => ?_) (fun cdv A outer s H vs Q E hg hr h => ?_)
  · obtain ⟨a, ns, rfl, _⟩ := h
    rfl
  obtain ⟨a, ns, rfl, hq, hl, q⟩ := h
  refine ⟨_, (pss_cons (ps_set (i := 1) sc_law.nd rfl (by first | exact Or.inl rfl | exact Or.inr rfl) (pe_df D_l_bag (hr.mono (by first | decide | omega)) (pa_cons (pv 0) pa_nil)))
      (pss_cons (ps_for PassesOwn.never rfl (pi_range1 rfl T.z_range (pa_cons pe_int pa_nil)) (pg_name (i := 2) sc_law.nd rfl (by first | exact Or.inl rfl | exact Or.inr rfl)) (pss_cons (ps_set (i := 3) sc_law.nd rfl (by first | exact Or.inl rfl | exact Or.inr rfl) (pe_df D_l_names (hr.mono (by first | decide | omega)) (pa_cons (pv 1) (pa_cons pe_int pa_nil))))
      (pss_cons (ps_set (i := 4) sc_law.nd rfl (by first | exact Or.inl rfl | exact Or.inr rfl) (pe_df D_l_as_order (hr.mono (by first | decide | omega)) (pa_cons (pe_df D_l_drawn_order (hr.mono (by first | decide | omega)) (pa_cons (pv 1) (pa_cons (pe_slice (r := rSlL K) sl_list (pv 3) po_none (po_some (pe_df D_l_take (hr.mono (by first | decide | omega)) (pa_cons (pv 1) (pa_cons pe_int pa_nil))))) pa_nil))) pa_nil)))
      (pss_cons (ps_set (i := 5) sc_law.nd rfl (by first | exact Or.inl rfl | exact Or.inr rfl) (pe_slice (r := rSlL K) sl_list (pv 3) (po_some (pe_df D_l_take (hr.mono (by first | decide | omega)) (pa_cons (pv 1) (pa_cons pe_int pa_nil)))) po_none))
      (pss_cons (ps_set (i := 6) sc_law.nd rfl (by first | exact Or.inl rfl | exact Or.inr rfl) (pe_callTy (r := rDictP K) (cr_dictP rfl) (by rfl) T.z_dict (by decide +kernel) (pa_cons (pe_lc (own := [("_law_k", 14), ("_law_name", 15)]) rfl sc_law.nd (pi_enumK K (by rfl) T.z_enumerate (pa_cons (pv 5) pa_nil)) (blkOk_by (own := [("_law_k", 14), ("_law_name", 15)]) (N := N_law) (sc := defScope s_law) (by decide +kernel)) (fun _ _ _ _ _ => (pg_tupK K (n := 2) rfl (pgs_cons (pg_name (i := 14) sc_law.nd rfl (by first | exact Or.inl rfl | exact Or.inr rfl)) (pgs_cons (pg_name (i := 15) sc_law.nd rfl (by first | exact Or.inl rfl | exact Or.inr rfl)) pgs_nil)))) (fun _ _ _ _ _ => (pts_one (pt_cmpR (r := rEqA K) (op_eqA hr.units) (pe_df D_l_take (hr.mono (by first | decide | omega)) (pa_cons (pv 1) (pa_cons pe_int pa_nil))) pe_int (nomark _)))) (fun _ _ _ _ _ => (pe_tup (pa_cons (pv 15) (pa_cons (pe_op (r := rAddA) op_addA pe_str (pe_callTy (r := cStrI) call_strA (by rfl) T.z_str (by decide +kernel) (pa_cons (pv 14) pa_nil))) pa_nil))))) pa_nil)))
      (pss_cons (ps_for PassesOwn.never rfl (pi_enumT K (by rfl) T.z_enumerate (pa_cons (pe_slice (r := rSlA K) sl_tupA (pv 4) po_none (po_some (pe_op (r := rMulA) op_mulA pe_int (pe_df D_l_take (hr.mono (by first | decide | omega)) (pa_cons (pv 1) (pa_cons pe_int pa_nil)))))) pa_nil)) (pg_tupK K (n := 2) rfl (pgs_cons (pg_name (i := 7) sc_law.nd rfl (by first | exact Or.inl rfl | exact Or.inr rfl)) (pgs_cons (pg_name (i := 8) sc_law.nd rfl (by first | exact Or.inl rfl | exact Or.inr rfl)) pgs_nil))) (pss_one (ps_expr (pe_dupd (pv 6) (pe_callTy (r := rDictP K) (cr_dictP rfl) (by rfl) T.z_dict (by decide +kernel) (pa_cons (pe_lc (own := [("_law_point", 16)]) rfl sc_law.nd (pi_tupK K (pe_slice (r := rSlA K) sl_tupA (pv 8) po_none (po_some pe_int))) (blkOk_by (own := [("_law_point", 16)]) (N := N_law) (sc := defScope s_law) (by decide +kernel)) (fun _ _ _ _ _ => (pg_name (i := 16) sc_law.nd rfl (by first | exact Or.inl rfl | exact Or.inr rfl))) (fun _ _ _ _ _ => (pts_one (pt_cmpR (r := rGtI) op_gt (pe_callB (r := cOr (cLenQ K) cLenS) call_lenA (by rfl) T.z_len (by decide +kernel) (pa_cons (pv 8) pa_nil)) pe_int (nomark _)))) (fun _ _ _ _ _ => (pe_tup (pa_cons (pv 16) (pa_cons (pe_op (r := rAddA) op_addA pe_str (pe_callTy (r := cStrI) call_strA (by rfl) T.z_str (by decide +kernel) (pa_cons (pv 7) pa_nil))) pa_nil))))) pa_nil)) ⟨rfl, rfl, rfl, rfl⟩))))
      (pss_cons (ps_set (i := 9) sc_law.nd rfl (by first | exact Or.inl rfl | exact Or.inr rfl) (pe_callB (r := rSortDk) (cr_sortDk rfl) (by rfl) T.z_sorted (by decide +kernel) (pa_cons (pe_df D_l_ranks (hr.mono (by first | decide | omega)) (pa_cons (pv 4) pa_nil)) pa_nil)))
      (C8.pss_cut (ps_if (pt_cmpR (r := rEqA K) (op_eqA hr.units) (pe_df D_l_take (hr.mono (by first | decide | omega)) (pa_cons (pv 1) (pa_cons pe_int pa_nil))) pe_int (nomark _)) (pss_one (ps_set (i := 6) sc_law.nd rfl (by first | exact Or.inl rfl | exact Or.inr rfl) (pe_dzip rfl (by rfl) T.z_dict (by rfl) T.z_zip (pa_cons (pv 9) (pa_cons (pe_op (r := rAddA) op_addA (pe_slice (r := rSlL K) sl_list (pv 9) (po_some pe_int) po_none) (pe_slice (r := rSlL K) sl_list (pv 9) po_none (po_some pe_int))) pa_nil))))) (pss_one (ps_if (PW.pt (pw_and (pt_cmpR (r := rNeA K) (op_neA hr.units) (pv 9) (pe_lst pa_nil) (nomark _)) (pw_and1 (pt_cmpR (r := rEqA K) (op_eqA hr.units) (pe_df D_l_take (hr.mono (by first | decide | omega)) (pa_cons (pv 1) (pa_cons pe_int pa_nil))) pe_int (nomark _))))) (pss_one (ps_set (i := 6) sc_law.nd rfl (by first | exact Or.inl rfl | exact Or.inr rfl) (pe_disp (pps_cons (pe_ix (r := rIx K) ix_seq (pe_ix (r := rIx K) ix_seq (pv 4) pe_int (fun _ _ => rfl)) pe_int (fun _ _ => rfl)) (pe_ix (r := rIx K) ix_seq (pe_ix (r := rIx K) ix_seq (pv 4) pe_int (fun _ _ => rfl)) (pe_un un_neg pe_int) (fun _ _ => rfl)) pps_nil) rfl rfl (by simp) (by decide)))) pss_nil)))
      (pss_cons (ps_par (i := 10) (j := 11) rfl sc_law.nd rfl rfl (by decide) rfl rfl (pa_cons (pe_df D_l_reckon (hr.mono (by first | decide | omega)) (pa_cons (pv 4) (pa_cons (pv 5) (pa_cons (pv 6) pa_nil)))) (pa_cons (pe_callB (r := cReprX K) (call_reprX hg hr.units) (by rfl) T.z_repr (by decide +kernel) (pa_cons (pe_lst (pa_cons (pv 5) (pa_cons (pv 6) pa_nil))) pa_nil)) pa_nil)) rfl)
      (pss_one (ps_for PassesOwn.never rfl (pi_range1 rfl T.z_range (pa_cons pe_int pa_nil)) (pg_name (i := 12) sc_law.nd rfl (by first | exact Or.inl rfl | exact Or.inr rfl)) (pss_cons (ps_set (i := 13) sc_law.nd rfl (by first | exact Or.inl rfl | exact Or.inr rfl) (pe_df D_l_told (hr.mono (by first | decide | omega)) (pa_cons (pv 4) (pa_cons (pv 5) (pa_cons (pv 6) pa_nil)))))
      (pss_cons (ps_if (PW.pt (pw_or (pt_not (pt_val (pe_dg D_l_alike hg (hr.mono (by decide)) (pa_cons (pv 13) (pa_cons (pv 10) pa_nil))))) (pw_or1 (pt_cmpR (r := rNeA K) (op_neA hr.units) (pe_callB (r := cReprX K) (call_reprX hg hr.units) (by rfl) T.z_repr (by decide +kernel) (pa_cons (pe_lst (pa_cons (pv 5) (pa_cons (pv 6) pa_nil))) pa_nil)) (pv 11) (nomark _))))) (pss_one (ps_ret pe_bl)) pss_nil)
      (pss_one (ps_expr (pe_bmK K PySem.F.plainAttrs_list PySem.F.slot_list_append PySem.F.type_list_append mt_append (pe_ix (r := rIx K) ix_seq (pv 13) pe_int (fun _ _ => rfl)) (pa_cons pe_str pa_nil)))))))))))))))))
      (pss_one (ps_ret pe_bl)))), ?_⟩
  have S0 : Sep [] H := trivial
  walk_at "go"
  refine ⟨a, ns, [], rfl, hq, hl, S0, fun b H S => ?_⟩
  clear S0 hl hq
  have S := hp_nil S
  walk_at "go"
  refine r_for_rng (fun i σ Ps => ∃ u2 u3 u4 u5 u6 u7 u8 u9 u10 u11 u12 u13 u14 u15 u16 G R, σ = [some (.ref a), some (.ref b), u2, u3, u4, u5, u6, u7, u8, u9, u10, u11, u12, u13, u14, u15, u16] ∧ Ps = hp G :: bag b :: R) S (by decide) (by decide) ⟨_, _, _, _, _, _, _, _, _, _, _, _, _, _, _, _, _, rfl, rfl⟩ ?_ ?_
  · rintro i σ Ps H hi ⟨u2, u3, u4, u5, u6, u7, u8, u9, u10, u11, u12, u13, u14, u15, u16, G, R, rfl, rfl⟩ S
    walk_at "go"
    refine ⟨b, 7, G, R, rfl, by decide, S, fun nm ns G1 H hln hin le1 hd1 S => ?_⟩
    have hns := hin.nms
    walk_at "go"
    refine ⟨b, 8, _, rfl, by decide, by decide, S.swap, fun v H hv0 hv1 S => ?_⟩
    obtain ⟨k0, rfl⟩ := Int.eq_ofNat_of_zero_le hv0
    have S : Sep (hp G1 :: bag b :: R) H := S.swap
    walk_at "go"
    refine r_pre (n := k0) S hd1.dp fun me G2 H le2 hme S => ?_
    rw [← List.map_take] at hme
    have hml : (ns.take k0).length ≤ 7 := by rw [List.length_take]; omega
    have hmn : (ns.take k0).Nodup := hin.nd.sublist (List.take_sublist _ _)
    have hms : ∀ x ∈ ns.take k0, x ∈ ns := fun x m => List.mem_of_mem_take m
    generalize ns.take k0 = ms at hme hml hmn hms
    walk_at "go"
    refine ⟨b, me, ms, G2, R, rfl, by omega, hme.dp, S, fun bo lv G3 H hpm hne le3 hbo S => ?_⟩
    have oo := asO_oo hmn hpm
    have hlv : ∀ l ∈ lv, Nms l := fun l m x mx => hns x (hms x (hpm.mem_iff.mp (List.mem_flatten.mpr ⟨l, m, mx⟩)))
    have hlvl : lv.length ≤ 100 := by
      have := flat_len hne
      rw [hpm.length_eq] at this
      omega
    walk_at "go"
    refine ⟨bo, lv, G3, _, rfl, hlvl, hlv, hbo.dp, S, fun od G4 H le4 hod S => ?_⟩
    generalize asO lv = o at oo hod
    have hd4 := hd1.le ((le2.tr le3).tr le4)
    clear hd1 hme hbo hpm hne hlv hlvl hv0 hv1
    have o17 : ∀ x ∈ o.flatten, x ∈ names17 := fun x m => hin.sub x (hms x (oo.sub x m))
    have oln := oo.ln
    have ofl := oo.fl
    walk_at "go"
    refine ⟨b, 4, _, rfl, by decide, by decide, S.swap, fun v H hv0 hv1 S => ?_⟩
    obtain ⟨k1, rfl⟩ := Int.eq_ofNat_of_zero_le hv0
    have S : Sep (hp G4 :: bag b :: R) H := S.swap
    walk_at "go"
    refine r_suf (n := k1) S hd4.dp fun sm G5 H le5 hsm S => ?_
    rw [← List.map_drop] at hsm
    have hpl : (ns.drop k1).length ≤ 7 := by rw [List.length_drop]; omega
    have hpn : ∀ x ∈ ns.drop k1, x ∈ names17 := fun x m => hin.sub x (List.mem_of_mem_drop m)
    have hpd : (ns.drop k1).Nodup := hin.nd.sublist (List.drop_sublist _ _)
    generalize ns.drop k1 = ps at hsm hpl hpn hpd
    have hod5 := Dp.le le5 _ _ hod
    clear hd4 hod hv0 hv1
    walk_at "go"
    refine r_ienum ?_
    walk_at "go"
    refine r_lc_enum (xs := ps.map V.str) (fun i acc Ps => ∃ (l : Ls) (Gi : Hp), Le G5 Gi ∧ DpAll K Gi acc (l.map prS) ∧ acc.length ≤ i ∧ (∀ e ∈ l, ∃ k : Nat, ps[k]? = some e.1 ∧ e.2 = newI k) ∧ Ps = hp Gi :: bag b :: R) S ⟨[], G5, Le.rfl, .nil, Nat.le_refl _, nofun, rfl⟩ (fun D i acc Ps H ⟨_, _, le, _, _, _, e⟩ S => by subst e; exact hp_sqL S.tl (SqL.le le hsm.sq)) (hp_sqL S hsm.sq) ?_ ?_
    · rintro D j x T acc Ps H hj ⟨l, Gi, le, hacc, hal, hl, rfl⟩ S
      obtain ⟨z, hz, rfl⟩ := str_at hj
      have hjl := (List.getElem?_eq_some_iff.mp hz).1
      walk_at "go"
      refine r_gtup (xs := [.int (j : Nat), .str z]) (SqT.of S.hd_at) rfl ?_
      walk_at "go"
      refine ⟨rfl, ?_⟩
      walk_at "go"
      refine ⟨b, 2, _, rfl, by decide, by decide, S.s1 (A := bag b) (by walk_at "sel"), fun v H hv0 hv1 S => ?_⟩
      walk_at "go"
      refine q_ite (fun _ => ?_) (fun _ => ?_)
      · walk_at "go"
        refine r_strI (lg7 j (by omega)) ?_
        walk_at "go"
        refine r_addS (lnNew j (by omega)) ?_
        walk_at "go"
        obtain ⟨G6, le6, hd6, S⟩ := hp_tup (K := K) (S.s4 (A := pt p (.tup [.str z, .str (Str.ofString "new" ++ Str.ofString (toString (j : Int)))])) (B := hp Gi) (C := pt D (.lst acc)) (D := bag b) (by walk_at "sel")) (.cons (.str _) (.cons (.str _) .nil))
        refine cn_in (S.s3 (A := pt D (.lst acc)) (B := hp G6) (C := bag b) (by walk_at "sel")) (by omega) ⟨l ++ [(z, newI j)], G6, le.tr le6, ?_, by rw [List.length_append]; show _ + 1 ≤ _; omega, fun e m => ?_, rfl⟩
        · rw [List.map_append]
          exact dpall_snoc (DpAll.le le6 _ _ hacc) hd6
        · rcases List.mem_append.mp m with m | m
          · exact hl e m
          · rw [List.mem_singleton.mp m]
            exact ⟨j, hz, rfl⟩
      · exact cn_out (S.s3 (A := pt D (.lst acc)) (B := hp Gi) (C := bag b) (by walk_at "sel")) ⟨l, Gi, le, hacc, by omega, hl, rfl⟩
    rintro D0 acc Ps H ⟨l, G6, le6, hacc, hal, hl, rfl⟩ S
    rw [List.length_map] at hal
    have hll : l.length ≤ 7 := by
      have := dpall_len hacc
      rw [List.length_map] at this
      omega
    obtain ⟨G7, le7, hd7, S⟩ := hp_lst (K := K) S hacc
    walk_at "go"
    refine r_dictG (f := V.str) (en := PyData.str) dp_strInv S hd7 fun d1 l1 H n1 n2 n3 n4 S => ?_
    have la : LedA o ps l1 := ⟨n1, fun e m => .inl (hl e (n2 e m))⟩
    have S : Sep (hp G7 :: pt d1 (.dK (encG V.str l1)) :: bag b :: R) H := S.swap
    have hod7 := Dp.le (le6.tr le7) _ _ hod5
    have hsm7 := hsm.le (le6.tr le7)
    have hl1 : l1.length ≤ 7 := by omega
    clear hsm hod5 hd7 hacc hal hl n1 n2 n3 n4 hll
    walk_at "go"
    refine ⟨b, 2, _, rfl, by decide, by decide, S.s1 (A := bag b) (by walk_at "sel"), fun v H hv0 hv1 S => ?_⟩
    obtain ⟨k2, rfl⟩ := Int.eq_ofNat_of_zero_le hv0
    have S : Sep (hp G7 :: pt d1 (.dK (encG V.str l1)) :: bag b :: R) H := S.s3 (A := hp G7) (B := pt d1 (.dK (encG V.str l1))) (C := bag b) (by walk_at "sel")
    have hk2 : k2 ≤ 1 := by omega
    clear hv0 hv1
    walk_at "go"
    rw [show (2 * (k2 : Int)) = ((2 * k2 : Nat) : Int) by omega]
    refine r_preD (n := 2 * k2) S hod7 fun t1 G8 H le8 ht1 S => ?_
    have ht1 : Dp K G8 (.ref t1) (.tuple ((o.take (2 * k2)).map dLv)) := by
      rw [List.map_take]
      exact ht1
    obtain ⟨t1', tvs, et, hts, hta⟩ := dp_tupInv ht1
    cases et
    have htl : tvs.length ≤ 2 := by
      rw [dpall_len hta, List.length_map, List.length_take]
      omega
    have hod8 := Dp.le le8 _ _ hod7
    have hsm8 := hsm7.le le8
    walk_at "go"
    refine r_for_enumT (xs := tvs) (fun j σ Ps => ∃ u7 u8 l Gi, σ = [some (.ref a), some (.ref b), some (.int i), some (.ref nm), some (.ref od), some (.ref sm), some (.ref d1), u7, u8, u9, u10, u11, u12, u13, u14, u15, u16] ∧ Le G8 Gi ∧ LedA o ps l ∧ l.length ≤ 7 + 2 * j ∧ Ps = hp Gi :: pt d1 (.dK (encG V.str l)) :: bag b :: R) S ⟨_, _, l1, G8, rfl, Le.rfl, la, by omega, rfl⟩ (fun j σ Ps H ⟨_, _, _, _, _, le, _, _, e⟩ S => by subst e; exact hp_sqT S (SqT.le le hts)) ?_ ?_
    · rintro j x T σ Ps H hj ⟨u7, u8, l, Gi, rfl, leI, la, hl, rfl⟩ S
      obtain ⟨d, hd, hxd⟩ := dpall_at hta hj
      rw [List.getElem?_map] at hd
      obtain ⟨lv1, e1, rfl⟩ := Option.map_eq_some_iff.mp hd
      have hjl := (List.getElem?_eq_some_iff.mp e1).1
      rw [List.length_take] at hjl
      have ho1 : o[j]? = some lv1 := by
        rw [List.getElem?_take_of_lt (by omega)] at e1
        exact e1
      obtain ⟨lb, lvs, rfl, hlq, _⟩ := dp_tupInv (ds := lv1.map PyData.str) hxd
      have hll := oo.ll lv1 (List.mem_of_getElem? ho1)
      have hxd := Dp.le leI _ _ hxd
      walk_at "go"
      refine r_gtup (xs := [.int (j : Nat), .ref lb]) (SqT.of S.hd_at) rfl ?_
      walk_at "go"
      refine r_dupd rfl (.inl S.tl.tl.hd_at) ?_
      walk_at "go"
      refine r_preD (n := 2) S.tl hxd fun p2 G9 H le9 hp2 S => ?_
      have hp2 : Dp K G9 (.ref p2) (.tuple ((lv1.take 2).map PyData.str)) := by
        rw [List.map_take]
        exact hp2
      have hlb := dlv_sq (Dp.le le9 _ _ hxd)
      walk_at "go"
      refine r_lcT (l := lv1.take 2) (enc := PyData.str) S hp2 (by rw [List.length_take]; omega) (fun x => if decide (1 < lv1.length) = true then some (x, bothI j) else none) prS (fun x hx => ?_) (fun D acc G10 H le10 hacc S => ?_)
      · intro D acc Gj y H N le hy hn S kY kN
        cases dp_strInv hy
        walk_at "go"
        refine ⟨rfl, ?_⟩
        walk_at "go"
        refine q_lenT (hp_sqT S.tl (SqT.le le hlb)) ?_
        rw [List.length_map]
        walk_at "go"
        refine q_ite (fun h => ?_) (fun h => ?_)
        · walk_at "go"
          refine r_strI (lg7 j (by omega)) ?_
          walk_at "go"
          refine r_addS (lnBoth j (by omega)) ?_
          walk_at "go"
          obtain ⟨G11, le11, hd11, S⟩ := hp_tup (K := K) (S.s3 (A := pt p (.tup [.str x, .str (Str.ofString "both" ++ Str.ofString (toString (j : Int)))])) (B := hp Gj) (C := pt D (.lst acc)) (by walk_at "sel")) (.cons (.str _) (.cons (.str _) .nil))
          exact kY _ _ G11 H le11 (by rw [if_pos (by simpa using (by omega : 1 < lv1.length))]; rfl) hd11 S.swap
        · exact kN (by rw [if_neg (by simpa using (by omega : ¬ 1 < lv1.length))]; rfl) H S
      · generalize hmm : ((lv1.take 2).filterMap fun x => if decide (1 < lv1.length) = true then some (x, bothI j) else none) = mm at hacc
        have hml : mm.length ≤ 2 := by
          rw [← hmm]
          have := List.length_filterMap_le (fun x => if decide (1 < lv1.length) = true then some (x, bothI j) else none) (lv1.take 2)
          rw [List.length_take] at this
          omega
        have hmi : ∀ e ∈ mm, e.1 ∈ lv1 ∧ e.2 = bothI j := fun e m => by
          rw [← hmm] at m
          obtain ⟨x, mx, hx⟩ := List.mem_filterMap.mp m
          split at hx
          · cases hx
            exact ⟨List.mem_of_mem_take mx, rfl⟩
          · cases hx
        obtain ⟨G11, le11, hd11, S⟩ := hp_lst (K := K) S hacc
        walk_at "go"
        refine r_dictG (f := V.str) (en := PyData.str) dp_strInv S hd11 fun d2 l2 H n1 n2 n3 n4 S => ?_
        walk_at "go"
        refine r_updS (S.s2 (A := pt d1 (.dK (encG V.str l))) (B := pt d2 (.dK (encG V.str l2))) (by walk_at "sel")) (by omega) fun l' H c1 c2 c3 S => ?_
        walk_at "go"
        refine ⟨_, ⟨_, _, l', G11, rfl, ((leI.tr le9).tr le10).tr le11, ⟨c1 la.nd, fun e m => ?_⟩, by omega, rfl⟩, S.s3 (A := hp G11) (B := pt d1 (.dK (encG V.str l'))) (C := bag b) (by walk_at "sel")⟩
        rcases c2 e m with z | z
        · exact la.of e z
        · have y := hmi e (n2 e z)
          exact .inr ⟨j, lv1, by omega, ho1, y.1, y.2⟩
    rintro σ Ps H ⟨u7, u8, l, Gi, rfl, leI, la, hl, rfl⟩ S
    have g1 := led_good la oo.nd o17 hpl hpn (by omega)
    clear la hl hl1
    have hodI := Dp.le leI _ _ hod8
    have hsmI := hsm8.le leI
    walk_at "go"
    refine ⟨od, o, Gi, _, rfl, oo.sm (by omega), hodI, S, fun r H S => ?_⟩
    walk_at "go"
    refine r_sortRk S (.inl S.hd_at) (by rw [rkF_len]; omega) fun pz H S => ?_
    rw [rkF_keys] at S
    obtain ⟨G9, le9, hpz, S⟩ := hp_LD (K := K) (S.s4 (A := pt pz (.lst ((sortS o.flatten).map V.str))) (B := hp Gi) (C := pt d1 (.dK (encG V.str l))) (D := bag b) (by walk_at "sel")) (dpall_strs _)
    have hod9 := Dp.le le9 _ _ hodI
    have hsm9 := hsmI.le le9
    have S : Sep (hp G9 :: pt d1 (.dK (encG V.str l)) :: bag b :: R) H := S.s3 (A := hp G9) (B := pt d1 (.dK (encG V.str l))) (C := bag b) (by walk_at "sel")
    clear hodI hsmI hod8 hsm8 hta hts
    walk_at "go"
    refine q_cut (Mid := fun σ H => ∃ dd l u7 u8 Gm, σ = [some (.ref a), some (.ref b), some (.int i), some (.ref nm), some (.ref od), some (.ref sm), some (.ref dd), u7, u8, some (.ref pz), u10, u11, u12, u13, u14, u15, u16] ∧ GoodL o l ∧ Le G9 Gm ∧ Sep (hp Gm :: pt dd (.dK (encG V.str l)) :: bag b :: R) H) ?_ ?_
    · walk_at "go"
      refine ⟨b, 2, _, rfl, by decide, by decide, S.s1 (A := bag b) (by walk_at "sel"), fun v H hv0 hv1 S => ?_⟩
      have S : Sep (hp G9 :: pt d1 (.dK (encG V.str l)) :: bag b :: R) H := S.s3 (A := hp G9) (B := pt d1 (.dK (encG V.str l))) (C := bag b) (by walk_at "sel")
      walk_at "go"
      refine q_ite (fun _ => ?_) (fun _ => ?_)
      · walk_at "go"
        refine r_dzip ?_
        walk_at "go"
        refine r_suf (n := 1) S hpz.dp fun c1 Ga H la1 hc1 S => ?_
        rw [← List.map_drop] at hc1
        walk_at "go"
        refine r_pre (n := 1) S (hpz.le la1).dp fun c2 Gb H lb1 hc2 S => ?_
        rw [← List.map_take] at hc2
        have hLl : (sortS o.flatten).length ≤ 7 := by rw [(sort_perm _).length_eq]; omega
        walk_at "go"
        refine r_catD S (hc1.le lb1) hc2 (by rw [List.length_map, List.length_map, List.length_drop, List.length_take]; omega) fun c3 Gc H lc1 hc3 S => ?_
        rw [← List.map_append] at hc3
        have hLi : ∀ x, x ∈ sortS o.flatten ↔ x ∈ o.flatten := fun x => (sort_perm _).mem_iff
        have hLn : (sortS o.flatten).Nodup := (sort_perm _).nodup_iff.mpr oo.nd
        have hpz' := hpz.le ((la1.tr lb1).tr lc1)
        generalize sortS o.flatten = L at hpz' hc3 hLl hLi hLn
        have hMp : (L.drop 1 ++ L.take 1).Perm L := by
          have := List.perm_append_comm (l₁ := L.drop 1) (l₂ := L.take 1)
          rw [List.take_append_drop] at this
          exact this
        generalize L.drop 1 ++ L.take 1 = M at hc3 hMp
        have hML := hMp.length_eq
        obtain ⟨l', e, n, c, k, g⟩ := merge_G (f := V.str) (L.zip M) []
        have zf : (encG V.str (L.zip M)).map (fun kv => kV kv.1) = L.map V.str := by
          have : (L.zip M).map Prod.fst = L := List.map_fst_zip (by omega)
          unfold encG
          rw [List.map_map]
          conv => rhs; rw [← this, List.map_map]
          rfl
        have zs : (encG V.str (L.zip M)).map (·.2) = M.map V.str := by
          have : (L.zip M).map Prod.snd = M := List.map_snd_zip (by omega)
          unfold encG
          rw [List.map_map]
          conv => rhs; rw [← this, List.map_map]
          rfl
        have zl : (L.zip M).length ≤ 7 := by rw [List.length_zip]; omega
        walk_at "go"
        refine ⟨pz, c3, encG V.str (L.zip M), rfl, ?_, ?_, by rw [encG_len]; omega, fun p np => ?_⟩
        · rw [zf]
          exact hp_sqL S hpz'.sq
        · rw [zs]
          exact hp_sqL S hc3.sq
        rw [show mergeK [] (encG V.str (L.zip M)) = encG V.str l' from e]
        have S := S.new (.dK (encG V.str l')) np
        have g : l'.length ≤ (L.zip M).length := by simpa using g
        walk_at "go"
        refine ⟨p, l', _, _, Gc, rfl, zip_good oo.nd o17 hLi hMp hLn (fun e m => (c e m).elim (fun z => by cases z) id) (fun x => (k x).trans ⟨fun z => z.elim (fun y => by cases y) id, .inr⟩) (by omega), (la1.tr lb1).tr lc1, S.s3 (A := hp Gc) (B := pt p (.dK (encG V.str l'))) (C := bag b) (by walk_at "sel")⟩
      · walk_at "go"
        refine r_ne_nilL (hp_dp S.tl hpz.dp) (okd_ns fun x mx => hns x (hms x (oo.sub x ((sort_perm _).mem_iff.mp mx)))) (by decide) (by walk_at "sq") ?_
        walk_at "go"
        have S : Sep (hp G9 :: pt d1 (.dK (encG V.str l)) :: bag b :: R) H := S.s3 (A := hp G9) (B := pt d1 (.dK (encG V.str l))) (C := bag b) (by walk_at "sel")
        by_cases hE : ((sortS o.flatten).map PyData.str).isEmpty = true
        · rw [hE]
          refine iteNT ?_
          walk_at "go"
          exact ⟨d1, l, _, _, G9, rfl, g1, Le.rfl, S⟩
        · rw [Bool.eq_false_iff.mpr hE]
          refine iteNF ?_
          walk_at "go"
          refine ⟨b, 3, _, rfl, by decide, by decide, S.s1 (A := bag b) (by walk_at "sel"), fun v H hv0 hv1 S => ?_⟩
          have S : Sep (hp G9 :: pt d1 (.dK (encG V.str l)) :: bag b :: R) H := S.s3 (A := hp G9) (B := pt d1 (.dK (encG V.str l))) (C := bag b) (by walk_at "sel")
          walk_at "go"
          refine q_ite (fun _ => ?_) (fun _ => ?_)
          · obtain ⟨l0, h0⟩ : ∃ l0, o[0]? = some l0 := by
              cases o with
              | nil => exact absurd (show ((sortS ([] : Od).flatten).map PyData.str).isEmpty = true by simp [sortS]) hE
              | cons l0 o => exact ⟨l0, rfl⟩
            obtain ⟨od', ovs, eo, hos, hoa⟩ := dp_tupInv (ds := o.map dLv) hod9
            cases eo
            obtain ⟨x0, hx0, hxd0⟩ := dpall_atD hoa (i := 0) (d := dLv l0) (by rw [List.getElem?_map, h0]; rfl)
            obtain ⟨lb0, lvs0, rfl, _, _⟩ := dp_tupInv (ds := l0.map PyData.str) hxd0
            have hlb0 := dlv_sq hxd0
            have hne0 := (oo.lv l0 (List.mem_of_getElem? h0)).ne
            have hl0 := List.length_pos_iff.mpr hne0
            have hx : l0[0]? = some l0[0] := List.getElem?_eq_getElem hl0
            have hy : l0[l0.length - 1]? = some l0[l0.length - 1] := List.getElem?_eq_getElem (by omega)
            generalize l0[0] = x at hx
            generalize l0[l0.length - 1] = y at hy
            have hxv : (l0.map V.str)[0]? = some (.str x) := by rw [List.getElem?_map, hx]; rfl
            have hyv : atI (l0.map V.str) (-1) = some (.str y) := by
              unfold atI ixN
              rw [if_neg (by decide), if_pos (by rw [List.length_map]; omega), List.length_map, Option.bind_some, List.getElem?_map, show ((-1 : Int) + (l0.length : Int)).toNat = l0.length - 1 by omega, hy]
              rfl
            walk_at "go"
            refine r_dispP S fun p H S => ?_
            refine q_pair ?_
            walk_at "go"
            refine q_ixT (v := .ref lb0) (hp_sqT S.tl hos) (atI_nat hx0) ?_
            walk_at "go"
            refine q_ixT (v := .str x) (hp_sqT S.tl hlb0) (atI_nat hxv) ?_
            walk_at "go"
            refine q_ixT (v := .ref lb0) (hp_sqT S.tl hos) (atI_nat hx0) ?_
            walk_at "go"
            refine q_pairN ?_
            refine ⟨S.hd_at, [(kS x, .str y)], rfl, Nat.le_add_left 1 14, ?_⟩
            have S := S.hd_set (.dK (encG V.str [(x, y)]))
            walk_at "go"
            exact ⟨p, [(x, y)], _, _, G9, rfl, one_good oo.nd o17 h0 (List.mem_of_getElem? hx) (List.mem_of_getElem? hy), Le.rfl, S.s3 (A := hp G9) (B := pt p (.dK (encG V.str [(x, y)]))) (C := bag b) (by walk_at "sel")⟩
          · walk_at "go"
            exact ⟨d1, l, _, _, G9, rfl, g1, Le.rfl, S⟩
    rintro σ H ⟨dd, l9, u7, u8, Gm, rfl, good, leM, S⟩
    have hodm := Dp.le leM _ _ hod9
    have hsmm := hsm9.le leM
    have hsh := sh_due oo hml (fun x m => hin.sub x (hms x m)) hpl good
    obtain ⟨s1, s2, s3, s4, s5⟩ := two_shown hpl hpn good.len good.sh
    clear hod9 hsm9 hpz g1
    walk_at "go"
    refine ⟨od, sm, dd, ms, o, ps, l9, Gm, _, rfl, oo, by omega, hpl, good.mrg, hodm, hsmm.dp, S, fun du Gd H led hdu S => ?_⟩
    walk_at "go"
    have hodd := Dp.le led _ _ hodm
    have hsmd := hsmm.le led
    refine .inr (.inl ⟨p, [.ref sm, .ref dd], [dNs ps, dctD l9], rfl, SqL.of S.hd_at, .cons (.dp (hp_dp S.tl hsmd.dp) s3 s4 s5) (.cons (.dct (.inl S.tl.tl.hd_at) (dct_kv good.sh)) .nil), s1, s2, ?_⟩)
    walk_at "go"
    have S : Sep (hp Gd :: pt dd (.dK (encG V.str l9)) :: bag b :: R) H := S.s3 (A := hp Gd) (B := pt dd (.dK (encG V.str l9))) (C := bag b) (by walk_at "sel")
    refine r_for_rng (fun j σ Ps => ∃ u12 u13 Gj, σ = [some (.ref a), some (.ref b), some (.int i), some (.ref nm), some (.ref od), some (.ref sm), some (.ref dd), u7, u8, some (.ref pz), some (.ref du), some (.str (PyData.list [dNs ps, dctD l9]).shown), u12, u13, u14, u15, u16] ∧ Le Gd Gj ∧ Ps = hp Gj :: pt dd (.dK (encG V.str l9)) :: bag b :: R) S (by decide) (by decide) ⟨_, _, Gd, rfl, Le.rfl, rfl⟩ ?_ ?_
    · rintro j σ Ps H hj ⟨u12, u13, Gj, rfl, leJ, rfl⟩ S
      walk_at "go"
      refine ⟨od, sm, dd, ms, o, ps, l9, Gj, _, rfl, oo, by omega, hpl, fun x m => ok17 x (hpn x m), Dp.le leJ _ _ hodd, hsmd.le leJ, S, fun t pp fo o1 o2 o3 Gk H leK hfo h1 h2 h3 S => ?_⟩
      walk_at "go"
      have leG : Le Gk H := hp_le S.tl.tl
      refine ⟨t, du, .list (dueD o ps l9), rfl, .lst (SqL.of S.hd_at) (.cons (.lst (SqL.of S.tl.hd_at) (dpall_strs _)) (.cons (Dp.le leG _ _ hfo.dp) (.cons (Dp.le leG _ _ h1) (.cons (Dp.le leG _ _ h2) (.cons (Dp.le leG _ _ h3) .nil))))), Dp.le leG _ _ (hdu.le (leJ.tr leK)).dp, ⟨hsh.ok.1, Nat.le_trans hsh.ok.2 (by decide)⟩, hsh.sh, hsh.nd, hsh.fits (by decide), ?_⟩
      walk_at "go"
      refine .inr (.inl ⟨p, [.ref sm, .ref dd], [dNs ps, dctD l9], rfl, SqL.of S.hd_at, .cons (.dp (hp_dp S.tl.tl.tl (hsmd.le (leJ.tr leK)).dp) s3 s4 s5) (.cons (.dct (.inl S.tl.tl.tl.tl.hd_at) (dct_kv good.sh)) .nil), s1, s2, ?_⟩)
      walk_at "go"
      refine .inl ⟨rfl, ?_⟩
      refine ⟨false, by simp, ?_⟩
      refine iteF ?_
      unfold toldV at S
      walk_at "go"
      refine r_append S (by walk_at "rep") (by rw [List.length_map, (sort_perm _).length_eq]; omega) fun H S => ?_
      walk_at "go"
      exact ⟨_, ⟨_, _, Gk, rfl, leJ.tr leK, rfl⟩, S.s3 (A := hp Gk) (B := pt dd (.dK (encG V.str l9))) (C := bag b) (by walk_at "sel")⟩
    · rintro σ Ps H ⟨u12, u13, Gj, rfl, leJ, rfl⟩ S
      walk_at "go"
      exact ⟨_, ⟨_, _, _, _, _, _, _, _, _, _, _, _, _, _, _, Gj, R, rfl, rfl⟩, S.s2 (A := hp Gj) (B := bag b) (by walk_at "sel")⟩
  · rintro σ Ps H ⟨u2, u3, u4, u5, u6, u7, u8, u9, u10, u11, u12, u13, u14, u15, u16, G, R, rfl, rfl⟩ S
    walk_at "go"
    exact q _
end

end Pf

set_option Elab.async false
set_option linter.all false
set_option maxRecDepth 100000
set_option maxHeartbeats 8000000
namespace Pf
open PySem L2 Kt
theorem vals_app {vs ws : List V} {us zs : List Value} (r1 : Vals vs us) (r2 : Vals ws zs) : Vals (vs ++ ws) (us ++ zs) := by
  induction r1 with
  | nil => exact r2
  | cons h _ ih => exact .cons h ih
theorem all_mk {l : PySem.W.OpenLaw} {w : World} {K : PySem.W.Frag} {h : Heap} {mg : Str → Option Value} {fa : Addr} (X : K.In h) (G : h.Ns mainGlobals mg) (hfa : mg "law" = some (.ref fa))
    {f_points_of f_level_of f_compare f_without_empty f_only f_lacking f_renamed f_l_bag f_l_take f_l_alike f_l_mixed f_l_drawn_order f_l_as_order f_l_ranks f_l_order_of f_l_names f_l_sign_of f_l_reckon f_l_told f_law : Addr} {od1 an1 od2 an2 od3 an3 od4 an4 od5 an5 od6 an6 od7 an7 od8 an8 od9 an9 od10 an10 od11 an11 od12 an12 od13 an13 od14 an14 od15 an15 od16 an16 od17 an17 od18 an18 od19 an19 od20 an20 : Option Addr} {sl1 sl2 sl3 sl4 sl5 sl6 sl7 sl8 sl9 sl10 sl11 sl12 sl13 sl14 sl15 sl16 sl17 sl18 sl19 sl20 : Array (Option Value)} {oc1 kV1 dc1 pm1 cd1 ct1 oc2 kV2 dc2 pm2 cd2 ct2 oc3 kV3 dc3 pm3 cd3 ct3 oc4 kV4 dc4 pm4 cd4 ct4 oc5 kV5 dc5 pm5 cd5 ct5 oc6 kV6 dc6 pm6 cd6 ct6 oc7 kV7 dc7 pm7 cd7 ct7 oc8 kV8 dc8 pm8 cd8 ct8 oc9 kV9 dc9 pm9 cd9 ct9 oc10 kV10 dc10 pm10 cd10 ct10 oc11 kV11 dc11 pm11 cd11 ct11 oc12 kV12 dc12 pm12 cd12 ct12 oc13 kV13 dc13 pm13 cd13 ct13 oc14 kV14 dc14 pm14 cd14 ct14 oc15 kV15 dc15 pm15 cd15 ct15 oc16 kV16 dc16 pm16 cd16 ct16 oc17 kV17 dc17 pm17 cd17 ct17 oc18 kV18 dc18 pm18 cd18 ct18 oc19 kV19 dc19 pm19 cd19 ct19 oc20 kV20 dc20 pm20 cd20 ct20 : Value}
    (a_points_of : PySem.W.nsIn K mainGlobals "points_of" = some (some (.ref f_points_of)))
    (l1 : K.lookup f_points_of = some ⟨oc1, od1, .func (PySem.W.fnOf "points_of" "points_of" (defArgs s_points_of) (defBody s_points_of) (defScope s_points_of) .none kV1 dc1 pm1 an1 cd1 ct1), sl1⟩)
    (c1 : PySem.W.codeIn K cd1 "points_of" = true)
    (k1 : PySem.W.keepIn K (.ref f_points_of) = true)
    (a_level_of : PySem.W.nsIn K mainGlobals "level_of" = some (some (.ref f_level_of)))
    (l2 : K.lookup f_level_of = some ⟨oc2, od2, .func (PySem.W.fnOf "level_of" "level_of" (defArgs s_level_of) (defBody s_level_of) (defScope s_level_of) .none kV2 dc2 pm2 an2 cd2 ct2), sl2⟩)
    (c2 : PySem.W.codeIn K cd2 "level_of" = true)
    (k2 : PySem.W.keepIn K (.ref f_level_of) = true)
    (a_compare : PySem.W.nsIn K mainGlobals "compare" = some (some (.ref f_compare)))
    (l3 : K.lookup f_compare = some ⟨oc3, od3, .func (PySem.W.fnOf "compare" "compare" (defArgs s_compare) (defBody s_compare) (defScope s_compare) .none kV3 dc3 pm3 an3 cd3 ct3), sl3⟩)
    (c3 : PySem.W.codeIn K cd3 "compare" = true)
    (k3 : PySem.W.keepIn K (.ref f_compare) = true)
    (a_without_empty : PySem.W.nsIn K mainGlobals "_without_empty" = some (some (.ref f_without_empty)))
    (l4 : K.lookup f_without_empty = some ⟨oc4, od4, .func (PySem.W.fnOf "_without_empty" "_without_empty" (defArgs s_without_empty) (defBody s_without_empty) (defScope s_without_empty) .none kV4 dc4 pm4 an4 cd4 ct4), sl4⟩)
    (c4 : PySem.W.codeIn K cd4 "_without_empty" = true)
    (k4 : PySem.W.keepIn K (.ref f_without_empty) = true)
    (a_only : PySem.W.nsIn K mainGlobals "only" = some (some (.ref f_only)))
    (l5 : K.lookup f_only = some ⟨oc5, od5, .func (PySem.W.fnOf "only" "only" (defArgs s_only) (defBody s_only) (defScope s_only) .none kV5 dc5 pm5 an5 cd5 ct5), sl5⟩)
    (c5 : PySem.W.codeIn K cd5 "only" = true)
    (k5 : PySem.W.keepIn K (.ref f_only) = true)
    (a_lacking : PySem.W.nsIn K mainGlobals "lacking" = some (some (.ref f_lacking)))
    (l6 : K.lookup f_lacking = some ⟨oc6, od6, .func (PySem.W.fnOf "lacking" "lacking" (defArgs s_lacking) (defBody s_lacking) (defScope s_lacking) .none kV6 dc6 pm6 an6 cd6 ct6), sl6⟩)
    (c6 : PySem.W.codeIn K cd6 "lacking" = true)
    (k6 : PySem.W.keepIn K (.ref f_lacking) = true)
    (a_renamed : PySem.W.nsIn K mainGlobals "renamed" = some (some (.ref f_renamed)))
    (l7 : K.lookup f_renamed = some ⟨oc7, od7, .func (PySem.W.fnOf "renamed" "renamed" (defArgs s_renamed) (defBody s_renamed) (defScope s_renamed) .none kV7 dc7 pm7 an7 cd7 ct7), sl7⟩)
    (c7 : PySem.W.codeIn K cd7 "renamed" = true)
    (k7 : PySem.W.keepIn K (.ref f_renamed) = true)
    (a_l_bag : PySem.W.nsIn K mainGlobals "_law_bag" = some (some (.ref f_l_bag)))
    (l8 : K.lookup f_l_bag = some ⟨oc8, od8, .func (PySem.W.fnOf "_law_bag" "_law_bag" (defArgs s_l_bag) (defBody s_l_bag) (defScope s_l_bag) .none kV8 dc8 pm8 an8 cd8 ct8), sl8⟩)
    (c8 : PySem.W.codeIn K cd8 "_law_bag" = true)
    (k8 : PySem.W.keepIn K (.ref f_l_bag) = true)
    (a_l_take : PySem.W.nsIn K mainGlobals "_law_take" = some (some (.ref f_l_take)))
    (l9 : K.lookup f_l_take = some ⟨oc9, od9, .func (PySem.W.fnOf "_law_take" "_law_take" (defArgs s_l_take) (defBody s_l_take) (defScope s_l_take) .none kV9 dc9 pm9 an9 cd9 ct9), sl9⟩)
    (c9 : PySem.W.codeIn K cd9 "_law_take" = true)
    (k9 : PySem.W.keepIn K (.ref f_l_take) = true)
    (a_l_alike : PySem.W.nsIn K mainGlobals "_law_alike" = some (some (.ref f_l_alike)))
    (l10 : K.lookup f_l_alike = some ⟨oc10, od10, .func (PySem.W.fnOf "_law_alike" "_law_alike" (defArgs s_l_alike) (defBody s_l_alike) (defScope s_l_alike) .none kV10 dc10 pm10 an10 cd10 ct10), sl10⟩)
    (c10 : PySem.W.codeIn K cd10 "_law_alike" = true)
    (k10 : PySem.W.keepIn K (.ref f_l_alike) = true)
    (a_l_mixed : PySem.W.nsIn K mainGlobals "_law_mixed" = some (some (.ref f_l_mixed)))
    (l11 : K.lookup f_l_mixed = some ⟨oc11, od11, .func (PySem.W.fnOf "_law_mixed" "_law_mixed" (defArgs s_l_mixed) (defBody s_l_mixed) (defScope s_l_mixed) .none kV11 dc11 pm11 an11 cd11 ct11), sl11⟩)
    (c11 : PySem.W.codeIn K cd11 "_law_mixed" = true)
    (k11 : PySem.W.keepIn K (.ref f_l_mixed) = true)
    (a_l_drawn_order : PySem.W.nsIn K mainGlobals "_law_drawn_order" = some (some (.ref f_l_drawn_order)))
    (l12 : K.lookup f_l_drawn_order = some ⟨oc12, od12, .func (PySem.W.fnOf "_law_drawn_order" "_law_drawn_order" (defArgs s_l_drawn_order) (defBody s_l_drawn_order) (defScope s_l_drawn_order) .none kV12 dc12 pm12 an12 cd12 ct12), sl12⟩)
    (c12 : PySem.W.codeIn K cd12 "_law_drawn_order" = true)
    (k12 : PySem.W.keepIn K (.ref f_l_drawn_order) = true)
    (a_l_as_order : PySem.W.nsIn K mainGlobals "_law_as_order" = some (some (.ref f_l_as_order)))
    (l13 : K.lookup f_l_as_order = some ⟨oc13, od13, .func (PySem.W.fnOf "_law_as_order" "_law_as_order" (defArgs s_l_as_order) (defBody s_l_as_order) (defScope s_l_as_order) .none kV13 dc13 pm13 an13 cd13 ct13), sl13⟩)
    (c13 : PySem.W.codeIn K cd13 "_law_as_order" = true)
    (k13 : PySem.W.keepIn K (.ref f_l_as_order) = true)
    (a_l_ranks : PySem.W.nsIn K mainGlobals "_law_ranks" = some (some (.ref f_l_ranks)))
    (l14 : K.lookup f_l_ranks = some ⟨oc14, od14, .func (PySem.W.fnOf "_law_ranks" "_law_ranks" (defArgs s_l_ranks) (defBody s_l_ranks) (defScope s_l_ranks) .none kV14 dc14 pm14 an14 cd14 ct14), sl14⟩)
    (c14 : PySem.W.codeIn K cd14 "_law_ranks" = true)
    (k14 : PySem.W.keepIn K (.ref f_l_ranks) = true)
    (a_l_order_of : PySem.W.nsIn K mainGlobals "_law_order_of" = some (some (.ref f_l_order_of)))
    (l15 : K.lookup f_l_order_of = some ⟨oc15, od15, .func (PySem.W.fnOf "_law_order_of" "_law_order_of" (defArgs s_l_order_of) (defBody s_l_order_of) (defScope s_l_order_of) .none kV15 dc15 pm15 an15 cd15 ct15), sl15⟩)
    (c15 : PySem.W.codeIn K cd15 "_law_order_of" = true)
    (k15 : PySem.W.keepIn K (.ref f_l_order_of) = true)
    (a_l_names : PySem.W.nsIn K mainGlobals "_law_names" = some (some (.ref f_l_names)))
    (l16 : K.lookup f_l_names = some ⟨oc16, od16, .func (PySem.W.fnOf "_law_names" "_law_names" (defArgs s_l_names) (defBody s_l_names) (defScope s_l_names) .none kV16 dc16 pm16 an16 cd16 ct16), sl16⟩)
    (c16 : PySem.W.codeIn K cd16 "_law_names" = true)
    (k16 : PySem.W.keepIn K (.ref f_l_names) = true)
    (a_l_sign_of : PySem.W.nsIn K mainGlobals "_law_sign_of" = some (some (.ref f_l_sign_of)))
    (l17 : K.lookup f_l_sign_of = some ⟨oc17, od17, .func (PySem.W.fnOf "_law_sign_of" "_law_sign_of" (defArgs s_l_sign_of) (defBody s_l_sign_of) (defScope s_l_sign_of) .none kV17 dc17 pm17 an17 cd17 ct17), sl17⟩)
    (c17 : PySem.W.codeIn K cd17 "_law_sign_of" = true)
    (k17 : PySem.W.keepIn K (.ref f_l_sign_of) = true)
    (a_l_reckon : PySem.W.nsIn K mainGlobals "_law_reckon" = some (some (.ref f_l_reckon)))
    (l18 : K.lookup f_l_reckon = some ⟨oc18, od18, .func (PySem.W.fnOf "_law_reckon" "_law_reckon" (defArgs s_l_reckon) (defBody s_l_reckon) (defScope s_l_reckon) .none kV18 dc18 pm18 an18 cd18 ct18), sl18⟩)
    (c18 : PySem.W.codeIn K cd18 "_law_reckon" = true)
    (k18 : PySem.W.keepIn K (.ref f_l_reckon) = true)
    (a_l_told : PySem.W.nsIn K mainGlobals "_law_told" = some (some (.ref f_l_told)))
    (l19 : K.lookup f_l_told = some ⟨oc19, od19, .func (PySem.W.fnOf "_law_told" "_law_told" (defArgs s_l_told) (defBody s_l_told) (defScope s_l_told) .none kV19 dc19 pm19 an19 cd19 ct19), sl19⟩)
    (c19 : PySem.W.codeIn K cd19 "_law_told" = true)
    (k19 : PySem.W.keepIn K (.ref f_l_told) = true)
    (a_law : PySem.W.nsIn K mainGlobals "law" = some (some (.ref f_law)))
    (l20 : K.lookup f_law = some ⟨oc20, od20, .func (PySem.W.fnOf "law" "law" (defArgs s_law) (defBody s_law) (defScope s_law) .none kV20 dc20 pm20 an20 cd20 ct20), sl20⟩)
    (c20 : PySem.W.codeIn K cd20 "law" = true)
    (k20 : PySem.W.keepIn K (.ref f_law) = true)
    (z_enumerate : PySem.W.nsIn K mainGlobals "enumerate" = some none)
    (z_tuple : PySem.W.nsIn K mainGlobals "tuple" = some none)
    (z_sorted : PySem.W.nsIn K mainGlobals "sorted" = some none)
    (z_len : PySem.W.nsIn K mainGlobals "len" = some none)
    (z_int : PySem.W.nsIn K mainGlobals "int" = some none)
    (z_abs : PySem.W.nsIn K mainGlobals "abs" = some none)
    (z_set : PySem.W.nsIn K mainGlobals "set" = some none)
    (z_dict : PySem.W.nsIn K mainGlobals "dict" = some none)
    (z_zip : PySem.W.nsIn K mainGlobals "zip" = some none)
    (z_str : PySem.W.nsIn K mainGlobals "str" = some none)
    (z_range : PySem.W.nsIn K mainGlobals "range" = some none)
    (z_repr : PySem.W.nsIn K mainGlobals "repr" = some none) :
    ∃ fd : FuncData, (∀ (s : Shared) (v : Value), BindsTo s fd ⟨[v], []⟩ [("_law_script", v)]) ∧ ∀ base : Heap, K.In base → base.Ns mainGlobals mg → FnG l.prog w K mg base 8 fa fd ["_law_script"] (spLaw K) := by
    have e := hfa.symm.trans (PySem.W.mg_of X G a_law)
    cases e
    have T : Txt K mg  := ⟨PySem.W.mg_none_of X G z_enumerate, PySem.W.mg_none_of X G z_tuple, PySem.W.mg_none_of X G z_sorted, PySem.W.mg_none_of X G z_len, PySem.W.mg_none_of X G z_int, PySem.W.mg_none_of X G z_abs, PySem.W.mg_none_of X G z_set, PySem.W.mg_none_of X G z_dict, PySem.W.mg_none_of X G z_zip, PySem.W.mg_none_of X G z_str, PySem.W.mg_none_of X G z_range, PySem.W.mg_none_of X G z_repr⟩
    have F1 := fun_mk (st := s_points_of) l1 c1 k1
    have b1 := F1.binds (ps := ["order"]) fun _ _ _ _ _ _ us hl => match us, hl with | [_], _ => rfl
    have Y_points_of : Dt K mg "points_of" s_points_of ["order"] f_points_of := ⟨⟨_, F1, b1⟩, PySem.W.mg_of X G a_points_of⟩
    have F2 := fun_mk (st := s_level_of) l2 c2 k2
    have b2 := F2.binds (ps := ["order", "point"]) fun _ _ _ _ _ _ us hl => match us, hl with | [_, _], _ => rfl
    have Y_level_of : Dt K mg "level_of" s_level_of ["order", "point"] f_level_of := ⟨⟨_, F2, b2⟩, PySem.W.mg_of X G a_level_of⟩
    have F3 := fun_mk (st := s_compare) l3 c3 k3
    have b3 := F3.binds (ps := ["order", "one", "other"]) fun _ _ _ _ _ _ us hl => match us, hl with | [_, _, _], _ => rfl
    have Y_compare : Dt K mg "compare" s_compare ["order", "one", "other"] f_compare := ⟨⟨_, F3, b3⟩, PySem.W.mg_of X G a_compare⟩
    have F4 := fun_mk (st := s_without_empty) l4 c4 k4
    have b4 := F4.binds (ps := ["levels"]) fun _ _ _ _ _ _ us hl => match us, hl with | [_], _ => rfl
    have Y_without_empty : Dt K mg "_without_empty" s_without_empty ["levels"] f_without_empty := ⟨⟨_, F4, b4⟩, PySem.W.mg_of X G a_without_empty⟩
    have F5 := fun_mk (st := s_only) l5 c5 k5
    have b5 := F5.binds (ps := ["order", "points"]) fun _ _ _ _ _ _ us hl => match us, hl with | [_, _], _ => rfl
    have Y_only : Dt K mg "only" s_only ["order", "points"] f_only := ⟨⟨_, F5, b5⟩, PySem.W.mg_of X G a_only⟩
    have F6 := fun_mk (st := s_lacking) l6 c6 k6
    have b6 := F6.binds (ps := ["order", "points"]) fun _ _ _ _ _ _ us hl => match us, hl with | [_, _], _ => rfl
    have Y_lacking : Dt K mg "lacking" s_lacking ["order", "points"] f_lacking := ⟨⟨_, F6, b6⟩, PySem.W.mg_of X G a_lacking⟩
    have F7 := fun_mk (st := s_renamed) l7 c7 k7
    have b7 := F7.binds (ps := ["order", "names"]) fun _ _ _ _ _ _ us hl => match us, hl with | [_, _], _ => rfl
    have Y_renamed : Dt K mg "renamed" s_renamed ["order", "names"] f_renamed := ⟨⟨_, F7, b7⟩, PySem.W.mg_of X G a_renamed⟩
    have F8 := fun_mk (st := s_l_bag) l8 c8 k8
    have b8 := F8.binds (ps := ["_law_script"]) fun _ _ _ _ _ _ us hl => match us, hl with | [_], _ => rfl
    have Y_l_bag : Dt K mg "_law_bag" s_l_bag ["_law_script"] f_l_bag := ⟨⟨_, F8, b8⟩, PySem.W.mg_of X G a_l_bag⟩
    have F9 := fun_mk (st := s_l_take) l9 c9 k9
    have b9 := F9.binds (ps := ["_law_bag_here", "_law_many"]) fun _ _ _ _ _ _ us hl => match us, hl with | [_, _], _ => rfl
    have Y_l_take : Dt K mg "_law_take" s_l_take ["_law_bag_here", "_law_many"] f_l_take := ⟨⟨_, F9, b9⟩, PySem.W.mg_of X G a_l_take⟩
    have F10 := fun_mk (st := s_l_alike) l10 c10 k10
    have b10 := F10.binds (ps := ["_law_found", "_law_due"]) fun _ _ _ _ _ _ us hl => match us, hl with | [_, _], _ => rfl
    have Y_l_alike : Dt K mg "_law_alike" s_l_alike ["_law_found", "_law_due"] f_l_alike := ⟨⟨_, F10, b10⟩, PySem.W.mg_of X G a_l_alike⟩
    have F11 := fun_mk (st := s_l_mixed) l11 c11 k11
    have b11 := F11.binds (ps := ["_law_bag_here", "_law_things"]) fun _ _ _ _ _ _ us hl => match us, hl with | [_, _], _ => rfl
    have Y_l_mixed : Dt K mg "_law_mixed" s_l_mixed ["_law_bag_here", "_law_things"] f_l_mixed := ⟨⟨_, F11, b11⟩, PySem.W.mg_of X G a_l_mixed⟩
    have F12 := fun_mk (st := s_l_drawn_order) l12 c12 k12
    have b12 := F12.binds (ps := ["_law_bag_here", "_law_points"]) fun _ _ _ _ _ _ us hl => match us, hl with | [_, _], _ => rfl
    have Y_l_drawn_order : Dt K mg "_law_drawn_order" s_l_drawn_order ["_law_bag_here", "_law_points"] f_l_drawn_order := ⟨⟨_, F12, b12⟩, PySem.W.mg_of X G a_l_drawn_order⟩
    have F13 := fun_mk (st := s_l_as_order) l13 c13 k13
    have b13 := F13.binds (ps := ["_law_levels"]) fun _ _ _ _ _ _ us hl => match us, hl with | [_], _ => rfl
    have Y_l_as_order : Dt K mg "_law_as_order" s_l_as_order ["_law_levels"] f_l_as_order := ⟨⟨_, F13, b13⟩, PySem.W.mg_of X G a_l_as_order⟩
    have F14 := fun_mk (st := s_l_ranks) l14 c14 k14
    have b14 := F14.binds (ps := ["_law_order"]) fun _ _ _ _ _ _ us hl => match us, hl with | [_], _ => rfl
    have Y_l_ranks : Dt K mg "_law_ranks" s_l_ranks ["_law_order"] f_l_ranks := ⟨⟨_, F14, b14⟩, PySem.W.mg_of X G a_l_ranks⟩
    have F15 := fun_mk (st := s_l_order_of) l15 c15 k15
    have b15 := F15.binds (ps := ["_law_ranks_here"]) fun _ _ _ _ _ _ us hl => match us, hl with | [_], _ => rfl
    have Y_l_order_of : Dt K mg "_law_order_of" s_l_order_of ["_law_ranks_here"] f_l_order_of := ⟨⟨_, F15, b15⟩, PySem.W.mg_of X G a_l_order_of⟩
    have F16 := fun_mk (st := s_l_names) l16 c16 k16
    have b16 := F16.binds (ps := ["_law_bag_here", "_law_many"]) fun _ _ _ _ _ _ us hl => match us, hl with | [_, _], _ => rfl
    have Y_l_names : Dt K mg "_law_names" s_l_names ["_law_bag_here", "_law_many"] f_l_names := ⟨⟨_, F16, b16⟩, PySem.W.mg_of X G a_l_names⟩
    have F17 := fun_mk (st := s_l_sign_of) l17 c17 k17
    have b17 := F17.binds (ps := ["_law_at", "_law_one", "_law_other"]) fun _ _ _ _ _ _ us hl => match us, hl with | [_, _, _], _ => rfl
    have Y_l_sign_of : Dt K mg "_law_sign_of" s_l_sign_of ["_law_at", "_law_one", "_law_other"] f_l_sign_of := ⟨⟨_, F17, b17⟩, PySem.W.mg_of X G a_l_sign_of⟩
    have F18 := fun_mk (st := s_l_reckon) l18 c18 k18
    have b18 := F18.binds (ps := ["_law_order", "_law_names_here", "_law_led"]) fun _ _ _ _ _ _ us hl => match us, hl with | [_, _, _], _ => rfl
    have Y_l_reckon : Dt K mg "_law_reckon" s_l_reckon ["_law_order", "_law_names_here", "_law_led"] f_l_reckon := ⟨⟨_, F18, b18⟩, PySem.W.mg_of X G a_l_reckon⟩
    have F19 := fun_mk (st := s_l_told) l19 c19 k19
    have b19 := F19.binds (ps := ["_law_order", "_law_names_here", "_law_led"]) fun _ _ _ _ _ _ us hl => match us, hl with | [_, _, _], _ => rfl
    have Y_l_told : Dt K mg "_law_told" s_l_told ["_law_order", "_law_names_here", "_law_led"] f_l_told := ⟨⟨_, F19, b19⟩, PySem.W.mg_of X G a_l_told⟩
    have F20 := fun_mk (st := s_law) l20 c20 k20
    have b20 := F20.binds (ps := ["_law_script"]) fun _ _ _ _ _ _ us hl => match us, hl with | [_], _ => rfl
    refine ⟨PySem.W.fnOf "law" "law" (defArgs s_law) (defBody s_law) (defScope s_law) .none kV20 dc20 pm20 an20 cd20 ct20, fun s v => .of_eq rfl, fun base _ _ => ?_⟩
    have D_points_of := ok_points_of (P := l.prog) (w := w) (base := base) Y_points_of T
    have D_level_of := ok_level_of (P := l.prog) (w := w) (base := base) Y_level_of T
    have D_compare := ok_compare Y_compare T D_level_of
    have D_without_empty := ok_without_empty (P := l.prog) (w := w) (base := base) Y_without_empty T
    have D_only := ok_only Y_only T D_without_empty
    have D_lacking := ok_lacking Y_lacking T D_without_empty
    have D_renamed := ok_renamed (P := l.prog) (w := w) (base := base) Y_renamed T
    have D_l_take := ok_l_take (P := l.prog) (w := w) (base := base) Y_l_take T
    have D_l_bag := ok_l_bag (P := l.prog) (w := w) (base := base) Y_l_bag T
    have D_l_alike := ok_l_alike (P := l.prog) (w := w) (base := base) Y_l_alike T
    have D_l_mixed := ok_l_mixed Y_l_mixed T D_l_take
    have D_l_drawn_order := ok_l_drawn_order Y_l_drawn_order T D_l_take D_l_mixed
    have D_l_as_order := ok_l_as_order (P := l.prog) (w := w) (base := base) Y_l_as_order T
    have D_l_ranks := ok_l_ranks (P := l.prog) (w := w) (base := base) Y_l_ranks T
    have D_l_order_of := ok_l_order_of (P := l.prog) (w := w) (base := base) Y_l_order_of T
    have D_l_names := ok_l_names Y_l_names T D_l_mixed
    have D_l_sign_of := ok_l_sign_of (P := l.prog) (w := w) (base := base) Y_l_sign_of T
    have D_l_reckon := ok_l_reckon Y_l_reckon T D_l_ranks D_l_order_of D_l_sign_of
    have D_l_told := ok_l_told Y_l_told T D_level_of D_compare D_points_of D_only D_lacking D_renamed
    exact ok_law F20 T D_l_bag D_l_take D_l_names D_l_drawn_order D_l_as_order D_l_ranks D_l_reckon D_l_told D_l_alike
theorem walk {l : PySem.W.OpenLaw} {q : Program} {loose : List Str} {XP : (Str → Option Value) → Heap → Prop} {YP : World → Heap → Prop} {d : DefRec} {K : Params → PySem.W.Frag} (hn : l.most = some 63) (hdf : d.params.defaults = [])
    (hY : ∀ (w : World) (h : Heap), YP w h → (K w.params).In h)
    (F : ∀ (w : World) (mg : Str → Option Value) (fa : Addr) (h : Heap), (K w.params).In h → h.Ns mainGlobals mg → mg d.name = some (.ref fa) →
      ∃ fd : FuncData, (∀ (s : Shared) (u : Value), BindsTo s fd ⟨[u], []⟩ [("_law_script", u)]) ∧ ∀ base : Heap, (K w.params).In base → base.Ns mainGlobals mg → FnG l.prog w (K w.params) mg base 8 fa fd ["_law_script"] (spLaw (K w.params))) :
    PySem.W.WalkO q loose XP YP l.row.toRowW d [] (fun f vs => PySem.call f vs) :=
  walk_G (n := 63) (k := 8) (x := "_law_script") (sp := fun w => spLaw (K w.params)) hn (by decide) hdf ⟨rfl, by decide, by decide⟩ hY F (fun _ H a ns hl _ _ hS => ⟨a, ns, rfl, hS, hl, fun _ => rfl⟩)
end Pf

open PySem PySem.W PyProof.Rows in
set_option maxRecDepth 100000 in
set_option maxHeartbeats 0 in
theorem PySem.Challenge.cw_sparetails_k50_orders_told_holds : PySem.Challenge.rw_sparetails_k50_orders_told.Holds := by
  w_on; o_law; k_head; (case hw => w_witness2)
  k_fill
  refine Pf.walk (l := PySem.Challenge.rw_sparetails_k50_orders_told) rfl rfl (fun w h Y => PySem.W.kIn_of Y) ?F
  case F =>
    intro w mg fa h KX G hmg
    refine' Pf.all_mk KX G hmg ?a_points_of ?l1 ?c1 ?k1 ?a_level_of ?l2 ?c2 ?k2 ?a_compare ?l3 ?c3 ?k3 ?a_without_empty ?l4 ?c4 ?k4 ?a_only ?l5 ?c5 ?k5 ?a_lacking ?l6 ?c6 ?k6 ?a_renamed ?l7 ?c7 ?k7 ?a_l_bag ?l8 ?c8 ?k8 ?a_l_take ?l9 ?c9 ?k9 ?a_l_alike ?l10 ?c10 ?k10 ?a_l_mixed ?l11 ?c11 ?k11 ?a_l_drawn_order ?l12 ?c12 ?k12 ?a_l_as_order ?l13 ?c13 ?k13 ?a_l_ranks ?l14 ?c14 ?k14 ?a_l_order_of ?l15 ?c15 ?k15 ?a_l_names ?l16 ?c16 ?k16 ?a_l_sign_of ?l17 ?c17 ?k17 ?a_l_reckon ?l18 ?c18 ?k18 ?a_l_told ?l19 ?c19 ?k19 ?a_law ?l20 ?c20 ?k20 ?z_enumerate ?z_tuple ?z_sorted ?z_len ?z_int ?z_abs ?z_set ?z_dict ?z_zip ?z_str ?z_range ?z_repr
    (case a_points_of => k_is)
    (case l1 => k_is)
    (case c1 => k_is)
    (case k1 => k_is)
    (case a_level_of => k_is)
    (case l2 => k_is)
    (case c2 => k_is)
    (case k2 => k_is)
    (case a_compare => k_is)
    (case l3 => k_is)
    (case c3 => k_is)
    (case k3 => k_is)
    (case a_without_empty => k_is)
    (case l4 => k_is)
    (case c4 => k_is)
    (case k4 => k_is)
    (case a_only => k_is)
    (case l5 => k_is)
    (case c5 => k_is)
    (case k5 => k_is)
    (case a_lacking => k_is)
    (case l6 => k_is)
    (case c6 => k_is)
    (case k6 => k_is)
    (case a_renamed => k_is)
    (case l7 => k_is)
    (case c7 => k_is)
    (case k7 => k_is)
    (case a_l_bag => k_is)
    (case l8 => k_is)
    (case c8 => k_is)
    (case k8 => k_is)
    (case a_l_take => k_is)
    (case l9 => k_is)
    (case c9 => k_is)
    (case k9 => k_is)
    (case a_l_alike => k_is)
    (case l10 => k_is)
    (case c10 => k_is)
    (case k10 => k_is)
    (case a_l_mixed => k_is)
    (case l11 => k_is)
    (case c11 => k_is)
    (case k11 => k_is)
    (case a_l_drawn_order => k_is)
    (case l12 => k_is)
    (case c12 => k_is)
    (case k12 => k_is)
    (case a_l_as_order => k_is)
    (case l13 => k_is)
    (case c13 => k_is)
    (case k13 => k_is)
    (case a_l_ranks => k_is)
    (case l14 => k_is)
    (case c14 => k_is)
    (case k14 => k_is)
    (case a_l_order_of => k_is)
    (case l15 => k_is)
    (case c15 => k_is)
    (case k15 => k_is)
    (case a_l_names => k_is)
    (case l16 => k_is)
    (case c16 => k_is)
    (case k16 => k_is)
    (case a_l_sign_of => k_is)
    (case l17 => k_is)
    (case c17 => k_is)
    (case k17 => k_is)
    (case a_l_reckon => k_is)
    (case l18 => k_is)
    (case c18 => k_is)
    (case k18 => k_is)
    (case a_l_told => k_is)
    (case l19 => k_is)
    (case c19 => k_is)
    (case k19 => k_is)
    (case a_law => k_is)
    (case l20 => k_is)
    (case c20 => k_is)
    (case k20 => k_is)
    (case z_enumerate => k_is)
    (case z_tuple => k_is)
    (case z_sorted => k_is)
    (case z_len => k_is)
    (case z_int => k_is)
    (case z_abs => k_is)
    (case z_set => k_is)
    (case z_dict => k_is)
    (case z_zip => k_is)
    (case z_str => k_is)
    (case z_range => k_is)
    (case z_repr => k_is)


