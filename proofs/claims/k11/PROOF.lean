import PyProof.Rows.All
import Wide.All
import OpenK.AllK
import Wide.FinOn
import HandS.ForMost
import HandS.Exc
import HandS.ExcOwn
import HandS.ExcInit
import HandS.ExcField
import HandS.ExcIs
import HandS.TryOnly
import HandS.TryMany
import HandS.WordsExc
import HandS.CallSlots
import HandS.IsInst
import HandS.Codes
import HandS.Walk
import HandS.Steps
import HandS.StrMore
import HandS.OwnIter
import HandS.OwnEq
import HandS.IterVal
import HandS.More
import KE.KDictKeyed
import PyProof.Rows.TupTab
import HandS.Deep
import PySem.Challenge.RW_redopages_k11_numbers_of_formulas
set_option Elab.async false
set_option linter.all false
set_option maxRecDepth 100000
set_option maxHeartbeats 4000000
/-! readings by named steps -/
namespace Fw
open PySem PySem.Spec L2

/-! ### a def of the top -/
structure Df (K : PySem.W.Frag) (mg : Str → Option Value) (nm qual : Str) (st : Stmt) (ps : List Str) where
  f : Addr
  fd : FuncData
  F : Fun K nm qual st f fd
  g : mg nm = some (.ref f)
  b : Binds K fd ps []
/-- a method: where it stands -/
structure Mf (K : PySem.W.Frag) (nm qual : Str) (st : Stmt) (ps : List Str) where
  f : Addr
  fd : FuncData
  F : Fun K nm qual st f fd
  b : Binds K fd ps []

section
variable {X : Cx}
/-! ### named relations -/
def rLtS : R2 := fun x y H Q => ∃ i j, x = .str i ∧ y = .str j ∧ Q (.bl (decide (i.cps.toList < j.cps.toList))) H
theorem op_ltS : OpR X (compareOp .Lt) rLtS := op_lt_str
def rLeS : R2 := fun x y H Q => ∃ i j, x = .str i ∧ y = .str j ∧ Q (.bl (!decide (j.cps.toList < i.cps.toList))) H
theorem op_leS : OpR X (compareOp .LtE) rLeS := op_le_str
def rLtA : R2 := fun x y H Q => rI0 (fun i j => .bl (decide (i < j))) x y H Q ∨ rLtS x y H Q
theorem op_ltA : OpR X (compareOp .Lt) rLtA := op_lt.or op_ltS
def rLeA : R2 := fun x y H Q => rI0 (fun i j => .bl (decide (i ≤ j))) x y H Q ∨ rLeS x y H Q
theorem op_leA : OpR X (compareOp .LtE) rLeA := op_le.or op_leS
def rGtI : R2 := rI0 fun i j => .bl (decide (j < i))
theorem op_gtI : OpR X (compareOp .Gt) rGtI := op_gt
def rGeI : R2 := rI0 fun i j => .bl (decide (j ≤ i))
theorem op_geI : OpR X (compareOp .GtE) rGeI := op_ge
def rAddA : R2 := fun x y H Q => rI0 (fun i j => .int (i + j)) x y H Q ∨ rAddS x y H Q ∨ rCat x y H Q
theorem op_addA : OpR X (binaryOp .Add) rAddA := op_add.or (OpR.or (r := rAddS) op_add_str op_cat)
def rSubI : R2 := rI0 fun i j => .int (i - j)
theorem op_subI : OpR X (binaryOp .Sub) rSubI := op_sub
def rModI : R2 := rI (fun _ j => 0 < j) fun i j => .int (i % j)
theorem op_modI : OpR X (binaryOp .Mod) rModI := op_mod
def rDivI : R2 := rI CDiv fun i j => .int (i / j)
theorem op_divI : OpR X (binaryOp .FloorDiv) rDivI := op_fdiv
def rPowI : R2 := rI CPow fun i j => .int (i ^ j.toNat)
theorem op_powI : OpR X (binaryOp .Pow) rPowI := op_pow
/-- == and != : of scalars, of data -/
def rEqA (K : PySem.W.Frag) : R2 := fun x y H Q => rEq x y H Q ∨ rEqD K x y H Q
def rNeA (K : PySem.W.Frag) : R2 := fun x y H Q => rNe x y H Q ∨ rNeD K x y H Q
theorem op_eqA (hu : X.A.units + 64 < cLine) : OpR X (compareOp .Eq) (rEqA X.K) := op_eq.or (op_eqD hu)
theorem op_neA (hu : X.A.units + 64 < cLine) : OpR X (compareOp .NotEq) (rNeA X.K) := op_ne.or (op_neD hu)
def rLenA (K : PySem.W.Frag) : List V → Hp → VK → Prop := fun xs H Q => ∃ x n, xs = [x] ∧ LenV K x H n ∧ Q (.int n) H
theorem call_lenA : CallR X (.builtin "len") (rLenA X.K) := call_len
def rInt1 : List V → Hp → VK → Prop := fun xs H Q => (∃ i, xs = [.int i] ∧ Q (.int i) H) ∨ ∃ k, xs = [.bl k] ∧ Q (.int (if k then 1 else 0)) H
theorem call_intA : CallR X (.type "int") rInt1 := call_int1
def rSlA (K : PySem.W.Frag) : V → Option Int → Option Int → Hp → VK → Prop := fun x lo hi H Q => rSlL K x lo hi H Q ∨ rSlS x lo hi H Q
theorem sl_any : SlR X (rSlA X.K) := sl_list.or sl_str
def rJoin (K : PySem.W.Frag) : V → List V → Hp → VK → Prop := fun x xs H Q => ∃ a p, ∃ ys : List Str, x = .str a ∧ xs = [.ref p] ∧ (SqL K H p (ys.map V.str) ∨ SqT K H p (ys.map V.str)) ∧
    (ys.map (·.length)).sum + ys.length * a.length ≤ 16777216 ∧ Q (.str (Txt.join a ys)) H
def rUpper : V → List V → Hp → VK → Prop := fun x xs H Q => ∃ a, x = .str a ∧ xs = [] ∧ a.length ≤ 5592405 ∧ Q (.str (Txt.upper a)) H
theorem pe_joinA {o e : Expr} {to te : TE} {apos pos : Pos} (ho : PE X o to) (he : PE X e te) (hs : starEach [e] X.env = [(false, eval e X.env)] := by rfl) (hbase : attributeBase o "join" X.env (eval o X.env) = eval o X.env := by rfl) (hline : (apos.endLine == pos.line) = true := by rfl) :
    PE X (.Call (.Attribute o "join" apos) [e] [] pos) (tM1 (rJoin X.K) to te) := pe_join ho he hs hbase hline
theorem pe_upperA {o : Expr} {to : TE} {apos pos : Pos} (ho : PE X o to) (hbase : attributeBase o "upper" X.env (eval o X.env) = eval o X.env := by rfl) (hline : (apos.endLine == pos.line) = true := by rfl) :
    PE X (.Call (.Attribute o "upper" apos) [] [] pos) (tM0 rUpper to) := pe_upper ho hbase hline

/-! ### calls of defs -/
theorem pe_cf {P : Program} {w : World} {K : PySem.W.Frag} {mg : Str → Option Value} {base : Heap} {nm q : Str} {st : Stmt} {ps : List Str} {CX : CXT} {k : Nat} {sp : Sp} {E : XK} {e : Expr} {es : List Expr} {t : TA} {p pos : Pos} (d : Df K mg nm q st ps) (F : FnOk P w K mg base CX k d.f d.fd ps sp) (hr : Room k X.A) (hx : Passes CX X E)
    (ha : PA X (e :: es) t) (h1 : X.prog = P := by rfl) (h2 : X.w = w := by rfl) (h3 : X.K = K := by rfl) (h4 : X.mg = mg := by rfl) (h5 : X.base = base := by rfl) (hg : Gl X nm := by rfl) (hd : (nm == ("__debug__" : Str)) = false := by decide) (he : starEach (e :: es) X.env = (false, eval e X.env) :: starEach es X.env := by rfl) (hpl : (backTo pos (starEach es X.env)).any (·.1) = false := by rfl) :
    PE X (.Call (.Name nm p) (e :: es) [] pos) (tCall sp [] E t) := by
  subst h1 h2 h3 h4 h5
  exact pe_call F hr hg d.g d.F.kp d.b .nil hx ha hd he hpl
end

/-! ### readings, step by step -/
namespace Rd
variable {K : PySem.W.Frag} {σ : St} {H : Hp} {Q : VK} {x y z v : V} {ta tb te tc to tx : TE} {t u : TS} {i j : Int} {a b p : Addr} {N : St → Hp → Prop} {r : VK} {bk ct : St → Hp → Prop} {g : Int → Int → V}
theorem var {i : Nat} (h : σ[i]? = some (some v)) (q : Q v H) : tVar i σ H Q := ⟨v, h, q⟩
theorem con (q : Q v H) : tC v σ H Q := q
theorem op {r : R2} (h : ta σ H fun x H1 => tb σ H1 fun y H2 => r x y H2 Q) : tOp r ta tb σ H Q := h
theorem i0 (q : Q (g i j) H) : rI0 g (.int i) (.int j) H Q := ⟨i, j, rfl, rfl, q⟩
theorem ii {C : Int → Int → Prop} (c : C i j) (q : Q (g i j) H) : rI C g (.int i) (.int j) H Q := ⟨i, j, rfl, rfl, c, q⟩
theorem addI (q : Q (.int (i + j)) H) : rAddA (.int i) (.int j) H Q := .inl ⟨i, j, rfl, rfl, q⟩
theorem addS {x y : Str} (h : x.length + y.length ≤ sizeLine) (q : Q (.str (x ++ y)) H) : rAddA (.str x) (.str y) H Q := .inr (.inl ⟨x, y, rfl, rfl, h, q⟩)
theorem addL {xs ys : List V} (h1 : H a = some (.lst xs)) (h2 : H b = some (.lst ys)) (hl : xs.length + ys.length ≤ sizeLine) (q : ∀ p, H p = none → Q (.ref p) (upd H p (.lst (xs ++ ys)))) : rAddA (.ref a) (.ref b) H Q :=
  .inr (.inr ⟨a, b, xs, ys, rfl, rfl, h1, h2, hl, q⟩)
theorem subI (q : Q (.int (i - j)) H) : rSubI (.int i) (.int j) H Q := ⟨i, j, rfl, rfl, q⟩
theorem modI (h : 0 < j) (q : Q (.int (i % j)) H) : rModI (.int i) (.int j) H Q := ⟨i, j, rfl, rfl, h, q⟩
theorem divI (h : CDiv i j) (q : Q (.int (i / j)) H) : rDivI (.int i) (.int j) H Q := ⟨i, j, rfl, rfl, h, q⟩
theorem powI (h : CPow i j) (q : Q (.int (i ^ j.toNat)) H) : rPowI (.int i) (.int j) H Q := ⟨i, j, rfl, rfl, h, q⟩
theorem gtI (q : Q (.bl (decide (j < i))) H) : rGtI (.int i) (.int j) H Q := ⟨i, j, rfl, rfl, q⟩
theorem geI (q : Q (.bl (decide (j ≤ i))) H) : rGeI (.int i) (.int j) H Q := ⟨i, j, rfl, rfl, q⟩
theorem ltI (q : Q (.bl (decide (i < j))) H) : rLtA (.int i) (.int j) H Q := .inl ⟨i, j, rfl, rfl, q⟩
theorem leI (q : Q (.bl (decide (i ≤ j))) H) : rLeA (.int i) (.int j) H Q := .inl ⟨i, j, rfl, rfl, q⟩
theorem ltS {x y : Str} (q : Q (.bl (decide (x.cps.toList < y.cps.toList))) H) : rLtA (.str x) (.str y) H Q := .inr ⟨x, y, rfl, rfl, q⟩
theorem leS {x y : Str} (q : Q (.bl (!decide (y.cps.toList < x.cps.toList))) H) : rLeA (.str x) (.str y) H Q := .inr ⟨x, y, rfl, rfl, q⟩
theorem eqI (q : Q (.bl (decide (i = j))) H) : rEqA K (.int i) (.int j) H Q := .inl ⟨rfl, by
  have e : decide (V.int i = V.int j) = decide (i = j) := decide_eq_decide.mpr ⟨fun z => V.int.inj z, fun z => by rw [z]⟩
  rw [e]; exact q⟩
theorem neI (q : Q (.bl (!decide (i = j))) H) : rNeA K (.int i) (.int j) H Q := .inl ⟨rfl, by
  have e : decide (V.int i = V.int j) = decide (i = j) := decide_eq_decide.mpr ⟨fun z => V.int.inj z, fun z => by rw [z]⟩
  rw [e]; exact q⟩
theorem eqS {x y : Str} (q : Q (.bl (decide (x = y))) H) : rEqA K (.str x) (.str y) H Q := .inl ⟨rfl, by
  have e : decide (V.str x = V.str y) = decide (x = y) := decide_eq_decide.mpr ⟨fun z => V.str.inj z, fun z => by rw [z]⟩
  rw [e]; exact q⟩
theorem neS {x y : Str} (q : Q (.bl (!decide (x = y))) H) : rNeA K (.str x) (.str y) H Q := .inl ⟨rfl, by
  have e : decide (V.str x = V.str y) = decide (x = y) := decide_eq_decide.mpr ⟨fun z => V.str.inj z, fun z => by rw [z]⟩
  rw [e]; exact q⟩
theorem eqD {d e : PyData} (h1 : Dp K H x d) (h2 : Dp K H y e) (s1 : SeqAt.shaped d = true) (s2 : SeqAt.shaped e = true) (q : Q (.bl (PyData.eqv d e)) H) : rEqA K x y H Q := .inr ⟨d, e, h1, h2, s1, s2, q⟩
theorem neD {d e : PyData} (h1 : Dp K H x d) (h2 : Dp K H y e) (s1 : SeqAt.shaped d = true) (s2 : SeqAt.shaped e = true) (q : Q (.bl (!PyData.eqv d e)) H) : rNeA K x y H Q := .inr ⟨d, e, h1, h2, s1, s2, q⟩
theorem int1 (q : Q (.int i) H) : rInt1 [.int i] H Q := .inl ⟨i, rfl, q⟩
theorem lenL {xs : List V} (h : SqL K H p xs) (q : Q (.int xs.length) H) : rLenA K [.ref p] H Q := ⟨_, _, rfl, .inl ⟨xs, h, rfl⟩, q⟩
theorem lenT {xs : List V} (h : SqT K H p xs) (q : Q (.int xs.length) H) : rLenA K [.ref p] H Q := ⟨_, _, rfl, .inr ⟨xs, h, rfl⟩, q⟩
theorem lenS {x : Str} (h : x.length ≤ sizeLine) (q : Q (.int x.length) H) : rLenA K [.str x] H Q := ⟨_, _, rfl, ⟨h, rfl⟩, q⟩
theorem ixL {xs : List V} (h : SqL K H p xs) (h2 : atI xs i = some v) (q : Q v H) : rIx K (.ref p) (.int i) H Q := .inl ⟨p, xs, i, v, rfl, rfl, h, h2, q⟩
theorem ixT {xs : List V} (h : SqT K H p xs) (h2 : atI xs i = some v) (q : Q v H) : rIx K (.ref p) (.int i) H Q := .inr (.inl ⟨p, xs, i, v, rfl, rfl, h, h2, q⟩)
theorem ixS {x : Str} {c : Nat} (h : x.length ≤ sizeLine) (h2 : atI x.cps.toList i = some c) (q : Q (.str ⟨#[c]⟩) H) : rIx K (.str x) (.int i) H Q := .inr (.inr ⟨x, i, c, rfl, rfl, h, h2, q⟩)
theorem slL {xs : List V} {lo hi : Option Int} (h : SqL K H a xs) (q : ∀ p, H p = none → Q (.ref p) (upd H p (.lst (cutV xs lo hi)))) : rSlA K (.ref a) lo hi H Q := .inl ⟨a, xs, rfl, h, q⟩
theorem slS {x : Str} {lo hi : Option Int} (h : x.length ≤ sizeLine) (q : Q (.str (cutS x lo hi)) H) : rSlA K (.str x) lo hi H Q := .inr ⟨x, rfl, h, q⟩
theorem sl {r : V → Option Int → Option Int → Hp → VK → Prop} {tl th : TO} (h : te σ H fun x H1 => tl σ H1 fun l H2 => th σ H2 fun u H3 => r x l u H3 Q) : tSl r te tl th σ H Q := h
theorem noPart {Q : Option Int → Hp → Prop} (q : Q none H) : tNoPart σ H Q := q
theorem part {Q : Option Int → Hp → Prop} (h : te σ H fun x H1 => ∃ i, x = .int i ∧ Q (some i) H1) : tPart te σ H Q := h
theorem exint {P : Int → Prop} (h : P i) : ∃ k, V.int i = .int k ∧ P k := ⟨i, rfl, h⟩
/-- tests -/
theorem test {Q : Bool → Hp → Prop} (h : te σ H fun x H' => ∃ k, x = .bl k ∧ Q k H') : tTest te σ H Q := h
theorem tbv {Q : Bool → Hp → Prop} (h : te σ H fun x H' => ∃ k, x = .bl k ∧ Q k H') : tB te σ H Q := h
theorem exbl {b : Bool} {P : Bool → Prop} (h : P b) : ∃ k, V.bl b = .bl k ∧ P k := ⟨b, rfl, h⟩
theorem yes {Q : Bool → Hp → Prop} (q : Q true H) : tYes σ H Q := q
theorem andT {t u : TT} {Q : Bool → Hp → Prop} (h : t σ H fun c H1 => if c = true then u σ H1 Q else Q false H1) : tAnd t u σ H Q := h
theorem orT {t u : TT} {Q : Bool → Hp → Prop} (h : t σ H fun c H1 => if c = true then Q true H1 else u σ H1 Q) : tOr t u σ H Q := h
theorem notT {t : TT} {Q : Bool → Hp → Prop} (h : t σ H fun c H1 => Q (!c) H1) : tNot t σ H Q := h
theorem andV (h : ta σ H fun x H1 => ∃ c, x = .bl c ∧ if c = true then tb σ H1 Q else Q (.bl false) H1) : tAndV ta tb σ H Q := h
theorem orV (h : ta σ H fun x H1 => ∃ c, x = .bl c ∧ if c = true then Q (.bl true) H1 else tb σ H1 Q) : tOrV ta tb σ H Q := h
theorem notV (h : ta σ H fun x H1 => ∃ c, x = .bl c ∧ Q (.bl (!c)) H1) : tNotV ta σ H Q := h
theorem chain {r r' : R2} (h : ta σ H fun x H1 => tb σ H1 fun y H2 => r x y H2 fun z H3 => ∃ k, z = .bl k ∧ (if k = true then tc σ H3 fun w' H4 => r' y w' H4 Q else Q (.bl false) H3)) : tChain r r' ta tb tc σ H Q := h
/-- statements -/
theorem seq (h : t (Ends.mk (u (Ends.mk N r bk ct)) r bk ct) σ H) : tSeq t u (Ends.mk N r bk ct) σ H := h
theorem asg {i : Nat} (h : te σ H fun x H1 => N (σ.set i (some x)) H1) : tAsg te (gName i) (Ends.mk N r bk ct) σ H := h
theorem drop (h : te σ H fun _ H1 => N σ H1) : tDrop te (Ends.mk N r bk ct) σ H := h
theorem ret (h : te σ H r) : tRet te (Ends.mk N r bk ct) σ H := h
theorem retN (h : r .non H) : tRetN (Ends.mk N r bk ct) σ H := h
theorem next (h : N σ H) : tNext (Ends.mk N r bk ct) σ H := h
theorem ifS {c : TT} (h : c σ H fun b H1 => if b = true then t (Ends.mk N r bk ct) σ H1 else u (Ends.mk N r bk ct) σ H1) : tIfS c t u (Ends.mk N r bk ct) σ H := h
theorem iteT {A B : Prop} (h : A) : if true = true then A else B := by rw [if_pos rfl]; exact h
theorem iteF {A B : Prop} (h : B) : if false = true then A else B := by rw [if_neg Bool.false_ne_true]; exact h
theorem iteNF {A B : Prop} (h : A) : if (!false) = true then A else B := h
theorem iteNT {A B : Prop} (h : B) : if (!true) = true then A else B := h
theorem iteD {c A B : Prop} [Decidable c] (h1 : c → A) (h2 : ¬ c → B) : if decide c = true then A else B := by
  by_cases h : c
  · rw [decide_eq_true h, if_pos rfl]; exact h1 h
  · rw [decide_eq_false h, if_neg Bool.false_ne_true]; exact h2 h
theorem iteN {c A B : Prop} [Decidable c] (h1 : ¬ c → A) (h2 : c → B) : if (!decide c) = true then A else B := by
  by_cases h : c
  · rw [decide_eq_true h]; rw [if_neg (by decide)]; exact h2 h
  · rw [decide_eq_false h]; rw [if_pos (by decide)]; exact h1 h
/-- calls, displays -/
theorem cons {tr : TA} {Q : List V → Hp → Prop} (h : ta σ H fun x H1 => tr σ H1 fun xs H2 => Q (x :: xs) H2) : tCons ta tr σ H Q := h
theorem nil {Q : List V → Hp → Prop} (q : Q [] H) : tNil σ H Q := q
theorem call {sp : Sp} {E : XK} {t : TA} (h : t σ H fun vs H1 => sp (vs ++ []) H1 Q E) : tCall sp [] E t σ H Q := h
theorem cb {r : List V → Hp → VK → Prop} {t : TA} (h : t σ H fun vs H1 => r vs H1 Q) : tCB r t σ H Q := h
theorem tup {t : TA} (h : t σ H fun xs H1 => xs.length ≤ sizeLine ∧ ∀ p, H1 p = none → Q (.ref p) (upd H1 p (.tup xs))) : tTup t σ H Q := h
theorem lst {t : TA} (h : t σ H fun xs H1 => xs.length ≤ sizeLine ∧ ∀ p, H1 p = none → Q (.ref p) (upd H1 p (.lst xs))) : tLst t σ H Q := h
theorem m0 {r : V → List V → Hp → VK → Prop} (h : to σ H fun x H1 => (∃ a, x = .str a) ∧ r x [] H1 Q) : tM0 r to σ H Q := h
theorem m1 {r : V → List V → Hp → VK → Prop} (h : to σ H fun x H1 => (∃ a, x = .str a) ∧ te σ H1 fun y H2 => r x [y] H2 Q) : tM1 r to te σ H Q := h
theorem isStr {x : Str} {A : Prop} (h : A) : (∃ a, V.str x = .str a) ∧ A := ⟨⟨x, rfl⟩, h⟩
theorem upper {x : Str} (h : x.length ≤ 5592405) (q : Q (.str (Txt.upper x)) H) : rUpper (.str x) [] H Q := ⟨x, rfl, rfl, h, q⟩
theorem join {x : Str} {ys : List Str} (h : SqL K H p (ys.map V.str)) (hz : (ys.map (·.length)).sum + ys.length * x.length ≤ 16777216) (q : Q (.str (Txt.join x ys)) H) : rJoin K (.str x) [.ref p] H Q := ⟨x, p, ys, rfl, rfl, .inl h, hz, q⟩
theorem fld {f : Str} (h : ta σ H fun x H1 => ∃ a C dx fs v, x = .ref a ∧ H1 a = some (.ins C dx fs) ∧ Cls K C ∧ NoAttr K C f ∧ fs.lookup f = some v ∧ Q v H1) : tFld K ta f σ H Q := h
theorem start_ {t : TS} {D : Ends} {σ' : St} (e : σ = σ') (h : t D σ' H) : t D σ H := by rw [e]; exact h
end Rd

/-- heaps -/
theorem same_new {H : Hp} {p : Addr} {o : HO} (h : H p = none) : Same H (upd H p o) := fun a u e => by
  rw [upd_ne (ne_of_none e h)]; exact e
theorem same_upd {H0 H : Hp} {p : Addr} {o : HO} (e : Same H0 H) (h : H0 p = none) : Same H0 (upd H p o) := fun a u ha => by
  rw [upd_ne (ne_of_none ha h)]; exact e a u ha
theorem Same.sqt {K : PySem.W.Frag} {H H' : Hp} {a : Addr} {xs : List V} (e : Same H H') (h : SqT K H a xs) : SqT K H' a xs := by
  rcases h with (h | ⟨o, h⟩) | h
  · exact .inl (.inl (e _ _ h))
  · exact .inl (.inr ⟨o, e _ _ h⟩)
  · exact .inr h
end Fw
namespace Fw
open PySem PySem.Spec L2
/-- the built-ins that the program leaves alone -/
structure Bt (mg : Str → Option Value) : Prop where
  len : mg "len" = none
  sum : mg "sum" = none
  int : mg "int" = none
  range : mg "range" = none
  isinstance : mg "isinstance" = none
  any : mg "any" = none
  all : mg "all" = none
  list : mg "list" = none
  tuple : mg "tuple" = none
  sorted : mg "sorted" = none
  set : mg "set" = none
  bool : mg "bool" = none
  ValueError : mg "ValueError" = none
section
variable {X : Cx}
def rMulS : R2 := fun x y H Q => ∃ z i, x = .str z ∧ y = .int i ∧ 0 ≤ i ∧ i < 1000 ∧ z.length ≤ 1000 ∧ Q (.str (Txt.mul z i)) H
theorem op_mulS : OpR X (binaryOp .Mult) rMulS := by
  intro pins s σ H x y v u Q I rx ry h
  obtain ⟨z, i, rfl, rfl, h0, h1, h2, q⟩ := h
  obtain ⟨t, rfl⟩ := rx
  obtain ⟨t', rfl⟩ := ry
  have e : i.toNat ≤ 1000 := by omega
  have hm : z.length * i.toNat ≤ 1000 * 1000 := Nat.mul_le_mul h2 e
  refine PySem.SB.mul ⟨?_, fun hn _ => ?_, fun hn _ => ?_⟩ fun t' k => ⟨.str _, H, I.tok k, ⟨t', rfl⟩, q⟩
  · rw [decide_eq_false (by omega), decide_eq_false (by omega)]; rfl
  · have hd : 1000 ≤ (2 ^ 63 - 1) / i := by
      rw [Int.le_ediv_iff_mul_le (by omega)]
      omega
    omega
  · show decide _ = false
    apply decide_eq_false
    have q : sizeLine = 16777216 := sizeLine_eq
    omega
def rMulA : R2 := fun x y H Q => rI CMul (fun i j => .int (i * j)) x y H Q ∨ rMulS x y H Q
theorem op_mulA : OpR X (binaryOp .Mult) rMulA := op_mul.or op_mulS
end
namespace Rd
variable {H : Hp} {Q : VK} {i j : Int} 
theorem mulI (h : CMul i j) (q : Q (.int (i * j)) H) : rMulA (.int i) (.int j) H Q := .inl ⟨i, j, rfl, rfl, h, q⟩
theorem mulS {z : Str} (h0 : 0 ≤ i) (h1 : i < 1000) (h2 : z.length ≤ 1000) (q : Q (.str (Txt.mul z i)) H) : rMulA (.str z) (.int i) H Q := .inr ⟨z, i, rfl, rfl, h0, h1, h2, q⟩
theorem asgSub {σ : St} {N : St → Hp → Prop} {r : VK} {bk ct : St → Hp → Prop} {te to ti : TE} {t : TSet} (h : te σ H fun v H1 => to σ H1 fun o H2 => ti σ H2 fun i H3 => t o i v H3 fun H4 => N σ H4) : tAsg te (gSub to ti t) (Ends.mk N r bk ct) σ H := h
theorem setL {p : Addr} {v : V} {xs : List V} {j : Nat} {Q : Hp → Prop} (h : H p = some (.lst xs)) (h2 : ixN xs.length i = some j) (q : Q (upd H p (.lst (xs.set j v)))) : rSetL (.ref p) (.int i) v H Q := ⟨p, xs, i, j, rfl, rfl, h, h2, q⟩
theorem sumL {K : PySem.W.Frag} {a : Addr} {ns : List Int} (h : SqL K H a (ns.map V.int)) (q : Q (.int ns.sum) H) : rSum K [.ref a] H Q := ⟨a, ns, rfl, h, q⟩
end Rd
end Fw
namespace Fw
open PySem PySem.Spec L2
/-- what is left of a comprehension, of a for, once the thing to walk is known -/
def LcGo (J : It) (g : TG) (tt : TT) (te : TE) (vs : List Nat) (σ : St) (H1 : Hp) (Q : VK) : Prop := tLc (fun _ H R => R J H) g tt te vs σ H1 Q
def FoGo (J : It) (g : TG) (tb : TS) (D : Ends) (σ : St) (H : Hp) : Prop := tFor (fun _ H R => R J H) g tb D σ H
abbrev Flat (Itm : Nat → V → Prop) : Nat → Hp → V → Hp → Prop := fun i H x H' => H' = H ∧ Itm i x
namespace Rd
variable {K : PySem.W.Frag} {σ : St} {H : Hp} {Q : VK} {te tl : TE} {ta : TA} {tt : TT} {g : TG} {vs : List Nat} {tb : TS} {D : Ends} {J : It} {n : Nat} {G : Hp → Prop} {Itm : Nat → V → Prop}
theorem lcL (h : tl σ H fun x H1 => ∃ a, x = .ref a ∧ (∃ xs, SqL K H1 a xs) ∧ LcGo (Itl K a) g tt te vs σ H1 Q) : tLc (iList K tl) g tt te vs σ H Q := h
theorem lcT (h : tl σ H fun x H1 => ∃ a, x = .ref a ∧ (∃ xs, SqT K H1 a xs) ∧ LcGo (Itt K a) g tt te vs σ H1 Q) : tLc (iTup K tl) g tt te vs σ H Q := h
theorem lcR (h : ta σ H fun us H1 => ∃ j : Int, us = [.int j] ∧ -(2 ^ 62) ≤ j ∧ j < 2 ^ 62 ∧ LcGo (Itr 0 j.toNat) g tt te vs σ H1 Q) : tLc (iRng1 ta) g tt te vs σ H Q := h
theorem lcS (h : tl σ H fun v H1 => ∃ x, v = .str x ∧ LcGo (Its x) g tt te vs σ H1 Q) : tLc (iStr tl) g tt te vs σ H Q := h
theorem foL (h : tl σ H fun x H1 => ∃ a, x = .ref a ∧ (∃ xs, SqL K H1 a xs) ∧ FoGo (Itl K a) g tb D σ H1) : tFor (iList K tl) g tb D σ H := h
theorem foT (h : tl σ H fun x H1 => ∃ a, x = .ref a ∧ (∃ xs, SqT K H1 a xs) ∧ FoGo (Itt K a) g tb D σ H1) : tFor (iTup K tl) g tb D σ H := h
theorem foR (h : ta σ H fun us H1 => ∃ j : Int, us = [.int j] ∧ -(2 ^ 62) ≤ j ∧ j < 2 ^ 62 ∧ FoGo (Itr 0 j.toNat) g tb D σ H1) : tFor (iRng1 ta) g tb D σ H := h
theorem exrange {i : Int} {P : Int → Prop} (h1 : -(2 ^ 62) ≤ i) (h2 : i < 2 ^ 62) (h : P i) : ∃ j : Int, [V.int i] = [.int j] ∧ -(2 ^ 62) ≤ j ∧ j < 2 ^ 62 ∧ P j := ⟨i, rfl, h1, h2, h⟩
theorem exstr {x : Str} {P : Str → Prop} (h : P x) : ∃ z, V.str x = .str z ∧ P z := ⟨x, rfl, h⟩
theorem exlist {a : Addr} {xs : List V} {P : Addr → Prop} (hs : SqL K H a xs) (h : P a) : ∃ b, V.ref a = .ref b ∧ (∃ xs, SqL K H b xs) ∧ P b := ⟨a, rfl, ⟨xs, hs⟩, h⟩
theorem extup {a : Addr} {xs : List V} {P : Addr → Prop} (hs : SqT K H a xs) (h : P a) : ∃ b, V.ref a = .ref b ∧ (∃ xs, SqT K H b xs) ∧ P b := ⟨a, rfl, ⟨xs, hs⟩, h⟩
/-- a comprehension: Jv by turn, items made and heap -/
theorem lcW {s : Nat} (w : Walk J n G (Flat Itm)) (hn : n < sizeLine) (Jv : Nat → List V → Hp → Prop) (h0 : Jv 0 [] H)
    (hst : ∀ D, H D = none → ∀ i acc ys H', Jv i acc H' → Jv i acc (upd H' D (.lst ys))) (hG : ∀ i acc H', i ≤ n → Jv i acc H' → G H')
    (step : ∀ D, H D = none → ∀ i x acc H', i < n → Itm i x → H' D = some (.lst acc) → acc.length ≤ i → Jv i acc H' → ∀ (Kt : V → Hp → Prop) (Kf : Hp → Prop), (∀ y H4, H4 D = some (.lst acc) → Jv (i + 1) (acc ++ [y]) H4 → Kt y H4) → (∀ H3, H3 D = some (.lst acc) → Jv (i + 1) acc H3 → Kf H3) →
      tt ((σ.set s none).set s (some x)) H' fun b H3 => if b = true then te ((σ.set s none).set s (some x)) H3 Kt else Kf H3)
    (fin : ∀ D acc H', H D = none → H' D = some (.lst acc) → acc.length ≤ n → Jv n acc H' → Q (.ref D) H') : LcGo J (gName s) tt te [s] σ H Q := by
  intro D hD
  refine lc_it w (fun i H' => ∃ acc, H' D = some (.lst acc) ∧ acc.length ≤ i ∧ Jv i acc H') ⟨[], upd_same, Nat.le_refl _, hst D hD _ _ _ _ h0⟩ (fun i H' hi ⟨acc, _, _, j⟩ => hG i acc H' hi j) ?_ (fun H' ⟨acc, a1, a2, a3⟩ => fin D acc H' hD a1 a2 a3)
  rintro i x H' H2 hi ⟨acc, a1, a2, a3⟩ ⟨rfl, hx⟩
  show wipe (((wipe σ [s])).set s (some x)) [s] = wipe σ [s] ∧ _
  refine ⟨?_, ?_⟩
  · show ((σ.set s none).set s (some x)).set s none = σ.set s none
    rw [List.set_set, List.set_set]
  · exact step D hD i x acc _ hi hx a1 a2 a3 _ _
      (fun y H4 b1 b2 => ⟨acc, b1, Nat.lt_of_le_of_lt a2 (Nat.lt_trans hi hn), acc ++ [y], upd_same, by rw [List.length_append, List.length_singleton]; omega, hst D hD _ _ _ _ b2⟩)
      (fun H3 b1 b2 => ⟨acc, b1, Nat.le_succ_of_le a2, b2⟩)
/-- a for: Pv by turn, slots and heap -/
theorem foW {s : Nat} {N : St → Hp → Prop} {r : VK} {bk ct : St → Hp → Prop} (w : Walk J n G (Flat Itm)) (Pv : Nat → St → Hp → Prop) (h0 : Pv 0 σ H) (hG : ∀ i σ H, i ≤ n → Pv i σ H → G H)
    (step : ∀ i x σ H, i < n → Itm i x → Pv i σ H → tb (Ends.mk (Pv (i + 1)) r N (Pv (i + 1))) (σ.set s (some x)) H) (fin : ∀ σ H, Pv n σ H → N σ H) : FoGo J (gName s) tb (Ends.mk N r bk ct) σ H :=
  for_it w Pv h0 hG (fun i x σ H H' hi p ⟨e, hx⟩ => by subst e; exact step i x σ _ hi hx p) fin
theorem wList {a : Addr} {xs : List V} : Walk (Itl K a) xs.length (fun H => SqL K H a xs) (Flat fun i x => xs[i]? = some x) := walk_list
theorem wTup {a : Addr} {xs : List V} : Walk (Itt K a) xs.length (fun H => SqT K H a xs) (Flat fun i x => xs[i]? = some x) := walk_tup
theorem wRange {n : Nat} : Walk (Itr 0 n) n (fun _ => True) (Flat fun i x => x = .int (0 + i)) := walk_range
theorem wStr {z : Str} : Walk (Its z) z.cps.size (fun _ => True) (Flat fun i v => ∃ c, z.cps[i]? = some c ∧ v = .str ⟨#[c]⟩) := walk_str
end Rd
end Fw
namespace Fw
open PySem PySem.Spec L2
section
variable {X : Cx} (K : PySem.W.Frag)
theorem kix (h : X.K = K := by rfl) : IxR X (rIx K) := by subst h; exact ix_seq
theorem keq (hu : X.A.units + 64 < cLine) (h : X.K = K := by rfl) : OpR X (compareOp .Eq) (rEqA K) := by subst h; exact op_eqA hu
theorem kne (hu : X.A.units + 64 < cLine) (h : X.K = K := by rfl) : OpR X (compareOp .NotEq) (rNeA K) := by subst h; exact op_neA hu
theorem klen (h : X.K = K := by rfl) : CallR X (.builtin "len") (rLenA K) := by subst h; exact call_lenA
theorem ksum (hc : X.calm = true := by rfl) (h : X.K = K := by rfl) : CallR X (.builtin "sum") (rSum K) := by subst h; exact cr_sum hc
theorem kany (hc : X.calm = true := by rfl) (h : X.K = K := by rfl) : CallR X (.builtin "any") (rAny K) := by subst h; exact cr_any hc
theorem kall (hc : X.calm = true := by rfl) (h : X.K = K := by rfl) : CallR X (.builtin "all") (rAll K) := by subst h; exact cr_all hc
theorem kisi (h : X.K = K := by rfl) : CallR X (.builtin "isinstance") (rIsi K) := by subst h; exact call_isi
def rListOf (K : PySem.W.Frag) : List V → Hp → VK → Prop := fun xs H Q => ∃ p ys, xs = [.ref p] ∧ (SqL K H p ys ∨ SqT K H p ys) ∧ ∀ l, H l = none → Q (.ref l) (upd H l (.lst ys))
def rTupOf (K : PySem.W.Frag) : List V → Hp → VK → Prop := fun xs H Q => ∃ p ys, xs = [.ref p] ∧ ((SqL K H p ys ∧ ∀ l, H l = none → Q (.ref l) (upd H l (.tup ys))) ∨ (SqT K H p ys ∧ Q (.ref p) H))
theorem klist (h : X.K = K := by rfl) : CallR X (.type "list") (rListOf K) := by subst h; exact call_list_of
theorem ktuple (h : X.K = K := by rfl) : CallR X (.type "tuple") (rTupOf K) := by subst h; exact call_tuple_of
theorem ksl (h : X.K = K := by rfl) : SlR X (rSlA K) := by subst h; exact sl_any
theorem kin (h : X.K = K := by rfl) : OpR X (compareOp .In) (rIn K false) := by subst h; exact op_in_seq
theorem knin (h : X.K = K := by rfl) : OpR X (compareOp .NotIn) (rIn K true) := by subst h; exact op_notIn_seq
theorem kpl {tg l : Expr} {tl : TE} (hl : PE X l tl) (h : X.K = K := by rfl) : PI X tg l (iList K tl) := by subst h; exact pi_list hl
theorem kpt {tg l : Expr} {tl : TE} (hl : PE X l tl) (h : X.K = K := by rfl) : PI X tg l (iTup K tl) := by subst h; exact pi_tup hl
theorem kjoin {o e : Expr} {to te : TE} {apos pos : Pos} (ho : PE X o to) (he : PE X e te) (h : X.K = K := by rfl) (hs : starEach [e] X.env = [(false, eval e X.env)] := by rfl) (hbase : attributeBase o "join" X.env (eval o X.env) = eval o X.env := by rfl) (hline : (apos.endLine == pos.line) = true := by rfl) :
    PE X (.Call (.Attribute o "join" apos) [e] [] pos) (tM1 (rJoin K) to te) := by subst h; exact pe_joinA ho he hs hbase hline
theorem kfld {e : Expr} {f : Str} {ta : TE} {pos : Pos} (he : PE X e ta) (h : X.K = K := by rfl) (hb : attributeBase e f X.env (eval e X.env) = eval e X.env := by rfl) : PE X (.Attribute e f pos) (tFld K ta f) := by subst h; exact pe_fld he hb
theorem kcon {e : Expr} {f : Str} {ta : TE} {pos : Pos} (he : PE X e ta) (h : X.K = K := by rfl) (hb : attributeBase e f X.env (eval e X.env) = eval e X.env := by rfl) : PE X (.Attribute e f pos) (tCon K ta f) := by subst h; exact pe_con he hb
end
namespace Rd
variable {K : PySem.W.Frag} {H : Hp} {Q : VK} {p : Addr}
theorem listL {ys : List V} (h : SqL K H p ys) (q : ∀ l, H l = none → Q (.ref l) (upd H l (.lst ys))) : rListOf K [.ref p] H Q := ⟨p, ys, rfl, .inl h, q⟩
theorem listT {ys : List V} (h : SqT K H p ys) (q : ∀ l, H l = none → Q (.ref l) (upd H l (.lst ys))) : rListOf K [.ref p] H Q := ⟨p, ys, rfl, .inr h, q⟩
theorem tupL {ys : List V} (h : SqL K H p ys) (q : ∀ l, H l = none → Q (.ref l) (upd H l (.tup ys))) : rTupOf K [.ref p] H Q := ⟨p, ys, rfl, .inl ⟨h, q⟩⟩
theorem tupT {ys : List V} (h : SqT K H p ys) (q : Q (.ref p) H) : rTupOf K [.ref p] H Q := ⟨p, ys, rfl, .inr ⟨h, q⟩⟩
/-- xs.append(y) -/
theorem bm {T : String} {r : V → List V → Hp → VK → Prop} {to : TE} {t : TA} {σ : St} (h : to σ H fun x H1 => tyV K T x H1 ∧ t σ H1 fun xs H2 => r x xs H2 Q) : tBM K T r to t σ H Q := h
theorem tyL {xs : List V} {A : Prop} (h : H p = some (.lst xs)) (q : A) : tyV K "list" (.ref p) H ∧ A := ⟨.inl ⟨rfl, _, SqL.of h⟩, q⟩
theorem append {xs : List V} {y : V} (h : H p = some (.lst xs)) (hl : xs.length < sizeLine) (q : Q .non (upd H p (.lst (xs ++ [y])))) : rAppend (.ref p) [y] H Q := ⟨p, xs, y, rfl, rfl, h, hl, q⟩
end Rd
end Fw

namespace Fw
open PySem PySem.Spec L2
theorem kapp {X : Cx} (K : PySem.W.Frag) {o e : Expr} {to : TE} {t : TA} {apos cpos : Pos} (ho : PE X o to) (ha : PA X [e] t) (h : X.K = K := by rfl)
    (hbase : attributeBase o "append" X.env (eval o X.env) = eval o X.env := by rfl)
    (hfew : ((backTo cpos (starEach [e] X.env)).all (fun x => !x.1) && (backToKw cpos (keywordEach [] X.env)).all (fun x => x.1.isSome)
      && decide (([e] : List Expr).length + ([] : List Keyword).length + (if ([] : List Keyword).isEmpty then 0 else 1) < 30)) = true := by rfl)
    (hline : (apos.endLine == cpos.line) = true := by rfl) (hs : starEach [e] X.env = (false, eval e X.env) :: starEach [] X.env := by rfl) (hplain : (backTo cpos (starEach [] X.env)).any (·.1) = false := by rfl) :
    PE X (.Call (.Attribute o "append" apos) [e] [] cpos) (tBM K "list" rAppend to t) := by
  subst h
  exact pe_bm PySem.F.plainAttrs_list PySem.F.slot_list_append PySem.F.type_list_append mt_append ho ha hbase hfew hline hs hplain
end Fw

namespace Fw
open PySem PySem.Spec L2
abbrev S (l : List Nat) : Str := ⟨l.toArray⟩
theorem pe_lit {X : Cx} (l : List Nat) {x : Str} {j pos} (h : x = S l) : PE X (.Constant (.str x) j pos) (tC (.str (S l))) := by subst h; exact pe_str
theorem dec_S {a b : List Nat} : decide (S a = S b) = decide (a = b) := decide_eq_decide.mpr ⟨fun h => SX.S_inj h, fun h => by rw [h]⟩
theorem sIx_ge {n d : Nat} {i : Int} (h : 0 ≤ i) : HT.sIx n d (some i) = min i.toNat n := by
  have e : i = ((i.toNat : Nat) : Int) := by omega
  rw [e, HT.sIx_nat]
  rfl
theorem cut_to {l : List Nat} {i : Int} (h : 0 ≤ i) : cutS (S l) none (some i) = S (l.take i.toNat) := by
  show (⟨((l.toArray.toList.drop 0).take (HT.sIx l.toArray.size l.toArray.size (some i) - 0)).toArray⟩ : Str) = ⟨(l.take i.toNat).toArray⟩
  rw [sIx_ge h, List.drop_zero, Nat.sub_zero, List.size_toArray]
  show (⟨(l.take (min i.toNat l.length)).toArray⟩ : Str) = ⟨(l.take i.toNat).toArray⟩
  by_cases hl : i.toNat ≤ l.length
  · rw [Nat.min_eq_left hl]
  · have e1 : min i.toNat l.length = l.length := by omega
    have e2 : l.take i.toNat = l := List.take_of_length_le (by omega)
    rw [e1, e2, List.take_length]
theorem cut_fromto {l : List Nat} {i j : Int} (h : 0 ≤ i) (h2 : 0 ≤ j) : cutS (S l) (some i) (some j) = S ((l.drop i.toNat).take (j.toNat - i.toNat)) := by
  show (⟨((l.toArray.toList.drop (HT.sIx l.toArray.size 0 (some i))).take (HT.sIx l.toArray.size l.toArray.size (some j) - HT.sIx l.toArray.size 0 (some i))).toArray⟩ : Str) = _
  rw [sIx_ge h, sIx_ge h2, List.size_toArray]
  show (⟨((l.drop (min i.toNat l.length)).take (min j.toNat l.length - min i.toNat l.length)).toArray⟩ : Str) = ⟨((l.drop i.toNat).take (j.toNat - i.toNat)).toArray⟩
  by_cases hl : i.toNat ≤ l.length
  · rw [Nat.min_eq_left hl]
    by_cases hj : j.toNat ≤ l.length
    · rw [Nat.min_eq_left hj]
    · have e1 : min j.toNat l.length = l.length := by omega
      have e2 : (l.drop i.toNat).take (l.length - i.toNat) = l.drop i.toNat := List.take_of_length_le (by rw [List.length_drop]; omega)
      have e3 : (l.drop i.toNat).take (j.toNat - i.toNat) = l.drop i.toNat := List.take_of_length_le (by rw [List.length_drop]; omega)
      rw [e1, e2, e3]
  · have e1 : min i.toNat l.length = l.length := by omega
    have e2 : l.drop i.toNat = [] := List.drop_of_length_le (by omega)
    have e3 : l.drop l.length = [] := List.drop_of_length_le (Nat.le_refl _)
    rw [e1, e2, e3, List.take_nil, List.take_nil]
theorem cut_from {l : List Nat} {i : Int} (h : 0 ≤ i) : cutS (S l) (some i) none = S (l.drop i.toNat) := by
  show (⟨((l.toArray.toList.drop (HT.sIx l.toArray.size 0 (some i))).take (l.toArray.size - HT.sIx l.toArray.size 0 (some i))).toArray⟩ : Str) = _
  rw [sIx_ge h, List.size_toArray]
  show (⟨((l.drop (min i.toNat l.length)).take (l.length - min i.toNat l.length)).toArray⟩ : Str) = ⟨(l.drop i.toNat).toArray⟩
  have e2 : (l.drop (min i.toNat l.length)).take (l.length - min i.toNat l.length) = l.drop (min i.toNat l.length) := List.take_of_length_le (by rw [List.length_drop]; omega)
  rw [e2]
  by_cases hl : i.toNat ≤ l.length
  · rw [Nat.min_eq_left hl]
  · have e1 : min i.toNat l.length = l.length := by omega
    have e2 : l.drop i.toNat = [] := List.drop_of_length_le (by omega)
    have e3 : l.drop l.length = [] := List.drop_of_length_le (Nat.le_refl _)
    rw [e1, e2, e3]
theorem foldl_cps (l : List Nat) : ∀ (n : Nat) (acc : Array Nat), ((List.replicate n l.toArray).foldl (· ++ ·) acc).toList = acc.toList ++ (List.replicate n l).flatten
  | 0, acc => by simp
  | n + 1, acc => by
    rw [List.replicate_succ, List.foldl_cons, foldl_cps l n]
    simp [List.replicate_succ]
theorem mul_S {l : List Nat} {n : Int} (h : 1 < n) (hl : 1 ≤ l.length) : Txt.mul (S l) n = S ((List.replicate n.toNat l).flatten) := by
  unfold Txt.mul
  rw [if_neg (by omega), if_neg]
  · have e := foldl_cps l n.toNat #[]
    rw [List.nil_append] at e
    show (⟨(List.replicate n.toNat l.toArray).foldl (· ++ ·) #[]⟩ : Str) = ⟨_⟩
    congr 1
    rw [← e]
  · intro z
    rw [Bool.or_eq_true] at z
    rcases z with z | z
    · have := eq_of_beq z; omega
    · have := eq_of_beq z
      rw [SX.S_len] at this
      omega
theorem rep_len (l : List Nat) (n : Nat) : ((List.replicate n l).flatten).length = n * l.length := by
  induction n with
  | zero => simp
  | succ n ih => rw [List.replicate_succ, List.flatten_cons, List.length_append, ih, Nat.succ_mul, Nat.add_comm]
namespace RS
theorem mul {H : Hp} {Q : VK} {i : Int} {l : List Nat} (h : 1 < i) (h1 : i < 1000) (hl : 1 ≤ l.length) (h2 : l.length ≤ 1000) (q : Q (.str (S ((List.replicate i.toNat l).flatten))) H) : rMulA (.str (S l)) (.int i) H Q :=
  Rd.mulS (by omega) h1 (by show l.toArray.size ≤ _; rw [List.size_toArray]; exact h2) (by rw [mul_S h hl]; exact q)
variable {H : Hp} {Q : VK} {i j : Int} {l a b : List Nat}
theorem len_S {l : List Nat} (h : l.length ≤ 1000) : (S l).length ≤ sizeLine := by
  have q : sizeLine = 16777216 := sizeLine_eq
  show l.toArray.size ≤ _
  rw [List.size_toArray]; omega
theorem slTo {K : PySem.W.Frag} (h : 0 ≤ i) (hl : l.length ≤ 1000) (q : Q (.str (S (l.take i.toNat))) H) : rSlA K (.str (S l)) none (some i) H Q := Rd.slS (len_S hl) (by rw [cut_to h]; exact q)
theorem slFrom {K : PySem.W.Frag} (h : 0 ≤ i) (hl : l.length ≤ 1000) (q : Q (.str (S (l.drop i.toNat))) H) : rSlA K (.str (S l)) (some i) none H Q := Rd.slS (len_S hl) (by rw [cut_from h]; exact q)
theorem slFT {K : PySem.W.Frag} (h : 0 ≤ i) (h2 : 0 ≤ j) (hl : l.length ≤ 1000) (q : Q (.str (S ((l.drop i.toNat).take (j.toNat - i.toNat)))) H) : rSlA K (.str (S l)) (some i) (some j) H Q := Rd.slS (len_S hl) (by rw [cut_fromto h h2]; exact q)
theorem add (h : a.length + b.length ≤ 1000) (q : Q (.str (S (a ++ b))) H) : rAddA (.str (S a)) (.str (S b)) H Q := by
  refine Rd.addS ?_ ?_
  · have q : sizeLine = 16777216 := sizeLine_eq
    show a.toArray.size + b.toArray.size ≤ _
    rw [List.size_toArray, List.size_toArray]; omega
  · rw [SX.S_cat]; exact q
theorem eq {K : PySem.W.Frag} (q : Q (.bl (decide (a = b))) H) : rEqA K (.str (S a)) (.str (S b)) H Q := Rd.eqS (by rw [dec_S]; exact q)
theorem ne {K : PySem.W.Frag} (q : Q (.bl (!decide (a = b))) H) : rNeA K (.str (S a)) (.str (S b)) H Q := Rd.neS (by rw [dec_S]; exact q)
theorem ix {K : PySem.W.Frag} {c : Nat} (h : l.length ≤ 1000) (h2 : atI l i = some c) (q : Q (.str (S [c])) H) : rIx K (.str (S l)) (.int i) H Q := Rd.ixS (len_S h) h2 q
theorem upper (h : l.all (· < 128) = true) (hl : l.length ≤ 1000) (q : Q (.str (S (l.map PyProof.Rows.up1))) H) : rUpper (.str (S l)) [] H Q := ⟨_, rfl, rfl, by
  show l.toArray.size ≤ _
  rw [List.size_toArray]; omega, by rw [SX.upper_S h]; exact q⟩
theorem len {K : PySem.W.Frag} (h : l.length ≤ 1000) (q : Q (.int l.length) H) : rLenA K [.str (S l)] H Q := Rd.lenS (len_S h) (by
  have e : (S l).length = l.length := SX.S_len l
  rw [e]; exact q)
end RS
end Fw

namespace Fw
open PySem PySem.Spec L2
/-- an own error class over ValueError, its __init__ one that stores its argument as fld -/
structure Er (K : PySem.W.Frag) (mg : Str → Option Value) (nm qual fld : Str) (st : Stmt) where
  C : Addr
  f : Addr
  fd : FuncData
  T : OexC K C
  iC : PySem.W.findIn K (.ref C) "__init__" = some (some (.ref f))
  tI : PySem.W.typeIn K (.ref f) = some (.type "function")
  g : mg nm = some (.ref C)
  no : PySem.W.findIn K (.ref C) fld = some none
  F : Fun K "__init__" qual st f fd
  b : Binds K fd ["self", fld] []
  xf : XfC K C
  xc : ExcC K C
  te : PySem.W.exmOne K (.ref C) (.ref C) = some true
/-- what such an __init__ keeps -/
def spErI (C : Addr) (fld : Str) : Sp := fun vs H Q _ => ∃ (a : Addr) (v : V), vs = [.ref a, v] ∧ H a = some (exo a C none) ∧ ∀ dx, H dx = none → dx ≠ a → Q .non (upd (upd H dx (exd dx [(fld, v)])) a (exo a C (some dx)))
theorem kost {X : Cx} (K : PySem.W.Frag) {o e : Expr} {to te : TE} {f : Str} {p' pos : Pos} (ho : PE X o to) (he : PE X e te) (h : X.K = K := by rfl) (hs : swapsWith e (some (.Attribute o f p')) pos.line X.env = pure false := by rfl) : PS X (.Assign [.Attribute o f p'] e pos) (tOst K f to te) := by
  subst h; exact ps_ost ho he hs
section
variable {X : Cx}
theorem pmk_er {P : Program} {w : World} {K : PySem.W.Frag} {mg : Str → Option Value} {base : Heap} {nm qual fld : Str} {st : Stmt} {k : Nat} {e : Expr} {es : List Expr} {ta : TA} {p pos : Pos} (r : Er K mg nm qual fld st) (F1 : FnOk P w K mg base CX0 k r.f r.fd ["self", fld] (spErI r.C fld)) (hr : Room (k + 1) X.A) (ha : PA X (e :: es) ta)
    (h1 : X.prog = P := by rfl) (h2 : X.w = w := by rfl) (h3 : X.K = K := by rfl) (h4 : X.mg = mg := by rfl) (h5 : X.base = base := by rfl) (hg : Gl X nm := by rfl)
    (hdb : (nm == ("__debug__" : Str)) = false := by decide) (he : starEach (e :: es) X.env = (false, eval e X.env) :: starEach es X.env := by rfl) (hpl : (backTo pos (starEach es X.env)).any (·.1) = false := by rfl) :
    PMk X (.Call (.Name nm p) (e :: es) [] pos) (tMkO r.C (spErI r.C fld) [] ta) := by
  subst h1 h2 h3 h4 h5
  exact pmk_oex (pos := pos) (p := p) r.T r.iC r.tI F1 hr r.b .nil pass0 hg r.g ha hdb he hpl
end
/-- what is left of raise C(v) -/
def ErGo (C : Addr) (fld : Str) (vs : List V) (H1 : Hp) (Q : XK) : Prop := vs.length ≤ 1000 ∧ ∀ a, H1 a = none → spErI C fld (.ref a :: (vs ++ [])) (upd H1 a (exo a C none))
  (fun v H2 => v = .non ∧ ∃ (d : Addr) (fs : List (Str × V)), H2 a = some (exo a C (some d)) ∧ H2 d = some (exd d fs) ∧ H1 d = none ∧ Q (.ref C) (some d) (upd (del H2 a) d (.xd fs))) (fun _ _ _ => False)
namespace Rd
theorem raise {t : St → Hp → XK → Prop} {W : WX} {σ : St} {H : Hp} {N : St → Hp → Prop} {r : VK} {bk ct : St → Hp → Prop} (h : t σ H fun cls d H' => W cls d σ H') : (fun (_ : Ends) (σ : St) (H : Hp) => t σ H fun cls d H' => W cls d σ H') (Ends.mk N r bk ct) σ H := h
theorem mko {C : Addr} {fld : Str} {ta : TA} {σ : St} {H : Hp} {Q : XK} (h : ta σ H fun vs H1 => ErGo C fld vs H1 Q) : tMkO C (spErI C fld) [] ta σ H Q := h
theorem erGo {C : Addr} {fld : Str} {v : V} {H1 : Hp} {Q : XK} (q : ∀ d, H1 d = none → Q (.ref C) (some d) (upd H1 d (.xd [(fld, v)]))) : ErGo C fld [v] H1 Q := by
  refine ⟨Nat.succ_le_succ (Nat.zero_le _), fun a ha => ⟨a, v, rfl, upd_same, fun dx hx ne => ⟨rfl, dx, [(fld, v)], upd_same, by rw [upd_ne ne]; exact upd_same, ?_, ?_⟩⟩⟩
  · rw [upd_ne ne] at hx; exact hx
  · rw [upd_ne ne] at hx
    have e2 : upd (del (upd (upd (upd H1 a (exo a C none)) dx (exd dx [(fld, v)])) a (exo a C (some dx))) a) dx (.xd [(fld, v)]) = upd H1 dx (.xd [(fld, v)]) := by
      funext b
      by_cases hb : b = dx
      · rw [hb, upd_same, upd_same]
      · rw [upd_ne hb, upd_ne hb]
        by_cases hb2 : b = a
        · rw [hb2, del_same, ha]
        · rw [del_ne hb2, upd_ne hb2, upd_ne hb, upd_ne hb2]
    rw [e2]
    exact q dx hx
/-- self.f = v in such an __init__ -/
theorem ost {K : PySem.W.Frag} {f : Str} {to te : TE} {σ : St} {H : Hp} {N : St → Hp → Prop} {r : VK} {bk ct : St → Hp → Prop} (h : te σ H fun y H1 => to σ H1 fun x H2 => ∃ a C : Addr, x = .ref a ∧ OexC K C ∧ PySem.W.findIn K (.ref C) f = some none ∧
  ((H2 a = some (exo a C none) ∧ ∀ dx, H2 dx = none → dx ≠ a → N σ (upd (upd H2 dx (exd dx [(f, y)])) a (exo a C (some dx)))) ∨
    ∃ (dx : Addr) (fs : List (Str × V)), H2 a = some (exo a C (some dx)) ∧ H2 dx = some (exd dx fs) ∧ fs.length ≤ 900 ∧ N σ (upd H2 dx (exd dx ((f, y) :: fs))))) : tOst K f to te (Ends.mk N r bk ct) σ H := h
theorem leC {H : Hp} {Q : VK} {a b : Nat} (q : Q (.bl (decide (a ≤ b))) H) : rLeA (.str (S [a])) (.str (S [b])) H Q := by
  refine Rd.leS ?_
  have e : (!decide ((S [b]).cps.toList < (S [a]).cps.toList)) = decide (a ≤ b) := by
    show (!decide ([b] < [a])) = decide (a ≤ b)
    by_cases h : a ≤ b
    · have n : ¬ [b] < [a] := by
        intro z
        cases z with
        | rel z => have z' : b < a := z; omega
        | cons z => cases z
      rw [decide_eq_true h, decide_eq_false n]; rfl
    · have n : [b] < [a] := List.Lex.rel (show b < a by omega)
      rw [decide_eq_false h, decide_eq_true n]; rfl
  rw [e]; exact q
end Rd
end Fw

namespace Fw
open PySem PySem.Spec L2
/-- what is left of C(..) -/
def MkGo (C : Addr) (sp : Sp) (vs : List V) (H1 : Hp) (Q : VK) (E : XK) : Prop := ∀ x dx, H1 x = none → H1 dx = none → dx ≠ x → sp (.ref x :: (vs ++ [])) (upd (upd H1 dx (.own x)) x (.ins C dx [])) (fun v H2 => v = .non ∧ Q (.ref x) H2) E

namespace Rd
variable {K : PySem.W.Frag} {σ : St} {H : Hp} {Q : VK} {te to ta tv : TE} {t : TA} {N : St → Hp → Prop} {r : VK} {bk ct : St → Hp → Prop}
theorem make {C : Addr} {sp : Sp} {E : XK} (h : t σ H fun vs H1 => MkGo C sp vs H1 Q E) : tMake C sp [] E t σ H Q := h
theorem meth {C : Addr} {m : Str} {sp : Sp} {E : XK} (h : ta σ H fun x H1 => ∃ a dx fs, x = .ref a ∧ H1 a = some (.ins C dx fs) ∧ fs.lookup m = none ∧ t σ H1 fun vs H2 => sp (x :: (vs ++ [])) H2 Q E) : tMeth C m sp [] E ta t σ H Q := h
theorem sfld {f : Str} (h : tv σ H fun y H1 => ta σ H1 fun x H2 => ∃ a C dx fs, x = .ref a ∧ H2 a = some (.ins C dx fs) ∧ Cls K C ∧ NoAttr K C f ∧ fs.length < 1000 ∧ N σ (upd H2 a (.ins C dx (putF f y fs)))) : sFld K ta tv f (Ends.mk N r bk ct) σ H := h
theorem con_ {f : Str} (h : ta σ H fun x H1 => ∃ a C dx fs v u, x = .ref a ∧ H1 a = some (.ins C dx fs) ∧ Cls K C ∧ Con K C f v u ∧ fs.lookup f = none ∧ Q v H1) : tCon K ta f σ H Q := h
end Rd
section
variable {X : Cx}
theorem kset {K : PySem.W.Frag} {o value : Expr} {f : Str} {ta tv : TE} {pos pos' : Pos} (ha : PE X o ta) (hv : PE X value tv) (h : X.K = K := by rfl) (hs : swapsWith value (some (.Attribute o f pos')) pos.line X.env = pure false := by rfl) : PS X (.Assign [.Attribute o f pos'] value pos) (sFld K ta tv f) := by
  subst h; exact ps_fld ha hv hs
theorem pe_mk {P : Program} {w : World} {K : PySem.W.Frag} {mg : Str → Option Value} {base : Heap} {CX : CXT} {x qual : Str} {st : Stmt} {C : Addr} {k : Nat} {ps : List Str} {sp : Sp} {E : XK} {e : Expr} {es : List Expr} {t : TA} {p pos : Pos} (d : Mf K "__init__" qual st ps) (M : Mk K C d.f) (hm : mg x = some (.ref C)) (F : FnOk P w K mg base CX k d.f d.fd ps sp) (hr : Room (k + 1) X.A) (hx : Passes CX X E) (ha : PA X (e :: es) t)
    (h1 : X.prog = P := by rfl) (h2 : X.w = w := by rfl) (h3 : X.K = K := by rfl) (h4 : X.mg = mg := by rfl) (h5 : X.base = base := by rfl) (hg : Gl X x := by rfl)
    (hdb : (x == ("__debug__" : Str)) = false := by decide) (he : starEach (e :: es) X.env = (false, eval e X.env) :: starEach es X.env := by rfl) (hpl : (backTo pos (starEach es X.env)).any (·.1) = false := by rfl) :
    PE X (.Call (.Name x p) (e :: es) [] pos) (tMake C sp [] E t) := by
  subst h1 h2 h3 h4 h5
  exact pe_make M F hr hg hm d.b .nil hx ha hdb he hpl
/-- o.m() on an instance of the class at C -/
theorem pe_m00 {pl : Sem Bool} {P : Program} {w : World} {K : PySem.W.Frag} {mg : Str → Option Value} {base : Heap} {CX : CXT} {m qual : Str} {st : Stmt} {C : Addr} {k : Nat} {ps : List Str} {sp : Sp} {E : XK} {o : Expr} {ta : TE} {apos pos : Pos} {nm : Str} (he : PE X o ta) (c : Cls K C) (d : Mf K nm qual st ps) (hm : Meth K C m d.f) (F : FnOk P w K mg base CX k d.f d.fd ps sp) (hr : Room k X.A) (hx : Passes CX X E)
    (h1 : X.prog = P := by rfl) (h2 : X.w = w := by rfl) (h3 : X.K = K := by rfl) (h4 : X.mg = mg := by rfl) (h5 : X.base = base := by rfl)
    (ht : eval (.Call (.Attribute o m apos) [] [] pos) X.env = (do
      let ov ← eval o X.env
      standAt apos.atName
      let (f, first) ← holding [ov] (getMethod ov m pl)
      callWith pos f first (backTo pos (starEach [] X.env)) (backToKw pos (keywordEach [] X.env))) := by rfl) :
    PE X (.Call (.Attribute o m apos) [] [] pos) (tMeth C m sp [] E ta tNil) := by
  subst h1 h2 h3 h4 h5
  exact pe_meth0 (pl := pl) he c hm F hr d.b .nil hx ht
end
end Fw

namespace Fw
open PySem PySem.Spec L2
section
open PySem.W PySem.Calls PyProof.Rows
variable {prog : Program} {w : World} {A : Around} {E : Value → Shared → Prop} {s : Shared} {K : PySem.W.Frag} {x D : Addr} {ox od : Obj}
/-- the class of a caught error that has a dict -/
theorem class_ofX {Q : Option Value → Shared → Prop} (T : ExcC K D) (X : K.In s.heap) (I : InstAt s.heap x ox D (some od)) (h : Q (some (.ref D)) { s with toks := s.toks + 1 }) : wpAny (model prog w) A (getAttr? (.ref x) "__class__") Q E s := by
  have hsome : (clsIn K D).isSome = true := by obtain ⟨c0, hc0, _⟩ := any_some T.hd; rw [hc0]; rfl
  have found : findObj K D (some od) "__class__" = some (.bind (.builtin "getset_descriptor.__get__") (.builtin "object.__class__")) := findObj_data hsome T.ha T.hn T.ht
  obtain ⟨hp, g, d, t, os⟩ := s
  have ly := I.type (M := model prog w)
  have lga := looks_findIn (M := model prog w) X T.hg
  have lgt := looks_findIn (M := model prog w) X T.hk
  have lfd := looks_find (M := model prog w) X I found
  have lsb : Looks (model prog w) hp (isInstance (.ref x) (.type "BaseException")) true := ly.andThen (looks_subIn X T.hs)
  have ne0 : (Value.builtin "BaseException.__getattribute__" == Value.builtin "object.__getattribute__") = false := by decide +kernel
  have nb0 : (onTheHeap (Value.ref D) && Value.builtin "BaseException.__getattribute__" == Value.builtin "object.__getattribute__") = false := by rw [ne0]; rfl
  unfold getAttr? getAttrBy? getAttrBy; refine wpAny_bind (wpAny_mkText (wpAny_bind (wpAny_attempt (wpAny_holding (wpAny_bind (ly.at (wpAny_bind (lga.at ?_))))))))
  show wpAny _ _ (if (onTheHeap (Value.ref D) && Value.builtin "BaseException.__getattribute__" == Value.builtin "object.__getattribute__") = true then _ else _) _ _ _; rw [nb0, if_neg Bool.false_ne_true]
  unfold getAttrByItsOwn hookBefore; refine wpAny_bind ?_; rw [if_pos (show onTheHeap (Value.ref D) = true from rfl)]
  refine lgt.at ?_; refine wpAny_bind (wpAny_attempt (wpAny_holding ?_))
  unfold callGetattribute boundAndCalled; rw [show (false && onTheHeap (Value.builtin "BaseException.__getattribute__")) = false from rfl, if_neg Bool.false_ne_true]
  rw [PySem.F.excAttr_ValueError.ga.bind (.ref x)]; refine wpAny_bind (wpAny_pure ?_)
  show wpAny _ _ (call (.builtin "BaseException.__getattribute__") [.ref x, .str "__class__" t]) _ _ _; refine wpAny_call (codeAny_call_builtin PySem.F.excAttr_ValueError.ga.plain PySem.F.entry_bexc_ga ?_)
  refine @check_slot (model prog w) _ _ ⟨hp, g, d, t + 1, os⟩ "BaseException.__getattribute__" "BaseException" "__getattribute__" (.ref x) [.str "__class__" t] [] _ (by decide +kernel) (by decide +kernel) lsb (PySem.F.args_bexc_ga (.ref x) (.str "__class__" t)) ?_
  unfold Builtin.«object.__getattribute__»; refine wpAny_bind (wpAny_of_eq (a := ((Value.ref x : Value), [Value.str "__class__" t])) (by first | rfl | (simp only [slotArgs]; rfl)) ?_)
  refine wpAny_bind (wpAny_pure (wpAny_bind (ly.at (wpAny_bind (lfd.at ?_)))))
  show wpAny _ _ (holding [Value.builtin "object.__class__"] (call (.builtin "getset_descriptor.__get__") [.builtin "object.__class__", .ref x, .ref D]) >>= ret) _ _ _
  refine wpAny_bind (wpAny_holding (wpAny_call (class_get (s := ⟨hp, g, d, t + 1, os⟩) (ox := ox) (od := some od) X I T.hm ?_))); refine wpAny_pure ?_
  show wpAny _ _ (handedOut (.ref D)) _ _ _; rw [handedOut_of (v := .ref D) rfl]
  first | exact wpAny_pure (wpAny_pure h) | exact wpAny_pure h | exact wpAny_pure (wpAny_bind (wpAny_pure (wpAny_pure h)))
theorem kitX (T : ExcC K D) : KitX K (.ref x) (.ref D) (fun h => InstAt h x ox D (some od)) where
  ty := fun _ _ _ I => I.type
  it := fun M h X _ => by
    obtain ⟨c0, hc0, _⟩ := any_some T.hd
    unfold clsIn at hc0; split at hc0
    · next ho =>
      intro A' Q' E' s' k q
      obtain ⟨h1, g1, d1, t1, o1⟩ := s'
      exact ks_wpAny_isType_cls (k _ _ (X _ _ ho)) rfl q
    · cases hc0
  ne := fun h tp dd its n sl X htp => by
    obtain ⟨c0, hc0, _⟩ := any_some T.hd
    unfold clsIn at hc0; split at hc0
    · next ho =>
      refine Bool.eq_false_iff.mpr fun q => ?_
      have e := Value.ref.inj (beq_iff_eq.mp q)
      rw [← e, X _ _ ho] at htp; cases htp
    · cases hc0
  ca := fun X I k => class_ofX T X I k
end
/-- isinstance(e, c), e the error that the suite holds, with its dict -/
def rIsX (K : PySem.W.Frag) (D a : Addr) (cls : Value) (d : Option Addr) : List V → Hp → VK → Prop := fun xs H Q => ∃ (c : V) (cv : Value) (b : Bool) (dd : Addr) (fs : List (Str × V)), xs = [.ref a, c] ∧ (∀ u, RelV c u → u = cv) ∧ cls = .ref D ∧ d = some dd ∧ H dd = some (.xd fs) ∧ PySem.W.kitOne K (.ref D) cv = some b ∧ Q (.bl b) H
theorem call_isX {X : Cx} {K : PySem.W.Frag} {a D : Addr} {oe : Obj} {cls : Value} {d : Option Addr} {pn : List (Addr × Obj)} (C : ExcC K D) (hz : Zc cls d oe) (hf : ∃ vs, oe.data = .fields vs) (hK : X.K = K := by rfl) : CallR (X.suite a ((a, oe) :: pn)) (.builtin "isinstance") (rIsX K D a cls d) := by
  subst hK
  intro pins s σ H xs us Q I r h
  obtain ⟨c, cv, b, dd, fs, rfl, hcv, rfl, rfl, hd, e, q⟩ := h
  obtain ⟨u1, u2, rfl, r1, r2⟩ := vals2 r
  cases r1
  have ec := hcv _ r2
  subst ec
  obtain ⟨hget, _⟩ := I.pin (a, oe) (List.mem_append.mpr (.inl List.mem_cons_self))
  obtain ⟨vs, hv⟩ := hf
  obtain ⟨mA, ⟨o0, es, ep, ho0, _⟩, _⟩ := (show ObjOk X.prog X.w H s.heap dd (.xd fs) from I.hok dd _ hd)
  have J : PySem.W.InstAt s.heap a oe D (some o0) := ⟨hget, hz.1, by unfold PySem.W.notCls; rw [hv] <;> rfl, by rw [hz.2]; exact ho0⟩
  exact PySem.W.kia_one (kitX C) I.kIn J e (fun z => nomatch z) fun tk => ⟨.bl b, H, I.kept (t' := tk) fun _ _ z => z, rfl, q⟩
/-- e.f in the suite -/
theorem kxf {X : Cx} {K : PySem.W.Frag} {a C : Addr} {oe : Obj} {cls : Value} {d : Option Addr} {pn : List (Addr × Obj)} {e : Expr} {te : TE} {pos : Pos} {n : Str} (T : XfC K C) (hno : PySem.W.findIn K (.ref C) n = some none) (hz : Zc cls d oe) (hf : ∃ vs, oe.data = .fields vs) (he : PE (X.suite a ((a, oe) :: pn)) e te) (hK : X.K = K := by rfl) (hb : attributeBase e n X.env (eval e X.env) = eval e X.env := by rfl) :
    PE (X.suite a ((a, oe) :: pn)) (.Attribute e n pos) (tXf a cls d C n te) := by
  subst hK
  exact pe_xf T hno hz hf he hb
namespace Rd
theorem xf {a : Addr} {cls : Value} {d : Option Addr} {C : Addr} {f : Str} {te : TE} {σ : St} {H : Hp} {Q : VK} (h : te σ H fun x H1 => x = .ref a ∧ cls = .ref C ∧ ∃ (dd : Addr) (fs : List (Str × V)) (v : V), d = some dd ∧ H1 dd = some (.xd fs) ∧ fs.lookup f = some v ∧ Q v H1) : tXf a cls d C f te σ H Q := h
end Rd
end Fw

namespace Fw
open PySem PySem.Spec L2
/-- try: .. except C as n: .. (nothing else leaves) -/
def tTryAs (K : PySem.W.Frag) (c : Value) (i : Nat) (tb : WX → TS) (ts : Addr → Value → Option Addr → TS) : TS := fun D σ H => tb (wAs K c i ts (fun _ _ _ _ => False) D) D σ H
section
variable {X : Cx} {x n : Str} {c : Value} {body suite : List Stmt} {b₀ : Stmt} {np pos pos' : Pos} {tb : WX → TS} {ts : Addr → Value → Option Addr → TS}
theorem ktry_as (K : PySem.W.Frag) (i : Nat) (hN : X.N.Nodup) (hc : Names X x c)
    (hb : ∀ (W : WX) (pn : List (Addr × Obj)) (xe : Value → Shared → Prop), Takes (X.tr pn xe) W → PassesOwn (model X.prog X.w) X.A X.env xe → PSs (X.tr pn xe) body (tb W))
    (hsu : ∀ (a : Addr) (oe : Obj) (cls : Value) (d : Option Addr) (pn : List (Addr × Obj)), Zc cls d oe → (∃ vs, oe.data = .fields vs) → PSs (X.suite a ((a, oe) :: pn)) (b₀ :: suite) (ts a cls d))
    (hK : X.K = K := by rfl) (hs : X.stack = X.env :: X.outer := by rfl) (hf : X.env.frame = some X.env.locals := by rfl) (hi : X.N[i]? = some n := by rfl) (hln : X.env.kindOf n = some .local := by rfl) :
    PS X (.Try body [.ExceptHandler (some (.Name x np)) (some n) (b₀ :: suite) pos'] [] [] pos) (tTryAs K c i tb ts) := by
  subst hK
  exact ps_try_as hs hf hN hi hln hc takes0 hb hsu
/-- a call within a try's body -/
theorem pe_cfS {P : Program} {w : World} {K : PySem.W.Frag} {mg : Str → Option Value} {base : Heap} {nm q : Str} {st : Stmt} {ps : List Str} {k : Nat} {sp : Sp} {W : WX} {e : Expr} {es : List Expr} {t : TA} {p pos : Pos} (d : Df K mg nm q st ps) (F : FnOk P w K mg base (L2.CX P w) k d.f d.fd ps sp) (hr : Room k X.A) (tk : Takes X W)
    (ha : PA X (e :: es) t) (h1 : X.prog = P := by rfl) (h2 : X.w = w := by rfl) (h3 : X.K = K := by rfl) (h4 : X.mg = mg := by rfl) (h5 : X.base = base := by rfl) (hg : Gl X nm := by rfl) (hd : (nm == ("__debug__" : Str)) = false := by decide) (he : starEach (e :: es) X.env = (false, eval e X.env) :: starEach es X.env := by rfl) (hpl : (backTo pos (starEach es X.env)).any (·.1) = false := by rfl) :
    PE X (.Call (.Name nm p) (e :: es) [] pos) (tCallS sp (WE W) t) := by
  subst h1 h2 h3 h4 h5
  exact pe_callS F hr hg d.g d.F.kp d.b (fun σ => passAt tk σ) ha hd he hpl
end
namespace Rd
variable {K : PySem.W.Frag} {σ : St} {H : Hp} {Q : VK} {N : St → Hp → Prop} {r : VK} {bk ct : St → Hp → Prop}
theorem tryAs {c : Value} {i : Nat} {tb : WX → TS} {ts : Addr → Value → Option Addr → TS} (h : tb (wAs K c i ts (fun _ _ _ _ => False) (Ends.mk N r bk ct)) (Ends.mk N r bk ct) σ H) : tTryAs K c i tb ts (Ends.mk N r bk ct) σ H := h
theorem callS {sp : Sp} {E : St → XK} {t : TA} (h : t σ H fun vs H1 => sp vs H1 Q (E σ)) : tCallS sp E t σ H Q := h
/-- the clause takes it -/
theorem wAs_yes {c cls : Value} {d : Option Addr} {i : Nat} {ts : Addr → Value → Option Addr → TS} {Wo : WX} (te : PySem.W.exmOne K cls c = some true) (h : ∀ a, H a = none → ts a cls d (Ends.mk (fun σ' H' => N (σ'.set i none) H') r (fun σ' H' => bk (σ'.set i none) H') (fun σ' H' => ct (σ'.set i none) H')) (σ.set i (some (.ref a))) H) :
    WE (wAs K c i ts Wo (Ends.mk N r bk ct)) σ cls d H := ⟨true, te, fun _ a ha => h a ha, fun q => nomatch q⟩
theorem isX {D a dd : Addr} {cls cv : Value} {d : Option Addr} {c : V} {b : Bool} {fs : List (Str × V)} (hc : ∀ u, RelV c u → u = cv) (e1 : cls = .ref D) (e2 : d = some dd) (hd : H dd = some (.xd fs)) (e : PySem.W.kitOne K (.ref D) cv = some b) (q : Q (.bl b) H) : rIsX K D a cls d [.ref a, c] H Q := ⟨c, cv, b, dd, fs, rfl, hc, e1, e2, hd, e, q⟩
theorem isi {x c : V} {t u : Value} {b : Bool} (k : ClsV c u) (ty : TyX K H x t) (e : PySem.W.kitOne K t u = some b) (q : Q (.bl b) H) : rIsi K [x, c] H Q := ⟨x, c, t, u, b, rfl, k, ty, e, q⟩
end Rd
end Fw
namespace Fw
open PySem PySem.Spec L2
/-! ### lists and tuples of numbers, bools and texts, compared -/
def okV : V → Bool
  | .non => true
  | .bl _ => true
  | .int _ => true
  | .str x => PyData.canLay0 (.str x)
  | _ => false
def dOf : V → PyData
  | .bl b => .bool b
  | .int i => .int i
  | .str x => .str x
  | _ => .none
section
variable {K : PySem.W.Frag} {H : Hp} {Q : VK} {a b : Addr} {xs : List V}
theorem dp_all : ∀ {xs : List V}, xs.all okV = true → DpAll K H xs (xs.map dOf)
  | [], _ => .nil
  | x :: xs, h => by
    rw [List.all_cons, Bool.and_eq_true] at h
    refine .cons ?_ (dp_all h.2)
    cases x with
    | non => exact .non
    | bl b => exact .bl b
    | int i => exact .int i
    | str x => exact .str x
    | byt _ => exact Bool.noConfusion h.1
    | flt _ => exact Bool.noConfusion h.1
    | ref _ => exact Bool.noConfusion h.1
    | ty _ => exact Bool.noConfusion h.1
theorem can_all : ∀ {xs : List V}, xs.all okV = true → PyData.canLayAll0 (xs.map dOf) = true
  | [], _ => rfl
  | x :: xs, h => by
    rw [List.all_cons, Bool.and_eq_true] at h
    show (PyData.canLay0 (dOf x) && PyData.canLayAll0 (xs.map dOf)) = true
    rw [can_all h.2, Bool.and_true]
    cases x with
    | str x => exact h.1
    | _ => first | rfl | exact Bool.noConfusion h.1
theorem depth_all : ∀ xs : List V, PyData.depthAll (xs.map dOf) = 0
  | [] => rfl
  | x :: xs => by
    show max (PyData.depth (dOf x)) (PyData.depthAll (xs.map dOf)) = 0
    rw [depth_all xs]
    cases x <;> rfl
theorem shL (h : xs.all okV = true) : SeqAt.shaped (.list (xs.map dOf)) = true := by
  show (PyData.canLayAll0 (xs.map dOf) && decide (PyData.depthAll (xs.map dOf) + 1 ≤ 64)) = true
  rw [can_all h, depth_all]; rfl
theorem shT (h : xs.all okV = true) : SeqAt.shaped (.tuple (xs.map dOf)) = true := by
  show (PyData.canLayAll0 (xs.map dOf) && decide (PyData.depthAll (xs.map dOf) + 1 ≤ 64)) = true
  rw [can_all h, depth_all]; rfl
theorem reflL (h : xs.all okV = true) : PyData.eqv (.list (xs.map dOf)) (.list (xs.map dOf)) = true := SeqAt.eqv_refl _ (can_all h)
theorem reflT (h : xs.all okV = true) : PyData.eqv (.tuple (xs.map dOf)) (.tuple (xs.map dOf)) = true := SeqAt.eqv_refl _ (can_all h)
namespace Rd
theorem eqLs (h1 : SqL K H a xs) (h2 : SqL K H b xs) (h : xs.all okV = true) (q : Q (.bl true) H) : rEqA K (.ref a) (.ref b) H Q := Rd.eqD (.lst h1 (dp_all h)) (.lst h2 (dp_all h)) (shL h) (shL h) (by rw [reflL h]; exact q)
theorem neLs (h1 : SqL K H a xs) (h2 : SqL K H b xs) (h : xs.all okV = true) (q : Q (.bl false) H) : rNeA K (.ref a) (.ref b) H Q := Rd.neD (.lst h1 (dp_all h)) (.lst h2 (dp_all h)) (shL h) (shL h) (by rw [reflL h]; exact q)
theorem eqTs (h1 : SqT K H a xs) (h2 : SqT K H b xs) (h : xs.all okV = true) (q : Q (.bl true) H) : rEqA K (.ref a) (.ref b) H Q := Rd.eqD (.tup h1 (dp_all h)) (.tup h2 (dp_all h)) (shT h) (shT h) (by rw [reflT h]; exact q)
theorem neTs (h1 : SqT K H a xs) (h2 : SqT K H b xs) (h : xs.all okV = true) (q : Q (.bl false) H) : rNeA K (.ref a) (.ref b) H Q := Rd.neD (.tup h1 (dp_all h)) (.tup h2 (dp_all h)) (shT h) (shT h) (by rw [reflT h]; exact q)
theorem iteBT {b : Bool} {A B : Prop} (hb : b = true) (h : A) : if b = true then A else B := by rw [if_pos hb]; exact h
theorem iteBF {b : Bool} {A B : Prop} (hb : b = false) (h : B) : if b = true then A else B := by rw [hb, if_neg Bool.false_ne_true]; exact h
theorem iteDT {c A B : Prop} [Decidable c] (hc : c) (h : A) : if decide c = true then A else B := by rw [decide_eq_true hc, if_pos rfl]; exact h
theorem iteDF {c A B : Prop} [Decidable c] (hc : ¬ c) (h : B) : if decide c = true then A else B := by rw [decide_eq_false hc, if_neg Bool.false_ne_true]; exact h
theorem iteNDT {c A B : Prop} [Decidable c] (hc : c) (h : B) : if (!decide c) = true then A else B := by rw [decide_eq_true hc]; exact h
theorem iteNDF {c A B : Prop} [Decidable c] (hc : ¬ c) (h : A) : if (!decide c) = true then A else B := by rw [decide_eq_false hc]; exact h
end Rd
end
/-- o.m(), by the facts -/
theorem pe_m0g {X : Cx} {pl : Sem Bool} {P : Program} {w : World} {K : PySem.W.Frag} {mg : Str → Option Value} {base : Heap} {CX : CXT} {m : Str} {C f : Addr} {fd : FuncData} {k : Nat} {ps : List Str} {sp : Sp} {E : XK} {o : Expr} {ta : TE} {apos pos : Pos} (he : PE X o ta) (c : Cls K C) (hm : Meth K C m f) (F : FnOk P w K mg base CX k f fd ps sp) (hr : Room k X.A) (hx : Passes CX X E) (hb : Binds K fd ps [])
    (h1 : X.prog = P := by rfl) (h2 : X.w = w := by rfl) (h3 : X.K = K := by rfl) (h4 : X.mg = mg := by rfl) (h5 : X.base = base := by rfl)
    (ht : eval (.Call (.Attribute o m apos) [] [] pos) X.env = (do let ov ← eval o X.env; standAt apos.atName; let (f, first) ← holding [ov] (getMethod ov m pl); callWith pos f first (backTo pos (starEach [] X.env)) (backToKw pos (keywordEach [] X.env))) := by rfl) :
    PE X (.Call (.Attribute o m apos) [] [] pos) (tMeth C m sp [] E ta tNil) := by
  subst h1 h2 h3 h4 h5
  exact pe_meth0 (pl := pl) he c hm F hr hb .nil hx ht
end Fw

namespace Fw
open PySem PySem.Spec L2
/-- one expression, read in one of several ways (an object of one of several classes) -/
def tAltN (n : Nat) (t : Nat → TE) : TE := fun σ H Q => ∃ m, m < n ∧ t m σ H Q
theorem pe_altN {X : Cx} {e : Expr} {n : Nat} {t : Nat → TE} (h : ∀ m, m < n → PE X e (t m)) : PE X e (tAltN n t) := ⟨fun pins s σ H Q I ⟨m, hm, q⟩ => (h m hm).run pins s σ H Q I q⟩
theorem Rd.alt {n m : Nat} {t : Nat → TE} {σ : St} {H : Hp} {Q : VK} (hm : m < n) (h : t m σ H Q) : tAltN n t σ H Q := ⟨m, hm, h⟩
end Fw

set_option Elab.async false
set_option linter.all false
set_option maxRecDepth 100000
set_option maxHeartbeats 4000000
/-! more readings: enumerate, two for, two except clauses -/
namespace Fw
open PySem PySem.Spec L2
section
variable {X : Cx} (K : PySem.W.Frag)
theorem kenum {e : Expr} {ta : TA} {p pos tpos : Pos} {elts : List Expr} {kk : Nat} (hm : X.mg "enumerate" = none) (ha : PA X [e] ta) (h : X.K = K := by rfl) (hg : Gl X "enumerate" := by rfl) (hs : starEach [e] X.env = [(false, eval e X.env)] := by rfl) :
    PI X (.Tuple elts kk tpos) (.Call (.Name "enumerate" p) [e] [] pos) (iEnum K ta) := by subst h; exact pi_enum hg hm ha hs
theorem kgt2 {e1 e2 : Expr} {k : Nat} {t1 t2 : TG} {pos : Pos} (h1 : PG X e1 t1) (h2 : PG X e2 t2) (hc : X.calm = true := by rfl) (h : X.K = K := by rfl) (hn : (assignEach [e1, e2] X.env).length = 2 := by rfl) (hst : (assignEach [e1, e2] X.env).findIdx? (·.1) = none := by rfl)
    (hs : (assignEach [e1, e2] X.env).map (·.2) = assign e1 X.env :: (assignEach [e2] X.env).map (·.2) := by rfl) (hs2 : (assignEach [e2] X.env).map (·.2) = assign e2 X.env :: (assignEach [] X.env).map (·.2) := by rfl) :
    PG X (.Tuple [e1, e2] k pos) (gTup K 2 (gCons t1 (gCons t2 gNil))) := by
  subst h; exact pg_tup hc (pgs_cons h1 (pgs_cons h2 pgs_nil hs2) hs) hn hst
end
/-- what is left of a comprehension with two for -/
def Lc2Go (J : It) (g : TG) (tt : TT) (wi1 : TI) (g1 : TG) (tt1 : TT) (te : TE) (vs vs1 : List Nat) (σ : St) (H1 : Hp) (Q : VK) : Prop := tLc2 (fun _ H R => R J H) g tt wi1 g1 tt1 te vs vs1 σ H1 Q
namespace Rd
variable {K : PySem.W.Frag} {σ : St} {H : Hp} {Q : VK} {te tl tl1 : TE} {ta : TA} {tt tt1 : TT} {g g1 : TG} {wi1 : TI} {vs vs1 : List Nat} {tb : TS} {D : Ends} {J : It} {n : Nat}
theorem foE (h : ta σ H fun us H1 => ∃ a, us = [.ref a] ∧ (∃ xs, SqL K H1 a xs) ∧ FoGo (Ite K a) g tb D σ H1) : tFor (iEnum K ta) g tb D σ H := by
  unfold tFor iEnum
  have e : (fun us H1 => ∃ a, us = [V.ref a] ∧ (∃ xs, SqL K H1 a xs) ∧ FoGo (Ite K a) g tb D σ H1) = fun us H1 => ∃ a xs, us = [V.ref a] ∧ SqL K H1 a xs ∧ FoGo (Ite K a) g tb D σ H1 := by
    funext us H1
    exact propext ⟨fun ⟨a, e, ⟨xs, h⟩, k⟩ => ⟨a, xs, e, h, k⟩, fun ⟨a, xs, e, h, k⟩ => ⟨a, e, ⟨xs, h⟩, k⟩⟩
  rw [e] at h
  exact h
theorem exlist1 {a : Addr} {xs : List V} {P : Addr → Prop} (hs : SqL K H a xs) (h : P a) : ∃ b, [V.ref a] = [.ref b] ∧ (∃ xs, SqL K H b xs) ∧ P b := ⟨a, rfl, ⟨xs, hs⟩, h⟩
/-- for i, x in enumerate(xs) -/
theorem foP {a : Addr} {xs : List V} {s1 s2 : Nat} {N : St → Hp → Prop} {r : VK} {bk ct : St → Hp → Prop} (Pv : Nat → St → Hp → Prop) (h0 : Pv 0 σ H) (hG : ∀ i σ H, i ≤ xs.length → Pv i σ H → SqL K H a xs)
    (step : ∀ i x σ H T, i < xs.length → xs[i]? = some x → Pv i σ H → H T = none → tb (Ends.mk (Pv (i + 1)) r N (Pv (i + 1))) ((σ.set s1 (some (.int (i : Nat)))).set s2 (some x)) (upd H T (.tup [.int (i : Nat), x]))) (fin : ∀ σ H, Pv xs.length σ H → N σ H) :
    FoGo (Ite K a) (gTup K 2 (gCons (gName s1) (gCons (gName s2) gNil))) tb (Ends.mk N r bk ct) σ H :=
  for_it walk_enum Pv h0 hG (fun i v σ H H' hi p ⟨T, y, x, e1, e2, e3, e4, e5⟩ => by
    cases e4; subst e1; subst e3
    exact ⟨T, _, rfl, SqT.of upd_same, rfl, _, _, rfl, _, _, rfl, rfl, step i x σ H T hi e5 p e2⟩) fin
theorem lc2L (h : tl σ H fun x H1 => ∃ a, x = .ref a ∧ (∃ xs, SqL K H1 a xs) ∧ Lc2Go (Itl K a) g tt wi1 g1 tt1 te vs vs1 σ H1 Q) : tLc2 (iList K tl) g tt wi1 g1 tt1 te vs vs1 σ H Q := h
/-- [e for x in xs for y in ys if t]: Jv by the two turns, items made and heap -/
theorem lc2W {s s1 : Nat} {a b : Addr} {xs ys : List V} (hss : s ≠ s1) (hn : xs.length * ys.length < sizeLine) (Jv : Nat → Nat → List V → Hp → Prop) (h0 : Jv 0 0 [] H)
    (hst : ∀ D, H D = none → ∀ i j acc zs H', (∀ a o, H' a = some (.tup o) → a ≠ D) → Jv i j acc H' → Jv i j acc (upd H' D (.lst zs))) (hG : ∀ i j acc H', Jv i j acc H' → SqL K H' a xs ∧ SqL K H' b ys)
    (hin : ∀ x H', tl1 (((σ.set s1 none).set s none).set s (some x)) H' fun z H1 => z = .ref b ∧ H1 = H') (hmono : ∀ (σ : St) (H : Hp) (Q R : VK), (∀ v H, Q v H → R v H) → tl1 σ H Q → tl1 σ H R)
    (hend : ∀ i acc H', i < xs.length → Jv i ys.length acc H' → Jv (i + 1) 0 acc H')
    (step : ∀ D, H D = none → ∀ i j x y acc H', xs[i]? = some x → ys[j]? = some y → H' D = some (.lst acc) → Jv i j acc H' → ∀ (Kt : V → Hp → Prop) (Kf : Hp → Prop), (∀ z H4, H4 D = some (.lst acc) → Jv i (j + 1) (acc ++ [z]) H4 → Kt z H4) → (∀ H3, H3 D = some (.lst acc) → Jv i (j + 1) acc H3 → Kf H3) →
      tt1 ((((σ.set s1 none).set s none).set s (some x)).set s1 (some y)) H' fun c H3 => if c = true then te ((((σ.set s1 none).set s none).set s (some x)).set s1 (some y)) H3 Kt else Kf H3)
    (fin : ∀ D acc H', H D = none → H' D = some (.lst acc) → acc.length ≤ xs.length * ys.length → Jv xs.length 0 acc H' → Q (.ref D) H') :
    Lc2Go (Itl K a) (gName s) tYes (iList K tl1) (gName s1) tt1 te [s, s1] [s1] σ H Q := by
  intro D hD
  refine ⟨fun i m H' => m = xs.length - i ∧ i ≤ xs.length ∧ ∃ acc, H' D = some (.lst acc) ∧ acc.length ≤ i * ys.length ∧ Jv i 0 acc H', ⟨_, rfl, Nat.zero_le _, [], upd_same, Nat.zero_le _, hst D hD _ _ _ _ _ (fun a o e z => by rw [z, hD] at e; cases e) h0⟩, ?_⟩
  rintro i m H' ⟨rfl, hi, acc, a1, a2, a3⟩
  rcases Nat.lt_or_ge i xs.length with lt | ge
  · refine .inr ⟨⟨xs, xs[i], (hG _ _ _ _ a3).1, List.getElem?_eq_getElem lt⟩, fun H'' => i + 1 ≤ xs.length ∧ ∃ acc, H'' D = some (.lst acc) ∧ acc.length ≤ (i + 1) * ys.length ∧ Jv (i + 1) 0 acc H'', fun H'' q => ⟨xs.length - (i + 1), by omega, rfl, q.1, q.2⟩, ?_⟩
    rintro x H2 ⟨rfl, hx⟩
    have hx' := hx xs (hG _ _ _ _ a3).1
    have w0 : wipe σ [s, s1] = (σ.set s1 none).set s none := rfl
    rw [w0]
    refine ⟨?_, ?_⟩
    · show ((((σ.set s1 none).set s none).set s (some x)).set s1 none).set s none = (σ.set s1 none).set s none
      rw [List.set_set, List.set_comm (some x) none hss, List.set_set, List.set_set]
    · show tl1 _ _ _
      refine hmono _ _ _ _ (fun z H1 ⟨e1, e2⟩ => ?_) (hin x _)
      subst e1 e2
      refine ⟨b, rfl, ⟨ys, (hG _ _ _ _ a3).2⟩, ?_⟩
      refine ⟨fun j k H'' => k = ys.length - j ∧ j ≤ ys.length ∧ ∃ acc, H'' D = some (.lst acc) ∧ acc.length ≤ i * ys.length + j ∧ Jv i j acc H'', ⟨_, rfl, Nat.zero_le _, acc, a1, a2, a3⟩, ?_⟩
      rintro j k H'' ⟨rfl, hj, acc, b1, b2, b3⟩
      rcases Nat.lt_or_ge j ys.length with lt1 | ge1
      · refine .inr ⟨⟨ys, ys[j], (hG _ _ _ _ b3).2, List.getElem?_eq_getElem lt1⟩, fun H3 => j + 1 ≤ ys.length ∧ ∃ acc, H3 D = some (.lst acc) ∧ acc.length ≤ i * ys.length + (j + 1) ∧ Jv i (j + 1) acc H3, fun H3 q => ⟨ys.length - (j + 1), by omega, rfl, q.1, q.2⟩, ?_⟩
        rintro y H3 ⟨rfl, hy⟩
        have hy' := hy ys (hG _ _ _ _ b3).2
        have w1 : wipe ((((σ.set s1 none).set s none).set s (some x))) [s1] = ((σ.set s1 none).set s none).set s (some x) := by
          show (((σ.set s1 none).set s none).set s (some x)).set s1 none = _
          rw [List.set_set, List.set_comm (some x) none hss, List.set_set]
        rw [w1]
        refine ⟨?_, ?_⟩
        · show ((((σ.set s1 none).set s none).set s (some x)).set s1 (some y)).set s1 none = _
          rw [List.set_set]
          exact w1
        · have lt2 : i * ys.length + j < xs.length * ys.length := Nat.lt_of_lt_of_le (show i * ys.length + j < (i + 1) * ys.length by rw [Nat.succ_mul]; omega) (Nat.mul_le_mul_right _ lt)
          refine step D hD i j x y acc _ hx' hy' b1 b3 _ _ (fun z H4 c1 c2 => ⟨acc, c1, by omega, lt1, acc ++ [z], upd_same, by rw [List.length_append, List.length_singleton]; omega, hst D hD _ _ _ _ _ (fun a o e z => by rw [z, c1] at e; cases e) c2⟩) fun H3 c1 c2 => ⟨lt1, acc, c1, by omega, c2⟩
      · have ej : j = ys.length := by omega
        subst ej
        exact .inl ⟨⟨ys, (hG _ _ _ _ b3).2, Nat.le_refl _⟩, lt, acc, b1, by rw [Nat.succ_mul]; exact b2, hend i acc _ lt b3⟩
  · have ei : i = xs.length := by omega
    subst ei
    exact .inl ⟨⟨xs, (hG _ _ _ _ a3).1, Nat.le_refl _⟩, fin D acc _ hD a1 a2 a3⟩
end Rd
end Fw

set_option Elab.async false
set_option linter.all false
set_option maxRecDepth 100000
set_option maxHeartbeats 4000000
/-! len(o), o of an own class with __len__ -/
namespace Fw
open PySem PySem.Spec PyProof.Rows L2
section
variable {X : Cx} {pins : List (Addr × Obj)} {σ : L2.St} {H : Hp} {s : Shared} {n : Nat} {a f C : Addr} {fd : FuncData} {sp : Sp}
/-- a method without arguments, called by a built-in -/
theorem own_run {A1 : Around} {Q : VK} {ps : List Str} (sb : Sub X n A1) (F : FnOk X.prog X.w X.K X.mg X.base CX0 n f fd ps sp) (b : Binds X.K fd ps []) (I : Inv X pins σ H s) (h : sp [.ref a] H Q E0) :
    wpAny (model X.prog X.w) A1 (call (.ref f) [.ref a]) (EP X pins σ Q) X.xe s := by
  have e := I.env0
  have e1 : Env0 X.prog X.w X.K X.mg X.base A1 X.stack s H := ⟨by rw [sb.fr]; exact e.frames, e.mod, e.bs, e.bsz, e.funs, e.frf, e.hok, e.bare⟩
  have hl := F.len _ _ _ _ h
  have bd := b s [.ref a] I.kIn (by rw [List.append_nil]; exact hl)
  rw [List.append_nil] at bd
  refine wpAny_call (codeAny_mono (F.run A1 X.stack s H ⟨[.ref a], []⟩ [.ref a] [.ref a] Q E0 sb.room e1 bd (.cons rfl .nil) h) fun r z hq => ?_)
  match r, hq with
  | .error e, hq => exact pass0 pins σ H s e z I hq
  | .ok (.ret u), hq => exact I.after hq
  | .ok .next, hq => exact hq.elim
  | .ok .brk, hq => exact hq.elim
  | .ok .cont, hq => exact hq.elim
/-- len(o) -/
def rLenO (K : PySem.W.Frag) (C : Addr) (sp : Sp) : List V → Hp → VK → Prop := fun xs H Q => ∃ (a dx : Addr) (fs : List (Str × V)), xs = [.ref a] ∧ H a = some (.ins C dx fs) ∧ sp [.ref a] H (fun v H' => ∃ i : Nat, v = .int i ∧ i < 1000000 ∧ Q (.int i) H') E0
theorem call_lenO {ps : List Str} (hs : PySem.W.findIn X.K (.ref C) "__len__" = some (some (.ref f))) (hf : PySem.W.isFn X.K (.ref f) = true) (F : FnOk X.prog X.w X.K X.mg X.base CX0 n f fd ps sp) (b : Binds X.K fd ps []) (hr : Room (n + 1) X.A) : CallR X (.builtin "len") (rLenO X.K C sp) := by
  intro pins s σ H xs us Q I r h
  obtain ⟨a, dx, fs, rfl, ha, h⟩ := h
  rw [Vals.ref1 r]
  obtain ⟨mA, J, _⟩ := ins_get I.hok ha
  obtain ⟨od, J, _⟩ := J.look
  obtain ⟨m0, hF⟩ := I.fr
  have sb : Sub X n X.A.in1 := ⟨hr.in1, rfl⟩
  refine Calls.call_function_entry kind_len plain_len entry_len (args_len1 _) ?_
  unfold Builtin.«len»
  refine wpAny_bind (m := oneArg "len" _) (wpAny_pure ?_)
  refine wpAny_bind (m := callSpecial? (.ref a) (PySem.Str.ofString "__len__")) ?_
  simp only [callSpecial?]
  refine wpAny_bind (wpAny_bind (J.type.here ((PySem.W.looks_findIn I.kIn hs).here ?_)))
  refine wpAny_holding (wpAny_bind ((PySem.W.bind_fn I.kIn _ (beq_iff_eq.mp hf)).here ?_))
  refine wpAny_bind (wpAny_mono (own_run sb F b I h) (fun u z hz => ?_) fun _ _ y => y)
  obtain ⟨v, H', I', rv, i, rfl, hi, q⟩ := hz
  obtain ⟨tk, rfl⟩ := rv
  refine wpAny_pure ?_
  refine wpAny_bind (wpAny_holding (wpAny_pure ?_))
  refine wpAny_bind (wpAny_letGo ?_)
  show wpAny _ _ (if ((i : Nat) : Int) < 0 then _ else _) _ _ _
  rw [if_neg (by omega)]
  show wpAny _ _ (if ((i : Nat) : Int) ≥ 2 ^ 63 then _ else _) _ _ _
  rw [if_neg (by omega)]
  exact wpAny_bind (wpAny_mkInt (wpAny_pure ⟨_, rfl, ⟨.int i, H', I'.tok _, ⟨_, rfl⟩, q⟩⟩))
end
end Fw

set_option Elab.async false
set_option linter.all false
set_option maxRecDepth 100000
set_option maxHeartbeats 4000000
/-! iter(tuple); for x in o, o of an own class whose __iter__ gives such an iterator -/
namespace Fw
open PySem PySem.Spec PyProof.Rows L2
/-- at it an iterator over the tuple at l, not yet asked -/
def TitO (l it : Addr) : HO := .ext fun h => h.IsTupleIter it l 0
theorem titO_ok {P : Program} {w : World} {H : Hp} {h : Heap} {l it : Addr} (e : h.IsTupleIter it l 0) : ObjOk P w H h it (TitO l it) := by
  obtain ⟨o, e1, e2, e3⟩ := e
  exact ⟨⟨o, e1, e2, e3⟩, ⟨o, e1⟩, fun h1 h2 ⟨u, a, b, c⟩ k => ⟨u, k u a, b, c⟩⟩
def rIterT (K : PySem.W.Frag) (n : Nat) : List V → Hp → VK → Prop := fun xs H Q => ∃ (l : Addr) (zs : List V), xs = [.ref l] ∧ SqT K H l zs ∧ ∀ it, H it = none → n ≤ it → Q (.ref it) (upd H it (TitO l it))
section
variable {X : Cx}
theorem call_iterT : CallR X (.builtin "iter") (rIterT X.K X.s_0.heap.objs.size) := by
  intro pins s σ H xs us Q I r h
  obtain ⟨l, zs, rfl, hq, q⟩ := h
  rw [Vals.ref1 r]
  obtain ⟨its, rv, pl, hz⟩ := I.tuple hq
  refine Calls.call_function_entry (by decide +kernel) (by decide +kernel) PySem.W.kdk_entry_iter (PySem.W.kdk_args_iter _) ?_
  unfold Builtin.«iter»
  refine wpAny_bind (m := someArgs "iter" 1 2 _) (wpAny_of_eq (a := [Value.ref l]) (by first | rfl | kernel_rfl!) ?_)
  refine wpAny_bind (m := pyIter (.ref l)) (wpAny_pyIter_tuple (show s.heap.IsTuple l its.toArray from pl) ?_)
  have new : (s.heap.push { cls := .type "tuple_iterator", data := .fields #[.ref l, .int 0 0] }).IsTupleIter s.heap.objs.size l 0 := ⟨_, Heap.get?_push_size _ rfl, rfl, rfl⟩
  exact wpAny_pure ⟨_, rfl, .ref s.heap.objs.size, _, I.laid (t' := s.toks) (fun b u e => Heap.get?_push_of_some _ e) (Nat.le_refl _) (titO_ok new), rfl, q _ (I.hok.fresh (Nat.le_refl _)) I.sz⟩
variable {n : Nat} {f C : Addr} {fd : FuncData} {sp : Sp}
theorem own_runE {pins : List (Addr × Obj)} {σ : L2.St} {H : Hp} {s : Shared} {a : Addr} {A1 : Around} {Q : VK} {ps : List Str} (sb : Sub X n A1) (F : FnOk X.prog X.w X.K X.mg X.base CX0 n f fd ps sp) (b : Binds X.K fd ps []) (I : Inv X pins σ H s) (h : sp [.ref a] H Q E0) :
    wpAny (model X.prog X.w) A1 (call (.ref f) [.ref a]) (CE X.stack X.prog X.w H s Q) X.xe s := by
  have e := I.env0
  have e1 : Env0 X.prog X.w X.K X.mg X.base A1 X.stack s H := ⟨by rw [sb.fr]; exact e.frames, e.mod, e.bs, e.bsz, e.funs, e.frf, e.hok, e.bare⟩
  have hl := F.len _ _ _ _ h
  have bd := b s [.ref a] I.kIn (by rw [List.append_nil]; exact hl)
  rw [List.append_nil] at bd
  refine wpAny_call (codeAny_mono (F.run A1 X.stack s H ⟨[.ref a], []⟩ [.ref a] [.ref a] Q E0 sb.room e1 bd (.cons rfl .nil) h) fun r z hq => ?_)
  match r, hq with
  | .error e, hq => exact pass0 pins σ H s e z I hq
  | .ok (.ret u), hq => exact hq
  | .ok .next, hq => exact hq.elim
  | .ok .brk, hq => exact hq.elim
  | .ok .cont, hq => exact hq.elim
end
end Fw

set_option Elab.async false
set_option linter.all false
set_option maxRecDepth 100000
set_option maxHeartbeats 4000000
/-! a def's contract that may speak of the state at its start; for x in o by an own __iter__ -/
namespace Fw
open PySem PySem.Spec PyProof.Rows L2
abbrev SpY := Shared → List V → Hp → VK → Prop
structure FnY (P : Program) (w : World) (K : PySem.W.Frag) (mg : Str → Option Value) (base : Heap) (k : Nat) (f : Addr) (fd : FuncData) (ps : List Str) (sp : SpY) : Prop where
  len : ∀ s vs H Q, sp s vs H Q → vs.length = ps.length
  run : ∀ (A : Around) (outer : List Env) (s : Shared) (H : Hp) (args : Args) (us : List Value) (vs : List V) (Q : VK), Room k A → Env0 P w K mg base A outer s H → BindsTo s fd args (ps.zip us) → Vals vs us → sp s vs H Q →
    codeAny (model P w) A (.call (.ref f) args) (CR CX0 outer P w H s Q E0) s
theorem Fun.okY {P : Program} {w : World} {K : PySem.W.Frag} {mg : Str → Option Value} {base : Heap} {x qual : Str} {st : Stmt} {f : Addr} {fd : FuncData} {N ps : List Str} {k : Nat} {sp : SpY} (F : Fun K x qual st f fd) (S : FnScope N ps (defScope st)) (len : ∀ s vs H Q, sp s vs H Q → vs.length = ps.length)
    (hb : ∀ (cdv : Value) (A : Around) (outer : List Env) (s : Shared) (H : Hp) (vs : List V) (Q : VK), Room k (A.deeper (envOfC qual (defScope st) s.heap.objs.size f cdv)) → sp s vs H Q →
      ∃ t, PSs (cxOf CX0 P w K mg base N qual (defScope st) f cdv A outer s H E0).nox (defBody st) t ∧ t { nx := fun _ H' => Q .non H', rt := Q } (start N vs) H) : FnY P w K mg base (k + 1) f fd ps sp := by
  obtain ⟨_, _, _, _, _, _, cdv, _, _, rfl, lk, hcd⟩ := F.ex
  constructor
  · exact len
  intro A outer s H args us vs Q hr e0 bnd r h
  have In1 : K.In s.heap := e0.mod.kin.keeps fun b o e => (e0.bs b o e).1
  have kinds : ∀ y ∈ ps.zip us, (defScope st).names.lookup y.1 = some .local ∨ ((defScope st).names.lookup y.1 = some .cell ∧ ((cellsFrom (s.heap.objs.size + 1) (defScope st).names []).lookup y.1).isSome = true) := by
    rintro ⟨n, v⟩ hy
    exact (S.par n (List.of_mem_zip hy).1).imp id fun q => ⟨q, PySem.W.cellsFrom_some _ _ _ (.inl q)⟩
  refine codeAny_call_function hr.depth (In1 _ _ lk) rfl S.co S.gen rfl (PySem.W.codeRec_of In1 hcd) (bnd _ _ _ _ (wpAny_newFunctionEnv_cells S.kind kinds fun env he s1 y => ?_))
  subst he
  obtain ⟨t, ht, q⟩ := hb cdv A outer s H vs Q (hr.deeper _) h
  have nolim : s.heap.NoLimit := e0.mod.nolimit.keeps fun b o e => (e0.bs b o e).1
  have J : Inv (cxOf CX0 P w K mg base N qual (defScope st) f cdv A outer s H E0) [] (start N vs) H s1 := inv_start S hr.hd e0 (len _ _ _ _ h) r y
  have out : ∀ {σ : L2.St} {H' : Hp} {v : V} {u : Value} {z : Shared}, Inv (cxOf CX0 P w K mg base N qual (defScope st) f cdv A outer s H E0) [] σ H' z → RelV v u → Q v H' → CE outer P w H s Q u z := fun I rv q => ⟨_, _, I.os, I.bare, I.base, I.hok, rv, q⟩
  refine ⟨nolim.keeps y.toInCall.keep, codeAny_func (wpAny_mono (ht.nox.run [] s1 (start N vs) H _ J q) (fun fl z hz => ?_) fun e z hz => hz)⟩
  match fl, hz with
  | .ret u, ⟨_, _, _, I, rv, q⟩ => exact out I rv q
  | .next, ⟨_, _, I, q⟩ => exact out (v := V.non) (u := Value.none) I rfl q
  | .brk, ⟨_, _, _, q⟩ => exact q.elim
  | .cont, ⟨_, _, _, q⟩ => exact q.elim
section
variable {X : Cx} {n : Nat} {f C : Addr} {fd : FuncData}
/-- what such an __iter__ gives: a new iterator over the tuple at l -/
def spIterT (L : Hp → Addr → Addr → Prop) : SpY := fun s vs H Q => ∃ a l, vs = [.ref a] ∧ L H a l ∧ ∀ it, H it = none → s.heap.objs.size ≤ it → Q (.ref it) (upd H it (TitO l it))
/-- for x in o -/
def iOwn (C : Addr) (L : Hp → Addr → Addr → Prop) (K : PySem.W.Frag) (te : TE) : TI := fun σ H R => te σ H fun x H1 => ∃ (a dx : Addr) (fs : List (Str × V)) (l : Addr), x = .ref a ∧ H1 a = some (.ins C dx fs) ∧ L H1 a l ∧ R (Itt K l) H1
theorem pi_own {L : Hp → Addr → Addr → Prop} {tg o : Expr} {te : TE} {ps : List Str} (he : PE X o te) (hs : PySem.W.findIn X.K (.ref C) "__iter__" = some (some (.ref f))) (hf : PySem.W.isFn X.K (.ref f) = true) (F : FnY X.prog X.w X.K X.mg X.base n f fd ps (spIterT L)) (b : Binds X.K fd ps []) (hr : Room n X.A) :
    PI X tg o (iOwn C L X.K te) := by
  refine ⟨fun pins s σ H R I h => ?_⟩
  refine thn (he.run pins s σ H _ I h) fun v s1 ⟨x, H1, I1, r1, a, dx, fs, l, ex, ha, hL, q⟩ => ?_
  subst ex
  cases r1
  obtain ⟨mA, J, _⟩ := ins_get I1.hok ha
  obtain ⟨od, J, _⟩ := J.look
  obtain ⟨m0, hF⟩ := I1.fr
  refine PySem.W.owit_iter hF I1.ok.mod.kin J hs hf ?_
  have e := I1.env0
  let QQ : VK := fun v H2 => ∃ it, v = .ref it ∧ H1 it = none ∧ s1.heap.objs.size ≤ it ∧ H2 = upd H1 it (TitO l it)
  have hsp : spIterT L s1 [.ref a] H1 QQ := ⟨a, l, rfl, hL, fun it hn hy => ⟨it, rfl, hn, hy, rfl⟩⟩
  have hl := F.len _ _ _ _ hsp
  have bd := b s1 [.ref a] I1.kIn (by rw [List.append_nil]; exact hl)
  rw [List.append_nil] at bd
  refine wpAny_call (codeAny_mono (F.run X.A X.stack s1 H1 ⟨[.ref a], []⟩ [.ref a] [.ref a] QQ hr e bd (.cons rfl .nil) hsp) fun r z hq => ?_)
  match r, hq with
  | .error e, hq => exact pass0 pins σ H1 s1 e z I1 hq
  | .ok .next, hq => exact hq.elim
  | .ok .brk, hq => exact hq.elim
  | .ok .cont, hq => exact hq.elim
  | .ok (.ret u), hq =>
    obtain ⟨v2, H2, I2, rv, it, rfl, hn, hy, rfl⟩ := I1.after hq
    cases rv
    have hit : z.heap.IsTupleIter it l 0 := (show ObjOk X.prog X.w _ z.heap it (TitO l it) from I2.hok it _ upd_same).1
    obtain ⟨oi, g1, g2, _⟩ := id hit
    have I3 := ItX.inv_drop I2 (show (upd H1 it (TitO l it)) it = some (.ext _) from upd_same)
    rw [ItX.dropH_upd hn] at I3
    refine wpAny_specialOf (T := "tuple_iterator") ⟨oi, g1, g2⟩ PySem.F.slot_tuple_iterator_next.lookup ?_
    exact ⟨it, [it], _, Itt X.K l, _, rfl, I3, turn_tuple l it, hit, fun b hb => by rw [List.mem_singleton.mp hb]; exact I1.fpOk hy hn, q⟩
end
end Fw

set_option Elab.async false
set_option linter.all false
set_option maxRecDepth 100000
set_option maxHeartbeats 4000000
/-! several clauses 'except C as n'; calls of classes and methods in a try -/
namespace Fw
open PySem PySem.Spec PyProof.Rows L2
abbrev Cl := Value × (Addr → Value → Option Addr → TS)
/-- what the clauses wish of an error of the body -/
def wAsN (K : PySem.W.Frag) (i : Nat) (Wout : WX) (D : Ends) : List Cl → WX
  | [] => Wout
  | q :: r => wAs K q.1 i q.2 (wAsN K i Wout D r) D
inductive ClsOk (X : Cx) (n : Str) : List ExceptHandler → List Cl → Prop
  | nil : ClsOk X n [] []
  | cons {x : Str} {c : Value} {ts : Addr → Value → Option Addr → TS} {b : Stmt} {bs : List Stmt} {p p' : Pos} {hds : List ExceptHandler} {l : List Cl} (hc : Names X x c)
      (k : ∀ (a : Addr) (oe : Obj) (cls : Value) (d : Option Addr) (pn : List (Addr × Obj)), Zc cls d oe → (∃ vs, oe.data = .fields vs) → PSs (X.suite a ((a, oe) :: pn)) (b :: bs) (ts a cls d)) (r : ClsOk X n hds l) :
      ClsOk X n (.ExceptHandler (some (.Name x p)) (some n) (b :: bs) p' :: hds) ((c, ts) :: l)
section
variable {X : Cx} {n : Str} {i : Nat} {body : List Stmt} {h₀ : ExceptHandler} {hds : List ExceptHandler} {l : List Cl} {pos : Pos} {tb : WX → TS} {Wout : WX}
theorem ps_try_asN (hs : X.stack = X.env :: X.outer) (hf : X.env.frame = some X.env.locals) (hN : X.N.Nodup) (hi : X.N[i]? = some n) (hln : X.env.kindOf n = some .local) (tk : Takes X Wout)
    (hb : ∀ (W : WX) (pn : List (Addr × Obj)) (xe : Value → Shared → Prop), Takes (X.tr pn xe) W → PassesOwn (model X.prog X.w) X.A X.env xe → PSs (X.tr pn xe) body (tb W)) (hh : ClsOk X n (h₀ :: hds) l) :
    PS X (.Try body (h₀ :: hds) [] [] pos) (fun D σ H => tb (wAsN X.K i Wout D l) D σ H) := by
  constructor
  intro pins s σ H D I h
  have q_ok := I.ok
  have q_fr : X.A.frames = some (X.env :: X.outer) := hs ▸ q_ok.frames
  refine wpAny_Try_except (wpAny_mono ((hb (wAsN X.K i Wout D l) (X.pn ++ pins) (fun e z => wpAny (model X.prog X.w) X.A (noteFrame e X.env) (fun _ z => wpAny (model X.prog X.w) X.A (setFlight e none)
    (fun _ z => wpAny (model X.prog X.w) X.A (handleBy e X.env (h₀ :: hds)) (SP X pins D) X.xe z) X.xe z) X.xe z) (fun u z xx => ?_) PassesOwn.looking).run [] s σ H D (I.toTry _) h) (fun f z hsp => ?_) fun e z he => he)
  · obtain ⟨a, B, sI, pins', σ', H', cls, d, rfl, J', nb, up, sky, na, os, ag, wish⟩ := xx
    have J : Inv X pins σ' H' sI := J'.ofTry q_ok
    rw [hs] at sky
    refine Sky.land (M := model X.prog X.w) Zc.steady q_fr hf sky fun h3 fl3 up3 => ?_
    have J3 : Inv X pins σ' H' { z with heap := h3 } := J.landed nb fl3.1 (up.trans up3) os ag
    obtain ⟨o3, v3, at3, zc3, da3⟩ := fl3.there
    have away : a ∉ frs (X.env :: X.outer) := fun m => by
      obtain ⟨_, o', e', no⟩ := fl3.2.2.1.mem m
      rw [at3] at e'; cases e'
      exact no _ da3
    have nL : a ≠ X.env.locals := fun e => away (List.mem_filterMap.mpr ⟨X.env, List.mem_cons.mpr (.inl rfl), by rw [hf, e]⟩)
    have nF : a ∉ X.fs := fun m => let ⟨e, he, q⟩ := List.mem_filterMap.mp m; away (List.mem_filterMap.mpr ⟨e, List.mem_cons.mpr (.inr he), q⟩)
    have S3 := J3.suite at3 da3 na nL nF
    have all : ∀ {hds' : List ExceptHandler} {l' : List Cl}, ClsOk X n hds' l' → wAsN X.K i Wout D l' cls d σ' H' → wpAny (model X.prog X.w) X.A (handleBy (.ref a) X.env hds') (SP X pins D) X.xe { z with heap := h3 } := by
      intro hds' l' ok
      induction ok with
      | nil =>
        intro wish
        obtain ⟨_, _, _, oe, vs, T, oT, ts', at_, _, da, f1, _⟩ := id fl3
        have go : wpAny (model X.prog X.w) X.A (setFlight (.ref a) X.env.frame) (fun _ z => wpAny (model X.prog X.w) X.A (throw (.ref a) : Sem Flow) (SP X pins D) X.xe z) X.xe { z with heap := h3 } := by
          rw [hf]
          exact HandSPX.setFlight_upZ fl3 fun h4 fl4 up4 => wpAny_throw (tk _ _ ⟨a, B, sI, pins, σ', H', cls, d, rfl, J, nb, (up.trans up3).trans up4, .inr (.inr (hs ▸ fl4)), na, os, ag, wish⟩)
        refine wpAny_handleBy_nil ?_
        unfold PySem.passOn
        refine wpAny_bind (wpAny_field at_ da f1 ?_)
        rw [if_neg (by simp)]
        first | exact wpAny_bind go | exact wpAny_bind (wpAny_pure (wpAny_bind go))
      | @cons x c ts b bs p p' hds2 l2 hc k r ih =>
        rintro ⟨yes, te, w1, w2⟩
        have LM := PySem.W.exm_one (M := model X.prog X.w) J3.kIn (fun A Q E s k q => wpAny_typeOf_ref (k _ _ at3) (by rw [zc3.1]; exact q)) te
        have named : ∀ {Q : Value → Shared → Prop} {E : Value → Shared → Prop}, Q c { z with heap := h3 } → wpAny (model X.prog X.w) (X.A.mark (some (.ref a))) (eval (.Name x p) X.env) Q E { z with heap := h3 } := by
          intro Q E q
          rcases hc with ⟨g, db, m | ⟨m, v, nn⟩⟩
          · exact ld_glob (X := X.suite a ((a, o3) :: (X.pn ++ pins))) S3 g m q db
          · exact ld_blt (X := X.suite a ((a, o3) :: (X.pn ++ pins))) S3 g m v q nn db
        refine wpAny_handleBy_cons (codeAny_handlers_test (named (LM.here ?_))) (fun e => by cases e)
        match yes, w1, w2 with
        | false, _, w2 => exact ih (w2 rfl)
        | true, w1, _ =>
          refine codeAny_handlers_suite_as (HandSPX.lands_againZ fl3 fun h4 fl4 up4 => ?_)
          have J4 : Inv X pins σ' H' { z with heap := h4 } := J.landed nb fl4.1 ((up.trans up3).trans up4) os ag
          obtain ⟨o4, v4, at4, zc4, da4⟩ := fl4.there
          refine store_ok (X := X.suite a ((a, o4) :: (X.pn ++ pins))) (v := .ref a) (J4.suite at4 da4 na nL nF) hN hi (.inl hln) rfl (fun s5 S5 => ?_) (.inr hln)
          refine wpAny_mono ((k a o4 cls d (X.pn ++ pins) zc4 ⟨_, da4⟩).run [] s5 _ H' _ S5 (w1 rfl a na)) (fun f s6 hsp => ?_) fun _ _ e => e.elim
          have close : ∀ {σ6 : L2.St} {H6 : Hp} {Q : Shared → Prop}, Inv (X.suite a ((a, o4) :: (X.pn ++ pins))) [] σ6 H6 s6 → (∀ s7, Inv X pins (σ6.set i none) H6 s7 → Q s7) →
              wpAny (model X.prog X.w) X.A (do bindName X.env n .none; unbindBehindTheSuite X.env n p') (fun _ s7 => Q s7) X.xe s6 := fun S6 q => gone_ok (S6.unsuite q_ok) hN hi hln q
          match f, hsp with
          | .next, ⟨_, _, S6, q6⟩ => exact close S6 fun _ J7 => ⟨_, _, J7, q6⟩
          | .brk, ⟨_, _, S6, q6⟩ => exact close S6 fun _ J7 => ⟨_, _, J7, q6⟩
          | .cont, ⟨_, _, S6, q6⟩ => exact close S6 fun _ J7 => ⟨_, _, J7, q6⟩
          | .ret u, ⟨_, _, _, S6, r6, q6⟩ => exact close S6 fun _ J7 => ⟨_, _, _, J7, r6, q6⟩
    exact all hh wish
  · match f, hsp with
    | .next, ⟨_, _, J', q⟩ => exact wpAny_execs_nil ⟨_, _, J'.ofTry q_ok, q⟩
    | .brk, ⟨_, _, J', q⟩ => exact ⟨_, _, J'.ofTry q_ok, q⟩
    | .cont, ⟨_, _, J', q⟩ => exact ⟨_, _, J'.ofTry q_ok, q⟩
    | .ret u, ⟨_, _, _, J', r, q⟩ => exact ⟨_, _, _, J'.ofTry q_ok, r, q⟩
end
end Fw

set_option Elab.async false
set_option linter.all false
set_option maxRecDepth 100000
set_option maxHeartbeats 4000000
/-! C(..) and o.m(..) in a try's body -/
namespace Fw
open PySem PySem.Spec PyProof.Rows L2
section
variable {X : Cx} {CX : CXT} {k : Nat} {f C : Addr} {fd : FuncData} {ps : List Str} {sp : Sp} {E : L2.St → XK} {x m : Str} {p pos apos : Pos} {e o : Expr} {es : List Expr} {ta : TE} {t : TA}
theorem run_makeS {pins : List (Addr × Obj)} {σ : L2.St} {H : Hp} {s : Shared} {Q : VK} {us : List Value} {vs : List V} (M : Mk X.K C f) (F : FnOk X.prog X.w X.K X.mg X.base CX k f fd ps sp) (hr : Room (k + 1) X.A) (hb : Binds X.K fd ps []) (hx : PassesAt CX X σ (E σ)) (I : Inv X pins σ H s) (r : Vals vs us)
    (h : ∀ x dx, H x = none → H dx = none → dx ≠ x → sp (.ref x :: vs) (upd (upd H dx (.own x)) x (.ins C dx [])) (fun v H2 => v = .non ∧ Q (.ref x) H2) (E σ)) : wpAny (model X.prog X.w) X.A (call (.ref C) us) (EP X pins σ Q) X.xe s := by
  have q := h (s.heap.objs.size + 1) s.heap.objs.size (I.hok.fresh (Nat.le_succ _)) (I.hok.fresh (Nat.le_refl _)) (Nat.ne_of_lt (Nat.lt_succ_self _))
  have J := Inv.made (C := C) I
  have rr : Vals (V.ref (s.heap.objs.size + 1) :: vs) (Value.ref (s.heap.objs.size + 1) :: us) := .cons rfl r
  have len : (Value.ref (s.heap.objs.size + 1) :: us).length = ps.length := rr.length.symm.trans (F.len _ _ _ _ q)
  have bnd := hb _ (Value.ref (s.heap.objs.size + 1) :: us) J.kIn (by rw [List.append_nil]; exact len)
  rw [List.append_nil] at bnd
  refine wpAny_call (make_map (f := f) I.kIn M.makes M.init (beq_iff_eq.mp M.fn) (codeAny_mono (F.run _ X.stack _ _ ⟨_, []⟩ _ _ _ (E σ) (hr.make C us []) (J.env0.make C us []) bnd rr q) fun r z hq => ?_))
  match r, hq with
  | .error e, hq => exact hx pins _ _ e z J hq
  | .ok (.ret u), hq =>
    obtain ⟨v, G, I3, rv, ev, q3⟩ := J.after hq
    cases ev
    exact ⟨rv, V.ref _, G, I3, rfl, q3⟩
  | .ok .next, hq => exact hq.elim
  | .ok .brk, hq => exact hq.elim
  | .ok .cont, hq => exact hq.elim
def tMakeT (C : Addr) (sp : Sp) (E : L2.St → XK) (t : TA) : TE := fun σ H Q => t σ H fun vs H1 => MkGo C (fun us => sp us) vs H1 Q (E σ)
theorem pe_makeT (M : Mk X.K C f) (F : FnOk X.prog X.w X.K X.mg X.base CX k f fd ps sp) (hr : Room (k + 1) X.A) (hg : Gl X x) (hm : X.mg x = some (.ref C)) (hb : Binds X.K fd ps []) (hx : ∀ σ, PassesAt CX X σ (E σ))
    (ha : PA X (e :: es) t) (hdb : (x == ("__debug__" : Str)) = false := by decide) (he : starEach (e :: es) X.env = (false, eval e X.env) :: starEach es X.env := by rfl) (hpl : (backTo pos (starEach es X.env)).any (·.1) = false := by rfl) :
    PE X (.Call (.Name x p) (e :: es) [] pos) (tMakeT C sp E t) := by
  constructor
  intro pins s σ H Q I h
  refine wpAny_Call_Name_kw (ld_glob I hg hm (PySem.W.callWith_K (h₀ := X.base) I.ok.mod.kin M.kp (thn (ha.run pos pins s σ H _ I h) fun us s1 ⟨vs, H1, I1, r, q⟩ => ⟨I1.kIn, ?_⟩) he hpl) hdb)
  refine run_makeS M F hr hb (hx σ) I1 r fun x dx a b c => ?_
  have z := q x dx a b c
  rw [List.append_nil] at z
  exact z
def tMethT (C : Addr) (m : Str) (sp : Sp) (E : L2.St → XK) (ta : TE) (t : TA) : TE := fun σ H Q => ta σ H fun x H1 => ∃ a dx fs, x = .ref a ∧ H1 a = some (.ins C dx fs) ∧ fs.lookup m = none ∧ t σ H1 fun vs H2 => sp (x :: vs) H2 Q (E σ)
theorem pe_methT {pl : Sem Bool} (he : PE X o ta) (c : Cls X.K C) (hm : Meth X.K C m f) (F : FnOk X.prog X.w X.K X.mg X.base CX k f fd ps sp) (hr : Room k X.A) (hb : Binds X.K fd ps []) (hx : ∀ σ, PassesAt CX X σ (E σ)) (ha : PA X (e :: es) t)
    (hst : starEach (e :: es) X.env = (false, eval e X.env) :: starEach es X.env := by rfl) (hpl : (backTo pos (starEach es X.env)).any (·.1) = false := by rfl)
    (ht : eval (.Call (.Attribute o m apos) (e :: es) [] pos) X.env = (do let ov ← eval o X.env; standAt apos.atName; let (f, first) ← holding [ov] (getMethod ov m pl); callWith pos f first (backTo pos (starEach (e :: es) X.env)) (backToKw pos (keywordEach [] X.env))) := by rfl) :
    PE X (.Call (.Attribute o m apos) (e :: es) [] pos) (tMethT C m sp E ta t) := by
  constructor
  intro pins s σ H Q I h
  refine PySem.W.methodCall_KW (pl := pl) (thn (he.run pins s σ H _ I h) fun u s1 ⟨x, H1, I1, rx, a, dx, fs, ex, ea, l, q⟩ => ?_) ht
  subst ex
  cases rx
  refine getmeth_ok I1 ea c hm l (PySem.W.callWith_K (first := [.ref a]) (h₀ := X.base) I.ok.mod.kin hm.kp (thn (ha.run pos pins s1 σ H1 _ I1 q) fun us s2 ⟨vs, H2, I2, r, q2⟩ => ⟨I2.kIn, ?_⟩) hst hpl)
  exact run_fnS (us := .ref a :: us) (vs := .ref a :: vs) F hr hb (hx σ) I2 (.cons rfl r) q2
/-- K-explicit: C(..) in a try's body -/
theorem pe_mkT {P : Program} {w : World} {K : PySem.W.Frag} {mg : Str → Option Value} {base : Heap} {qual : Str} {st : Stmt} {W : WX} (d : Mf K "__init__" qual st ps) (M : Mk K C d.f) (hm : mg x = some (.ref C)) (F : FnOk P w K mg base (L2.CX P w) k d.f d.fd ps sp) (hr : Room (k + 1) X.A) (tk : Takes X W) (ha : PA X (e :: es) t)
    (h1 : X.prog = P := by rfl) (h2 : X.w = w := by rfl) (h3 : X.K = K := by rfl) (h4 : X.mg = mg := by rfl) (h5 : X.base = base := by rfl) (hg : Gl X x := by rfl)
    (hdb : (x == ("__debug__" : Str)) = false := by decide) (he : starEach (e :: es) X.env = (false, eval e X.env) :: starEach es X.env := by rfl) (hpl : (backTo pos (starEach es X.env)).any (·.1) = false := by rfl) :
    PE X (.Call (.Name x p) (e :: es) [] pos) (tMakeT C sp (WE W) t) := by
  subst h1 h2 h3 h4 h5
  exact pe_makeT M F hr hg hm d.b (fun σ => passAt tk σ) ha hdb he hpl
/-- o.m(..) in a try's body -/
theorem pe_mT {pl : Sem Bool} {P : Program} {w : World} {K : PySem.W.Frag} {mg : Str → Option Value} {base : Heap} {nm qual : Str} {st : Stmt} {W : WX} (he : PE X o ta) (c : Cls K C) (d : Mf K nm qual st ps) (hm : Meth K C m d.f) (F : FnOk P w K mg base (L2.CX P w) k d.f d.fd ps sp) (hr : Room k X.A) (tk : Takes X W) (ha : PA X (e :: es) t)
    (h1 : X.prog = P := by rfl) (h2 : X.w = w := by rfl) (h3 : X.K = K := by rfl) (h4 : X.mg = mg := by rfl) (h5 : X.base = base := by rfl)
    (hst : starEach (e :: es) X.env = (false, eval e X.env) :: starEach es X.env := by rfl) (hpl : (backTo pos (starEach es X.env)).any (·.1) = false := by rfl)
    (ht : eval (.Call (.Attribute o m apos) (e :: es) [] pos) X.env = (do let ov ← eval o X.env; standAt apos.atName; let (f, first) ← holding [ov] (getMethod ov m pl); callWith pos f first (backTo pos (starEach (e :: es) X.env)) (backToKw pos (keywordEach [] X.env))) := by rfl) :
    PE X (.Call (.Attribute o m apos) (e :: es) [] pos) (tMethT C m sp (WE W) ta t) := by
  subst h1 h2 h3 h4 h5
  exact pe_methT (pl := pl) he c hm F hr d.b (fun σ => passAt tk σ) ha hst hpl ht
/-- o.m(..), the errors passing on -/
theorem pe_mA {pl : Sem Bool} {P : Program} {w : World} {K : PySem.W.Frag} {mg : Str → Option Value} {base : Heap} {nm qual : Str} {st : Stmt} {E : XK} (he : PE X o ta) (c : Cls K C) (d : Mf K nm qual st ps) (hm : Meth K C m d.f) (F : FnOk P w K mg base CX k d.f d.fd ps sp) (hr : Room k X.A) (hx : Passes CX X E) (ha : PA X (e :: es) t)
    (h1 : X.prog = P := by rfl) (h2 : X.w = w := by rfl) (h3 : X.K = K := by rfl) (h4 : X.mg = mg := by rfl) (h5 : X.base = base := by rfl)
    (hst : starEach (e :: es) X.env = (false, eval e X.env) :: starEach es X.env := by rfl) (hpl : (backTo pos (starEach es X.env)).any (·.1) = false := by rfl)
    (ht : eval (.Call (.Attribute o m apos) (e :: es) [] pos) X.env = (do let ov ← eval o X.env; standAt apos.atName; let (f, first) ← holding [ov] (getMethod ov m pl); callWith pos f first (backTo pos (starEach (e :: es) X.env)) (backToKw pos (keywordEach [] X.env))) := by rfl) :
    PE X (.Call (.Attribute o m apos) (e :: es) [] pos) (tMeth C m sp [] E ta t) := by
  subst h1 h2 h3 h4 h5
  exact pe_meth (pl := pl) he c hm F hr d.b .nil hx ha hst hpl ht
/-- try: .. except C as n: .. except C2 as n: .. -/
def tTryAsN (K : PySem.W.Frag) (i : Nat) (tb : WX → TS) (l : List Cl) : TS := fun D σ H => tb (wAsN K i (fun _ _ _ _ => False) D l) D σ H
theorem ktry_asN (K : PySem.W.Frag) (i : Nat) {n : Str} {body : List Stmt} {h₀ : ExceptHandler} {hds : List ExceptHandler} {l : List Cl} {tb : WX → TS} (hN : X.N.Nodup)
    (hb : ∀ (W : WX) (pn : List (Addr × Obj)) (xe : Value → Shared → Prop), Takes (X.tr pn xe) W → PassesOwn (model X.prog X.w) X.A X.env xe → PSs (X.tr pn xe) body (tb W)) (hh : ClsOk X n (h₀ :: hds) l)
    (hK : X.K = K := by rfl) (hs : X.stack = X.env :: X.outer := by rfl) (hf : X.env.frame = some X.env.locals := by rfl) (hi : X.N[i]? = some n := by rfl) (hln : X.env.kindOf n = some .local := by rfl) :
    PS X (.Try body (h₀ :: hds) [] [] pos) (tTryAsN K i tb l) := by
  subst hK
  exact ps_try_asN hs hf hN hi hln takes0 hb hh
end
namespace Rd
variable {K : PySem.W.Frag} {σ : L2.St} {H : Hp} {Q : VK} {N : L2.St → Hp → Prop} {r : VK} {bk ct : L2.St → Hp → Prop}
theorem tryAsN {i : Nat} {tb : WX → TS} {l : List Cl} (h : tb (wAsN K i (fun _ _ _ _ => False) (Ends.mk N r bk ct) l) (Ends.mk N r bk ct) σ H) : tTryAsN K i tb l (Ends.mk N r bk ct) σ H := h
theorem makeT {C : Addr} {sp : Sp} {E : L2.St → XK} {t : TA} (h : t σ H fun vs H1 => MkGo C sp vs H1 Q (E σ)) : tMakeT C sp E t σ H Q := h
theorem methT {C : Addr} {m : Str} {sp : Sp} {E : L2.St → XK} {ta : TE} {t : TA} (h : ta σ H fun x H1 => ∃ a dx fs, x = .ref a ∧ H1 a = some (.ins C dx fs) ∧ fs.lookup m = none ∧ t σ H1 fun vs H2 => sp (x :: vs) H2 Q (E σ)) : tMethT C m sp E ta t σ H Q := h
/-- the next clause is asked -/
theorem wAs_no {c cls : Value} {d : Option Addr} {i : Nat} {ts : Addr → Value → Option Addr → TS} {Wo : WX} {D : Ends} (te : PySem.W.exmOne K cls c = some false) (h : WE Wo σ cls d H) : WE (wAs K c i ts Wo D) σ cls d H := ⟨false, te, fun q => (nomatch q), fun _ => h⟩
end Rd
end Fw

set_option Elab.async false
set_option linter.all false
set_option maxRecDepth 100000
set_option maxHeartbeats 4000000
/-! more readings: list.insert, list.clear, comprehensions that name their own list, rising lists -/
namespace Fw
open PySem PySem.Spec L2
def rInsert : V → List V → Hp → VK → Prop := fun x vs H Q => ∃ (l : Addr) (xs : List V) (i : Int) (y : V), x = .ref l ∧ vs = [.int i, y] ∧ H l = some (.lst xs) ∧ xs.length < sizeLine ∧ 0 ≤ i ∧ i < 2 ^ 63 ∧
    Q .non (upd H l (.lst (xs.take i.toNat ++ [y] ++ xs.drop i.toNat)))
theorem kins {X : Cx} (K : PySem.W.Frag) {o e e2 : Expr} {to : TE} {t : TA} {apos cpos : Pos} (ho : PE X o to) (ha : PA X [e, e2] t) (h : X.K = K := by rfl)
    (hbase : attributeBase o "insert" X.env (eval o X.env) = eval o X.env := by rfl)
    (hfew : ((backTo cpos (starEach [e, e2] X.env)).all (fun x => !x.1) && (backToKw cpos (keywordEach [] X.env)).all (fun x => x.1.isSome)
      && decide (([e, e2] : List Expr).length + ([] : List Keyword).length + (if ([] : List Keyword).isEmpty then 0 else 1) < 30)) = true := by rfl)
    (hline : (apos.endLine == cpos.line) = true := by rfl) (hs : starEach [e, e2] X.env = (false, eval e X.env) :: starEach [e2] X.env := by rfl) (hplain : (backTo cpos (starEach [e2] X.env)).any (·.1) = false := by rfl) :
    PE X (.Call (.Attribute o "insert" apos) [e, e2] [] cpos) (tBM K "list" rInsert to t) := by
  subst h
  exact pe_bm PySem.F.plainAttrs_list PySem.F.slot_list_insert PySem.F.type_list_insert mt_insert ho ha hbase hfew hline hs hplain
theorem kclear {X : Cx} (K : PySem.W.Frag) {o : Expr} {to : TE} {apos cpos : Pos} (ho : PE X o to) (h : X.K = K := by rfl) (hbase : attributeBase o "clear" X.env (eval o X.env) = eval o X.env := by rfl) (hline : (apos.endLine == cpos.line) = true := by rfl) :
    PE X (.Call (.Attribute o "clear" apos) [] [] cpos) (tBM0 K "list" rClear to) := by
  subst h
  exact pe_bm0 PySem.F.plainAttrs_list PySem.F.slot_list_clear PySem.F.type_list_clear mt_clear ho hbase hline
namespace Rd
variable {K : PySem.W.Frag} {σ : St} {H : Hp} {Q : VK} {te : TE} {tt : TT} {J : It} {n : Nat} {G : Hp → Prop} {Itm : Nat → V → Prop}
theorem insert {p : Addr} {xs : List V} {i : Nat} {y : V} (h : H p = some (.lst xs)) (hl : xs.length < sizeLine) (hi : i < 100000) (q : Q .non (upd H p (.lst (xs.take i ++ [y] ++ xs.drop i)))) : rInsert (.ref p) [.int (i : Nat), y] H Q :=
  ⟨p, xs, (i : Nat), y, rfl, rfl, h, hl, by omega, by omega, by rw [Int.toNat_natCast]; exact q⟩
theorem clear {p : Addr} {xs : List V} (h : H p = some (.lst xs)) (q : Q .non (upd H p (.lst []))) : rClear (.ref p) [] H Q := ⟨p, xs, rfl, rfl, h, q⟩
theorem bm0 {T : String} {r : V → List V → Hp → VK → Prop} {to : TE} (h : to σ H fun x H1 => tyV K T x H1 ∧ r x [] H1 Q) : tBM0 K T r to σ H Q := h
theorem lcO {C : Addr} {L : Hp → Addr → Addr → Prop} {tl : TE} {g : TG} {vs : List Nat} (h : tl σ H fun x H1 => ∃ (a dx : Addr) (fs : List (Str × V)) (l : Addr), x = .ref a ∧ H1 a = some (.ins C dx fs) ∧ L H1 a l ∧ LcGo (Itt K l) g tt te vs σ H1 Q) : tLc (iOwn C L K tl) g tt te vs σ H Q := h
theorem foO {C : Addr} {L : Hp → Addr → Addr → Prop} {tl : TE} {g : TG} {tb : TS} {D : Ends} (h : tl σ H fun x H1 => ∃ (a dx : Addr) (fs : List (Str × V)) (l : Addr), x = .ref a ∧ H1 a = some (.ins C dx fs) ∧ L H1 a l ∧ FoGo (Itt K l) g tb D σ H1) : tFor (iOwn C L K tl) g tb D σ H := h
/-- an assertion between two statements -/
theorem mid {t : TS} {N : St → Hp → Prop} {r : VK} {bk ct : St → Hp → Prop} (Mid : St → Hp → Prop) (hN : ∀ σ H, Mid σ H → N σ H) (h : ∀ N', (∀ σ H, Mid σ H → N' σ H) → t (Ends.mk N' r bk ct) σ H) : t (Ends.mk N r bk ct) σ H := h N hN
/-- while: W by measure, slots and heap -/
theorem whW {c : TT} {tb : TS} {N : St → Hp → Prop} {r : VK} {bk ct : St → Hp → Prop} (W : Nat → St → Hp → Prop) (m : Nat) (h0 : W m σ H)
    (step : ∀ m σ H, W m σ H → c σ H fun b H1 => if b = true then ∃ N' : St → Hp → Prop, (∀ σ' H', N' σ' H' → ∃ m', m' < m ∧ W m' σ' H') ∧ tb (Ends.mk N' r N N') σ H1 else N σ H1) : tWhile c tb (Ends.mk N r bk ct) σ H :=
  ⟨W, ⟨m, h0⟩, step⟩
theorem whGo {m : Nat} {W : Nat → St → Hp → Prop} {P : (St → Hp → Prop) → Prop} (h : P fun σ' H' => ∃ m', m' < m ∧ W m' σ' H') : ∃ N' : St → Hp → Prop, (∀ σ' H', N' σ' H' → ∃ m', m' < m ∧ W m' σ' H') ∧ P N' := ⟨_, fun _ _ h => h, h⟩
/-- a comprehension whose word knows its own list, at D -/
theorem lcZ {s : Nat} (w : Walk J n G (Flat Itm)) (hn : n < sizeLine) (Jv : Addr → Nat → List V → Hp → Prop) (h0 : ∀ D, H D = none → Jv D 0 [] (upd H D (.lst []))) (hG : ∀ D i acc H', i ≤ n → Jv D i acc H' → G H')
    (step : ∀ D, H D = none → ∀ i x acc H', i < n → Itm i x → H' D = some (.lst acc) → acc.length ≤ i → Jv D i acc H' → ∀ (Kt : V → Hp → Prop) (Kf : Hp → Prop), (∀ y H4, H4 D = some (.lst acc) → Jv D (i + 1) (acc ++ [y]) (upd H4 D (.lst (acc ++ [y]))) → Kt y H4) → (∀ H3, H3 D = some (.lst acc) → Jv D (i + 1) acc H3 → Kf H3) →
      tt ((σ.set s none).set s (some x)) H' fun b H3 => if b = true then te ((σ.set s none).set s (some x)) H3 Kt else Kf H3)
    (fin : ∀ D acc H', H D = none → H' D = some (.lst acc) → acc.length ≤ n → Jv D n acc H' → Q (.ref D) H') : LcGo J (gName s) tt te [s] σ H Q := by
  intro D hD
  refine lc_it w (fun i H' => ∃ acc, H' D = some (.lst acc) ∧ acc.length ≤ i ∧ Jv D i acc H') ⟨[], upd_same, Nat.le_refl _, h0 D hD⟩ (fun i H' hi ⟨acc, _, _, j⟩ => hG D i acc H' hi j) ?_ (fun H' ⟨acc, a1, a2, a3⟩ => fin D acc H' hD a1 a2 a3)
  rintro i x H' H2 hi ⟨acc, a1, a2, a3⟩ ⟨rfl, hx⟩
  refine ⟨?_, ?_⟩
  · show ((σ.set s none).set s (some x)).set s none = σ.set s none
    rw [List.set_set, List.set_set]
  · exact step D hD i x acc _ hi hx a1 a2 a3 _ _
      (fun y H4 b1 b2 => ⟨acc, b1, Nat.lt_of_le_of_lt a2 (Nat.lt_trans hi hn), acc ++ [y], upd_same, by rw [List.length_append, List.length_singleton]; omega, b2⟩)
      (fun H3 b1 b2 => ⟨acc, b1, Nat.le_succ_of_le a2, b2⟩)
end Rd
/-! ### data of any depth under growing heaps -/
mutual
theorem Dp.mono {K : PySem.W.Frag} {H H' : Hp} (e : Same H H') : ∀ (d : PyData) {v : V}, Dp K H v d → Dp K H' v d
  | .none, _, h => by cases h; exact .non
  | .bool _, _, h => by cases h; exact .bl _
  | .int _, _, h => by cases h; exact .int _
  | .str _, _, h => by cases h; exact .str _
  | .list ds, _, h => by
    cases h with
    | lst h1 h2 => exact .lst (e.seq h1) (DpAll.mono e ds h2)
  | .tuple ds, _, h => by
    cases h with
    | tup h1 h2 => exact .tup (Fw.Same.sqt e h1) (DpAll.mono e ds h2)
  | .dict _, _, h => nomatch h
theorem DpAll.mono {K : PySem.W.Frag} {H H' : Hp} (e : Same H H') : ∀ (ds : List PyData) {vs : List V}, DpAll K H vs ds → DpAll K H' vs ds
  | [], _, h => by cases h; exact .nil
  | d :: ds, _, h => by
    cases h with
    | cons h1 h2 => exact .cons (Dp.mono e d h1) (DpAll.mono e ds h2)
end
/-! ### strictly rising lists -/
section
variable {α : Type} {lt : α → α → Prop}
theorem rise_ext (irr : ∀ x, ¬ lt x x) (tr : ∀ x y z, lt x y → lt y z → lt x z) : ∀ {xs ys : List α}, xs.Pairwise lt → ys.Pairwise lt → (∀ x, x ∈ xs ↔ x ∈ ys) → xs = ys
  | [], [], _, _, _ => rfl
  | [], y :: ys, _, _, h => absurd ((h y).mpr List.mem_cons_self) List.not_mem_nil
  | x :: xs, [], _, _, h => absurd ((h x).mp List.mem_cons_self) List.not_mem_nil
  | x :: xs, y :: ys, hx, hy, h => by
    rw [List.pairwise_cons] at hx hy
    have e : x = y := by
      rcases List.mem_cons.mp ((h x).mp List.mem_cons_self) with e | e
      · exact e
      · rcases List.mem_cons.mp ((h y).mpr List.mem_cons_self) with e' | e'
        · exact e'.symm
        · exact absurd (tr _ _ _ (hy.1 _ e) (hx.1 _ e')) (irr _)
    subst e
    rw [rise_ext irr tr hx.2 hy.2 fun z => ⟨fun hz => ?_, fun hz => ?_⟩]
    · rcases List.mem_cons.mp ((h z).mp (List.mem_cons_of_mem _ hz)) with e | e
      · rw [e] at hz; exact absurd (hx.1 _ hz) (irr _)
      · exact e
    · rcases List.mem_cons.mp ((h z).mpr (List.mem_cons_of_mem _ hz)) with e | e
      · rw [e] at hz; exact absurd (hy.1 _ hz) (irr _)
      · exact e
end
end Fw

set_option Elab.async false
set_option linter.all false
set_option maxRecDepth 100000
set_option maxHeartbeats 4000000
/-! dicts whose keys are tuples of any depth, held as abstract objects -/
namespace ND
open PySem PySem.Spec PyProof.Rows L2
mutual
/-- the value is such a key -/
inductive NkAt (H : Hp) : V → NestedKey → Prop
  | int (i : Int) : NkAt H (.int i) (.num i)
  | str (x : Str) : NkAt H (.str x) (.text x)
  | tup {a : Addr} {xs : List V} {ks : List NestedKey} : H a = some (.tup xs) → NkAll H xs ks → NkAt H (.ref a) (.tup ks)
inductive NkAll (H : Hp) : List V → List NestedKey → Prop
  | nil : NkAll H [] []
  | cons {v : V} {k : NestedKey} {vs : List V} {ks : List NestedKey} : NkAt H v k → NkAll H vs ks → NkAll H (v :: vs) (k :: ks)
end
mutual
theorem NkAt.mono {H H' : Hp} (e : ∀ a xs, H a = some (.tup xs) → H' a = some (.tup xs)) : ∀ (k : NestedKey) {v : V}, NkAt H v k → NkAt H' v k
  | .none, _, h => nomatch h
  | .num _, _, h => by cases h; exact .int _
  | .text _, _, h => by cases h; exact .str _
  | .tup ks, _, h => by
    cases h with
    | tup h1 h2 => exact .tup (e _ _ h1) (NkAll.mono e ks h2)
theorem NkAll.mono {H H' : Hp} (e : ∀ a xs, H a = some (.tup xs) → H' a = some (.tup xs)) : ∀ (ks : List NestedKey) {vs : List V}, NkAll H vs ks → NkAll H' vs ks
  | [], _, h => by cases h; exact .nil
  | k :: ks, _, h => by
    cases h with
    | cons h1 h2 => exact .cons (NkAt.mono e k h1) (NkAll.mono e ks h2)
end
section
variable {P : Program} {w : World} {H : Hp} {h : Heap}
mutual
theorem nk_is (ok : HOk P w H h) : ∀ (k : NestedKey) {v : V} {u : Value}, NkAt H v k → RelV v u → NestedIs h k u
  | .none, _, _, h, _ => nomatch h
  | .num i, _, _, h, r => by
    cases h
    obtain ⟨t, rfl⟩ := r
    exact .int i t
  | .text x, _, _, h, r => by
    cases h
    obtain ⟨t, rfl⟩ := r
    exact .text x t
  | .tup ks, _, _, h, r => by
    cases h with
    | @tup a xs _ h1 h2 =>
      cases r
      obtain ⟨_, its, r, o, e1, e2, n, e3⟩ := (show ObjOk P w H _ a (.tup xs) from ok a _ h1)
      exact .tup e1 e2 e3 (by simpa using nk_all ok ks h2 r)
theorem nk_all (ok : HOk P w H h) : ∀ (ks : List NestedKey) {vs : List V} {us : List Value}, NkAll H vs ks → Vals vs us → NestedAll h ks us
  | [], _, _, h, r => by
    cases h
    cases r
    exact .nil
  | k :: ks, _, _, h, r => by
    cases h with
    | cons h1 h2 =>
      cases r with
      | cons r1 r2 => exact .cons (nk_is ok k h1 r1) (nk_all ok ks h2 r2)
end
end
abbrev Row := NestedKey × Addr × V
def RelRows : List Row → List (NestedKey × Addr × Value) → Prop := Paired fun p q => p.1 = q.1 ∧ p.2.1 = q.2.1 ∧ RelV p.2.2 q.2.2
/-- the dict at d: its rows, in order -/
def DctO (P : Program) (w : World) (d : Addr) (xs : List Row) : HO := .ext fun h => xs.length ≤ sizeLine ∧ (d == sysModules) = false ∧ ∃ rows, RelRows xs rows ∧
  ∃ o es ep, h.get? d = some o ∧ o.ExactDict ∧ o.data = .dict es ep ∧ es.toList = rows.map (entryOfKey (nestedKind P w))
def RowsOk (H : Hp) (xs : List Row) : Prop := (∀ p ∈ xs, NkAt H (.ref p.2.1) p.1 ∧ p.1.depth ≤ 8) ∧ (xs.map (·.1)).Nodup
def atN (xs : List Row) (k : NestedKey) : Option V := (xs.find? fun p => decide (p.1 = k)).map (·.2.2)
def putN (xs : List Row) (k : NestedKey) (b : Addr) (v : V) : List Row := if (atN xs k).isSome then xs.map (fun p => if p.1 = k then (p.1, p.2.1, v) else p) else xs ++ [(k, b, v)]
theorem RelRows.keys {xs : List Row} {rows : List (NestedKey × Addr × Value)} (r : RelRows xs rows) : rows.map (·.1) = xs.map (·.1) := by
  unfold RelRows at r
  induction r with
  | nil => rfl
  | cons h _ ih => rw [List.map_cons, List.map_cons, ih, h.1]
theorem RelRows.at {xs : List Row} {rows : List (NestedKey × Addr × Value)} (r : RelRows xs rows) (k : NestedKey) : RelO (atN xs k) ((atKey rows k).map (·.2)) := by
  unfold RelRows at r
  unfold atN atKey
  induction r with
  | nil => exact True.intro
  | @cons p q ps qs h _ ih =>
    rw [List.find?_cons, List.find?_cons, ← h.1]
    by_cases e : p.1 = k
    · rw [decide_eq_true e]
      exact h.2.2
    · rw [decide_eq_false e]
      exact ih
theorem relO_isSome {a : Option V} {b : Option Value} (h : RelO a b) : b.isSome = a.isSome := by
  cases a <;> cases b <;> first | rfl | exact h.elim
theorem RelRows.isSome {xs : List Row} {rows : List (NestedKey × Addr × Value)} (r : RelRows xs rows) (k : NestedKey) : (atKey rows k).isSome = (atN xs k).isSome := by
  have := relO_isSome (r.at k)
  rw [Option.isSome_map] at this
  exact this
theorem RelRows.put {xs : List Row} {rows : List (NestedKey × Addr × Value)} (r : RelRows xs rows) (k : NestedKey) (b : Addr) {v : V} {u : Value} (rv : RelV v u) : RelRows (putN xs k b v) (storedH rows k b u) := by
  unfold putN storedH
  rw [r.isSome k]
  split
  · rename_i hsome
    clear hsome
    unfold RelRows at r ⊢
    induction r with
    | nil => exact .nil
    | @cons p q ps qs h _ ih =>
      rw [List.map_cons, List.map_cons]
      refine .cons ?_ ih
      unfold putAt
      rw [← h.1]
      by_cases e : p.1 = k
      · rw [if_pos e, if_pos e]; exact ⟨rfl, h.2.1, rv⟩
      · rw [if_neg e, if_neg e]; exact h
  · exact Paired.snoc r ⟨rfl, rfl, rv⟩
theorem RelRows.is {P : Program} {w : World} {H : Hp} {h : Heap} {xs : List Row} {rows : List (NestedKey × Addr × Value)} (ok : HOk P w H h) (r : RelRows xs rows) (g : ∀ p ∈ xs, NkAt H (.ref p.2.1) p.1 ∧ p.1.depth ≤ 8) : ∀ x ∈ rows, (nestedKind P w).is h x.1 x.2.1 := by
  unfold RelRows at r
  induction r with
  | nil => intro x hx; exact nomatch hx
  | @cons p q ps qs hq _ ih =>
    intro x hx
    rcases List.mem_cons.mp hx with e | hx
    · subst e
      have := g p List.mem_cons_self
      rw [hq.1, hq.2.1] at this
      exact ⟨nk_is ok _ this.1 rfl, this.2⟩
    · exact ih (fun y hy => g y (List.mem_cons_of_mem _ hy)) x hx
section
variable {X : Cx} {pins : List (Addr × Obj)} {σ : L2.St} {H : Hp} {s : Shared} {d b : Addr} {xs : List Row} {k : NestedKey} {A : Around} {E : Value → Shared → Prop}
theorem dct_of (I : Inv X pins σ H s) (e : H d = some (DctO X.prog X.w d xs)) (g : RowsOk H xs) : xs.length ≤ sizeLine ∧ (d == sysModules) = false ∧ ∃ rows, RelRows xs rows ∧ s.heap.DictOfH (nestedKind X.prog X.w) d rows := by
  obtain ⟨⟨z, hd, rows, r, o, es, ep, h1, h2, h3, h4⟩, _⟩ := (show ObjOk X.prog X.w H s.heap d (DctO X.prog X.w d xs) from I.hok d _ e)
  exact ⟨z, hd, rows, r, o, es, ep, h1, h2, h3, h4, r.is I.hok g.1, by rw [r.keys]; exact g.2⟩
theorem dct_new {P : Program} {w : World} {H' : Hp} {h' : Heap} {rows : List (NestedKey × Addr × Value)} (z : xs.length ≤ sizeLine) (hd : (d == sysModules) = false) (r : RelRows xs rows) (dd : h'.DictOfH (nestedKind P w) d rows) : ObjOk P w H' h' d (DctO P w d xs) := by
  obtain ⟨o, es, ep, h1, h2, h3, h4, _, _⟩ := dd
  exact ⟨⟨z, hd, rows, r, o, es, ep, h1, h2, h3, h4⟩, ⟨o, h1⟩, fun a b ⟨z, hd, rows, r, o, es, ep, h1, q⟩ k => ⟨z, hd, rows, r, o, es, ep, k o h1, q⟩⟩
theorem room_of (hu : X.A.units + 64 < cLine) : (nestedKind X.prog X.w).room X.A.in1 := by
  show X.A.in1.units + 8 < cLine
  rw [Around.in1_units]
  omega
/-- {} -/
def tDNew (P : Program) (w : World) : TE := fun _ H Q => ∀ p, H p = none → Q (.ref p) (upd H p (DctO P w p []))
theorem pe_dnew {pos : Pos} : PE X (.Dict [] [] pos) (tDNew X.prog X.w) := ⟨fun pins s σ H Q I h =>
  wpAny_Dict_empty ⟨.ref s.heap.objs.size, _, I.laid (a := s.heap.objs.size) (o := DctO X.prog X.w s.heap.objs.size []) (t' := s.toks) (fun _ _ q => Heap.get?_push_of_some _ q) (Nat.le_refl _)
    (dct_new (rows := []) (Nat.zero_le _) (beq_eq_false_iff_ne.mpr (Ne.symm (Nat.ne_of_lt I.big))) .nil (Heap.DictOfH.new s.heap)), rfl, h _ (I.hok.fresh (Nat.le_refl _))⟩⟩
/-- a key in the dict, not in it -/
def rNIn (P : Program) (w : World) (neg : Bool) : R2 := fun x y H Q => ∃ (d b : Addr) (xs : List Row) (k : NestedKey), y = .ref d ∧ x = .ref b ∧ H d = some (DctO P w d xs) ∧ RowsOk H xs ∧ NkAt H (.ref b) k ∧ k.depth ≤ 8 ∧ Q (.bl (if neg then !(atN xs k).isSome else (atN xs k).isSome)) H
theorem op_nin (hu : X.A.units + 64 < cLine) : OpR X (compareOp .In) (rNIn X.prog X.w false) := by
  intro pins s σ H x y v u Q I rx ry h
  obtain ⟨d, b, xs, k, rfl, rfl, e, g, hk, hdp, q⟩ := h
  cases rx
  cases ry
  obtain ⟨z, hd, rows, r, dd⟩ := dct_of I e g
  refine wpAny_in_heap (room_of hu) ⟨nk_is I.hok k hk rfl, hdp⟩ hd dd ?_
  rw [r.isSome]
  exact ⟨.bl _, H, I.tok _, rfl, q⟩
theorem op_nnotin (hu : X.A.units + 64 < cLine) : OpR X (compareOp .NotIn) (rNIn X.prog X.w true) := by
  intro pins s σ H x y v u Q I rx ry h
  obtain ⟨d, b, xs, k, rfl, rfl, e, g, hk, hdp, q⟩ := h
  cases rx
  cases ry
  obtain ⟨z, hd, rows, r, dd⟩ := dct_of I e g
  refine wpAny_notIn_heap (room_of hu) ⟨nk_is I.hok k hk rfl, hdp⟩ hd dd ?_
  rw [r.isSome]
  exact ⟨.bl _, H, I.tok _, rfl, q⟩
/-- d[k], there -/
def rNGet (P : Program) (w : World) : R2 := fun x y H Q => ∃ (d b : Addr) (xs : List Row) (k : NestedKey) (v : V), x = .ref d ∧ y = .ref b ∧ H d = some (DctO P w d xs) ∧ RowsOk H xs ∧ NkAt H (.ref b) k ∧ k.depth ≤ 8 ∧ atN xs k = some v ∧ Q v H
theorem ix_nget (hu : X.A.units + 64 < cLine) : IxR X (rNGet X.prog X.w) := by
  intro value slice pins s σ H x y v u Q I rx ry h hs
  obtain ⟨d, b, xs, k, z, rfl, rfl, e, g, hk, hdp, hv, q⟩ := h
  cases rx
  cases ry
  obtain ⟨_, hd, rows, r, dd⟩ := dct_of I e g
  obtain ⟨w', hw, rw'⟩ := RelO.some_of (v := z) (o := (atKey rows k).map (·.2)) (by rw [← hv]; exact r.at k)
  obtain ⟨p, hp, hp2⟩ := Option.map_eq_some_iff.mp hw
  refine subscriptTail_builtinR (x := w') dd.typeIs PySem.F.slot_dict_getitem.lookup (wpAny_getItem_heap (room_of hu) ⟨nk_is I.hok k hk rfl, hdp⟩ dd hp ?_) hs
  rw [hp2]
  exact ⟨rfl, z, H, I.tok _, rw', q⟩
/-- d[k] = v -/
def rNPut (P : Program) (w : World) : TSet := fun o i v H Q => ∃ (d b : Addr) (xs : List Row) (k : NestedKey), o = .ref d ∧ i = .ref b ∧ H d = some (DctO P w d xs) ∧ RowsOk H xs ∧ NkAt H (.ref b) k ∧ k.depth ≤ 8 ∧ xs.length < sizeLine ∧ Q (upd H d (DctO P w d (putN xs k b v)))
theorem putN_len (xs : List Row) (k : NestedKey) (b : Addr) (v : V) : (putN xs k b v).length ≤ xs.length + 1 := by
  unfold putN
  split
  · rw [List.length_map]; exact Nat.le_succ _
  · rw [List.length_append]; exact Nat.le_refl _
theorem set_nput (hu : X.A.units + 64 < cLine) : PSet X (rNPut X.prog X.w) := by
  intro pins s σ H o i v ov iv u Q I ro ri rv h
  obtain ⟨d, b, xs, k, rfl, rfl, e, g, hk, hdp, hl, q⟩ := h
  cases ro
  cases ri
  obtain ⟨_, hd, rows, r, dd⟩ := dct_of I e g
  have hz : rows.length ≤ sizeLine := by rw [← Paired.length r]; omega
  refine wpAny_setItem_heap (hsz := hz) (room_of hu) ⟨nk_is I.hok k hk rfl, hdp⟩ dd fun h' dd' hs => ⟨_, ?_, q⟩
  have he : ∃ o, h'.get? d = some o := let ⟨o, _, _, ho, _⟩ := dd'; ⟨o, ho⟩
  exact d_write I (by rw [e]; exact True.intro) hs he (dct_new (by have := putN_len xs k b v; omega) hd (r.put k b rv) dd')
end
section
variable {X : Cx} (P : Program) (w : World)
theorem knin_ (hu : X.A.units + 64 < cLine) (h : X.prog = P := by rfl) (h2 : X.w = w := by rfl) : OpR X (compareOp .In) (rNIn P w false) := by subst h h2; exact op_nin hu
theorem knnot (hu : X.A.units + 64 < cLine) (h : X.prog = P := by rfl) (h2 : X.w = w := by rfl) : OpR X (compareOp .NotIn) (rNIn P w true) := by subst h h2; exact op_nnotin hu
theorem knget (hu : X.A.units + 64 < cLine) (h : X.prog = P := by rfl) (h2 : X.w = w := by rfl) : IxR X (rNGet P w) := by subst h h2; exact ix_nget hu
theorem knput (hu : X.A.units + 64 < cLine) (h : X.prog = P := by rfl) (h2 : X.w = w := by rfl) : PSet X (rNPut P w) := by subst h h2; exact set_nput hu
theorem kdnew {pos : Pos} (h : X.prog = P := by rfl) (h2 : X.w = w := by rfl) : PE X (.Dict [] [] pos) (tDNew P w) := by subst h h2; exact pe_dnew
end
end ND

set_option Elab.async false
set_option linter.all false
set_option maxRecDepth 100000
set_option maxHeartbeats 4000000
/-! more readings: the sign, x in l and l.index(x) of data -/
namespace Fw
open PySem PySem.Spec L2
section
variable {X : Cx} (K : PySem.W.Frag)
theorem kinD (hu : X.A.units + 64 < cLine) (hu2 : X.A.units + 65 < cLine) (h : X.K = K := by rfl) : OpR X (compareOp .In) (rInD K) := by subst h; exact op_inD hu2
theorem kninD (hu : X.A.units + 64 < cLine) (hu2 : X.A.units + 65 < cLine) (h : X.K = K := by rfl) : OpR X (compareOp .NotIn) (rNotInD K) := by subst h; exact op_notInD hu2
theorem kindex {o e : Expr} {to : TE} {t : TA} {apos cpos : Pos} (hu2 : X.A.units + 65 < cLine) (ho : PE X o to) (ha : PA X [e] t) (h : X.K = K := by rfl)
    (hbase : attributeBase o "index" X.env (eval o X.env) = eval o X.env := by rfl)
    (hfew : ((backTo cpos (starEach [e] X.env)).all (fun x => !x.1) && (backToKw cpos (keywordEach [] X.env)).all (fun x => x.1.isSome)
      && decide (([e] : List Expr).length + ([] : List Keyword).length + (if ([] : List Keyword).isEmpty then 0 else 1) < 30)) = true := by rfl)
    (hline : (apos.endLine == cpos.line) = true := by rfl) (hs : starEach [e] X.env = (false, eval e X.env) :: starEach [] X.env := by rfl) (hplain : (backTo cpos (starEach [] X.env)).any (·.1) = false := by rfl) :
    PE X (.Call (.Attribute o "index" apos) [e] [] cpos) (tBM K "list" (rIndexD K) to t) := by
  subst h
  exact pe_bm PySem.F.plainAttrs_list PySem.F.slot_list_index PySem.F.type_list_index (mt_indexD hu2) ho ha hbase hfew hline hs hplain
end
namespace Rd
variable {K : PySem.W.Frag} {σ : St} {H : Hp} {Q : VK} {ta : TE}
theorem un {r : V → Hp → VK → Prop} (h : ta σ H fun x H1 => r x H1 Q) : tUn r ta σ H Q := h
theorem negI {i : Int} (q : Q (.int (-i)) H) : rU (fun i => V.int (-i)) (.int i) H Q := ⟨i, rfl, q⟩
end Rd
end Fw
namespace Fw
open PySem PySem.Spec L2
theorem pe_mk0 {X : Cx} {P : Program} {w : World} {K : PySem.W.Frag} {mg : Str → Option Value} {base : Heap} {CX : CXT} {x qual : Str} {st : Stmt} {C : Addr} {k : Nat} {ps : List Str} {sp : Sp} {E : XK} {p pos : Pos} (d : Mf K "__init__" qual st ps) (M : Mk K C d.f) (hm : mg x = some (.ref C)) (F : FnOk P w K mg base CX k d.f d.fd ps sp) (hr : Room (k + 1) X.A) (hx : Passes CX X E)
    (h1 : X.prog = P := by rfl) (h2 : X.w = w := by rfl) (h3 : X.K = K := by rfl) (h4 : X.mg = mg := by rfl) (h5 : X.base = base := by rfl) (hg : Gl X x := by rfl)
    (hdb : (x == ("__debug__" : Str)) = false := by decide) :
    PE X (.Call (.Name x p) [] [] pos) (tMake C sp [] E tNil) := by
  subst h1 h2 h3 h4 h5
  exact pe_make0 M F hr hg hm d.b .nil hx hdb
theorem klenO {X : Cx} (K : PySem.W.Frag) {n : Nat} {f C : Addr} {fd : FuncData} {sp : Sp} {ps : List Str} (hs : PySem.W.findIn K (.ref C) "__len__" = some (some (.ref f))) (hf : PySem.W.isFn K (.ref f) = true) (F : FnOk X.prog X.w K X.mg X.base CX0 n f fd ps sp) (b : Binds K fd ps []) (hr : Room (n + 1) X.A) (h : X.K = K := by rfl) : CallR X (.builtin "len") (rLenO K C sp) := by
  subst h; exact call_lenO hs hf F b hr
theorem u65 {k : Nat} {A : Around} (r : Room (k + 1) A) : A.units + 65 < cLine := by have := r.un; omega
end Fw

namespace Toy
open PySem L2 Fw
local macro_rules | `(tactic| walk_at "sz") => `(tactic| first | assumption | omega | decide | (have q_sz : sizeLine = 16777216 := sizeLine_eq; simp only [List.length_append, List.length_cons, List.length_nil]; omega) | (have q_sz : sizeLine = 16777216 := sizeLine_eq; simp only [List.length_cons, List.length_nil] at *; omega) | (have q_sz : sizeLine = 16777216 := sizeLine_eq; omega))
local macro_rules | `(tactic| walk_at "hp") => `(tactic| first | assumption | exact upd_same)
local macro_rules | `(tactic| walk_at "sq") => `(tactic| first | assumption | exact SqL.of (by walk_at "hp") | exact SqT.of (by walk_at "hp"))
local macro_rules | `(tactic| walk_at "sl") => `(tactic| first | assumption | omega | (simp only [List.length_append, List.length_take, List.length_drop, List.length_singleton, List.length_cons, List.length_nil, List.length_map, rep_len, Int.reduceToNat]; omega))
local macro_rules | `(tactic| walk_at "rd1") => `(tactic| first
  | ((with_reducible refine' Rd.var ?k1 ?_); (case k1 => rfl))
  | (with_reducible refine Rd.con ?_)
  | (with_reducible refine Rd.op ?_)
  | (with_reducible refine Rd.seq ?_)
  | ((with_reducible refine Rd.asg ?_); dsimp only [List.set])
  | (with_reducible refine Rd.drop ?_)
  | (with_reducible refine Rd.asgSub ?_)
  | ((with_reducible refine' Rd.setL ?k1 ?k2 ?_); (case k1 => walk_at "hp"); (case k2 => first | assumption | rfl); try dsimp only [List.set])
  | (with_reducible refine Rd.ret ?_)
  | (with_reducible refine Rd.retN ?_)
  | (with_reducible refine Rd.next ?_)
  | (with_reducible refine Rd.ifS ?_)
  | (with_reducible refine Rd.cons ?_)
  | (with_reducible refine Rd.nil ?_)
  | (with_reducible refine Rd.call ?_)
  | (with_reducible refine Rd.cb ?_)
  | (with_reducible refine Rd.test ?_)
  | (with_reducible refine Rd.tbv ?_)
  | (with_reducible refine Rd.exbl ?_)
  | (with_reducible refine Rd.exint ?_)
  | (with_reducible refine Rd.yes ?_)
  | (with_reducible refine Rd.andT ?_)
  | (with_reducible refine Rd.orT ?_)
  | (with_reducible refine Rd.notT ?_)
  | (with_reducible refine Rd.andV ?_)
  | (with_reducible refine Rd.orV ?_)
  | (with_reducible refine Rd.notV ?_)
  | (with_reducible refine Rd.chain ?_)
  | (with_reducible refine Rd.sl ?_)
  | (with_reducible refine Rd.lcL ?_)
  | (with_reducible refine Rd.lcT ?_)
  | (with_reducible refine Rd.lcR ?_)
  | (with_reducible refine Rd.lcS ?_)
  | (with_reducible refine Rd.foL ?_)
  | (with_reducible refine Rd.foT ?_)
  | (with_reducible refine Rd.foR ?_)
  | ((with_reducible refine' Rd.exrange ?k1 ?k2 ?_); (case k1 => first | decide | omega); (case k2 => first | decide | omega))
  | (with_reducible refine Rd.exstr ?_)
  | ((with_reducible refine' Rd.exlist ?k1 ?_); (case k1 => walk_at "sq"))
  | ((with_reducible refine' Rd.extup ?k1 ?_); (case k1 => walk_at "sq"))
  | (with_reducible refine Rd.noPart ?_)
  | (with_reducible refine Rd.part ?_)
  | (with_reducible refine Rd.addI ?_)
  | (with_reducible refine Rd.subI ?_)
  | (with_reducible refine Rd.gtI ?_)
  | (with_reducible refine Rd.geI ?_)
  | (with_reducible refine Rd.ltI ?_)
  | (with_reducible refine Rd.leI ?_)
  | (with_reducible refine Rd.eqI ?_)
  | (with_reducible refine Rd.neI ?_)
  | (with_reducible refine RS.eq ?_)
  | (with_reducible refine RS.ne ?_)
  | (with_reducible refine Rd.eqS ?_)
  | (with_reducible refine Rd.neS ?_)
  | (with_reducible refine Rd.leC ?_)
  | (with_reducible refine Rd.ltS ?_)
  | (with_reducible refine Rd.leS ?_)
  | (with_reducible refine Rd.int1 ?_)
  | ((with_reducible refine' Rd.modI ?k1 ?_); (case k1 => first | decide | omega | assumption))
  | ((with_reducible refine' Rd.divI ?k1 ?_); (case k1 => exact ⟨by omega, by omega⟩))
  | ((with_reducible refine' Rd.mulI ?k1 ?_); (case k1 => first | exact .inl ⟨by decide, by decide⟩ | exact .inr ⟨by decide, by decide⟩ | exact .inl ⟨by omega, by omega⟩ | exact .inr ⟨by omega, by omega⟩))
  | ((with_reducible refine' RS.mul ?k1 ?k2 ?k3 ?k4 ?_); (case k1 => decide); (case k2 => decide); (case k3 => walk_at "sl"); (case k4 => walk_at "sl"))
  | ((with_reducible refine' Rd.mulS ?k1 ?k2 ?k3 ?_); (case k1 => first | decide | omega); (case k2 => first | decide | omega); (case k3 => walk_at "sz"))
  | ((with_reducible refine' Rd.powI ?k1 ?_); (case k1 => exact ⟨by decide, by decide, by decide⟩))
  | ((with_reducible refine' Rd.lenL ?k1 ?_); (case k1 => walk_at "sq"))
  | ((with_reducible refine' Rd.lenT ?k1 ?_); (case k1 => walk_at "sq"))
  | ((with_reducible refine' RS.len ?k1 ?_); (case k1 => walk_at "sl"))
  | ((with_reducible refine' Rd.lenS ?k1 ?_); (case k1 => walk_at "sz"))
  | ((with_reducible refine' Rd.sumL ?k1 ?_); (case k1 => walk_at "sq"))
  | ((with_reducible refine' RS.ix ?k1 ?k2 ?_); (case k1 => walk_at "sl"); (case k2 => assumption))
  | ((with_reducible refine' Rd.ixL ?k1 ?k2 ?_); (case k1 => walk_at "sq"); (case k2 => first | assumption | rfl))
  | ((with_reducible refine' Rd.ixT ?k1 ?k2 ?_); (case k1 => walk_at "sq"); (case k2 => first | assumption | rfl))
  | ((with_reducible refine' RS.slTo ?k1 ?k2 ?_); (case k1 => omega); (case k2 => walk_at "sl"))
  | ((with_reducible refine' RS.slFrom ?k1 ?k2 ?_); (case k1 => omega); (case k2 => walk_at "sl"))
  | ((with_reducible refine' RS.slFT ?k1 ?k2 ?k3 ?_); (case k1 => omega); (case k2 => omega); (case k3 => walk_at "sl"))
  | ((with_reducible refine' Rd.slS ?k1 ?_); (case k1 => walk_at "sz"))
  | ((with_reducible refine' RS.add ?k1 ?_); (case k1 => walk_at "sl"))
  | ((with_reducible refine' Rd.addS ?k1 ?_); (case k1 => walk_at "sz"))
  | (with_reducible refine Rd.tup ?_)
  | (with_reducible refine Rd.lst ?_)
  | (with_reducible refine Rd.m0 ?_)
  | (with_reducible refine Rd.m1 ?_)
  | (with_reducible refine Rd.isStr ?_)
  | ((with_reducible refine' RS.upper ?k1 ?k2 ?_); (case k1 => assumption); (case k2 => walk_at "sl"))
  | ((with_reducible refine' Rd.upper ?k1 ?_); (case k1 => walk_at "sz"))
  | (with_reducible refine Rd.bm ?_)
  | ((with_reducible refine' Rd.tyL ?k1 ?_); (case k1 => walk_at "hp"))
  | ((with_reducible refine' Rd.append ?k1 ?k2 ?_); (case k1 => walk_at "hp"); (case k2 => walk_at "sz"))
  | (with_reducible refine Rd.make ?_)
  | (with_reducible refine Rd.meth ?_)
  | (with_reducible refine Rd.sfld ?_)
  | (with_reducible refine Rd.con_ ?_)
  | (with_reducible refine Rd.fld ?_)
  | (with_reducible refine Rd.tryAs ?_)
  | (with_reducible refine Rd.tryAsN ?_)
  | (with_reducible refine Rd.lenSetT ?_)
  | (with_reducible refine Rd.makeT ?_)
  | (with_reducible refine Rd.methT ?_)
  | (with_reducible refine Rd.callS ?_)
  | (with_reducible refine Rd.xf ?_)
  | (with_reducible refine Rd.mko ?_)
  | (with_reducible refine Rd.ost ?_)
  | (with_reducible refine Rd.iteNF ?_)
  | (with_reducible refine Rd.iteNT ?_)
  | (with_reducible refine Rd.iteT ?_)
  | (with_reducible refine Rd.iteF ?_)
  | ((with_reducible refine' Rd.iteDT ?k1 ?_); (case k1 => decide))
  | ((with_reducible refine' Rd.iteDF ?k1 ?_); (case k1 => decide))
  | ((with_reducible refine' Rd.iteNDT ?k1 ?_); (case k1 => decide))
  | ((with_reducible refine' Rd.iteNDF ?k1 ?_); (case k1 => decide))
  | ((with_reducible refine' Rd.iteBT ?k1 ?_); (case k1 => rfl))
  | ((with_reducible refine' Rd.iteBF ?k1 ?_); (case k1 => rfl)))
local macro_rules | `(tactic| walk_at "rd") => `(tactic| repeat walk_at "rd1")
local macro_rules | `(tactic| walk_at "rd1") => `(tactic| first
  | (with_reducible refine Rd.un ?_)
  | (with_reducible refine Rd.negI ?_))
def top (i : Nat) : Stmt := PySem.Challenge.pw_redopages_k11_numbers_of_formulas.main.body.getD i (.Pass ⟨0, 0, 0, 0⟩)
section
variable {P : Program} {w : World} {K : PySem.W.Frag} {mg : Str → Option Value} {base : Heap} {tk : Tok}
/-! ### the draws -/
def PoolAt (H : Hp) (p : Addr) : Prop := ∃ d s c : Int, H p = some (.lst [.int d, .int s, .int c])
def spDraw : Sp := fun vs H Q _ => ∃ (p : Addr) (m : Int), vs = [.ref p, .int m] ∧ 0 < m ∧ m < 1073741824 ∧ PoolAt H p ∧
  ∀ (r : Int) (H' : Hp), 0 ≤ r → r < m → (∀ a, a ≠ p → H' a = H a) → PoolAt H' p → Q (.int r) H'
abbrev s_law_draw : Stmt := top 7
theorem sc_law_draw : FnScope ["_law_pool_here", "_law_many", "_law_digit"] ["_law_pool_here", "_law_many"] (defScope s_law_draw) := ⟨rfl, rfl, rfl, by decide +kernel, rfl, by decide +kernel, by decide +kernel⟩
theorem ok_draw {f : Addr} {fd : FuncData} (F : Fun K "_law_draw" "_law_draw" s_law_draw f fd) (T : Bt mg) : FnOk P w K mg base CX0 1 f fd ["_law_pool_here", "_law_many"] spDraw := by
  refine F.ok sc_law_draw (fun vs H Q E h => ?_) (fun cdv A outer s H vs Q E hr h => ?_)
  · obtain ⟨p, m, rfl, _⟩ := h
    rfl
  · obtain ⟨p, m, rfl, hm, hm2, ⟨d, sd, c, hp⟩, k⟩ := h
    refine ⟨_, (pss_cons (ps_if (PW.pt (pw_and (pt_cmpR op_gtI (pe_ix (kix K) (pv 0) pe_int (fun _ _ => rfl)) pe_int (nomark _)) (pw_and1 (pt_cmpR op_gtI (pe_ix (kix K) (pv 0) pe_int (fun _ _ => rfl)) pe_int (nomark _))))) (pss_cons (ps_set (i := 2) sc_law_draw.nd rfl (Or.inl rfl) (pe_op op_modI (pe_callTy call_intA (by rfl) T.int (by decide +kernel) (pa_cons (pe_ix (kix K) (pv 0) pe_int (fun _ _ => rfl)) pa_nil)) (pv 1)))
  (pss_cons (ps_asg (pe_op op_divI (pe_ix (kix K) (pv 0) pe_int (fun _ _ => rfl)) (pv 1)) (pg_sub (pv 0) pe_int set_list))
  (pss_cons (ps_asg (pe_op op_subI (pe_ix (kix K) (pv 0) pe_int (fun _ _ => rfl)) pe_int) (pg_sub (pv 0) pe_int set_list))
  (pss_one (ps_ret (pv 2))))))
  pss_nil)
  (pss_cons (ps_asg (pe_op op_modI (pe_callTy call_intA (by rfl) T.int (by decide +kernel) (pa_cons (pe_op op_addA (pe_op op_mulA (pe_ix (kix K) (pv 0) pe_int (fun _ _ => rfl)) pe_int) pe_int) pa_nil)) pe_int) (pg_sub (pv 0) pe_int set_list))
  (pss_one (ps_ret (pe_op op_modI (pe_callTy call_intA (by rfl) T.int (by decide +kernel) (pa_cons (pe_ix (kix K) (pv 0) pe_int (fun _ _ => rfl)) pa_nil)) (pv 1)))))), ?_⟩
    refine Rd.start_ (σ' := [some (.ref p), some (.int m), none]) rfl ?_
    have fin : ∀ (H' : Hp) (x : Int) (d' s' c' : Int), H' = upd (upd H p (.lst [.int d', .int sd, .int c])) p (.lst [.int d', .int s', .int c']) → Q (.int (x % m)) H' := fun H' x d' s' c' e => by
      subst e
      exact k _ _ (Int.emod_nonneg _ (by omega)) (Int.emod_lt_of_pos _ hm) (fun a ha => by rw [upd_ne ha, upd_ne ha]) ⟨_, _, _, upd_same⟩
    have fin1 : ∀ (x : Int) (d' s' c' : Int), Q (.int (x % m)) (upd H p (.lst [.int d', .int s', .int c'])) := fun x d' s' c' =>
      k _ _ (Int.emod_nonneg _ (by omega)) (Int.emod_lt_of_pos _ hm) (fun a ha => by rw [upd_ne ha]) ⟨_, _, _, upd_same⟩
    walk_at "rd"
    refine Rd.iteD (fun h1 => ?_) (fun h1 => ?_)
    · walk_at "rd"
      refine Rd.iteD (fun h2 => ?_) (fun h2 => ?_)
      · walk_at "rd"
        exact fin _ _ _ _ _ rfl
      · walk_at "rd"
        exact fin1 _ _ _ _
    · walk_at "rd"
      exact fin1 _ _ _ _

def spPool (K : PySem.W.Frag) : Sp := fun vs H Q _ => ∃ (a : Addr) (ns : List Int) (k : Int), vs = [.ref a, .int k] ∧ SqL K H a (ns.map V.int) ∧ ns.length ≤ 63 ∧ 0 ≤ k ∧ k < 100 ∧
  ∀ (p : Addr) (H' : Hp), H p = none → Same H H' → PoolAt H' p → Q (.ref p) H'
abbrev s_law_pool : Stmt := top 10
theorem sc_law_pool : FnScope ["_law_script", "_law_k", "_law_seed", "_law_digits"] ["_law_script", "_law_k"] (defScope s_law_pool) := ⟨rfl, rfl, rfl, by decide +kernel, rfl, by decide +kernel, by decide +kernel⟩
theorem ok_pool {f : Addr} {fd : FuncData} (F : Fun K "_law_pool" "_law_pool" s_law_pool f fd) (T : Bt mg) : FnOk P w K mg base CX0 1 f fd ["_law_script", "_law_k"] (spPool K) := by
  refine F.ok sc_law_pool (fun vs H Q E h => ?_) (fun cdv A outer s H vs Q E hr h => ?_)
  · obtain ⟨p, ns, m, rfl, _⟩ := h
    rfl
  · obtain ⟨a, ns, m, rfl, hS, hl, hm, hm2, k⟩ := h
    have hu := hr.units
    refine ⟨_, (pss_cons (ps_set (i := 2) sc_law_pool.nd rfl (Or.inl rfl) (pe_op op_addA (pe_op op_addA (pe_op op_mulA pe_int (pv 1)) pe_int) (pe_op op_mulA pe_int (pe_callB (ksum K) (by rfl) T.sum (by decide +kernel) (pa_cons (pv 0) pa_nil)))))
  (pss_cons (ps_set (i := 3) sc_law_pool.nd rfl (Or.inl rfl) pe_int)
  (pss_cons (ps_if (pt_cmpR op_ltA (pv 1) (pe_callB (klen K) (by rfl) T.len (by decide +kernel) (pa_cons (pv 0) pa_nil)) (nomark _)) (pss_cons (ps_set (i := 2) sc_law_pool.nd rfl (Or.inl rfl) (pe_op op_addA (pv 2) (pe_ix (kix K) (pv 0) (pv 1) (fun _ _ => rfl))))
  (pss_one (ps_if (pt_cmpR op_geI (pe_ix (kix K) (pv 0) (pv 1) (fun _ _ => rfl)) (pe_op op_powI pe_int pe_int) (nomark _)) (pss_one (ps_set (i := 3) sc_law_pool.nd rfl (Or.inl rfl) (pe_ix (kix K) (pv 0) (pv 1) (fun _ _ => rfl))))
  pss_nil)))
  pss_nil)
  (pss_one (ps_ret (pe_lst (pa_cons (pv 3) (pa_cons (pe_op op_modI (pe_callTy call_intA (by rfl) T.int (by decide +kernel) (pa_cons (pv 2) pa_nil)) pe_int) (pa_cons pe_int pa_nil))))))))), ?_⟩
    refine Rd.start_ (σ' := [some (.ref a), some (.int m), none, none]) rfl ?_
    have fin : ∀ x y z : Int, ∀ p, H p = none → Q (.ref p) (upd H p (.lst [.int x, .int y, .int z])) := fun x y z p hp => k p _ hp (same_new hp) ⟨_, _, _, upd_same⟩
    walk_at "rd"
    refine Rd.iteD (fun h1 => ?_) (fun h1 => ?_)
    · rw [List.length_map] at h1
      obtain ⟨z, hat⟩ : ∃ z, atI (ns.map V.int) m = some (V.int z) := by
        have hlt : m.toNat < ns.length := by omega
        have e : m = ((m.toNat : Nat) : Int) := by omega
        exact ⟨ns[m.toNat], (congrArg (atI (ns.map V.int)) e).trans (atI_nat (by simp [hlt]))⟩
      walk_at "rd"
      refine Rd.iteD (fun h2 => ?_) (fun h2 => ?_)
      · walk_at "rd"
        exact ⟨by show 3 ≤ sizeLine; decide, fin _ _ _⟩
      · walk_at "rd"
        exact ⟨by show 3 ≤ sizeLine; decide, fin _ _ _⟩
    · walk_at "rd"
      exact ⟨by show 3 ≤ sizeLine; decide, fin _ _ _⟩

/-! ### words of drawn letters -/
theorem letters_at : ∀ k, k < 26 → ([97, 98, 99, 100, 101, 102, 103, 104, 105, 106, 107, 108, 109, 110, 111, 112, 113, 114, 115, 116, 117, 118, 119, 120, 121, 122] : List Nat)[k]? = some (97 + k) := by decide +kernel
theorem letter_at (n : Int) : atI ([97, 98, 99, 100, 101, 102, 103, 104, 105, 106, 107, 108, 109, 110, 111, 112, 113, 114, 115, 116, 117, 118, 119, 120, 121, 122] : List Nat) (n % 26) = some (97 + (n % 26).toNat) := by
  have h0 : 0 ≤ n % 26 := Int.emod_nonneg _ (by decide)
  have h1 : n % 26 < 26 := Int.emod_lt_of_pos _ (by decide)
  have e : n % 26 = (((n % 26).toNat : Nat) : Int) := by omega
  rw [e]
  exact atI_nat (letters_at _ (by omega))
def wordL (ns : List Int) : List Nat := ns.map fun n => 97 + (n % 26).toNat
theorem join_chars : ∀ l : List Nat, TL.joinL [] (l.map fun c => [c]) = l
  | [] => rfl
  | [c] => rfl
  | c :: d :: l => by
    show [c] ++ ([] ++ TL.joinL [] ((d :: l).map fun c => [c])) = c :: d :: l
    rw [join_chars (d :: l)]
    rfl
theorem join_word (l : List Nat) : Txt.join (S []) (l.map fun c => (⟨#[c]⟩ : Str)) = S l := by
  have e := SX.join_S [] (l.map fun c => [c])
  rw [join_chars, List.map_map] at e
  exact e
theorem sum_ones (l : List Nat) : ((l.map fun c => (⟨#[c]⟩ : Str)).map (·.length)).sum = l.length := by
  induction l with
  | nil => rfl
  | cons c l ih =>
    rw [List.map_cons, List.map_cons, List.sum_cons, ih, List.length_cons]
    show 1 + l.length = l.length + 1
    omega
def spWord (K : PySem.W.Frag) : Sp := fun vs H Q _ => ∃ (a : Addr) (ns : List Int), vs = [.ref a] ∧ SqL K H a (ns.map V.int) ∧ ns.length ≤ 100 ∧
  ∀ (H' : Hp), Same H H' → Q (.str (S (wordL ns))) H'
abbrev s_law_word : Stmt := top 8
theorem sc_law_word : FnScope ["_law_numbers", "_law_letters", "_law_number"] ["_law_numbers"] (defScope s_law_word) := ⟨rfl, rfl, rfl, by decide +kernel, rfl, by decide +kernel, by decide +kernel⟩
theorem ok_word {f : Addr} {fd : FuncData} (F : Fun K "_law_word" "_law_word" s_law_word f fd) (T : Bt mg) : FnOk P w K mg base CX0 1 f fd ["_law_numbers"] (spWord K) := by
  refine F.ok sc_law_word (fun vs H Q E h => ?_) (fun cdv A outer s H vs Q E hr h => ?_)
  · obtain ⟨p, ns, rfl, _⟩ := h
    rfl
  · obtain ⟨a, ns, rfl, hS, hl, k⟩ := h
    refine ⟨_, (pss_cons (ps_set (i := 1) sc_law_word.nd rfl (Or.inr rfl) (pe_lit [97, 98, 99, 100, 101, 102, 103, 104, 105, 106, 107, 108, 109, 110, 111, 112, 113, 114, 115, 116, 117, 118, 119, 120, 121, 122] (by decide +kernel)))
  (pss_one (ps_ret (kjoin K (pe_lit [] (by decide +kernel)) (pe_lc (own := [("_law_number", 2)]) (g := gName 2) (tt := tYes) rfl sc_law_word.nd (kpl K (pv 0)) (blkOk_by (N := ["_law_numbers", "_law_letters", "_law_number"]) (sc := defScope s_law_word) (by decide +kernel)) (fun _ _ _ _ _ => (pg_name (i := 2) sc_law_word.nd rfl (Or.inl rfl))) (fun _ _ _ _ _ => pts_nil) (fun _ _ _ _ _ => (pe_ix (kix K) (pv 1) (pe_op op_modI (pe_callTy call_intA (by rfl) T.int (by decide +kernel) (pa_cons (pv 2) pa_nil)) pe_int) (fun _ _ => rfl)))))))), ?_⟩
    refine Rd.start_ (σ' := [some (.ref a), none, none]) rfl ?_
    walk_at "rd"
    refine Rd.lcW Rd.wList (by rw [List.length_map]; walk_at "sz") (fun i acc H' => Same H H' ∧ acc = (wordL (ns.take i)).map fun c => V.str ⟨#[c]⟩) ⟨Same.refl _, rfl⟩
      (fun D hD i acc ys H' j => ⟨same_upd j.1 hD, j.2⟩) (fun i acc H' hi j => j.1.seq hS) ?_ ?_
    · intro D hD i x acc H' hi hx hacc hlen ⟨j1, j2⟩ Kt Kf hT hF
      dsimp only [List.set]
      rw [List.getElem?_map] at hx
      obtain ⟨z, hz, rfl⟩ := Option.map_eq_some_iff.mp hx
      walk_at "rd"
      refine RS.ix (by decide) (letter_at z) ?_
      refine hT _ _ hacc ⟨j1, ?_⟩
      rw [j2]
      unfold wordL
      rw [List.take_add_one, hz]
      simp
    · intro D acc H' hD hacc hlen ⟨j1, j2⟩
      rw [List.length_map] at j2
      rw [List.take_length] at j2
      have e : acc = (((wordL ns).map fun c => (⟨#[c]⟩ : Str)).map V.str) := by rw [j2, List.map_map]; rfl
      rw [e] at hacc
      refine Rd.join (SqL.of hacc) ?_ ?_
      · rw [sum_ones]
        show _ + _ * 0 ≤ _
        unfold wordL
        rw [List.length_map]
        omega
      · rw [join_word]
        exact k H' j1

end
section
variable {P : Program} {w : World} {K : PySem.W.Frag} {mg : Str → Option Value} {base : Heap} {tk : Tok}
/-! ### names -/
/-- a name: 1 to 8 letters -/
def Nm (l : List Nat) : Prop := 1 ≤ l.length ∧ l.length ≤ 8 ∧ ∀ c ∈ l, 97 ≤ c ∧ c ≤ 122
def letterL (z : Int) : List Nat := [97 + (z % 26).toNat]
/-- the k-th name, as drawn -/
def nameL (style shift stride place size : Int) (word : List Nat) (k : Nat) : List Nat :=
  if style = 2 then letterL (shift + stride * k) ++ (word.drop k).take ((k + (place + 3 * k) % 8).toNat - k)
  else if style = 1 then word.take (1 + (k + place) % 8).toNat
  else word.take (place % size).toNat ++ letterL (shift + stride * k) ++ (word.drop (place % size + 1).toNat).take (size.toNat - (place % size + 1).toNat)
structure Drawn (style shift stride place size : Int) (word : List Nat) : Prop where
  sh : 0 ≤ shift ∧ shift < 26
  st : ∃ d : Int, 0 ≤ d ∧ d < 6 ∧ stride = 1 + 2 * d
  pl : 0 ≤ place ∧ place < 8
  sz : 1 ≤ size ∧ size ≤ 8
  wl : word.length = 8
  wc : ∀ c ∈ word, 97 ≤ c ∧ c ≤ 122
theorem letter_ok {z : Int} : ∀ c ∈ letterL z, 97 ≤ c ∧ c ≤ 122 := by
  intro c hc
  have h1 : z % 26 < 26 := Int.emod_lt_of_pos _ (by decide)
  have e : c = 97 + (z % 26).toNat := List.mem_singleton.mp hc
  omega
section
variable {style shift stride place size : Int} {word : List Nat}
theorem at_lt (D : Drawn style shift stride place size word) : 0 ≤ place % size ∧ place % size < size := ⟨Int.emod_nonneg _ (by have := D.sz; omega), Int.emod_lt_of_pos _ (by have := D.sz; omega)⟩
theorem name_ok (D : Drawn style shift stride place size word) {k : Nat} (hk : k < 8) : Nm (nameL style shift stride place size word k) := by
  obtain ⟨⟨s1, s2⟩, _, ⟨p1, p2⟩, ⟨z1, z2⟩, wl, wc⟩ := id D
  obtain ⟨a1, a2⟩ := at_lt D
  unfold nameL Nm
  by_cases h2 : style = 2
  · rw [if_pos h2]
    refine ⟨?_, ?_, ?_⟩
    · simp [letterL]
    · simp only [letterL, List.length_append, List.length_singleton, List.length_take, List.length_drop, wl]; omega
    · intro c hc
      rcases List.mem_append.mp hc with hc | hc
      · exact letter_ok c hc
      · exact wc c (List.mem_of_mem_drop (List.mem_of_mem_take hc))
  · rw [if_neg h2]
    by_cases h1 : style = 1
    · rw [if_pos h1]
      refine ⟨?_, ?_, fun c hc => wc c (List.mem_of_mem_take hc)⟩
      · rw [List.length_take, wl]; omega
      · rw [List.length_take, wl]; omega
    · rw [if_neg h1]
      refine ⟨?_, ?_, ?_⟩
      · simp only [letterL, List.length_append, List.length_singleton]; omega
      · simp only [letterL, List.length_append, List.length_singleton, List.length_take, List.length_drop, wl]; omega
      · intro c hc
        rcases List.mem_append.mp hc with hc | hc
        · rcases List.mem_append.mp hc with hc | hc
          · exact wc c (List.mem_of_mem_take hc)
          · exact letter_ok c hc
        · exact wc c (List.mem_of_mem_drop (List.mem_of_mem_take hc))
theorem letter_inj (D : Drawn style shift stride place size word) {j k : Nat} (hj : j < 8) (hk : k < 8) (e : 97 + ((shift + stride * j) % 26).toNat = 97 + ((shift + stride * k) % 26).toNat) : j = k := by
  obtain ⟨d, d0, d6, rfl⟩ := D.st
  have hd : d = 0 ∨ d = 1 ∨ d = 2 ∨ d = 3 ∨ d = 4 ∨ d = 5 := by omega
  rcases hd with rfl | rfl | rfl | rfl | rfl | rfl <;> omega
theorem name_inj (D : Drawn style shift stride place size word) {j k : Nat} (hj : j < 8) (hk : k < 8) (e : nameL style shift stride place size word j = nameL style shift stride place size word k) : j = k := by
  obtain ⟨⟨s1, s2⟩, _, ⟨p1, p2⟩, ⟨z1, z2⟩, wl, wc⟩ := id D
  obtain ⟨a1, a2⟩ := at_lt D
  unfold nameL at e
  by_cases h2 : style = 2
  · rw [if_pos h2, if_pos h2] at e
    exact letter_inj D hj hk (List.cons.inj e).1
  · rw [if_neg h2, if_neg h2] at e
    by_cases h1 : style = 1
    · rw [if_pos h1, if_pos h1] at e
      have q := congrArg List.length e
      rw [List.length_take, List.length_take, wl] at q
      omega
    · rw [if_neg h1, if_neg h1, List.append_assoc, List.append_assoc] at e
      exact letter_inj D hj hk (List.cons.inj (List.append_cancel_left e)).1
theorem names_nodup (D : Drawn style shift stride place size word) : ((List.range 8).map (nameL style shift stride place size word)).Nodup := by
  refine List.pairwise_map.mpr (List.Pairwise.imp_of_mem (fun {a b} ha hb hab e => ?_) (List.nodup_range (n := 8)))
  exact hab (name_inj D (List.mem_range.mp ha) (List.mem_range.mp hb) e)
end
/-- all but p as it was -/
def SameB (p : Addr) (H H' : Hp) : Prop := ∀ a o, a ≠ p → H a = some o → H' a = some o
theorem SameB.refl (p : Addr) (H : Hp) : SameB p H H := fun _ _ _ h => h
theorem SameB.trans {p : Addr} {H H1 H2 : Hp} (a : SameB p H H1) (b : SameB p H1 H2) : SameB p H H2 := fun c o n h => b c o n (a c o n h)
theorem SameB.of {p : Addr} {H H' : Hp} (a : Same H H') : SameB p H H' := fun c o _ h => a c o h
theorem SameB.drawn {p : Addr} {H H' : Hp} (a : ∀ b, b ≠ p → H' b = H b) : SameB p H H' := fun c o n h => by rw [a c n]; exact h
theorem SameB.upd {p D : Addr} {o : HO} {H0 H : Hp} (e : SameB p H0 H) (h : H0 D = none) : SameB p H0 (upd H D o) := fun a u n ha => by
  rw [upd_ne (ne_of_none ha h)]; exact e a u n ha
theorem fresh_of {H G : Hp} {a p : Addr} (h : G a = none) (s : SameB p H G) (n : p ≠ a) : H a = none := by
  cases e : H a with
  | none => rfl
  | some o => rw [s a o (Ne.symm n) e] at h; cases h
/-- a list of names at q -/
def NamesAt (H : Hp) (q : Addr) (ns : List (List Nat)) : Prop := H q = some (.lst (ns.map fun l => V.str (S l)))
def spNames : Sp := fun vs H Q _ => ∃ (p : Addr), vs = [.ref p] ∧ PoolAt H p ∧
  ∀ (ns : List (List Nat)) (q : Addr) (H' : Hp), ns.length = 8 → (∀ l ∈ ns, Nm l) → ns.Nodup → H q = none → SameB p H H' → PoolAt H' p → NamesAt H' q ns → Q (.ref q) H'

theorem pool_of {H H' : Hp} {p : Addr} (h : PoolAt H p) (e : Same H H') : PoolAt H' p := by
  obtain ⟨d, s, c, q⟩ := h
  exact ⟨d, s, c, e _ _ q⟩
theorem PoolAt.upd {H : Hp} {p D : Addr} {o : HO} (h : PoolAt H p) (n : p ≠ D) : PoolAt (upd H D o) p := by
  obtain ⟨d, s, c, q⟩ := h
  exact ⟨d, s, c, by rw [upd_ne n]; exact q⟩
theorem pool_ne {H : Hp} {p D : Addr} (h : PoolAt H p) (n : H D = none) : p ≠ D := by
  obtain ⟨d, s, c, q⟩ := h
  exact ne_of_none q n
theorem nameL0 {style shift stride place size : Int} {word : List Nat} {k : Nat} (h1 : ¬ style = 1) (h2 : ¬ style = 2) : nameL style shift stride place size word k = word.take (place % size).toNat ++ letterL (shift + stride * k) ++ (word.drop (place % size + 1).toNat).take (size.toNat - (place % size + 1).toNat) := by
  unfold nameL; rw [if_neg h2, if_neg h1]
theorem nameL1 {style shift stride place size : Int} {word : List Nat} {k : Nat} (h1 : style = 1) : nameL style shift stride place size word k = word.take (1 + (k + place) % 8).toNat := by
  unfold nameL; rw [if_neg (by omega), if_pos h1]
theorem nameL2 {style shift stride place size : Int} {word : List Nat} {k : Nat} (h2 : style = 2) : nameL style shift stride place size word k = letterL (shift + stride * k) ++ (word.drop k).take ((k + (place + 3 * k) % 8).toNat - k) := by
  unfold nameL; rw [if_pos h2]
abbrev s_law_names : Stmt := top 9
theorem sc_law_names : FnScope ["_law_pool_here", "_law_style", "_law_shift", "_law_stride", "_law_place", "_law_size", "_law_word_here", "_law_names_here", "_law_k", "_law_letter", "_law_at", "_law_name"] ["_law_pool_here"] (defScope s_law_names) := ⟨rfl, rfl, rfl, by decide +kernel, rfl, by decide +kernel, by decide +kernel⟩
theorem ok_names {f : Addr} {fd : FuncData} (F : Fun K "_law_names" "_law_names" s_law_names f fd) (T : Bt mg) (dD : Df K mg "_law_draw" "_law_draw" s_law_draw ["_law_pool_here", "_law_many"]) (dW : Df K mg "_law_word" "_law_word" s_law_word ["_law_numbers"]) :
    FnOk P w K mg base CX0 2 f fd ["_law_pool_here"] spNames := by
  have GD : FnOk P w K mg base CX0 1 dD.f dD.fd _ spDraw := ok_draw dD.F T
  have GW : FnOk P w K mg base CX0 1 dW.f dW.fd _ (spWord K) := ok_word dW.F T
  refine F.ok sc_law_names (fun vs H Q E h => ?_) (fun cdv A outer s H vs Q E hr h => ?_)
  · obtain ⟨p, rfl, _⟩ := h
    rfl
  · obtain ⟨p, rfl, hp, k⟩ := h
    have hu := hr.units
    refine ⟨_, (pss_cons (ps_set (i := 1) sc_law_names.nd rfl (Or.inl rfl) (pe_cf dD GD hr pass0 (pa_cons (pv 0) (pa_cons pe_int pa_nil))))
  (pss_cons (ps_set (i := 2) sc_law_names.nd rfl (Or.inl rfl) (pe_cf dD GD hr pass0 (pa_cons (pv 0) (pa_cons pe_int pa_nil))))
  (pss_cons (ps_set (i := 3) sc_law_names.nd rfl (Or.inl rfl) (pe_op op_addA pe_int (pe_op op_mulA pe_int (pe_cf dD GD hr pass0 (pa_cons (pv 0) (pa_cons pe_int pa_nil))))))
  (pss_cons (ps_set (i := 4) sc_law_names.nd rfl (Or.inl rfl) (pe_cf dD GD hr pass0 (pa_cons (pv 0) (pa_cons pe_int pa_nil))))
  (pss_cons (ps_set (i := 5) sc_law_names.nd rfl (Or.inl rfl) (pe_op op_addA pe_int (pe_cf dD GD hr pass0 (pa_cons (pv 0) (pa_cons pe_int pa_nil)))))
  (pss_cons (ps_set (i := 6) sc_law_names.nd rfl (Or.inl rfl) (pe_cf dW GW hr pass0 (pa_cons (pe_lc (own := [("_law_k", 8)]) (g := gName 8) (tt := tYes) rfl sc_law_names.nd (pi_range1 rfl T.range (pa_cons pe_int pa_nil)) (blkOk_by (N := ["_law_pool_here", "_law_style", "_law_shift", "_law_stride", "_law_place", "_law_size", "_law_word_here", "_law_names_here", "_law_k", "_law_letter", "_law_at", "_law_name"]) (sc := defScope s_law_names) (by decide +kernel)) (fun _ _ _ _ _ => (pg_name (i := 8) sc_law_names.nd rfl (Or.inl rfl))) (fun _ _ _ _ _ => pts_nil) (fun _ _ _ _ _ => (pe_cf dD GD hr pass0 (pa_cons (pv 0) (pa_cons pe_int pa_nil))))) pa_nil)))
  (pss_cons (ps_set (i := 7) sc_law_names.nd rfl (Or.inl rfl) (pe_lst pa_nil))
  (pss_cons (ps_for PassesOwn.never rfl (pi_range1 rfl T.range (pa_cons pe_int pa_nil)) (pg_name (i := 8) sc_law_names.nd rfl (Or.inl rfl))
  (pss_cons (ps_set (i := 9) sc_law_names.nd rfl (Or.inl rfl) (pe_cf dW GW hr pass0 (pa_cons (pe_lst (pa_cons (pe_op op_addA (pv 2) (pe_op op_mulA (pv 3) (pv 8))) pa_nil)) pa_nil)))
  (pss_cons (ps_set (i := 10) sc_law_names.nd rfl (Or.inl rfl) (pe_op op_modI (pe_callTy call_intA (by rfl) T.int (by decide +kernel) (pa_cons (pv 4) pa_nil)) (pv 5)))
  (pss_cons (ps_set (i := 11) sc_law_names.nd rfl (Or.inl rfl) (pe_op op_addA (pe_op op_addA (pe_slice (ksl K) (pv 6) po_none (po_some (pv 10))) (pv 9)) (pe_slice (ksl K) (pv 6) (po_some (pe_op op_addA (pv 10) pe_int)) (po_some (pv 5)))))
  (pss_cons (ps_if (pt_cmpR (keq K hu) (pv 1) pe_int (nomark _)) (pss_one (ps_set (i := 11) sc_law_names.nd rfl (Or.inl rfl) (pe_slice (ksl K) (pv 6) po_none (po_some (pe_op op_addA pe_int (pe_op op_modI (pe_callTy call_intA (by rfl) T.int (by decide +kernel) (pa_cons (pe_op op_addA (pv 8) (pv 4)) pa_nil)) pe_int))))))
  pss_nil)
  (pss_cons (ps_if (pt_cmpR (keq K hu) (pv 1) pe_int (nomark _)) (pss_one (ps_set (i := 11) sc_law_names.nd rfl (Or.inl rfl) (pe_op op_addA (pv 9) (pe_slice (ksl K) (pv 6) (po_some (pv 8)) (po_some (pe_op op_addA (pv 8) (pe_op op_modI (pe_callTy call_intA (by rfl) T.int (by decide +kernel) (pa_cons (pe_op op_addA (pv 4) (pe_op op_mulA pe_int (pv 8))) pa_nil)) pe_int)))))))
  pss_nil)
  (pss_one (ps_expr (kapp K (pv 7) (pa_cons (pv 11) pa_nil))))))))))
  (pss_one (ps_ret (pv 7))))))))))), ?_⟩
    refine Rd.start_ (σ' := [some (.ref p), none, none, none, none, none, none, none, none, none, none, none]) rfl ?_
    walk_at "rd"
    refine ⟨_, _, rfl, by decide, by decide, hp, fun style H1 a1 b1 e1 p1 => ?_⟩
    walk_at "rd"
    refine ⟨_, _, rfl, by decide, by decide, p1, fun shift H2 a2 b2 e2 p2 => ?_⟩
    walk_at "rd"
    refine ⟨_, _, rfl, by decide, by decide, p2, fun d H3 a3 b3 e3 p3 => ?_⟩
    walk_at "rd"
    refine ⟨_, _, rfl, by decide, by decide, p3, fun place H4 a4 b4 e4 p4 => ?_⟩
    walk_at "rd"
    refine ⟨_, _, rfl, by decide, by decide, p4, fun sz H5 a5 b5 e5 p5 => ?_⟩
    have s5 : SameB p H H5 := fun a o n h => by rw [e5 a n, e4 a n, e3 a n, e2 a n, e1 a n]; exact h
    walk_at "rd"
    refine Rd.lcW Rd.wRange (by decide) (fun i acc H' => SameB p H5 H' ∧ PoolAt H' p ∧ ∃ ns : List Int, ns.length = i ∧ acc = ns.map V.int) ⟨SameB.refl _ _, p5, [], rfl, rfl⟩
      (fun D hD i acc ys H' ⟨j1, j2, j3⟩ => ⟨j1.upd hD, PoolAt.upd j2 (pool_ne p5 hD), j3⟩) (fun _ _ _ _ _ => trivial) ?_ ?_
    · intro D hD i x acc H' hi hx hacc hlen ⟨j1, j2, ns, j3, j4⟩ Kt Kf hT hF
      dsimp only [List.set]
      walk_at "rd"
      refine ⟨_, _, rfl, by decide, by decide, j2, fun r H6 r0 r1 e6 p6 => ?_⟩
      refine hT _ _ ?_ ⟨j1.trans (SameB.drawn e6), p6, ns ++ [r], by rw [List.length_append, j3]; rfl, by rw [j4, List.map_append]; rfl⟩
      rw [e6 D (Ne.symm (pool_ne p5 hD))]
      exact hacc
    intro D acc H6 hD hacc hlen ⟨j1, j2, ns, j3, j4⟩
    rw [j4] at hacc
    walk_at "rd"
    refine ⟨_, ns, rfl, SqL.of hacc, by rw [j3]; decide, fun H7 s7 => ?_⟩
    have wl : (wordL ns).length = 8 := by unfold wordL; rw [List.length_map]; exact j3
    have wc : ∀ c ∈ wordL ns, 97 ≤ c ∧ c ≤ 122 := by
      intro c hc
      obtain ⟨z, _, rfl⟩ := List.mem_map.mp hc
      have := Int.emod_lt_of_pos z (show (0 : Int) < 26 by decide)
      omega
    generalize wordL ns = word at wl wc ⊢
    have D8 : Drawn style shift (1 + 2 * d) place (1 + sz) word := ⟨⟨a2, b2⟩, ⟨d, a3, b3, rfl⟩, ⟨a4, b4⟩, ⟨by omega, by omega⟩, wl, wc⟩
    have s7' : SameB p H H7 := (s5.trans j1).trans (SameB.of s7)
    have p7 : PoolAt H7 p := pool_of j2 s7
    walk_at "rd"
    refine ⟨Nat.zero_le _, fun q hq => ?_⟩
    have hq0 : H q = none := by
      cases e : H q with
      | none => rfl
      | some o => rw [s7' q o (Ne.symm (pool_ne p7 hq)) e] at hq; cases hq
    have npq := pool_ne p7 hq
    walk_at "rd"
    refine Rd.foW Rd.wRange (fun i σ H' => ∃ a b c d' : Option V, σ = [some (.ref p), some (.int style), some (.int shift), some (.int (1 + 2 * d)), some (.int place), some (.int (1 + sz)), some (.str (S word)), some (.ref q), a, b, c, d'] ∧
      SameB p H H' ∧ PoolAt H' p ∧ NamesAt H' q ((List.range i).map (nameL style shift (1 + 2 * d) place (1 + sz) word)))
      ⟨none, none, none, none, rfl, s7'.upd hq0, p7.upd npq, upd_same⟩ (fun _ _ _ _ _ => trivial) ?_ ?_
    · rintro i x σ H8 hi hx ⟨a, b, c, d', rfl, t1, t2, t3⟩
      rw [Int.zero_add] at hx
      subst hx
      have hi8 : i < 8 := hi
      dsimp only [List.set]
      have fin : ∀ (z : List Nat) (σ' : St), (∃ a b c d' : Option V, σ' = [some (.ref p), some (.int style), some (.int shift), some (.int (1 + 2 * d)), some (.int place), some (.int (1 + sz)), some (.str (S word)), some (.ref q), a, b, c, d']) → ∀ H9, SameB p H H9 → PoolAt H9 p → H9 q = some (.lst (((List.range i).map (nameL style shift (1 + 2 * d) place (1 + sz) word)).map (fun l => V.str (S l)) ++ [.str (S z)])) → z = nameL style shift (1 + 2 * d) place (1 + sz) word i →
          ∃ a b c d' : Option V, σ' = [some (.ref p), some (.int style), some (.int shift), some (.int (1 + 2 * d)), some (.int place), some (.int (1 + sz)), some (.str (S word)), some (.ref q), a, b, c, d'] ∧
      SameB p H H9 ∧ PoolAt H9 p ∧ NamesAt H9 q ((List.range (i + 1)).map (nameL style shift (1 + 2 * d) place (1 + sz) word)) := by
        rintro z σ' ⟨a, b, c, d', e⟩ H9 q1 q2 q3 rfl
        refine ⟨a, b, c, d', e, q1, q2, ?_⟩
        unfold NamesAt
        rw [List.range_succ, List.map_append, List.map_append]
        exact q3
      walk_at "rd"
      refine ⟨by show 1 ≤ sizeLine; decide, fun l hl => ?_⟩
      walk_at "rd"
      refine ⟨_, [shift + (1 + 2 * d) * i], rfl, SqL.of upd_same, (by show 1 ≤ 100; decide), fun H9 s9 => ?_⟩
      have t1' : SameB p H H9 := (t1.trans (SameB.of (same_new hl))).trans (SameB.of s9)
      have t2' : PoolAt H9 p := pool_of (pool_of t2 (same_new hl)) s9
      have t3' : H9 q = some (.lst (((List.range i).map (nameL style shift (1 + 2 * d) place (1 + sz) word)).map (fun l => V.str (S l)))) := s9 _ _ (same_new hl _ _ t3)
      have g0 : 0 ≤ place % (1 + sz) := Int.emod_nonneg _ (by omega)
      have g1 : place % (1 + sz) < 1 + sz := Int.emod_lt_of_pos _ (by omega)
      have wl1 : word.length ≤ 900 := by omega
      have ll : (wordL [shift + (1 + 2 * d) * ↑i]).length = 1 := rfl
      have hq9 : (((List.range i).map (nameL style shift (1 + 2 * d) place (1 + sz) word)).map (fun l => V.str (S l))).length < sizeLine := by
        rw [List.length_map, List.length_map, List.length_range]
        exact Nat.lt_trans hi8 (by decide)
      have en : ∀ z : List Nat, SameB p H (upd H9 q (.lst (((List.range i).map (nameL style shift (1 + 2 * d) place (1 + sz) word)).map (fun l => V.str (S l)) ++ [.str (S z)]))) ∧ PoolAt (upd H9 q (.lst (((List.range i).map (nameL style shift (1 + 2 * d) place (1 + sz) word)).map (fun l => V.str (S l)) ++ [.str (S z)]))) p :=
        fun z => ⟨t1'.upd hq0, t2'.upd npq⟩
      walk_at "rd"
      refine Rd.iteD (fun c1 => ?_) (fun c1 => ?_)
      · walk_at "rd"
        refine Rd.iteD (fun c2 => absurd c2 (by omega)) (fun c2 => ?_)
        walk_at "rd"
        exact fin _ _ ⟨_, _, _, _, rfl⟩ _ (en _).1 (en _).2 upd_same (nameL1 c1).symm
      · walk_at "rd"
        refine Rd.iteD (fun c2 => ?_) (fun c2 => ?_)
        · walk_at "rd"
          exact fin _ _ ⟨_, _, _, _, rfl⟩ _ (en _).1 (en _).2 upd_same (nameL2 c2).symm
        · walk_at "rd"
          exact fin _ _ ⟨_, _, _, _, rfl⟩ _ (en _).1 (en _).2 upd_same (nameL0 c1 c2).symm
    · rintro σ H8 ⟨a, b, c, d', rfl, t1, t2, t3⟩
      walk_at "rd"
      exact k _ q H8 (by rw [List.length_map, List.length_range]) (fun l hl => by
        obtain ⟨j, hj, rfl⟩ := List.mem_map.mp hl
        exact name_ok D8 (List.mem_range.mp hj)) (names_nodup D8) hq0 t1 t2 t3

end
section
variable {P : Program} {w : World} {K : PySem.W.Frag} {mg : Str → Option Value} {base : Heap} {tk : Tok}
/-! ### formulas -/
open ND
inductive Fm where
  | st (g : List Nat) (n : Int)
  | fr (s : Int) (r : List Nat)
  | de (s : Int) (r : List Nat) (ns : List Int)
deriving DecidableEq
def startS : List Nat := [115, 116, 97, 114, 116]
def freshS : List Nat := [102, 114, 101, 115, 104]
def derivS : List Nat := [100, 101, 114, 105, 118, 101, 100]
/-- the formula stands at a -/
def FmAt (H : Hp) (a : Addr) : Fm → Prop
  | .st g n => ∃ p, H a = some (.tup [.str (S startS), .ref p]) ∧ H p = some (.tup [.str (S g), .int n])
  | .fr s r => H a = some (.tup [.str (S freshS), .int s, .str (S r)])
  | .de s r ns => ∃ p, H a = some (.tup [.str (S derivS), .int s, .str (S r), .ref p]) ∧ H p = some (.tup (ns.map V.int))
theorem FmAt.keep {H H' : Hp} {a : Addr} (e : ∀ b xs, H b = some (.tup xs) → H' b = some (.tup xs)) : ∀ {f : Fm}, FmAt H a f → FmAt H' a f
  | .st _ _, ⟨p, h1, h2⟩ => ⟨p, e _ _ h1, e _ _ h2⟩
  | .fr _ _, h => e _ _ h
  | .de _ _ _, ⟨p, h1, h2⟩ => ⟨p, e _ _ h1, e _ _ h2⟩
theorem FmAt.mono {H H' : Hp} {a : Addr} {f : Fm} (h : FmAt H a f) (e : Same H H') : FmAt H' a f := h.keep fun b xs z => e _ _ z
theorem FmAt.tup {H : Hp} {a : Addr} : ∀ {f : Fm}, FmAt H a f → ∃ xs, H a = some (.tup xs)
  | .st _ _, ⟨p, h1, h2⟩ => ⟨_, h1⟩
  | .fr _ _, h => ⟨_, h⟩
  | .de _ _ _, ⟨p, h1, h2⟩ => ⟨_, h1⟩
def Fm.key : Fm → NestedKey
  | .st g n => .tup [.text (S startS), .tup [.text (S g), .num n]]
  | .fr s r => .tup [.text (S freshS), .num s, .text (S r)]
  | .de s r ns => .tup [.text (S derivS), .num s, .text (S r), .tup (ns.map .num)]
theorem nk_nums (H : Hp) : ∀ ns : List Int, NkAll H (ns.map V.int) (ns.map .num)
  | [] => .nil
  | n :: ns => .cons (.int n) (nk_nums H ns)
theorem FmAt.nk {H : Hp} {a : Addr} : ∀ {f : Fm}, FmAt H a f → NkAt H (.ref a) f.key
  | .st _ _, ⟨p, h1, h2⟩ => .tup h1 (.cons (.str _) (.cons (.tup h2 (.cons (.str _) (.cons (.int _) .nil))) .nil))
  | .fr _ _, h => .tup h (.cons (.str _) (.cons (.int _) (.cons (.str _) .nil)))
  | .de _ _ ns, ⟨p, h1, h2⟩ => .tup h1 (.cons (.str _) (.cons (.int _) (.cons (.str _) (.cons (.tup h2 (nk_nums H ns)) .nil))))
theorem depth_nums : ∀ ns : List Int, NestedKey.depthAll (ns.map .num) = 0
  | [] => rfl
  | n :: ns => by
    show max 0 (NestedKey.depthAll (ns.map .num)) = 0
    rw [depth_nums ns]; rfl
theorem Fm.depth_le : ∀ f : Fm, f.key.depth ≤ 8
  | .st _ _ => by show 2 ≤ 8; decide
  | .fr _ _ => by show 1 ≤ 8; decide
  | .de _ _ ns => by
    show max 0 (max 0 (max 0 (max (NestedKey.depthAll (ns.map .num) + 1) 0))) + 1 ≤ 8
    rw [depth_nums]; decide
theorem S_eq {a b : List Nat} (h : S a = S b) : a = b := SX.S_inj h
theorem nums_inj : ∀ {xs ys : List Int}, xs.map NestedKey.num = ys.map NestedKey.num → xs = ys
  | [], [], _ => rfl
  | [], _ :: _, h => by cases h
  | _ :: _, [], h => by cases h
  | x :: xs, y :: ys, h => by
    rw [List.map_cons, List.map_cons, List.cons.injEq, NestedKey.num.injEq] at h
    rw [h.1, nums_inj h.2]
theorem startS_ne1 : S startS ≠ S freshS := by decide +kernel
theorem startS_ne2 : S startS ≠ S derivS := by decide +kernel
theorem freshS_ne : S freshS ≠ S derivS := by decide +kernel
theorem Fm.key_inj : ∀ {f g : Fm}, f.key = g.key → f = g := by
  intro f g h
  cases f <;> cases g <;> simp only [Fm.key, NestedKey.tup.injEq, List.cons.injEq, NestedKey.text.injEq, NestedKey.num.injEq, and_true, reduceCtorEq, and_false, false_and] at h
  · obtain ⟨_, h1, h2⟩ := h
    rw [S_eq h1, h2]
  · obtain ⟨_, h1, h2⟩ := h
    rw [h1, S_eq h2]
  · obtain ⟨_, h1, h2, h3⟩ := h
    rw [h1, S_eq h2, nums_inj h3]
/-- as data -/
def Fm.dat : Fm → PyData
  | .st g n => .tuple [.str (S startS), .tuple [.str (S g), .int n]]
  | .fr s r => .tuple [.str (S freshS), .int s, .str (S r)]
  | .de s r ns => .tuple [.str (S derivS), .int s, .str (S r), .tuple (ns.map .int)]
theorem dp_nums (H : Hp) : ∀ ns : List Int, DpAll K H (ns.map V.int) (ns.map .int)
  | [] => .nil
  | n :: ns => .cons (.int n) (dp_nums H ns)
theorem FmAt.dp {H : Hp} {a : Addr} : ∀ {f : Fm}, FmAt H a f → Dp K H (.ref a) f.dat
  | .st _ _, ⟨p, h1, h2⟩ => .tup (SqT.of h1) (.cons (.str _) (.cons (.tup (SqT.of h2) (.cons (.str _) (.cons (.int _) .nil))) .nil))
  | .fr _ _, h => .tup (SqT.of h) (.cons (.str _) (.cons (.int _) (.cons (.str _) .nil)))
  | .de _ _ ns, ⟨p, h1, h2⟩ => .tup (SqT.of h1) (.cons (.str _) (.cons (.int _) (.cons (.str _) (.cons (.tup (SqT.of h2) (dp_nums H ns)) .nil))))
def Fm.ok : Fm → Prop
  | .st g _ => Nm g
  | .fr _ r => Nm r
  | .de _ r _ => Nm r
theorem ok_S {l : List Nat} (h : Nm l) : okV (.str (S l)) = true := by
  show l.toArray.all (· < 0x110000) = true
  rw [List.all_toArray]
  exact List.all_eq_true.mpr fun c hc => decide_eq_true (by have := h.2.2 c hc; omega)
theorem can_nums : ∀ ns : List Int, PyData.canLayAll0 (ns.map .int) = true
  | [] => rfl
  | n :: ns => by
    show (PyData.canLay0 (.int n) && PyData.canLayAll0 (ns.map .int)) = true
    rw [can_nums ns]; rfl
theorem depth_ints : ∀ ns : List Int, PyData.depthAll (ns.map .int) = 0
  | [] => rfl
  | n :: ns => by
    show max 0 (PyData.depthAll (ns.map .int)) = 0
    rw [depth_ints ns]; rfl
theorem can_str {l : List Nat} (h : Nm l) : PyData.canLay0 (.str (S l)) = true := ok_S h
theorem Fm.can : ∀ {f : Fm}, f.ok → PyData.canLay0 f.dat = true
  | .st g n, h => by
    show (PyData.canLay0 (.str (S startS)) && ((PyData.canLay0 (.str (S g)) && (PyData.canLay0 (.int n) && true)) && true)) = true
    rw [can_str h, show PyData.canLay0 (.str (S startS)) = true by decide +kernel]; rfl
  | .fr s r, h => by
    show (PyData.canLay0 (.str (S freshS)) && (PyData.canLay0 (.int s) && (PyData.canLay0 (.str (S r)) && true))) = true
    rw [can_str h, show PyData.canLay0 (.str (S freshS)) = true by decide +kernel]; rfl
  | .de s r ns, h => by
    show (PyData.canLay0 (.str (S derivS)) && (PyData.canLay0 (.int s) && (PyData.canLay0 (.str (S r)) && (PyData.canLayAll0 (ns.map .int) && true)))) = true
    rw [can_str h, can_nums, show PyData.canLay0 (.str (S derivS)) = true by decide +kernel]; rfl
theorem Fm.dat_depth : ∀ f : Fm, PyData.depth f.dat ≤ 2
  | .st _ _ => by show 2 ≤ 2; decide
  | .fr _ _ => by show 1 ≤ 2; decide
  | .de _ _ ns => by
    show max 0 (max 0 (max 0 (max (PyData.depthAll (ns.map .int) + 1) 0))) + 1 ≤ 2
    rw [depth_ints]; decide
theorem Fm.sh {f : Fm} (h : f.ok) : SeqAt.shaped f.dat = true := by
  show (PyData.canLay0 f.dat && decide (PyData.depth f.dat ≤ 64)) = true
  have := f.dat_depth
  rw [f.can h, Bool.true_and]
  exact decide_eq_true (by omega)
theorem fms_can : ∀ {fs : List Fm}, (∀ f ∈ fs, f.ok) → PyData.canLayAll0 (fs.map Fm.dat) = true
  | [], _ => rfl
  | f :: fs, h => by
    show (PyData.canLay0 f.dat && PyData.canLayAll0 (fs.map Fm.dat)) = true
    rw [f.can (h f List.mem_cons_self), fms_can fun x hx => h x (List.mem_cons_of_mem _ hx)]; rfl
theorem fms_depth : ∀ fs : List Fm, PyData.depthAll (fs.map Fm.dat) ≤ 2
  | [] => Nat.zero_le _
  | f :: fs => by
    show max (PyData.depth f.dat) (PyData.depthAll (fs.map Fm.dat)) ≤ 2
    exact Nat.max_le.mpr ⟨f.dat_depth, fms_depth fs⟩
theorem fms_sh {fs : List Fm} (h : ∀ f ∈ fs, f.ok) : SeqAt.shaped (.list (fs.map Fm.dat)) = true := by
  show (PyData.canLayAll0 (fs.map Fm.dat) && decide (PyData.depthAll (fs.map Fm.dat) + 1 ≤ 64)) = true
  have := fms_depth fs
  rw [fms_can h, Bool.true_and]
  exact decide_eq_true (by omega)
theorem eqv_nums : ∀ {xs ys : List Int}, PyData.eqvAll (xs.map .int) (ys.map .int) = true → xs = ys
  | [], [], _ => rfl
  | [], _ :: _, h => by cases h
  | _ :: _, [], h => by cases h
  | x :: xs, y :: ys, h => by
    have h' : ((x == y) && PyData.eqvAll (xs.map .int) (ys.map .int)) = true := h
    rw [Bool.and_eq_true] at h'
    rw [eq_of_beq h'.1, eqv_nums h'.2]
theorem Fm.eqv_of {f g : Fm} (h : PyData.eqv f.dat g.dat = true) : f = g := by
  cases f <;> cases g <;> simp only [Fm.dat, PyData.eqv, PyData.eqvAll, Bool.and_eq_true, Bool.and_true, beq_iff_eq] at h
  · obtain ⟨_, h1, h2⟩ := h
    rw [S_eq h1, h2]
  · exact absurd h.1 startS_ne1
  · exact absurd h.1 startS_ne2
  · exact absurd h.1.symm startS_ne1
  · obtain ⟨_, h1, h2⟩ := h
    rw [h1, S_eq h2]
  · exact absurd h.1 freshS_ne
  · exact absurd h.1.symm startS_ne2
  · exact absurd h.1.symm freshS_ne
  · obtain ⟨_, h1, h2, h3⟩ := h
    rw [h1, S_eq h2, eqv_nums h3]
theorem Fm.eqv {f g : Fm} (h : f.ok) : PyData.eqv f.dat g.dat = decide (f = g) := by
  by_cases e : f = g
  · subst e
    rw [decide_eq_true rfl]
    exact SeqAt.eqv_refl _ (f.can h)
  · rw [decide_eq_false e]
    exact Bool.eq_false_iff.mpr fun z => e (Fm.eqv_of z)
theorem fms_any {fs : List Fm} {f : Fm} (h : ∀ g ∈ fs, g.ok) : ((fs.map Fm.dat).any fun z => PyData.eqv z f.dat) = decide (f ∈ fs) := by
  induction fs with
  | nil => rfl
  | cons g fs ih =>
    rw [List.map_cons, List.any_cons, ih fun x hx => h x (List.mem_cons_of_mem _ hx), Fm.eqv (h g List.mem_cons_self)]
    by_cases e : g = f
    · subst e; simp
    · have e' : ¬ f = g := fun z => e z.symm
      simp [e, e']
abbrev Kn := Addr × Fm
abbrev frefs (xs : List Kn) : List V := xs.map fun q => V.ref q.1
def KnsOk (H : Hp) (xs : List Kn) : Prop := ∀ q ∈ xs, FmAt H q.1 q.2
theorem KnsOk.keep {H H' : Hp} {xs : List Kn} (h : KnsOk H xs) (e : ∀ b ys, H b = some (.tup ys) → H' b = some (.tup ys)) : KnsOk H' xs := fun q hq => (h q hq).keep e
theorem KnsOk.mono {H H' : Hp} {xs : List Kn} (h : KnsOk H xs) (e : Same H H') : KnsOk H' xs := h.keep fun b ys z => e _ _ z
theorem kns_dp {H : Hp} : ∀ {xs : List Kn}, KnsOk H xs → DpAll K H (frefs xs) ((xs.map (·.2)).map Fm.dat)
  | [], _ => .nil
  | q :: xs, h => .cons (h q List.mem_cons_self).dp (kns_dp fun x hx => h x (List.mem_cons_of_mem _ hx))
def rowsAt : Nat → List Kn → List Row
  | _, [] => []
  | i, q :: xs => (q.2.key, q.1, .int (i : Nat)) :: rowsAt (i + 1) xs
theorem rows_len : ∀ (i : Nat) (xs : List Kn), (rowsAt i xs).length = xs.length
  | _, [] => rfl
  | i, q :: xs => congrArg (· + 1) (rows_len (i + 1) xs)
theorem rows_keys : ∀ (i : Nat) (xs : List Kn), (rowsAt i xs).map (·.1) = (xs.map (·.2)).map Fm.key
  | _, [] => rfl
  | i, q :: xs => by
    show q.2.key :: (rowsAt (i + 1) xs).map (·.1) = q.2.key :: _
    rw [rows_keys (i + 1) xs]
theorem rows_app : ∀ (i : Nat) (xs : List Kn) (q : Kn), rowsAt i (xs ++ [q]) = rowsAt i xs ++ [(q.2.key, q.1, .int ((i + xs.length : Nat) : Int))]
  | i, [], q => rfl
  | i, x :: xs, q => by
    show _ :: rowsAt (i + 1) (xs ++ [q]) = _ :: _
    rw [rows_app (i + 1) xs q]
    have e : i + 1 + xs.length = i + (x :: xs).length := by rw [List.length_cons]; omega
    rw [e]
    rfl
theorem keys_nodup : ∀ {fs : List Fm}, fs.Nodup → (fs.map Fm.key).Nodup := fun h => List.pairwise_map.mpr (h.imp fun hab e => hab (Fm.key_inj e))
theorem at_none {f : Fm} : ∀ (i : Nat) {xs : List Kn}, (∀ q ∈ xs, q.2 ≠ f) → atN (rowsAt i xs) f.key = none
  | _, [], _ => rfl
  | i, q :: xs, h => by
    have h1 : ¬ q.2.key = f.key := fun e => h q List.mem_cons_self (Fm.key_inj e)
    have ih := at_none (i + 1) fun x hx => h x (List.mem_cons_of_mem _ hx)
    unfold atN at ih ⊢
    show Option.map _ (List.find? _ ((q.2.key, q.1, V.int (i : Nat)) :: rowsAt (i + 1) xs)) = none
    rw [List.find?_cons, decide_eq_false h1]
    exact ih
theorem at_some {f : Fm} {a : Addr} : ∀ (i : Nat) {xs : List Kn} {j : Nat}, (xs.map (·.2)).Nodup → xs[j]? = some (a, f) → atN (rowsAt i xs) f.key = some (.int ((i + j : Nat) : Int))
  | _, [], _, _, h => by simp at h
  | i, q :: xs, 0, _, h => by
    have e : q = (a, f) := Option.some.inj h
    subst e
    unfold atN
    show Option.map _ (List.find? _ ((f.key, a, V.int (i : Nat)) :: rowsAt (i + 1) xs)) = _
    rw [List.find?_cons, decide_eq_true rfl]
    rfl
  | i, q :: xs, j + 1, nd, h => by
    rw [List.map_cons, List.nodup_cons] at nd
    have hm : (a, f) ∈ xs := List.mem_of_getElem? (show xs[j]? = some (a, f) from h)
    have h1 : ¬ q.2.key = f.key := fun e => nd.1 (by rw [Fm.key_inj e]; exact List.mem_map.mpr ⟨_, hm, rfl⟩)
    have ih := at_some (i + 1) (xs := xs) (j := j) nd.2 h
    unfold atN at ih ⊢
    show Option.map _ (List.find? _ ((q.2.key, q.1, V.int (i : Nat)) :: rowsAt (i + 1) xs)) = _
    rw [List.find?_cons, decide_eq_false h1]
    refine ih.trans ?_
    have e : i + 1 + j = i + (j + 1) := by omega
    rw [e]
theorem rows_ok {H : Hp} : ∀ (i : Nat) {xs : List Kn}, KnsOk H xs → ∀ p ∈ rowsAt i xs, NkAt H (.ref p.2.1) p.1 ∧ p.1.depth ≤ 8
  | _, [], _, _, hp => absurd hp List.not_mem_nil
  | i, q :: xs, h, p, hp => by
    rcases List.mem_cons.mp (show p ∈ (q.2.key, q.1, V.int (i : Nat)) :: rowsAt (i + 1) xs from hp) with e | hp
    · rw [e]; exact ⟨(h q List.mem_cons_self).nk, q.2.depth_le⟩
    · exact rows_ok (i + 1) (fun x hx => h x (List.mem_cons_of_mem _ hx)) p hp
theorem rowsOk {H : Hp} {xs : List Kn} (h : KnsOk H xs) (nd : (xs.map (·.2)).Nodup) : RowsOk H (rowsAt 0 xs) := ⟨rows_ok 0 h, by rw [rows_keys]; exact keys_nodup nd⟩
theorem put_new {xs : List Kn} {f : Fm} {b : Addr} (h : ∀ q ∈ xs, q.2 ≠ f) : putN (rowsAt 0 xs) f.key b (.int (xs.length : Nat)) = rowsAt 0 (xs ++ [(b, f)]) := by
  unfold putN
  rw [at_none 0 h, rows_app, Nat.zero_add]
  rfl

end
section
variable {P : Program} {w : World} {K : PySem.W.Frag} {mg : Str → Option Value} {base : Heap} {tk : Tok}
/-! ### a table of formulas -/
open ND
abbrev s_BadFormula___init : Stmt := inClass (top 3) 0
theorem sc_BadFormula___init : FnScope ["self", "number"] ["self", "number"] (defScope s_BadFormula___init) := ⟨rfl, rfl, rfl, by decide +kernel, rfl, by decide +kernel, by decide +kernel⟩
abbrev ErF (K : PySem.W.Frag) (mg : Str → Option Value) := Er K mg "BadFormula" "BadFormula.__init__" "number" s_BadFormula___init
theorem ok_bfi (r : ErF K mg) : FnOk P w K mg base CX0 1 r.f r.fd ["self", "number"] (spErI r.C "number") := by
  refine r.F.ok sc_BadFormula___init (fun vs H Q E h => ?_) (fun cdv A outer s H vs Q E hr h => ?_)
  · obtain ⟨a, v, rfl, _⟩ := h
    rfl
  · obtain ⟨a, v, rfl, ha, k⟩ := h
    refine ⟨_, (pss_one (kost K (pv 0) (pv 1))), ?_⟩
    refine Rd.start_ (σ' := [some (.ref a), some v]) rfl ?_
    walk_at "rd"
    exact ⟨a, r.C, rfl, r.T, r.no, .inl ⟨ha, k⟩⟩
/-- an error of the class at C with one field -/
def Raised (E : XK) (C : Addr) (fld : Str) (v : V) (H : Hp) : Prop := ∀ d H', Same H H' → H' d = some (.xd [(fld, v)]) → E (.ref C) (some d) H'
theorem Raised.mono {E : XK} {C : Addr} {fld : Str} {v : V} {H H' : Hp} (h : Raised E C fld v H) (e : Same H H') : Raised E C fld v H' := fun d G s q => h d G (e.trans s) q
structure Cn (K : PySem.W.Frag) (mg : Str → Option Value) (mC : Addr) where
  C : Addr
  g : mg "Contents" = some (.ref C)
  cl : Cls K C
  M : Mk K C mC
  nF : NoAttr K C "formulas"
  nP : NoAttr K C "places"
def ctf (l d : Addr) : List (Str × V) := [("formulas", .ref l), ("places", .ref d)]
theorem ctf_f (l d : Addr) : (ctf l d).lookup ("formulas" : Str) = some (.ref l) := by
  unfold ctf; simp [List.lookup]
theorem ctf_p (l d : Addr) : (ctf l d).lookup ("places" : Str) = some (.ref d) := by
  have e : (("places" : Str) == "formulas") = false := by decide +kernel
  unfold ctf; simp [List.lookup, e]
theorem ctf_no (l d : Addr) {m : Str} (h1 : (m == ("formulas" : Str)) = false) (h2 : (m == ("places" : Str)) = false) : (ctf l d).lookup m = none := by
  unfold ctf; simp [List.lookup, h1, h2]
theorem fp_ne : ¬ (("formulas" : Str) = "places") := by decide +kernel
theorem ctf_put (l d : Addr) : putF "places" (.ref d) (putF "formulas" (.ref l) []) = ctf l d := by
  show (if ("formulas" : Str) = "places" then [(("formulas" : Str), V.ref d)] else (("formulas" : Str), V.ref l) :: putF "places" (V.ref d) []) = ctf l d
  rw [if_neg fp_ne]
  rfl
/-- the table at p: its list at l, its dict at d, the formulas xs -/
structure CtAt (P : Program) (w : World) (C : Addr) (H : Hp) (p l d : Addr) (xs : List Kn) : Prop where
  ins : ∃ dx, H p = some (.ins C dx (ctf l d))
  lst : H l = some (.lst (frefs xs))
  dct : H d = some (DctO P w d (rowsAt 0 xs))
  ok : KnsOk H xs
  nd : (xs.map (·.2)).Nodup
theorem CtAt.keep {C : Addr} {H H' : Hp} {p l d : Addr} {xs : List Kn} (h : CtAt P w C H p l d xs) (e1 : ∀ o, H p = some o → H' p = some o) (e2 : ∀ o, H l = some o → H' l = some o) (e3 : ∀ o, H d = some o → H' d = some o) (e4 : ∀ b ys, H b = some (.tup ys) → H' b = some (.tup ys)) : CtAt P w C H' p l d xs := by
  obtain ⟨dx, h1⟩ := h.ins
  exact ⟨⟨dx, e1 _ h1⟩, e2 _ h.lst, e3 _ h.dct, h.ok.keep e4, h.nd⟩
theorem CtAt.mono {C : Addr} {H H' : Hp} {p l d : Addr} {xs : List Kn} (h : CtAt P w C H p l d xs) (e : Same H H') : CtAt P w C H' p l d xs := h.keep (fun o => e _ _) (fun o => e _ _) (fun o => e _ _) (fun b ys => e _ _)
def spCtI (P : Program) (w : World) : Sp := fun vs H Q _ => ∃ (p C dx : Addr), vs = [.ref p] ∧ Cls K C ∧ NoAttr K C "formulas" ∧ NoAttr K C "places" ∧ H p = some (.ins C dx []) ∧ ∀ H' l d, SameB p H H' → H l = none → H d = none → CtAt P w C H' p l d [] → Q .non H'
abbrev s_Contents___init : Stmt := inClass (top 5) 0
theorem sc_Contents___init : FnScope ["self"] ["self"] (defScope s_Contents___init) := ⟨rfl, rfl, rfl, by decide +kernel, rfl, by decide +kernel, by decide +kernel⟩
abbrev MCi (K : PySem.W.Frag) := Mf K "__init__" "Contents.__init__" s_Contents___init ["self"]
theorem ok_cti (m : MCi K) (T : Bt mg) : FnOk P w K mg base CX0 1 m.f m.fd ["self"] (spCtI (K := K) P w) := by
  refine m.F.ok sc_Contents___init (fun vs H Q E h => ?_) (fun cdv A outer s H vs Q E hr h => ?_)
  · obtain ⟨p, C, dx, rfl, _⟩ := h
    rfl
  · obtain ⟨p, C, dx, rfl, cl, nF, nP, hp, k⟩ := h
    refine ⟨_, (pss_cons (kset (pv 0) (pe_lst pa_nil))
  (pss_one (kset (pv 0) (ND.kdnew P w)))), ?_⟩
    refine Rd.start_ (σ' := [some (.ref p)]) rfl ?_
    walk_at "rd"
    refine ⟨by show 0 ≤ sizeLine; decide, fun l hl => ?_⟩
    have npl : p ≠ l := ne_of_none hp hl
    walk_at "rd"
    refine ⟨p, C, dx, [], rfl, by rw [upd_ne npl]; exact hp, cl, nF, by decide, ?_⟩
    walk_at "rd"
    intro d hd
    have ndp : d ≠ p := fun z => by rw [z, upd_same] at hd; cases hd
    have hd1 : upd H l (.lst []) d = none := by rw [upd_ne ndp] at hd; exact hd
    have ndl : d ≠ l := fun z => by rw [z, upd_same] at hd1; cases hd1
    have hd0 : H d = none := by rw [upd_ne ndl] at hd1; exact hd1
    walk_at "rd"
    refine ⟨p, C, dx, _, rfl, by rw [upd_ne (Ne.symm ndp)]; exact upd_same, cl, nP, by show 1 < 1000; decide, ?_⟩
    refine k _ l d (fun b o nb hb => ?_) hl hd0 ⟨⟨dx, ?_⟩, ?_, ?_, fun q hq => absurd hq List.not_mem_nil, List.nodup_nil⟩
    · rw [upd_ne nb, upd_ne (ne_of_none hb hd0), upd_ne nb, upd_ne (ne_of_none hb hl)]
      exact hb
    · rw [upd_same, ctf_put]
    · rw [upd_ne (Ne.symm npl), upd_ne (Ne.symm ndl), upd_ne (Ne.symm npl), upd_same]
      rfl
    · rw [upd_ne ndp, upd_same]
      rfl
def spCtL (C : Addr) : Sp := fun vs H Q _ => ∃ (p l d : Addr) (xs : List Kn) (P : Program) (w : World), vs = [.ref p] ∧ CtAt P w C H p l d xs ∧ Q (.int (xs.length : Nat)) H
abbrev s_Contents___len : Stmt := inClass (top 5) 1
theorem sc_Contents___len : FnScope ["self"] ["self"] (defScope s_Contents___len) := ⟨rfl, rfl, rfl, by decide +kernel, rfl, by decide +kernel, by decide +kernel⟩
abbrev MCl (K : PySem.W.Frag) := Mf K "__len__" "Contents.__len__" s_Contents___len ["self"]
theorem ok_ctl {mC : Addr} (m : MCl K) (T : Bt mg) (cc : Cn K mg mC) : FnOk P w K mg base CX0 1 m.f m.fd ["self"] (spCtL cc.C) := by
  refine m.F.ok sc_Contents___len (fun vs H Q E h => ?_) (fun cdv A outer s H vs Q E hr h => ?_)
  · obtain ⟨p, l, d, xs, _, _, rfl, _⟩ := h
    rfl
  · obtain ⟨p, l, d, xs, _, _, rfl, hc, k⟩ := h
    obtain ⟨dx, hp⟩ := hc.ins
    have hl := hc.lst
    have le : (frefs xs).length = xs.length := List.length_map ..
    refine ⟨_, (pss_one (ps_ret (pe_callB (klen K) (by rfl) T.len (by decide +kernel) (pa_cons (kfld K (pv 0)) pa_nil)))), ?_⟩
    refine Rd.start_ (σ' := [some (.ref p)]) rfl ?_
    walk_at "rd"
    refine ⟨p, cc.C, dx, _, _, rfl, hp, cc.cl, cc.nF, ctf_f _ _, ?_⟩
    walk_at "rd"
    rw [le]
    exact k
/-- whether the table has a formula with this number -/
def hasN (m : Nat) (n : Int) : Prop := 0 ≤ n ∧ n < m
instance (m : Nat) (n : Int) : Decidable (hasN m n) := by unfold hasN; infer_instance
def spReqN (C eF : Addr) : Sp := fun vs H Q E => ∃ (p l d : Addr) (n : Int) (xs : List Kn) (P : Program) (w : World), vs = [.ref p, .int n] ∧ CtAt P w C H p l d xs ∧ (hasN xs.length n → Q .non H) ∧ (¬ hasN xs.length n → Raised E eF "number" (.int n) H)
abbrev s_Contents_require_number : Stmt := inClass (top 5) 3
theorem sc_Contents_require_number : FnScope ["self", "number"] ["self", "number"] (defScope s_Contents_require_number) := ⟨rfl, rfl, rfl, by decide +kernel, rfl, by decide +kernel, by decide +kernel⟩
abbrev MRn (K : PySem.W.Frag) := Mf K "require_number" "Contents.require_number" s_Contents_require_number ["self", "number"]
theorem ok_reqn {mC : Addr} (m : MRn K) (T : Bt mg) (cc : Cn K mg mC) (eF : ErF K mg) : FnOk P w K mg base (L2.CX P w) 3 m.f m.fd ["self", "number"] (spReqN cc.C eF.C) := by
  have GF : FnOk P w K mg base CX0 1 eF.f eF.fd _ (spErI eF.C "number") := ok_bfi eF
  refine m.F.okX sc_Contents_require_number (fun vs H Q E h => ?_) (fun cdv A outer s H vs Q E hr h => ?_)
  · obtain ⟨p, l, d, n, xs, _, _, rfl, _⟩ := h
    rfl
  · obtain ⟨p, l, d, n, xs, _, _, rfl, hc, k1, k2⟩ := h
    obtain ⟨dx, hp⟩ := hc.ins
    have hl := hc.lst
    have le : (frefs xs).length = xs.length := List.length_map ..
    have go : ¬ hasN xs.length n → ∀ d, H d = none → E (.ref eF.C) (some d) (upd H d (.xd [("number", .int n)])) := fun h d hd => k2 h d _ (same_new hd) upd_same
    refine ⟨_, (pss_one (ps_if (pt_not (pt_chain op_leA op_ltA pe_int (pv 1) (pe_callB (klen K) (by rfl) T.len (by decide +kernel) (pa_cons (kfld K (pv 0)) pa_nil)))) (pss_one (ps_raise rfl (takes_of rfl rfl rfl rfl) (pmk_er eF GF hr (pa_cons (pv 1) pa_nil))))
  pss_nil)), ?_⟩
    refine Rd.start_ (σ' := [some (.ref p), some (.int n)]) rfl ?_
    walk_at "rd"
    refine Rd.iteD (fun c1 => ?_) (fun c1 => ?_)
    · walk_at "rd"
      refine ⟨p, cc.C, dx, _, _, rfl, hp, cc.cl, cc.nF, ctf_f _ _, ?_⟩
      walk_at "rd"
      rw [le]
      refine Rd.iteN (fun c2 => ?_) (fun c2 => ?_)
      · walk_at "rd"
        exact Rd.erGo (go fun z => c2 z.2)
      · walk_at "rd"
        exact k1 ⟨c1, c2⟩
    · walk_at "rd"
      exact Rd.erGo (go fun z => c1 z.1)
def Fm.nums : Fm → List Int
  | .de _ _ ns => ns
  | _ => []
/-- the first number that a table of m formulas does not have -/
def badN (m : Nat) (f : Fm) : Option Int := f.nums.find? fun n => !decide (hasN m n)
theorem find_first {m : Nat} {ns : List Int} {i : Nat} {n : Int} (h : ∀ x ∈ ns.take i, hasN m x) (hn : ns[i]? = some n) (hb : ¬ hasN m n) : ns.find? (fun n => !decide (hasN m n)) = some n := by
  induction ns generalizing i with
  | nil => simp at hn
  | cons x ns ih =>
    cases i with
    | zero =>
      have e : x = n := Option.some.inj hn
      subst e
      rw [List.find?_cons, decide_eq_false hb]; rfl
    | succ i =>
      have hx := h x (by rw [List.take_succ_cons]; exact List.mem_cons_self)
      rw [List.find?_cons, decide_eq_true hx]
      exact ih (fun y hy => h y (by rw [List.take_succ_cons]; exact List.mem_cons_of_mem _ hy)) hn
def spNum (P : Program) (w : World) (C eF : Addr) : Sp := fun vs H Q E => ∃ (p l d b : Addr) (f : Fm) (xs : List Kn), vs = [.ref p, .ref b] ∧ CtAt P w C H p l d xs ∧ FmAt H b f ∧ xs.length ≤ 1000 ∧
  (∀ n, badN xs.length f = some n → Raised E eF "number" (.int n) H) ∧ (badN xs.length f = none → (∀ j a, xs[j]? = some (a, f) → Q (.int (j : Nat)) H) ∧
    ((∀ q ∈ xs, q.2 ≠ f) → ∀ H', (∀ a, a ≠ l → a ≠ d → H' a = H a) → CtAt P w C H' p l d (xs ++ [(b, f)]) → Q (.int (xs.length : Nat)) H'))
abbrev s_Contents_number_of : Stmt := inClass (top 5) 2
theorem sc_Contents_number_of : FnScope ["self", "formula", "number"] ["self", "formula"] (defScope s_Contents_number_of) := ⟨rfl, rfl, rfl, by decide +kernel, rfl, by decide +kernel, by decide +kernel⟩
abbrev MNo (K : PySem.W.Frag) := Mf K "number_of" "Contents.number_of" s_Contents_number_of ["self", "formula"]
theorem ok_num {mC : Addr} (m : MNo K) (T : Bt mg) (cc : Cn K mg mC) (eF : ErF K mg) (mR : MRn K) (hR : Meth K cc.C "require_number" mR.f) : FnOk P w K mg base (L2.CX P w) 4 m.f m.fd ["self", "formula"] (spNum P w cc.C eF.C) := by
  have GR : FnOk P w K mg base (L2.CX P w) 3 mR.f mR.fd _ (spReqN cc.C eF.C) := ok_reqn mR T cc eF
  refine m.F.okX sc_Contents_number_of (fun vs H Q E h => ?_) (fun cdv A outer s H vs Q E hr h => ?_)
  · obtain ⟨p, l, d, b, f, xs, rfl, _⟩ := h
    rfl
  · obtain ⟨p, l, d, b, f, xs, rfl, hc, hf, h1000, k1, k2⟩ := h
    obtain ⟨dx, hp⟩ := hc.ins
    have hl := hc.lst
    have hdc := hc.dct
    have hu := hr.units
    have le : (frefs xs).length = xs.length := List.length_map ..
    have rok := rowsOk hc.ok hc.nd
    refine ⟨_, (pss_cons (ps_if (pt_cmpR (keq K hu) (pe_ix (kix K) (pv 1) pe_int (fun _ _ => rfl)) (pe_lit [100, 101, 114, 105, 118, 101, 100] (by decide +kernel)) (nomark _)) (pss_one (ps_for (passes_of rfl) rfl (kpt K (pe_ix (kix K) (pv 1) pe_int (fun _ _ => rfl))) (pg_name (i := 2) sc_Contents_number_of.nd rfl (Or.inl rfl))
  (pss_one (ps_expr (pe_mA (pv 0) cc.cl mR hR GR hr (passes_call (takes_of rfl rfl rfl rfl) (fun _ _ _ _ h => h)) (pa_cons (pv 2) pa_nil))))))
  pss_nil)
  (pss_cons (ps_if (pt_cmpR (ND.knnot P w hu) (pv 1) (kfld K (pv 0)) rfl) (pss_cons (ps_asg (pe_callB (klen K) (by rfl) T.len (by decide +kernel) (pa_cons (kfld K (pv 0)) pa_nil)) (pg_sub (kfld K (pv 0)) (pv 1) (ND.knput P w hu)))
  (pss_one (ps_expr (kapp K (kfld K (pv 0)) (pa_cons (pv 1) pa_nil)))))
  pss_nil)
  (pss_one (ps_ret (pe_ix (ND.knget P w hu) (kfld K (pv 0)) (pv 1) (fun _ _ => rfl)))))), ?_⟩
    refine Rd.start_ (σ' := [some (.ref p), some (.ref b), none]) rfl ?_
    refine Rd.seq ?_
    refine Rd.mid (fun σ H' => H' = H ∧ badN xs.length f = none ∧ ∃ o, σ = [some (.ref p), some (.ref b), o]) ?_ ?_
    · rintro σ H' ⟨rfl, hb, o, rfl⟩
      obtain ⟨k3, k4⟩ := k2 hb
      walk_at "rd"
      refine ⟨p, cc.C, dx, _, _, rfl, hp, cc.cl, cc.nP, ctf_p _ _, ?_⟩
      refine ⟨d, b, _, f.key, rfl, rfl, hdc, rok, hf.nk, f.depth_le, ?_⟩
      by_cases hm : ∃ q ∈ xs, q.2 = f
      · obtain ⟨⟨a, g⟩, hq, e⟩ := hm
        obtain ⟨j, hj⟩ := List.mem_iff_getElem?.mp hq
        have e' : g = f := e
        subst e'
        have ea := at_some 0 hc.nd hj
        rw [ea]
        walk_at "rd"
        refine ⟨p, cc.C, dx, _, _, rfl, hp, cc.cl, cc.nP, ctf_p _ _, ?_⟩
        walk_at "rd"
        refine ⟨d, b, _, g.key, _, rfl, rfl, hdc, rok, hf.nk, g.depth_le, ea, ?_⟩
        rw [Nat.zero_add]
        exact k3 j a hj
      · have hn : ∀ q ∈ xs, q.2 ≠ f := fun q hq e => hm ⟨q, hq, e⟩
        rw [at_none 0 hn]
        walk_at "rd"
        refine ⟨p, cc.C, dx, _, _, rfl, hp, cc.cl, cc.nF, ctf_f _ _, ?_⟩
        walk_at "rd"
        refine ⟨p, cc.C, dx, _, _, rfl, hp, cc.cl, cc.nP, ctf_p _ _, ?_⟩
        walk_at "rd"
        refine ⟨d, b, _, f.key, rfl, rfl, hdc, rok, hf.nk, f.depth_le, by rw [rows_len]; walk_at "sz", ?_⟩
        rw [le, put_new hn]
        have ndl : d ≠ l := ne_of hdc hl (fun z => by cases z)
        have npd : p ≠ d := ne_of hp hdc (fun z => by cases z)
        have npl : p ≠ l := ne_of hp hl (fun z => by cases z)
        have hp1 : upd H' d (DctO P w d (rowsAt 0 (xs ++ [(b, f)]))) p = some (.ins cc.C dx (ctf l d)) := by rw [upd_ne npd]; exact hp
        have hl1 : upd H' d (DctO P w d (rowsAt 0 (xs ++ [(b, f)]))) l = some (.lst (frefs xs)) := by rw [upd_ne (Ne.symm ndl)]; exact hl
        have hd1 : upd H' d (DctO P w d (rowsAt 0 (xs ++ [(b, f)]))) d = some (DctO P w d (rowsAt 0 (xs ++ [(b, f)]))) := upd_same
        have fr1 : ∀ a, a ≠ l → a ≠ d → upd H' d (DctO P w d (rowsAt 0 (xs ++ [(b, f)]))) a = H' a := fun a _ n => upd_ne n
        generalize upd H' d (DctO P w d (rowsAt 0 (xs ++ [(b, f)]))) = H1 at hp1 hl1 hd1 fr1
        walk_at "rd"
        refine ⟨p, cc.C, dx, _, _, rfl, hp1, cc.cl, cc.nF, ctf_f _ _, ?_⟩
        walk_at "rd"
        have ef : frefs xs ++ [V.ref b] = frefs (xs ++ [(b, f)]) := by unfold frefs; rw [List.map_append]; rfl
        rw [ef]
        have hp2 : upd H1 l (.lst (frefs (xs ++ [(b, f)]))) p = some (.ins cc.C dx (ctf l d)) := by rw [upd_ne npl]; exact hp1
        have hd2 : upd H1 l (.lst (frefs (xs ++ [(b, f)]))) d = some (DctO P w d (rowsAt 0 (xs ++ [(b, f)]))) := by rw [upd_ne ndl]; exact hd1
        have hl2 : upd H1 l (.lst (frefs (xs ++ [(b, f)]))) l = some (.lst (frefs (xs ++ [(b, f)]))) := upd_same
        have fr2 : ∀ a, a ≠ l → a ≠ d → upd H1 l (.lst (frefs (xs ++ [(b, f)]))) a = H' a := fun a n1 n2 => by rw [upd_ne n1]; exact fr1 a n1 n2
        generalize upd H1 l (.lst (frefs (xs ++ [(b, f)]))) = H2 at hp2 hd2 hl2 fr2
        have ktup : ∀ c ys, H' c = some (.tup ys) → H2 c = some (.tup ys) := fun c ys z => by
          rw [fr2 c (ne_of z hl (fun q => by cases q)) (ne_of z hdc (fun q => by cases q))]
          exact z
        have hf2 : FmAt H2 b f := hf.keep ktup
        have hc2 : CtAt P w cc.C H2 p l d (xs ++ [(b, f)]) := ⟨⟨dx, hp2⟩, hl2, hd2, fun q hq => by
          rcases List.mem_append.mp hq with hq | hq
          · exact (hc.ok q hq).keep ktup
          · rw [List.mem_singleton.mp hq]; exact hf2, by
          rw [List.map_append, List.nodup_append]
          refine ⟨hc.nd, by simp, fun x hx y hy e => ?_⟩
          obtain ⟨q, hq, rfl⟩ := List.mem_map.mp hx
          rw [List.mem_singleton.mp (show y ∈ [f] from hy)] at e
          exact hn q hq e⟩
        have ea : atN (rowsAt 0 (xs ++ [(b, f)])) f.key = some (.int ((0 + xs.length : Nat) : Int)) := at_some 0 hc2.nd (by rw [List.getElem?_append_right (Nat.le_refl _), Nat.sub_self]; rfl)
        refine ⟨p, cc.C, dx, _, _, rfl, hp2, cc.cl, cc.nP, ctf_p _ _, ?_⟩
        walk_at "rd"
        refine ⟨d, b, _, f.key, _, rfl, rfl, hd2, rowsOk hc2.ok hc2.nd, hf2.nk, f.depth_le, ea, ?_⟩
        rw [Nat.zero_add]
        exact k4 hn H2 fr2 hc2
    · intro N' hN'
      cases f with
      | st g n =>
        obtain ⟨q, h1, h2⟩ := id hf
        walk_at "rd"
        exact hN' _ _ ⟨rfl, rfl, _, rfl⟩
      | fr s0 r =>
        have h1 : H b = some (.tup [.str (S freshS), .int s0, .str (S r)]) := hf
        walk_at "rd"
        exact hN' _ _ ⟨rfl, rfl, _, rfl⟩
      | de s0 r ns =>
        obtain ⟨q, h1, h2⟩ := id hf
        have ln : (ns.map V.int).length = ns.length := List.length_map ..
        walk_at "rd"
        refine Rd.foW Rd.wTup (fun i σ H' => H' = H ∧ (∀ n ∈ ns.take i, hasN xs.length n) ∧ ∃ o, σ = [some (.ref p), some (.ref b), o]) ⟨rfl, fun n hn => absurd hn List.not_mem_nil, _, rfl⟩ (fun i σ H' hi ⟨e, _⟩ => by subst e; exact SqT.of h2) ?_ ?_
        · rintro i x σ H' hi hx ⟨rfl, hns, o, rfl⟩
          rw [List.getElem?_map] at hx
          obtain ⟨n, hn, rfl⟩ := Option.map_eq_some_iff.mp hx
          dsimp only [List.set]
          walk_at "rd"
          refine ⟨p, dx, _, rfl, hp, ctf_no _ _ (by decide +kernel) (by decide +kernel), ?_⟩
          walk_at "rd"
          refine ⟨p, l, d, n, xs, P, w, rfl, hc, fun h => ?_, fun h => k1 n (find_first hns hn h)⟩
          walk_at "rd"
          refine ⟨rfl, fun m hm => ?_, _, rfl⟩
          rw [List.take_add_one, hn] at hm
          rcases List.mem_append.mp hm with z | z
          · exact hns m z
          · rw [List.mem_singleton.mp z]; exact h
        · rintro σ H' ⟨rfl, hns, o, rfl⟩
          rw [ln, List.take_length] at hns
          refine hN' _ _ ⟨rfl, ?_, _, rfl⟩
          unfold badN Fm.nums
          rw [List.find?_eq_none]
          intro n hn
          rw [decide_eq_true (hns n hn)]
          decide
def spForm (C eF : Addr) : Sp := fun vs H Q E => ∃ (p l d : Addr) (n : Int) (xs : List Kn) (P : Program) (w : World), vs = [.ref p, .int n] ∧ CtAt P w C H p l d xs ∧ xs.length ≤ 1000 ∧ (∀ (j : Nat) a f, n = (j : Int) → xs[j]? = some (a, f) → Q (.ref a) H) ∧ (¬ hasN xs.length n → Raised E eF "number" (.int n) H)
abbrev s_Contents_formula : Stmt := inClass (top 5) 4
theorem sc_Contents_formula : FnScope ["self", "number"] ["self", "number"] (defScope s_Contents_formula) := ⟨rfl, rfl, rfl, by decide +kernel, rfl, by decide +kernel, by decide +kernel⟩
abbrev MFo (K : PySem.W.Frag) := Mf K "formula" "Contents.formula" s_Contents_formula ["self", "number"]
theorem ok_form {mC : Addr} (m : MFo K) (T : Bt mg) (cc : Cn K mg mC) (eF : ErF K mg) (mR : MRn K) (hR : Meth K cc.C "require_number" mR.f) : FnOk P w K mg base (L2.CX P w) 4 m.f m.fd ["self", "number"] (spForm cc.C eF.C) := by
  have GR : FnOk P w K mg base (L2.CX P w) 3 mR.f mR.fd _ (spReqN cc.C eF.C) := ok_reqn mR T cc eF
  refine m.F.okX sc_Contents_formula (fun vs H Q E h => ?_) (fun cdv A outer s H vs Q E hr h => ?_)
  · obtain ⟨p, l, d, n, xs, _, _, rfl, _⟩ := h
    rfl
  · obtain ⟨p, l, d, n, xs, P0, w0, rfl, hc, h1000, k1, k2⟩ := h
    obtain ⟨dx, hp⟩ := hc.ins
    have hl := hc.lst
    refine ⟨_, (pss_cons (ps_expr (pe_mA (pv 0) cc.cl mR hR GR hr (passes_call (takes_of rfl rfl rfl rfl) (fun _ _ _ _ h => h)) (pa_cons (pv 1) pa_nil)))
  (pss_one (ps_ret (pe_ix (kix K) (kfld K (pv 0)) (pv 1) (fun _ _ => rfl))))), ?_⟩
    refine Rd.start_ (σ' := [some (.ref p), some (.int n)]) rfl ?_
    walk_at "rd"
    refine ⟨p, dx, _, rfl, hp, ctf_no _ _ (by decide +kernel) (by decide +kernel), ?_⟩
    walk_at "rd"
    refine ⟨p, l, d, n, xs, P0, w0, rfl, hc, fun h => ?_, fun h => k2 h⟩
    have lt : n.toNat < xs.length := by have := h.2; have := h.1; omega
    have en : n = ((n.toNat : Nat) : Int) := by have := h.1; omega
    have hq : xs[n.toNat]? = some xs[n.toNat] := List.getElem?_eq_getElem lt
    have ha : atI (frefs xs) n = some (.ref xs[n.toNat].1) := (congrArg (atI (frefs xs)) en).trans (atI_nat (by rw [List.getElem?_map, hq]; rfl))
    walk_at "rd"
    refine ⟨p, cc.C, dx, _, _, rfl, hp, cc.cl, cc.nF, ctf_f _ _, ?_⟩
    walk_at "rd"
    exact k1 n.toNat _ _ en hq

end
section
variable {P : Program} {w : World} {K : PySem.W.Frag} {mg : Str → Option Value} {base : Heap} {tk : Tok}
/-! ### the law's formulas -/
open ND
theorem at_ints {lit : List Int} {r : Int} (h0 : 0 ≤ r) (h1 : r < lit.length) : ∃ z ∈ lit, atI (lit.map V.int) r = some (.int z) := by
  have hlt : r.toNat < lit.length := by omega
  have e : r = ((r.toNat : Nat) : Int) := by omega
  exact ⟨lit[r.toNat], List.getElem_mem hlt, (congrArg (atI _) e).trans (atI_nat (by simp [hlt]))⟩
theorem at_names {ns : List (List Nat)} {r : Int} (h0 : 0 ≤ r) (h1 : r < ns.length) : ∃ l ∈ ns, atI (ns.map fun l => V.str (S l)) r = some (.str (S l)) := by
  have hlt : r.toNat < ns.length := by omega
  have e : r = ((r.toNat : Nat) : Int) := by omega
  exact ⟨ns[r.toNat], List.getElem_mem hlt, (congrArg (atI _) e).trans (atI_nat (by simp [hlt]))⟩
theorem SameB.nn {p a : Addr} {H H' : Hp} (s : SameB p H H') (n : a ≠ p) (h : H' a = none) : H a = none := by
  cases q : H a with
  | none => rfl
  | some o => rw [s _ _ n q] at h; cases h
theorem pool_ne' {H : Hp} {p a : Addr} (h : PoolAt H p) (k : H a = none) : a ≠ p := fun z => by
  obtain ⟨_, _, _, e⟩ := h
  rw [z, e] at k; cases k
theorem none_same' {H H' : Hp} {t : Addr} (e : Same H H') (h : H' t = none) : H t = none := by
  cases q : H t with
  | none => rfl
  | some o => rw [e _ _ q] at h; cases h
def spWhole : Sp := fun vs H Q _ => ∃ i : Int, vs = [.int i] ∧ Q (.bl true) H
abbrev s_law_whole : Stmt := top 12
theorem sc_law_whole : FnScope ["_law_value"] ["_law_value"] (defScope s_law_whole) := ⟨rfl, rfl, rfl, by decide +kernel, rfl, by decide +kernel, by decide +kernel⟩
abbrev DWh (K : PySem.W.Frag) (mg : Str → Option Value) := Df K mg "_law_whole" "_law_whole" s_law_whole ["_law_value"]
theorem ok_whole (d : DWh K mg) (T : Bt mg) : FnOk P w K mg base CX0 1 d.f d.fd ["_law_value"] spWhole := by
  refine d.F.ok sc_law_whole (fun vs H Q E h => ?_) (fun cdv A outer s H vs Q E hr h => ?_)
  · obtain ⟨i, rfl, _⟩ := h
    rfl
  · obtain ⟨i, rfl, k⟩ := h
    refine ⟨_, (pss_one (ps_ret (pe_and (pe_callB (kisi K) (by rfl) T.isinstance (by decide +kernel) (pa_cons (pv 0) (pa_cons (pe_bltn (v := .ty "int") (by rfl) T.int (by decide +kernel) rfl) pa_nil))) (pe_one (pe_not (pe_callB (kisi K) (by rfl) T.isinstance (by decide +kernel) (pa_cons (pv 0) (pa_cons (pe_bltn (v := .ty "bool") (by rfl) T.bool (by decide +kernel) rfl) pa_nil)))))))), ?_⟩
    refine Rd.start_ (σ' := [some (.int i)]) rfl ?_
    walk_at "rd"
    refine Rd.isi (.ty _) (.base (.int _)) (kit_ty (r := true) (by decide +kernel)) ?_
    walk_at "rd"
    refine Rd.isi (.ty _) (.base (.int _)) (kit_ty (r := false) (by decide +kernel)) ?_
    walk_at "rd"
    exact k
def spFormula : Sp := fun vs H Q _ => ∃ (p q : Addr) (xs : List (List Nat)) (m : Nat), vs = [.ref p, .ref q, .int (m : Nat)] ∧ PoolAt H p ∧ NamesAt H q xs ∧ xs.length = 8 ∧ (∀ l ∈ xs, Nm l) ∧ m ≤ 1000 ∧
  ∀ b f H', H b = none → SameB p H H' → PoolAt H' p → FmAt H' b f → f.ok → (∀ n ∈ f.nums, 0 ≤ n ∧ n < (m : Int)) → Q (.ref b) H'
abbrev s_law_formula : Stmt := top 11
theorem sc_law_formula : FnScope ["_law_pool_here", "_law_names_here", "_law_many", "_law_style", "_law_step", "_law_name", "_law_numbers", "_law_k"] ["_law_pool_here", "_law_names_here", "_law_many"] (defScope s_law_formula) := ⟨rfl, rfl, rfl, by decide +kernel, rfl, by decide +kernel, by decide +kernel⟩
abbrev DFm (K : PySem.W.Frag) (mg : Str → Option Value) := Df K mg "_law_formula" "_law_formula" s_law_formula ["_law_pool_here", "_law_names_here", "_law_many"]
abbrev DPool (K : PySem.W.Frag) (mg : Str → Option Value) := Df K mg "_law_pool" "_law_pool" s_law_pool ["_law_script", "_law_k"]
abbrev DDraw (K : PySem.W.Frag) (mg : Str → Option Value) := Df K mg "_law_draw" "_law_draw" s_law_draw ["_law_pool_here", "_law_many"]
abbrev DNames (K : PySem.W.Frag) (mg : Str → Option Value) := Df K mg "_law_names" "_law_names" s_law_names ["_law_pool_here"]
theorem ok_formula (d : DFm K mg) (T : Bt mg) (dD : DDraw K mg) (GD : FnOk P w K mg base CX0 1 dD.f dD.fd ["_law_pool_here", "_law_many"] spDraw) : FnOk P w K mg base CX0 2 d.f d.fd ["_law_pool_here", "_law_names_here", "_law_many"] spFormula := by
  refine d.F.ok sc_law_formula (fun vs H Q E h => ?_) (fun cdv A outer s H vs Q E hr h => ?_)
  · obtain ⟨p, q, xs, m, rfl, _⟩ := h
    rfl
  · obtain ⟨p, q, xs, m, rfl, hp, hq, h8, hN, hm, k⟩ := h
    have hu := hr.units
    refine ⟨_, (pss_cons (ps_set (i := 3) sc_law_formula.nd rfl (Or.inl rfl) (pe_cf dD GD hr pass0 (pa_cons (pv 0) (pa_cons pe_int pa_nil))))
  (pss_cons (ps_set (i := 4) sc_law_formula.nd rfl (Or.inl rfl) (pe_ix (kix K) (pe_lst (pa_cons pe_int (pa_cons pe_int (pa_cons pe_int (pa_cons pe_int pa_nil))))) (pe_cf dD GD hr pass0 (pa_cons (pv 0) (pa_cons pe_int pa_nil))) (fun _ _ => rfl)))
  (pss_cons (ps_set (i := 5) sc_law_formula.nd rfl (Or.inl rfl) (pe_ix (kix K) (pv 1) (pe_cf dD GD hr pass0 (pa_cons (pv 0) (pa_cons pe_int pa_nil))) (fun _ _ => rfl)))
  (pss_cons (ps_if (pt_cmpR (keq K hu) (pv 3) pe_int (nomark _)) (pss_one (ps_ret (pe_tup (pa_cons (pe_lit [115, 116, 97, 114, 116] (by decide +kernel)) (pa_cons (pe_tup (pa_cons (pv 5) (pa_cons (pe_op op_mulA (pv 4) pe_int) pa_nil))) pa_nil)))))
  pss_nil)
  (pss_cons (ps_if (pt_cmpR (keq K hu) (pv 3) pe_int (nomark _)) (pss_one (ps_ret (pe_tup (pa_cons (pe_lit [102, 114, 101, 115, 104] (by decide +kernel)) (pa_cons (pv 4) (pa_cons (pv 5) pa_nil))))))
  pss_nil)
  (pss_cons (ps_set (i := 6) sc_law_formula.nd rfl (Or.inl rfl) (pe_lst pa_nil))
  (pss_cons (ps_if (pt_cmpR op_gtI (pv 2) pe_int (nomark _)) (pss_one (ps_for PassesOwn.never rfl (pi_range1 rfl T.range (pa_cons (pe_ix (kix K) (pe_lst (pa_cons pe_int (pa_cons pe_int (pa_cons pe_int (pa_cons pe_int (pa_cons pe_int (pa_cons pe_int (pa_cons pe_int (pa_cons pe_int pa_nil))))))))) (pe_cf dD GD hr pass0 (pa_cons (pv 0) (pa_cons pe_int pa_nil))) (fun _ _ => rfl)) pa_nil)) (pg_name (i := 7) sc_law_formula.nd rfl (Or.inl rfl))
  (pss_one (ps_expr (kapp K (pv 6) (pa_cons (pe_cf dD GD hr pass0 (pa_cons (pv 0) (pa_cons (pv 2) pa_nil))) pa_nil))))))
  pss_nil)
  (pss_one (ps_ret (pe_tup (pa_cons (pe_lit [100, 101, 114, 105, 118, 101, 100] (by decide +kernel)) (pa_cons (pv 4) (pa_cons (pv 5) (pa_cons (pe_callTy (ktuple K) (by rfl) T.tuple (by decide +kernel) (pa_cons (pv 6) pa_nil)) pa_nil)))))))))))))), ?_⟩
    refine Rd.start_ (σ' := [some (.ref p), some (.ref q), some (.int (m : Nat)), none, none, none, none, none]) rfl ?_
    have nqp : q ≠ p := fun z => by
      obtain ⟨_, _, _, e⟩ := hp
      have hq' : H q = some (.lst (xs.map fun l => V.str (S l))) := hq
      rw [z, e] at hq'
      have := congrArg (fun o : Option HO => match o with | some (.lst l) => l.length | _ => 0) hq'
      simp [h8] at this
    walk_at "rd"
    refine ⟨_, _, rfl, by decide, by decide, hp, fun st H1 _ _ e1 p1 => ?_⟩
    have b1 : SameB p H H1 := SameB.drawn e1
    walk_at "rd"
    refine ⟨by show 4 ≤ sizeLine; decide, fun l hl => ?_⟩
    have np1 : l ≠ p := pool_ne' p1 hl
    have s2 := same_new (o := .lst [V.int 1, V.int 2, V.int 3, V.int 98]) hl
    have p2 := pool_of p1 s2
    have b2 := b1.trans (SameB.of s2)
    have hl2 : upd H1 l (.lst [V.int 1, V.int 2, V.int 3, V.int 98]) l = some (.lst [V.int 1, V.int 2, V.int 3, V.int 98]) := upd_same
    generalize upd H1 l (.lst [V.int 1, V.int 2, V.int 3, V.int 98]) = H2 at s2 p2 b2 hl2
    walk_at "rd"
    refine ⟨_, _, rfl, by decide, by decide, p2, fun r3 H3 r30 r31 e3 p3 => ?_⟩
    have b3 := b2.trans (SameB.drawn e3)
    have hl3 : H3 l = some (.lst [V.int 1, V.int 2, V.int 3, V.int 98]) := by rw [e3 _ np1]; exact hl2
    obtain ⟨sp, hsp, asp⟩ := at_ints (lit := [1, 2, 3, 98]) r30 r31
    have asp' : atI [V.int 1, V.int 2, V.int 3, V.int 98] r3 = some (.int sp) := asp
    have sp100 : 0 ≤ sp ∧ sp < 100 := by
      rcases List.mem_cons.mp hsp with e | hsp
      · omega
      rcases List.mem_cons.mp hsp with e | hsp
      · omega
      rcases List.mem_cons.mp hsp with e | hsp
      · omega
      rw [List.mem_singleton.mp hsp]; decide
    walk_at "rd"
    refine ⟨_, _, rfl, by decide, by decide, p3, fun r4 H4 r40 r41 e4 p4 => ?_⟩
    have b4 := b3.trans (SameB.drawn e4)
    obtain ⟨nm, hnm, anm⟩ := at_names (ns := xs) r40 (by rw [h8]; omega)
    have hq4 : H4 q = some (.lst (xs.map fun l => V.str (S l))) := b4 _ _ nqp hq
    have nok := hN nm hnm
    walk_at "rd"
    refine Rd.iteD (fun c1 => ?_) (fun c1 => ?_)
    · walk_at "rd"
      refine ⟨by show 2 ≤ sizeLine; decide, fun t1 ht1 => ?_⟩
      walk_at "rd"
      refine ⟨by show 2 ≤ sizeLine; decide, fun t2 ht2 => ?_⟩
      have s5 := same_new (o := .tup [.str (S nm), .int (sp * 101)]) ht1
      have s6 := same_new (o := .tup [.str (S startS), .ref t1]) ht2
      have s56 := s5.trans s6
      exact k t2 (.st nm (sp * 101)) _ (b4.nn (pool_ne' (pool_of p4 s5) ht2) (none_same' s5 ht2)) (b4.trans (SameB.of s56)) (pool_of p4 s56) ⟨t1, upd_same, s6 _ _ upd_same⟩ nok fun n hn => absurd hn List.not_mem_nil
    · walk_at "rd"
      refine Rd.iteD (fun c2 => ?_) (fun c2 => ?_)
      · walk_at "rd"
        refine ⟨by show 3 ≤ sizeLine; decide, fun t1 ht1 => ?_⟩
        have s5 := same_new (o := .tup [.str (S freshS), .int sp, .str (S nm)]) ht1
        exact k t1 (.fr sp nm) _ (b4.nn (pool_ne' p4 ht1) ht1) (b4.trans (SameB.of s5)) (pool_of p4 s5) upd_same nok fun n hn => absurd hn List.not_mem_nil
      · walk_at "rd"
        refine ⟨by show 0 ≤ sizeLine; decide, fun L hL => ?_⟩
        have s5 := same_new (o := .lst []) hL
        have npL : L ≠ p := pool_ne' p4 hL
        have hL0 : H L = none := b4.nn npL hL
        have p5 := pool_of p4 s5
        have b5 := b4.trans (SameB.of s5)
        have hL5 : upd H4 L (.lst []) L = some (.lst (([] : List Int).map V.int)) := upd_same
        generalize upd H4 L (.lst []) = H5 at s5 p5 b5 hL5
        refine Rd.seq ?_
        refine Rd.mid (fun σ H' => ∃ (o7 : Option V) (ns : List Int), σ = [some (.ref p), some (.ref q), some (.int (m : Nat)), some (.int st), some (.int sp), some (.str (S nm)), some (.ref L), o7] ∧ SameB p H H' ∧ PoolAt H' p ∧ H' L = some (.lst (ns.map V.int)) ∧ ∀ n ∈ ns, 0 ≤ n ∧ n < (m : Int)) ?_ ?_
        · rintro σ H' ⟨o7, ns, rfl, b6, p6, hL6, hns⟩
          walk_at "rd"
          refine Rd.tupL (SqL.of hL6) fun t1 ht1 => ?_
          walk_at "rd"
          refine ⟨by show 4 ≤ sizeLine; decide, fun t2 ht2 => ?_⟩
          have s7 := same_new (o := .tup (ns.map V.int)) ht1
          have s8 := same_new (o := .tup [.str (S derivS), .int sp, .str (S nm), .ref t1]) ht2
          have s78 := s7.trans s8
          exact k t2 (.de sp nm ns) _ (b6.nn (pool_ne' (pool_of p6 s7) ht2) (none_same' s7 ht2)) (b6.trans (SameB.of s78)) (pool_of p6 s78) ⟨t1, upd_same, s8 _ _ upd_same⟩ nok hns
        · intro N' hN'
          walk_at "rd"
          refine Rd.iteD (fun c3 => ?_) (fun c3 => ?_)
          · walk_at "rd"
            refine ⟨by show 8 ≤ sizeLine; decide, fun l2 hl2 => ?_⟩
            have np2 : l2 ≠ p := pool_ne' p5 hl2
            have s6 := same_new (o := .lst [V.int 0, V.int 1, V.int 1, V.int 2, V.int 2, V.int 3, V.int 3, V.int 6]) hl2
            have p6 := pool_of p5 s6
            have b6 := b5.trans (SameB.of s6)
            have hL6 := s6 _ _ hL5
            have hl6 : upd H5 l2 (.lst [V.int 0, V.int 1, V.int 1, V.int 2, V.int 2, V.int 3, V.int 3, V.int 6]) l2 = some (.lst [V.int 0, V.int 1, V.int 1, V.int 2, V.int 2, V.int 3, V.int 3, V.int 6]) := upd_same
            generalize upd H5 l2 (.lst [V.int 0, V.int 1, V.int 1, V.int 2, V.int 2, V.int 3, V.int 3, V.int 6]) = H6 at s6 p6 b6 hL6 hl6
            walk_at "rd"
            refine ⟨_, _, rfl, by decide, by decide, p6, fun r7 H7 r70 r71 e7 p7 => ?_⟩
            have b7 := b6.trans (SameB.drawn e7)
            have hL7 : H7 L = some (.lst (([] : List Int).map V.int)) := by rw [e7 _ npL]; exact hL6
            have hl7 : H7 l2 = some (.lst [V.int 0, V.int 1, V.int 1, V.int 2, V.int 2, V.int 3, V.int 3, V.int 6]) := by rw [e7 _ np2]; exact hl6
            obtain ⟨ct, hct, act⟩ := at_ints (lit := [0, 1, 1, 2, 2, 3, 3, 6]) r70 r71
            have act' : atI [V.int 0, V.int 1, V.int 1, V.int 2, V.int 2, V.int 3, V.int 3, V.int 6] r7 = some (.int ct) := act
            have ct10 : 0 ≤ ct ∧ ct ≤ 6 := by
              have : ∀ z ∈ ([0, 1, 1, 2, 2, 3, 3, 6] : List Int), 0 ≤ z ∧ z ≤ 6 := by decide
              exact this ct hct
            walk_at "rd"
            refine Rd.foW Rd.wRange (fun i σ H' => ∃ (o7 : Option V) (ns : List Int), σ = [some (.ref p), some (.ref q), some (.int (m : Nat)), some (.int st), some (.int sp), some (.str (S nm)), some (.ref L), o7] ∧ SameB p H H' ∧ PoolAt H' p ∧ H' L = some (.lst (ns.map V.int)) ∧ ns.length ≤ i ∧ ∀ n ∈ ns, 0 ≤ n ∧ n < (m : Int)) ⟨_, [], rfl, b7, p7, hL7, Nat.le_refl _, fun n hn => absurd hn List.not_mem_nil⟩ (fun _ _ _ _ _ => trivial) ?_ ?_
            · rintro i x σ H8 hi hx ⟨o7, ns, rfl, b8, p8, hL8, hln, hns⟩
              dsimp only [List.set]
              walk_at "rd"
              refine ⟨_, _, rfl, by omega, by omega, p8, fun r9 H9 r90 r91 e9 p9 => ?_⟩
              have hL9 : H9 L = some (.lst (ns.map V.int)) := by rw [e9 _ npL]; exact hL8
              have lns : (ns.map V.int).length < sizeLine := by rw [List.length_map]; walk_at "sz"
              walk_at "rd"
              refine ⟨_, ns ++ [r9], rfl, (b8.trans (SameB.drawn e9)).upd hL0, p9.upd (Ne.symm npL), by rw [upd_same, List.map_append]; rfl, by rw [List.length_append, List.length_singleton]; omega, fun n hn => ?_⟩
              rcases List.mem_append.mp hn with z | z
              · exact hns n z
              · rw [List.mem_singleton.mp z]; exact ⟨r90, r91⟩
            · rintro σ H8 ⟨o7, ns, rfl, b8, p8, hL8, hln, hns⟩
              exact hN' _ _ ⟨_, ns, rfl, b8, p8, hL8, hns⟩
          · walk_at "rd"
            exact hN' _ _ ⟨_, [], rfl, b5, p5, hL5, fun n hn => absurd hn List.not_mem_nil⟩

end
section
variable {P : Program} {w : World} {K : PySem.W.Frag} {mg : Str → Option Value} {base : Heap} {tk : Tok}
/-! ### what is refused -/
open ND
def spRefusal (P : Program) (w : World) (C : Addr) : Sp := fun vs H Q _ => ∃ (p l d b : Addr) (f : Fm) (xs : List Kn) (n : Int), vs = [.ref p, .ref b] ∧ CtAt P w C H p l d xs ∧ FmAt H b f ∧ xs.length ≤ 1000 ∧ badN xs.length f = some n ∧
  ∀ t H', Same H H' → H' t = some (.tup [.int n, .bl true]) → Q (.ref t) H'
abbrev s_law_refusal : Stmt := top 13
theorem sc_law_refusal : FnScope ["_law_contents", "_law_formula_here", "_law_number", "e"] ["_law_contents", "_law_formula_here"] (defScope s_law_refusal) := ⟨rfl, rfl, rfl, by decide +kernel, rfl, by decide +kernel, by decide +kernel⟩
abbrev DRef (K : PySem.W.Frag) (mg : Str → Option Value) := Df K mg "_law_refusal" "_law_refusal" s_law_refusal ["_law_contents", "_law_formula_here"]
theorem ok_refusal {mC : Addr} (d : DRef K mg) (T : Bt mg) (cc : Cn K mg mC) (eF : ErF K mg) (mNo : MNo K) (hNo : Meth K cc.C "number_of" mNo.f) (GNo : FnOk P w K mg base (L2.CX P w) 4 mNo.f mNo.fd ["self", "formula"] (spNum P w cc.C eF.C))
    {cRE : Addr} (gRE : mg "RedoError" = some (.ref cRE)) (q1 : PySem.W.kitOne K (.ref eF.C) (.ref cRE) = some true) : FnOk P w K mg base CX0 5 d.f d.fd ["_law_contents", "_law_formula_here"] (spRefusal P w cc.C) := by
  refine d.F.ok sc_law_refusal (fun vs H Q E h => ?_) (fun cdv A outer s H vs Q E hr h => ?_)
  · obtain ⟨p, l, d, b, f, xs, n, rfl, _⟩ := h
    rfl
  · obtain ⟨p, l, d, b, f, xs, n, rfl, hc, hf, h1000, hb, k⟩ := h
    have hu := hr.units
    obtain ⟨dx, hp⟩ := hc.ins
    refine ⟨_, (pss_cons (ktry_as K 3 sc_law_refusal.nd ⟨rfl, by decide, Or.inl eF.g⟩ (fun W pn xe tk _ => (pss_one (ps_set (i := 2) sc_law_refusal.nd rfl (Or.inl rfl) (pe_mT (pv 0) cc.cl mNo hNo GNo hr tk (pa_cons (pv 1) pa_nil))))) (fun a oe cls d pn hz hf => (pss_one (ps_ret (pe_tup (pa_cons (kxf eF.xf eF.no hz hf (pv 3)) (pa_cons (pe_callB (call_isX eF.xc hz hf) (by rfl) T.isinstance (by decide +kernel) (pa_cons (pv 3) (pa_cons (pe_glob (v := .ref cRE) rfl gRE rfl) pa_nil))) pa_nil)))))))
  (pss_one (ps_ret (pe_tup (pa_cons (pv 2) pa_nil))))), ?_⟩
    refine Rd.start_ (σ' := [some (.ref p), some (.ref b), none, none]) rfl ?_
    walk_at "rd"
    refine ⟨p, dx, _, rfl, hp, ctf_no _ _ (by decide +kernel) (by decide +kernel), ?_⟩
    walk_at "rd"
    refine ⟨p, l, d, b, f, xs, rfl, hc, hf, h1000, fun n' hn' dd H1 s1 hd => ?_, fun hn' => by rw [hb] at hn'; cases hn'⟩
    rw [hb] at hn'
    cases hn'
    refine Rd.wAs_yes eF.te fun ae hae => ?_
    dsimp only [List.set]
    walk_at "rd"
    refine ⟨rfl, rfl, dd, _, _, rfl, hd, by simp [List.lookup]; rfl, ?_⟩
    walk_at "rd"
    refine Rd.isX (fun u h => h) rfl rfl hd q1 ?_
    walk_at "rd"
    refine ⟨by show 2 ≤ sizeLine; decide, fun t ht => ?_⟩
    exact k t _ (s1.trans (same_new ht)) upd_same
def spMissing (P : Program) (w : World) (C : Addr) : Sp := fun vs H Q _ => ∃ (p l d : Addr) (xs : List Kn) (n : Int), vs = [.ref p, .int n] ∧ CtAt P w C H p l d xs ∧ xs.length ≤ 1000 ∧ ¬ hasN xs.length n ∧
  ∀ t H', Same H H' → H' t = some (.tup [.int n, .bl true]) → Q (.ref t) H'
abbrev s_law_missing : Stmt := top 14
theorem sc_law_missing : FnScope ["_law_contents", "_law_number", "_law_formula_here", "e"] ["_law_contents", "_law_number"] (defScope s_law_missing) := ⟨rfl, rfl, rfl, by decide +kernel, rfl, by decide +kernel, by decide +kernel⟩
abbrev DMi (K : PySem.W.Frag) (mg : Str → Option Value) := Df K mg "_law_missing" "_law_missing" s_law_missing ["_law_contents", "_law_number"]
theorem ok_missing {mC : Addr} (d : DMi K mg) (T : Bt mg) (cc : Cn K mg mC) (eF : ErF K mg) (mFo : MFo K) (hFo : Meth K cc.C "formula" mFo.f) (GFo : FnOk P w K mg base (L2.CX P w) 4 mFo.f mFo.fd ["self", "number"] (spForm cc.C eF.C))
    {cRE : Addr} (gRE : mg "RedoError" = some (.ref cRE)) (q1 : PySem.W.kitOne K (.ref eF.C) (.ref cRE) = some true) : FnOk P w K mg base CX0 5 d.f d.fd ["_law_contents", "_law_number"] (spMissing P w cc.C) := by
  refine d.F.ok sc_law_missing (fun vs H Q E h => ?_) (fun cdv A outer s H vs Q E hr h => ?_)
  · obtain ⟨p, l, d, xs, n, rfl, _⟩ := h
    rfl
  · obtain ⟨p, l, d, xs, n, rfl, hc, h1000, hb, k⟩ := h
    have hu := hr.units
    obtain ⟨dx, hp⟩ := hc.ins
    refine ⟨_, (pss_cons (ktry_as K 3 sc_law_missing.nd ⟨rfl, by decide, Or.inl eF.g⟩ (fun W pn xe tk _ => (pss_one (ps_set (i := 2) sc_law_missing.nd rfl (Or.inl rfl) (pe_mT (pv 0) cc.cl mFo hFo GFo hr tk (pa_cons (pv 1) pa_nil))))) (fun a oe cls d pn hz hf => (pss_one (ps_ret (pe_tup (pa_cons (kxf eF.xf eF.no hz hf (pv 3)) (pa_cons (pe_callB (call_isX eF.xc hz hf) (by rfl) T.isinstance (by decide +kernel) (pa_cons (pv 3) (pa_cons (pe_glob (v := .ref cRE) rfl gRE rfl) pa_nil))) pa_nil)))))))
  (pss_one (ps_ret (pe_tup (pa_cons (pv 2) pa_nil))))), ?_⟩
    refine Rd.start_ (σ' := [some (.ref p), some (.int n), none, none]) rfl ?_
    walk_at "rd"
    refine ⟨p, dx, _, rfl, hp, ctf_no _ _ (by decide +kernel) (by decide +kernel), ?_⟩
    walk_at "rd"
    refine ⟨p, l, d, n, xs, P, w, rfl, hc, h1000, fun j a f e hj => ?_, fun _ dd H1 s1 hd => ?_⟩
    · exact absurd ⟨by omega, by have := (List.getElem?_eq_some_iff.mp hj).1; omega⟩ hb
    refine Rd.wAs_yes eF.te fun ae hae => ?_
    dsimp only [List.set]
    walk_at "rd"
    refine ⟨rfl, rfl, dd, _, _, rfl, hd, by simp [List.lookup]; rfl, ?_⟩
    walk_at "rd"
    refine Rd.isX (fun u h => h) rfl rfl hd q1 ?_
    walk_at "rd"
    refine ⟨by show 2 ≤ sizeLine; decide, fun t ht => ?_⟩
    exact k t _ (s1.trans (same_new ht)) upd_same
theorem cutV_to (xs : List V) (i : Nat) : cutV xs none (some (i : Int)) = xs.take i := by
  unfold cutV
  rw [sIx_ge (by omega)]
  show (xs.drop 0).take (min (i : Int).toNat xs.length - 0) = xs.take i
  rw [List.drop_zero, Nat.sub_zero, Int.toNat_natCast]
  by_cases h : i ≤ xs.length
  · rw [Nat.min_eq_left h]
  · rw [Nat.min_eq_right (by omega), List.take_length, List.take_of_length_le (by omega)]
theorem cutV_from (xs : List V) (i : Nat) : cutV xs (some (i : Int)) none = xs.drop i := by
  unfold cutV
  rw [sIx_ge (by omega)]
  show (xs.drop (min (i : Int).toNat xs.length)).take (xs.length - min (i : Int).toNat xs.length) = xs.drop i
  rw [Int.toNat_natCast]
  by_cases h : i ≤ xs.length
  · rw [Nat.min_eq_left h, List.take_of_length_le (by rw [List.length_drop]; omega)]
  · rw [Nat.min_eq_right (by omega), List.drop_of_length_le (Nat.le_refl _), List.drop_of_length_le (by omega), List.take_nil]
/-- a derived formula with a number that no table of m formulas has -/
def spOdd : Sp := fun vs H Q _ => ∃ (p q : Addr) (xs : List (List Nat)) (m : Nat), vs = [.ref p, .ref q, .int (m : Nat)] ∧ PoolAt H p ∧ NamesAt H q xs ∧ xs.length = 8 ∧ (∀ l ∈ xs, Nm l) ∧ m ≤ 1000 ∧
  ∀ b t s r ns n H', H b = none → SameB p H H' → PoolAt H' p → H' b = some (.tup [.str (S derivS), .int s, .str (S r), .ref t]) → H' t = some (.tup (ns.map V.int)) → ns.length ≤ 10 → badN m (.de s r ns) = some n → Q (.ref b) H'
abbrev s_law_odd : Stmt := top 15
theorem sc_law_odd : FnScope ["_law_pool_here", "_law_names_here", "_law_many", "_law_numbers", "_law_k", "_law_number", "_law_at", "_law_odd_here"] ["_law_pool_here", "_law_names_here", "_law_many"] (defScope s_law_odd) := ⟨rfl, rfl, rfl, by decide +kernel, rfl, by decide +kernel, by decide +kernel⟩
abbrev DOd (K : PySem.W.Frag) (mg : Str → Option Value) := Df K mg "_law_odd" "_law_odd" s_law_odd ["_law_pool_here", "_law_names_here", "_law_many"]
theorem ok_odd (d : DOd K mg) (T : Bt mg) (dD : DDraw K mg) (GD : FnOk P w K mg base CX0 1 dD.f dD.fd ["_law_pool_here", "_law_many"] spDraw) : FnOk P w K mg base CX0 2 d.f d.fd ["_law_pool_here", "_law_names_here", "_law_many"] spOdd := by
  refine d.F.ok sc_law_odd (fun vs H Q E h => ?_) (fun cdv A outer s H vs Q E hr h => ?_)
  · obtain ⟨p, q, xs, m, rfl, _⟩ := h
    rfl
  · obtain ⟨p, q, xs, m, rfl, hp, hq, h8, hN, hm, k⟩ := h
    have hu := hr.units
    refine ⟨_, (pss_cons (ps_set (i := 3) sc_law_odd.nd rfl (Or.inl rfl) (pe_lst pa_nil))
  (pss_cons (ps_for PassesOwn.never rfl (pi_range1 rfl T.range (pa_cons (pe_op op_addA pe_int (pe_cf dD GD hr pass0 (pa_cons (pv 0) (pa_cons pe_int pa_nil)))) pa_nil)) (pg_name (i := 4) sc_law_odd.nd rfl (Or.inl rfl))
  (pss_cons (ps_set (i := 5) sc_law_odd.nd rfl (Or.inl rfl) (pe_cf dD GD hr pass0 (pa_cons (pv 0) (pa_cons (pe_op op_addA (pv 2) pe_int) pa_nil))))
  (pss_cons (ps_if (pt_cmpR (keq K hu) (pv 5) (pv 2) (nomark _)) (pss_one (ps_set (i := 5) sc_law_odd.nd rfl (Or.inl rfl) (pe_ix (kix K) (pe_lst (pa_cons (pe_un un_neg pe_int) (pa_cons (pv 2) (pa_cons (pe_op op_addA (pv 2) pe_int) (pa_cons (pe_op op_subI (pe_un un_neg (pv 2)) pe_int) pa_nil))))) (pe_cf dD GD hr pass0 (pa_cons (pv 0) (pa_cons pe_int pa_nil))) (fun _ _ => rfl))))
  pss_nil)
  (pss_one (ps_expr (kapp K (pv 3) (pa_cons (pv 5) pa_nil)))))))
  (pss_cons (ps_set (i := 6) sc_law_odd.nd rfl (Or.inl rfl) (pe_cf dD GD hr pass0 (pa_cons (pv 0) (pa_cons (pe_op op_addA (pe_callB (klen K) (by rfl) T.len (by decide +kernel) (pa_cons (pv 3) pa_nil)) pe_int) pa_nil))))
  (pss_cons (ps_set (i := 7) sc_law_odd.nd rfl (Or.inl rfl) (pe_ix (kix K) (pe_lst (pa_cons (pe_un un_neg pe_int) (pa_cons (pv 2) (pa_cons (pe_op op_addA (pv 2) pe_int) pa_nil)))) (pe_cf dD GD hr pass0 (pa_cons (pv 0) (pa_cons pe_int pa_nil))) (fun _ _ => rfl)))
  (pss_cons (ps_set (i := 3) sc_law_odd.nd rfl (Or.inl rfl) (pe_op op_addA (pe_op op_addA (pe_slice (ksl K) (pv 3) po_none (po_some (pv 6))) (pe_lst (pa_cons (pv 7) pa_nil))) (pe_slice (ksl K) (pv 3) (po_some (pv 6)) po_none)))
  (pss_one (ps_ret (pe_tup (pa_cons (pe_lit [100, 101, 114, 105, 118, 101, 100] (by decide +kernel)) (pa_cons pe_int (pa_cons (pe_ix (kix K) (pv 1) pe_int (fun _ _ => rfl)) (pa_cons (pe_callTy (ktuple K) (by rfl) T.tuple (by decide +kernel) (pa_cons (pv 3) pa_nil)) pa_nil)))))))))))), ?_⟩
    refine Rd.start_ (σ' := [some (.ref p), some (.ref q), some (.int (m : Nat)), none, none, none, none, none]) rfl ?_
    have nqp : q ≠ p := fun z => by
      obtain ⟨_, _, _, e⟩ := hp
      have hq' : H q = some (.lst (xs.map fun l => V.str (S l))) := hq
      rw [z, e] at hq'
      have := congrArg (fun o : Option HO => match o with | some (.lst l) => l.length | _ => 0) hq'
      simp [h8] at this
    walk_at "rd"
    refine ⟨by show 0 ≤ sizeLine; decide, fun L hL0 => ?_⟩
    have s1 := same_new (o := .lst []) hL0
    have npL : L ≠ p := pool_ne' hp hL0
    have p1 := pool_of hp s1
    have b1 : SameB p H (upd H L (.lst [])) := SameB.of s1
    have hL1 : upd H L (.lst []) L = some (.lst (([] : List Int).map V.int)) := upd_same
    generalize upd H L (.lst []) = H1 at s1 p1 b1 hL1
    walk_at "rd"
    refine ⟨_, _, rfl, by decide, by decide, p1, fun r2 H2 r20 r21 e2 p2 => ?_⟩
    have b2 := b1.trans (SameB.drawn e2)
    have hL2 : H2 L = some (.lst (([] : List Int).map V.int)) := by rw [e2 _ npL]; exact hL1
    walk_at "rd"
    refine Rd.foW Rd.wRange (fun i σ H' => ∃ (o4 o5 : Option V) (ns : List Int), σ = [some (.ref p), some (.ref q), some (.int (m : Nat)), some (.ref L), o4, o5, none, none] ∧ SameB p H H' ∧ PoolAt H' p ∧ H' L = some (.lst (ns.map V.int)) ∧ ns.length = i) ⟨_, _, [], rfl, b2, p2, hL2, rfl⟩ (fun _ _ _ _ _ => trivial) ?_ ?_
    · rintro i x σ H3 hi hx ⟨o4, o5, ns, rfl, b3, p3, hL3, hln⟩
      dsimp only [List.set]
      walk_at "rd"
      refine ⟨_, _, rfl, by omega, by omega, p3, fun r4 H4 r40 r41 e4 p4 => ?_⟩
      have b4 := b3.trans (SameB.drawn e4)
      have hL4 : H4 L = some (.lst (ns.map V.int)) := by rw [e4 _ npL]; exact hL3
      show tSeq _ _ _ _ _
      refine Rd.seq ?_
      refine Rd.mid (fun σ H' => ∃ (o4 : Option V) (z : Int), σ = [some (.ref p), some (.ref q), some (.int (m : Nat)), some (.ref L), o4, some (.int z), none, none] ∧ SameB p H H' ∧ PoolAt H' p ∧ H' L = some (.lst (ns.map V.int))) ?_ ?_
      · rintro σ H5 ⟨o4, z, rfl, b5, p5, hL5⟩
        have lns : (ns.map V.int).length < sizeLine := by rw [List.length_map]; walk_at "sz"
        walk_at "rd"
        exact ⟨_, _, ns ++ [z], rfl, b5.upd hL0, p5.upd (Ne.symm npL), by rw [upd_same, List.map_append]; rfl, by rw [List.length_append, hln]; rfl⟩
      · intro N' hN'
        walk_at "rd"
        refine Rd.iteD (fun c1 => ?_) (fun c1 => ?_)
        · walk_at "rd"
          refine ⟨by show 4 ≤ sizeLine; decide, fun l hl => ?_⟩
          have np1 : l ≠ p := pool_ne' p4 hl
          have s5 := same_new (o := .lst [V.int (-1), V.int (m : Nat), V.int ((m : Nat) + 1), V.int (-(m : Nat) - 1)]) hl
          have p5 := pool_of p4 s5
          have b5 := b4.trans (SameB.of s5)
          have hL5 := s5 _ _ hL4
          have hl5 : upd H4 l (.lst [V.int (-1), V.int (m : Nat), V.int ((m : Nat) + 1), V.int (-(m : Nat) - 1)]) l = some (.lst [V.int (-1), V.int (m : Nat), V.int ((m : Nat) + 1), V.int (-(m : Nat) - 1)]) := upd_same
          generalize upd H4 l (.lst [V.int (-1), V.int (m : Nat), V.int ((m : Nat) + 1), V.int (-(m : Nat) - 1)]) = H5 at s5 p5 b5 hL5 hl5
          walk_at "rd"
          refine ⟨_, _, rfl, by decide, by decide, p5, fun r6 H6 r60 r61 e6 p6 => ?_⟩
          have hL6 : H6 L = some (.lst (ns.map V.int)) := by rw [e6 _ npL]; exact hL5
          have hl6 : H6 l = some (.lst [V.int (-1), V.int (m : Nat), V.int ((m : Nat) + 1), V.int (-(m : Nat) - 1)]) := by rw [e6 _ np1]; exact hl5
          obtain ⟨z, hz, az⟩ := at_ints (lit := [-1, (m : Int), (m : Int) + 1, -(m : Int) - 1]) r60 r61
          have az' : atI [V.int (-1), V.int (m : Nat), V.int ((m : Nat) + 1), V.int (-(m : Nat) - 1)] r6 = some (.int z) := az
          walk_at "rd"
          exact hN' _ _ ⟨_, z, rfl, b5.trans (SameB.drawn e6), p6, hL6⟩
        · walk_at "rd"
          exact hN' _ _ ⟨_, r4, rfl, b4, p4, hL4⟩
    · rintro σ H3 ⟨o4, o5, ns, rfl, b3, p3, hL3, hln⟩
      have lmap : (ns.map V.int).length = ns.length := List.length_map ..
      walk_at "rd"
      refine ⟨_, _, rfl, by omega, by omega, p3, fun at_ H4 a0 a1 e4 p4 => ?_⟩
      have b4 := b3.trans (SameB.drawn e4)
      have hL4 : H4 L = some (.lst (ns.map V.int)) := by rw [e4 _ npL]; exact hL3
      walk_at "rd"
      refine ⟨by show 3 ≤ sizeLine; decide, fun l hl => ?_⟩
      have np1 : l ≠ p := pool_ne' p4 hl
      have s5 := same_new (o := .lst [V.int (-1), V.int (m : Nat), V.int ((m : Nat) + 60)]) hl
      have p5 := pool_of p4 s5
      have b5 := b4.trans (SameB.of s5)
      have hL5 := s5 _ _ hL4
      have hl5 : upd H4 l (.lst [V.int (-1), V.int (m : Nat), V.int ((m : Nat) + 60)]) l = some (.lst [V.int (-1), V.int (m : Nat), V.int ((m : Nat) + 60)]) := upd_same
      generalize upd H4 l (.lst [V.int (-1), V.int (m : Nat), V.int ((m : Nat) + 60)]) = H5 at s5 p5 b5 hL5 hl5
      walk_at "rd"
      refine ⟨_, _, rfl, by decide, by decide, p5, fun r6 H6 r60 r61 e6 p6 => ?_⟩
      have b6 := b5.trans (SameB.drawn e6)
      have hL6 : H6 L = some (.lst (ns.map V.int)) := by rw [e6 _ npL]; exact hL5
      have hl6 : H6 l = some (.lst [V.int (-1), V.int (m : Nat), V.int ((m : Nat) + 60)]) := by rw [e6 _ np1]; exact hl5
      obtain ⟨oz, hz, az⟩ := at_ints (lit := [-1, (m : Int), (m : Int) + 60]) r60 r61
      have az' : atI [V.int (-1), V.int (m : Nat), V.int ((m : Nat) + 60)] r6 = some (.int oz) := az
      have ob : ¬ hasN m oz := fun z => by
        rcases List.mem_cons.mp hz with e | hz
        · have := z.1; omega
        rcases List.mem_cons.mp hz with e | hz
        · have := z.2; omega
        have e := List.mem_singleton.mp hz
        have := z.2; omega
      have ea : at_ = ((at_.toNat : Nat) : Int) := by omega
      walk_at "rd"
      refine Rd.slL (SqL.of hL6) fun l1 hl1 => ?_
      rw [ea, cutV_to, ← List.map_take]
      have s7 := same_new (o := .lst ((ns.take at_.toNat).map V.int)) hl1
      have h17 : upd H6 l1 (.lst ((ns.take at_.toNat).map V.int)) l1 = some (.lst ((ns.take at_.toNat).map V.int)) := upd_same
      generalize upd H6 l1 (.lst ((ns.take at_.toNat).map V.int)) = H7 at s7 h17
      walk_at "rd"
      refine ⟨by show 1 ≤ sizeLine; decide, fun l2 hl2 => ?_⟩
      have s8 := same_new (o := .lst [V.int oz]) hl2
      have lt7 : ((ns.take at_.toNat).map V.int).length ≤ 6 := by rw [List.length_map, List.length_take]; omega
      refine Rd.addL (s8 _ _ h17) upd_same (by show _ + 1 ≤ sizeLine; walk_at "sz") fun l3 hl3 => ?_
      have s9 := same_new (o := .lst ((ns.take at_.toNat).map V.int ++ [V.int oz])) hl3
      have h39 : upd (upd H7 l2 (.lst [V.int oz])) l3 (.lst ((ns.take at_.toNat).map V.int ++ [V.int oz])) l3 = some (.lst ((ns.take at_.toNat).map V.int ++ [V.int oz])) := upd_same
      have s69 := (s7.trans s8).trans s9
      generalize upd (upd H7 l2 (.lst [V.int oz])) l3 (.lst ((ns.take at_.toNat).map V.int ++ [V.int oz])) = H9 at s69 h39
      have hL9 := s69 _ _ hL6
      walk_at "rd"
      refine Rd.slL (SqL.of hL9) fun l4 hl4 => ?_
      rw [cutV_from, ← List.map_drop]
      have s10 := same_new (o := .lst ((ns.drop at_.toNat).map V.int)) hl4
      have lt8 : ((ns.drop at_.toNat).map V.int).length ≤ 6 := by rw [List.length_map, List.length_drop]; omega
      have lt9 : ((ns.take at_.toNat).map V.int ++ [V.int oz]).length ≤ 7 := by rw [List.length_append, List.length_singleton]; omega
      refine Rd.addL (s10 _ _ h39) upd_same (by walk_at "sz") fun l5 hl5' => ?_
      have en : (ns.take at_.toNat).map V.int ++ [V.int oz] ++ (ns.drop at_.toNat).map V.int = (ns.take at_.toNat ++ [oz] ++ ns.drop at_.toNat).map V.int := by rw [List.map_append, List.map_append]; rfl
      rw [en]
      have s11 := same_new (o := .lst ((ns.take at_.toNat ++ [oz] ++ ns.drop at_.toNat).map V.int)) hl5'
      have s611 := (s69.trans s10).trans s11
      have h511 : upd (upd H9 l4 (.lst ((ns.drop at_.toNat).map V.int))) l5 (.lst ((ns.take at_.toNat ++ [oz] ++ ns.drop at_.toNat).map V.int)) l5 = some (.lst ((ns.take at_.toNat ++ [oz] ++ ns.drop at_.toNat).map V.int)) := upd_same
      generalize upd (upd H9 l4 (.lst ((ns.drop at_.toNat).map V.int))) l5 (.lst ((ns.take at_.toNat ++ [oz] ++ ns.drop at_.toNat).map V.int)) = H11 at s611 h511
      have b11 := b6.trans (SameB.of s611)
      have p11 := pool_of p6 s611
      have hq11 : H11 q = some (.lst (xs.map fun l => V.str (S l))) := b11 _ _ nqp hq
      obtain ⟨nm, hnm, anm⟩ := at_names (ns := xs) (r := 0) (by decide) (by rw [h8]; decide)
      walk_at "rd"
      refine Rd.tupL (SqL.of h511) fun t1 ht1 => ?_
      walk_at "rd"
      refine ⟨by show 4 ≤ sizeLine; decide, fun t2 ht2 => ?_⟩
      have s12 := same_new (o := .tup ((ns.take at_.toNat ++ [oz] ++ ns.drop at_.toNat).map V.int)) ht1
      have s13 := same_new (o := .tup [.str (S derivS), .int 5, .str (S nm), .ref t1]) ht2
      have s1213 := s12.trans s13
      have fb : ∃ n, badN m (.de 5 nm (ns.take at_.toNat ++ [oz] ++ ns.drop at_.toNat)) = some n := by
        unfold badN Fm.nums
        refine Option.isSome_iff_exists.mp (List.find?_isSome.mpr ⟨oz, by simp, ?_⟩)
        rw [decide_eq_false ob]
        rfl
      obtain ⟨n, hn⟩ := fb
      exact k t2 t1 5 nm (ns.take at_.toNat ++ [oz] ++ ns.drop at_.toNat) n _ (b11.nn (pool_ne' (pool_of p11 s12) ht2) (none_same' s12 ht2)) (b11.trans (SameB.of s1213)) (pool_of p11 s1213) upd_same (s13 _ _ upd_same)
        (by rw [List.length_append, List.length_append, List.length_take, List.length_drop, List.length_singleton]; omega) hn

end
section
variable {P : Program} {w : World} {K : PySem.W.Frag} {mg : Str → Option Value} {base : Heap} {tk : Tok}
/-! ### the law -/
open ND
theorem ct_go {mC : Addr} (cc : Cn K mg mC) {H : Hp} {Q : VK} {E : XK} (k : ∀ p l d H', H p = none → H l = none → H d = none → Same H H' → CtAt P w cc.C H' p l d [] → Q (.ref p) H') : MkGo cc.C (spCtI (K := K) P w) [] H Q E := by
  intro x dx hx hd ne
  have s0 : Same H (upd (upd H dx (.own x)) x (.ins cc.C dx [])) := fun b o e => by
    rw [upd_ne (ne_of_none e hx), upd_ne (ne_of_none e hd)]; exact e
  refine ⟨x, cc.C, dx, rfl, cc.cl, cc.nF, cc.nP, upd_same, fun H' l d sB hl hd' ct => ⟨rfl, ?_⟩⟩
  exact k x l d H' hx (none_same' s0 hl) (none_same' s0 hd') (fun b o e => sB b o (ne_of_none e hx) (s0 b o e)) ct
theorem SameB.ofNone {p : Addr} {H H1 H2 : Hp} (s : Same H H1) (hp : H p = none) (t : SameB p H1 H2) : Same H H2 := fun b o e => t b o (ne_of_none e hp) (s b o e)
structure Bd (P : Program) (w : World) (K : PySem.W.Frag) (sa : Addr) (zs : List V) (q : Addr) (ns : List (List Nat)) (kn C pc lc dc po lo do_ : Addr) (xs ys : List Kn) (H : Hp) : Prop where
  sc : (∀ G, SqL K G sa zs) ∨ ∃ o, H sa = some o ∧ (∀ G, G sa = some o → SqL K G sa zs) ∧ sa ≠ kn ∧ sa ≠ lc ∧ sa ≠ dc
  nq : NamesAt H q ns
  ct : CtAt P w C H pc lc dc xs
  co : CtAt P w C H po lo do_ []
  hkn : H kn = some (.lst (frefs ys))
  ky : KnsOk H ys
  d1 : kn ≠ lc
  d2 : kn ≠ lo
  d3 : q ≠ kn
  d4 : q ≠ lc
  d5 : lo ≠ lc
  d6 : do_ ≠ dc
section
variable {sa : Addr} {zs : List V} {q : Addr} {ns : List (List Nat)} {kn C pc lc dc po lo do_ : Addr} {xs ys : List Kn} {H H' : Hp}
theorem Bd.same (h : Bd P w K sa zs q ns kn C pc lc dc po lo do_ xs ys H) (e : Same H H') : Bd P w K sa zs q ns kn C pc lc dc po lo do_ xs ys H' where
  sc := h.sc.imp id fun ⟨o, h1, h2⟩ => ⟨o, e _ _ h1, h2⟩
  nq := e _ _ h.nq
  ct := h.ct.mono e
  co := h.co.mono e
  hkn := e _ _ h.hkn
  ky := h.ky.mono e
  d1 := h.d1
  d2 := h.d2
  d3 := h.d3
  d4 := h.d4
  d5 := h.d5
  d6 := h.d6
theorem Bd.sq (h : Bd P w K sa zs q ns kn C pc lc dc po lo do_ xs ys H) : SqL K H sa zs := by
  rcases h.sc with z | ⟨o, h1, h2, _⟩
  · exact z H
  · exact h2 H h1
def OffB (K : PySem.W.Frag) (sa : Addr) (zs : List V) (q kn lc lo p : Addr) : Prop := ((∀ G, SqL K G sa zs) ∨ sa ≠ p) ∧ q ≠ p ∧ kn ≠ p ∧ lc ≠ p ∧ lo ≠ p
theorem Bd.off (h : Bd P w K sa zs q ns kn C pc lc dc po lo do_ xs ys H) {p : Addr} (hp : H p = none) : OffB K sa zs q kn lc lo p :=
  ⟨h.sc.imp id fun ⟨o, h1, _⟩ => ne_of_none h1 hp, ne_of_none h.nq hp, ne_of_none h.hkn hp, ne_of_none h.ct.lst hp, ne_of_none h.co.lst hp⟩
theorem Bd.sameB (h : Bd P w K sa zs q ns kn C pc lc dc po lo do_ xs ys H) {p : Addr} (of : OffB K sa zs q kn lc lo p) (hp : PoolAt H p) (e : SameB p H H') : Bd P w K sa zs q ns kn C pc lc dc po lo do_ xs ys H' := by
  have np : ∀ a o, H a = some o → (∀ l, o ≠ .lst l) → a ≠ p := fun a o ha hl z => by
    obtain ⟨x, y, u, hp⟩ := hp
    rw [z, hp] at ha
    exact hl _ (Option.some.inj ha).symm
  have tk : ∀ b ys, H b = some (.tup ys) → H' b = some (.tup ys) := fun b ys z => e _ _ (np b _ z fun l q => by cases q) z
  have cta : ∀ {pc lc dc : Addr} {xs : List Kn}, lc ≠ p → CtAt P w C H pc lc dc xs → CtAt P w C H' pc lc dc xs := fun {pc lc dc xs} nl c => by
    obtain ⟨dx, hi⟩ := c.ins
    exact c.keep (fun o => e _ _ (np _ _ hi fun l q => by cases q)) (fun o => e _ _ nl) (fun o => e _ _ (np _ _ c.dct fun l q => by cases q)) tk
  refine ⟨?_, e _ _ of.2.1 h.nq, cta of.2.2.2.1 h.ct, cta of.2.2.2.2 h.co, e _ _ of.2.2.1 h.hkn, h.ky.keep tk, h.d1, h.d2, h.d3, h.d4, h.d5, h.d6⟩
  rcases h.sc with z | ⟨o, h1, h2⟩
  · exact .inl z
  · rcases of.1 with z | z
    · exact .inl z
    · exact .inr ⟨o, e _ _ z h1, h2⟩
/-- the table has one more -/
theorem Bd.num (h : Bd P w K sa zs q ns kn C pc lc dc po lo do_ xs ys H) {xs' : List Kn} (e : ∀ a, a ≠ lc → a ≠ dc → H' a = H a) (c : CtAt P w C H' pc lc dc xs') : Bd P w K sa zs q ns kn C pc lc dc po lo do_ xs' ys H' := by
  have nd : ∀ a o, H a = some o → (∀ φ, o ≠ .ext φ) → a ≠ dc := fun a o ha hl z => by
    have := h.ct.dct
    rw [← z, ha] at this
    exact hl _ (Option.some.inj this)
  have nl : ∀ a o, H a = some o → (∀ l, o ≠ .lst l) → a ≠ lc := fun a o ha hl z => by
    have := h.ct.lst
    rw [← z, ha] at this
    exact hl _ (Option.some.inj this)
  have tk : ∀ b ys, H b = some (.tup ys) → H' b = some (.tup ys) := fun b ys z => by
    rw [e b (nl _ _ z fun l q => by cases q) (nd _ _ z fun l q => by cases q)]; exact z
  obtain ⟨dxo, hio⟩ := h.co.ins
  refine ⟨?_, ?_, c, h.co.keep (fun o z => ?_) (fun o z => ?_) (fun o z => ?_) tk, ?_, h.ky.keep tk, h.d1, h.d2, h.d3, h.d4, h.d5, h.d6⟩
  · rcases h.sc with z | ⟨o, h1, h2, h3, h4, h5⟩
    · exact .inl z
    · exact .inr ⟨o, by rw [e _ h4 h5]; exact h1, h2, h3, h4, h5⟩
  · unfold NamesAt; rw [e _ h.d4 (nd _ _ h.nq fun l q => by cases q)]; exact h.nq
  · rw [e _ (nl _ _ hio fun l q => by cases q) (nd _ _ hio fun l q => by cases q)]; exact z
  · rw [e _ h.d5 (nd _ _ h.co.lst fun l q => by cases q)]; exact z
  · rw [e _ (nl _ _ h.co.dct fun l q => by cases q) h.d6]; exact z
  · rw [e _ h.d1 (nd _ _ h.hkn fun l q => by cases q)]; exact h.hkn
theorem Bd.app (h : Bd P w K sa zs q ns kn C pc lc dc po lo do_ xs ys H) {ys' : List Kn} (hy : KnsOk H ys') : Bd P w K sa zs q ns kn C pc lc dc po lo do_ xs ys' (upd H kn (.lst (frefs ys'))) := by
  have nl : ∀ a o, H a = some o → (∀ l, o ≠ .lst l) → a ≠ kn := fun a o ha hl z => by
    have := h.hkn
    rw [← z, ha] at this
    exact hl _ (Option.some.inj this)
  have tk : ∀ b ys, H b = some (.tup ys) → upd H kn (.lst (frefs ys')) b = some (.tup ys) := fun b ys z => by
    rw [upd_ne (nl _ _ z fun l q => by cases q)]; exact z
  have cta : ∀ {pc lc dc : Addr} {xs : List Kn}, lc ≠ kn → CtAt P w C H pc lc dc xs → CtAt P w C (upd H kn (.lst (frefs ys'))) pc lc dc xs := fun {pc lc dc xs} n c => by
    obtain ⟨dx, hi⟩ := c.ins
    exact c.keep (fun o z => by rw [upd_ne (nl _ _ hi fun l q => by cases q)]; exact z) (fun o z => by rw [upd_ne n]; exact z) (fun o z => by rw [upd_ne (nl _ _ c.dct fun l q => by cases q)]; exact z) tk
  refine ⟨?_, ?_, cta (Ne.symm h.d1) h.ct, cta (Ne.symm h.d2) h.co, upd_same, hy.keep tk, h.d1, h.d2, h.d3, h.d4, h.d5, h.d6⟩
  · rcases h.sc with z | ⟨o, h1, h2, h3, h4⟩
    · exact .inl z
    · exact .inr ⟨o, by rw [upd_ne h3]; exact h1, h2, h3, h4⟩
  · unfold NamesAt; rw [upd_ne h.d3]; exact h.nq
end
def spLaw (K : PySem.W.Frag) : Sp := fun vs H Q _ => ∃ (a : Addr) (ns : List Int), vs = [.ref a] ∧ SqL K H a (ns.map V.int) ∧ ns.length ≤ 63 ∧ ∀ H', Q (.bl true) H'
abbrev s_law : Stmt := top 16
theorem sc_law : FnScope ["_law_script", "_law_names_here", "_law_contents", "_law_other", "_law_known", "_law_turn", "_law_pool_here", "_law_many", "_law_odd_here", "_law_due", "_law_formula_here", "_law_again", "_law_number", "_law_one"] ["_law_script"] (defScope s_law) := ⟨rfl, rfl, rfl, by decide +kernel, rfl, by decide +kernel, by decide +kernel⟩
theorem badN_none {m : Nat} {f : Fm} (h : ∀ n ∈ f.nums, 0 ≤ n ∧ n < (m : Int)) {m' : Nat} (hm : m ≤ m') : badN m' f = none := by
  unfold badN
  rw [List.find?_eq_none]
  intro n hn
  rw [decide_eq_true ⟨(h n hn).1, by have := (h n hn).2; omega⟩]
  decide
theorem len_ct {C : Addr} {H : Hp} {Q : VK} {p l d : Addr} {xs : List Kn} (c : CtAt P w C H p l d xs) (h : xs.length ≤ 1000) (q : Q (.int (xs.length : Nat)) H) : rLenO K C (spCtL C) [.ref p] H Q := by
  obtain ⟨dx, hp⟩ := c.ins
  exact ⟨p, dx, _, rfl, hp, p, l, d, xs, P, w, rfl, c, _, rfl, by omega, q⟩
theorem snd_uniq {ys : List Kn} (nd : (ys.map (·.2)).Nodup) {i j : Nat} {A B : Addr} {f : Fm} (h1 : ys[i]? = some (A, f)) (h2 : ys[j]? = some (B, f)) : i = j := by
  have e1 : (ys.map (·.2))[i]? = some f := by rw [List.getElem?_map, h1]; rfl
  have e2 : (ys.map (·.2))[j]? = some f := by rw [List.getElem?_map, h2]; rfl
  have hi : i < (ys.map (·.2)).length := (List.getElem?_eq_some_iff.mp e1).1
  have hj : j < (ys.map (·.2)).length := (List.getElem?_eq_some_iff.mp e2).1
  have e : (ys.map (·.2))[i] = (ys.map (·.2))[j] := by
    rw [List.getElem?_eq_getElem hi] at e1
    rw [List.getElem?_eq_getElem hj] at e2
    rw [Option.some.inj e1, Option.some.inj e2]
  rcases Nat.lt_trichotomy i j with lt | eq | gt
  · exact absurd e (List.pairwise_iff_getElem.mp nd i j hi hj lt)
  · exact eq
  · exact absurd e.symm (List.pairwise_iff_getElem.mp nd j i hj hi gt)
theorem num_go {sa : Addr} {zs0 : List V} {q : Addr} {ns : List (List Nat)} {kn C pc lc dc po lo do_ eF : Addr} {zs ys : List Kn} {H : Hp} {b : Addr} {f : Fm} {J : Nat} {A : Addr} {Q : VK} {E : XK} (bd : Bd P w K sa zs0 q ns kn C pc lc dc po lo do_ zs ys H) (hf : FmAt H b f) (hl : zs.length ≤ 1000) (hb : badN zs.length f = none)
    (hz : zs = ys ∨ (ys = zs ++ [(b, f)] ∧ ∀ g ∈ zs, g.2 ≠ f)) (hJ : ys[J]? = some (A, f)) (nd : (ys.map (·.2)).Nodup) (k : ∀ H2, Bd P w K sa zs0 q ns kn C pc lc dc po lo do_ ys ys H2 → FmAt H2 b f → Q (.int (J : Nat)) H2) : spNum P w C eF [.ref pc, .ref b] H Q E := by
  refine ⟨pc, lc, dc, b, f, zs, rfl, bd.ct, hf, hl, (fun n hn => by rw [hb] at hn; cases hn), fun _ => ⟨fun j a hj => ?_, fun hn H2 fr ct2 => ?_⟩⟩
  · rcases hz with e | ⟨_, e⟩
    · subst e
      rw [snd_uniq nd hj hJ]
      exact k H bd hf
    · exact absurd rfl (e _ (List.mem_of_getElem? hj))
  · rcases hz with e | ⟨e, _⟩
    · subst e
      exact absurd rfl (hn _ (List.mem_of_getElem? hJ))
    · subst e
      have hJ2 : (zs ++ [(b, f)])[zs.length]? = some (b, f) := by rw [List.getElem?_append_right (Nat.le_refl _), Nat.sub_self]; rfl
      rw [← snd_uniq nd hJ hJ2]
      exact k H2 (bd.num fr ct2) (ct2.ok _ (List.mem_append.mpr (.inr (List.mem_singleton.mpr rfl))))
theorem index_go {H : Hp} {Q : VK} {kn b : Addr} {ys : List Kn} {f : Fm} {J : Nat} {A : Addr} (hk : H kn = some (.lst (frefs ys))) (ky : KnsOk H ys) (ok : ∀ g ∈ ys, g.2.ok) (hf : FmAt H b f) (hJ : ys[J]? = some (A, f)) (nd : (ys.map (·.2)).Nodup) (q : Q (.int (J : Nat)) H) : rIndexD K (.ref kn) [.ref b] H Q := by
  have ok' : ∀ g ∈ ys.map (·.2), g.ok := fun g hg => by
    obtain ⟨z, hz, rfl⟩ := List.mem_map.mp hg
    exact ok z hz
  have fok : f.ok := ok _ (List.mem_of_getElem? hJ)
  refine ⟨kn, .ref b, f.dat, (ys.map (·.2)).map Fm.dat, J, f.dat, rfl, rfl, .lst (SqL.of hk) (kns_dp ky), hf.dp, fms_sh ok', Fm.sh fok, ?_, SeqAt.eqv_refl _ (f.can fok), fun m z hm hz => ?_, q⟩
  · rw [List.getElem?_map, List.getElem?_map, hJ]; rfl
  · rw [List.getElem?_map, List.getElem?_map, Option.map_map] at hz
    obtain ⟨g, hg, rfl⟩ := Option.map_eq_some_iff.mp hz
    show PyData.eqv g.2.dat f.dat = false
    rw [Fm.eqv (ok g (List.mem_of_getElem? hg))]
    exact decide_eq_false fun e => by
      have := snd_uniq nd (show ys[m]? = some (g.1, f) by rw [hg, ← e]) hJ
      omega
theorem ok_law {f : Addr} {fd : FuncData} {eF : ErF K mg} (F : Fun K "law" "law" s_law f fd) (T : Bt mg) (dP : DPool K mg) (dD : DDraw K mg) (dN : DNames K mg) (dMi : DMi K mg) (dOd : DOd K mg) (dRef : DRef K mg) (dFm : DFm K mg) (dWh : DWh K mg) (mC : MCi K) (cc : Cn K mg mC.f)
    (mNo : MNo K) (hNo : Meth K cc.C "number_of" mNo.f) (mFo : MFo K) (hFo : Meth K cc.C "formula" mFo.f) (mL : MCl K) (hL1 : PySem.W.findIn K (.ref cc.C) "__len__" = some (some (.ref mL.f))) (hL2 : PySem.W.isFn K (.ref mL.f) = true)
    (GP : FnOk P w K mg base CX0 1 dP.f dP.fd ["_law_script", "_law_k"] (spPool K)) (GD : FnOk P w K mg base CX0 1 dD.f dD.fd ["_law_pool_here", "_law_many"] spDraw) (GN : FnOk P w K mg base CX0 2 dN.f dN.fd ["_law_pool_here"] spNames)
    (GMi : FnOk P w K mg base CX0 5 dMi.f dMi.fd ["_law_contents", "_law_number"] (spMissing P w cc.C)) (GOd : FnOk P w K mg base CX0 2 dOd.f dOd.fd ["_law_pool_here", "_law_names_here", "_law_many"] spOdd) (GRef : FnOk P w K mg base CX0 5 dRef.f dRef.fd ["_law_contents", "_law_formula_here"] (spRefusal P w cc.C))
    (GFm : FnOk P w K mg base CX0 2 dFm.f dFm.fd ["_law_pool_here", "_law_names_here", "_law_many"] spFormula) (GWh : FnOk P w K mg base CX0 1 dWh.f dWh.fd ["_law_value"] spWhole) (GC : FnOk P w K mg base CX0 1 mC.f mC.fd ["self"] (spCtI (K := K) P w))
    (GNo : FnOk P w K mg base (L2.CX P w) 4 mNo.f mNo.fd ["self", "formula"] (spNum P w cc.C eF.C)) (GFo : FnOk P w K mg base (L2.CX P w) 4 mFo.f mFo.fd ["self", "number"] (spForm cc.C eF.C)) (GCl : FnOk P w K mg base CX0 1 mL.f mL.fd ["self"] (spCtL cc.C)) :
    FnOk P w K mg base CX0 9 f fd ["_law_script"] (spLaw K) := by
  refine F.ok sc_law (fun vs H Q E h => ?_) (fun cdv A outer s H vs Q E hr h => ?_)
  · obtain ⟨a, ns, rfl, _⟩ := h
    rfl
  · obtain ⟨a, ns, rfl, hS, hl, k⟩ := h
    have hu := hr.units
    have hu2 := u65 hr
    have hr5 : Room 5 _ := hr.mono (by decide)
    have hr4 : Room 4 _ := hr.mono (by decide)
    have hr2 : Room 2 _ := hr.mono (by decide)
    have hr1 : Room 1 _ := hr.mono (by decide)
    refine ⟨_, (pss_cons (ps_set (i := 1) sc_law.nd rfl (Or.inl rfl) (pe_cf dN GN hr2 pass0 (pa_cons (pe_cf dP GP hr1 pass0 (pa_cons (pv 0) (pa_cons pe_int pa_nil))) pa_nil)))
  (pss_cons (ps_set (i := 2) sc_law.nd rfl (Or.inl rfl) (pe_mk0 mC cc.M cc.g GC hr2 pass0))
  (pss_cons (ps_set (i := 3) sc_law.nd rfl (Or.inl rfl) (pe_mk0 mC cc.M cc.g GC hr2 pass0))
  (pss_cons (ps_set (i := 4) sc_law.nd rfl (Or.inl rfl) (pe_lst pa_nil))
  (pss_cons (ps_if (PW.pt (pw_or (pt_cmpR (kne K hu) (pe_callB (klenO K hL1 hL2 GCl mL.b hr2) (by rfl) T.len (by decide +kernel) (pa_cons (pv 2) pa_nil)) pe_int (nomark _)) (pw_or1 (pt_cmpR (kne K hu) (pe_cf dMi GMi hr5 pass0 (pa_cons (pv 2) (pa_cons pe_int pa_nil))) (pe_tup (pa_cons pe_int (pa_cons pe_bl pa_nil))) (nomark _))))) (pss_one (ps_ret pe_bl))
  pss_nil)
  (pss_cons (ps_for PassesOwn.never rfl (pi_range1 rfl T.range (pa_cons (pe_cf dD GD hr1 pass0 (pa_cons (pe_cf dP GP hr1 pass0 (pa_cons (pv 0) (pa_cons pe_int pa_nil))) (pa_cons pe_int pa_nil))) pa_nil)) (pg_name (i := 5) sc_law.nd rfl (Or.inl rfl))
  (pss_cons (ps_set (i := 6) sc_law.nd rfl (Or.inl rfl) (pe_cf dP GP hr1 pass0 (pa_cons (pv 0) (pa_cons (pe_op op_addA pe_int (pv 5)) pa_nil))))
  (pss_cons (ps_set (i := 7) sc_law.nd rfl (Or.inr rfl) (pe_callB (klen K) (by rfl) T.len (by decide +kernel) (pa_cons (pv 4) pa_nil)))
  (pss_cons (ps_if (pt_cmpR (keq K hu) (pe_cf dD GD hr1 pass0 (pa_cons (pv 6) (pa_cons pe_int pa_nil))) pe_int (nomark _)) (pss_cons (ps_set (i := 8) sc_law.nd rfl (Or.inl rfl) (pe_cf dOd GOd hr2 pass0 (pa_cons (pv 6) (pa_cons (pv 1) (pa_cons (pv 7) pa_nil)))))
  (pss_cons (ps_set (i := 9) sc_law.nd rfl (Or.inl rfl) (pe_ix (kix K) (pe_lc (own := [("_law_one", 13)]) (g := gName 13) rfl sc_law.nd (kpt K (pe_ix (kix K) (pv 8) pe_int (fun _ _ => rfl))) (blkOk_by (N := ["_law_script", "_law_names_here", "_law_contents", "_law_other", "_law_known", "_law_turn", "_law_pool_here", "_law_many", "_law_odd_here", "_law_due", "_law_formula_here", "_law_again", "_law_number", "_law_one"]) (sc := defScope s_law) (by decide +kernel)) (fun _ _ _ _ _ => (pg_name (i := 13) sc_law.nd rfl (Or.inl rfl))) (fun _ _ _ _ _ => (pts_one (PW.pt (pw_or (pt_cmpR op_ltA (pv 13) pe_int (nomark _)) (pw_or1 (pt_cmpR op_geI (pv 13) (pv 7) (nomark _))))))) (fun _ _ _ _ _ => (pv 13))) pe_int (fun _ _ => rfl)))
  (pss_one (ps_if (PW.pt (pw_or (pt_cmpR (kne K hu) (pe_cf dRef GRef hr5 pass0 (pa_cons (pv 2) (pa_cons (pv 8) pa_nil))) (pe_tup (pa_cons (pv 9) (pa_cons pe_bl pa_nil))) (nomark _)) (pw_or1 (pt_cmpR (kne K hu) (pe_callB (klenO K hL1 hL2 GCl mL.b hr2) (by rfl) T.len (by decide +kernel) (pa_cons (pv 2) pa_nil)) (pv 7) (nomark _))))) (pss_one (ps_ret pe_bl))
  pss_nil))))
  pss_nil)
  (pss_cons (ps_set (i := 10) sc_law.nd rfl (Or.inl rfl) (pe_cf dFm GFm hr2 pass0 (pa_cons (pv 6) (pa_cons (pv 1) (pa_cons (pv 7) pa_nil)))))
  (pss_cons (ps_if (pt_cmpR (kninD K hu hu2) (pv 10) (pv 4) rfl) (pss_one (ps_expr (kapp K (pv 4) (pa_cons (pv 10) pa_nil))))
  pss_nil)
  (pss_cons (ps_for PassesOwn.never rfl (pi_range1 rfl T.range (pa_cons pe_int pa_nil)) (pg_name (i := 11) sc_law.nd rfl (Or.inl rfl))
  (pss_cons (ps_set (i := 12) sc_law.nd rfl (Or.inl rfl) (pe_mA (pv 2) cc.cl mNo hNo GNo hr4 passL (pa_cons (pv 10) pa_nil)))
  (pss_one (ps_if (PW.pt (pw_or (pt_not (pt_val (pe_cf dWh GWh hr1 pass0 (pa_cons (pv 12) pa_nil)))) (pw_or1 (pt_cmpR (kne K hu) (pv 12) (kindex K hu2 (pv 4) (pa_cons (pv 10) pa_nil)) (nomark _))))) (pss_one (ps_ret pe_bl))
  pss_nil))))
  (pss_one (ps_if (pt_cmpR (kne K hu) (pe_callB (klenO K hL1 hL2 GCl mL.b hr2) (by rfl) T.len (by decide +kernel) (pa_cons (pv 2) pa_nil)) (pe_callB (klen K) (by rfl) T.len (by decide +kernel) (pa_cons (pv 4) pa_nil)) (nomark _)) (pss_one (ps_ret pe_bl))
  pss_nil)))))))))
  (pss_cons (ps_for PassesOwn.never rfl (pi_range1 rfl T.range (pa_cons (pe_callB (klen K) (by rfl) T.len (by decide +kernel) (pa_cons (pv 4) pa_nil)) pa_nil)) (pg_name (i := 12) sc_law.nd rfl (Or.inl rfl))
  (pss_cons (ps_set (i := 10) sc_law.nd rfl (Or.inl rfl) (pe_mA (pv 2) cc.cl mFo hFo GFo hr4 passL (pa_cons (pv 12) pa_nil)))
  (pss_one (ps_if (PW.pt (pw_or (pt_not (pt_val (pe_callB (kisi K) (by rfl) T.isinstance (by decide +kernel) (pa_cons (pv 10) (pa_cons (pe_bltn (v := .ty "tuple") (by rfl) T.tuple (by decide +kernel) rfl) pa_nil))))) (pw_or1 (pt_cmpR (kne K hu) (pv 10) (pe_ix (kix K) (pv 4) (pv 12) (fun _ _ => rfl)) (nomark _))))) (pss_one (ps_ret pe_bl))
  pss_nil))))
  (pss_cons (ps_for PassesOwn.never rfl (kpl K (pe_lst (pa_cons (pe_un un_neg pe_int) (pa_cons (pe_callB (klen K) (by rfl) T.len (by decide +kernel) (pa_cons (pv 4) pa_nil)) (pa_cons (pe_op op_addA (pe_callB (klen K) (by rfl) T.len (by decide +kernel) (pa_cons (pv 4) pa_nil)) pe_int) pa_nil))))) (pg_name (i := 12) sc_law.nd rfl (Or.inl rfl))
  (pss_one (ps_if (pt_cmpR (kne K hu) (pe_cf dMi GMi hr5 pass0 (pa_cons (pv 2) (pa_cons (pv 12) pa_nil))) (pe_tup (pa_cons (pv 12) (pa_cons pe_bl pa_nil))) (nomark _)) (pss_one (ps_ret pe_bl))
  pss_nil)))
  (pss_cons (ps_if (PW.pt (pw_or (pt_cmpR (kne K hu) (pe_callB (klenO K hL1 hL2 GCl mL.b hr2) (by rfl) T.len (by decide +kernel) (pa_cons (pv 3) pa_nil)) pe_int (nomark _)) (pw_or1 (pt_cmpR (kne K hu) (pe_mA (pv 3) cc.cl mNo hNo GNo hr4 passL (pa_cons (pe_tup (pa_cons (pe_lit [102, 114, 101, 115, 104] (by decide +kernel)) (pa_cons pe_int (pa_cons (pe_ix (kix K) (pv 1) pe_int (fun _ _ => rfl)) pa_nil)))) pa_nil)) pe_int (nomark _))))) (pss_one (ps_ret pe_bl))
  pss_nil)
  (pss_one (ps_ret (pe_and (pe_cmpR (keq K hu) (pe_callB (klenO K hL1 hL2 GCl mL.b hr2) (by rfl) T.len (by decide +kernel) (pa_cons (pv 3) pa_nil)) pe_int (nomark _)) (pe_one (pe_cmpR (keq K hu) (pe_callB (klenO K hL1 hL2 GCl mL.b hr2) (by rfl) T.len (by decide +kernel) (pa_cons (pv 2) pa_nil)) (pe_callB (klen K) (by rfl) T.len (by decide +kernel) (pa_cons (pv 4) pa_nil)) (nomark _))))))))))))))), ?_⟩
    refine Rd.start_ (σ' := [some (.ref a), none, none, none, none, none, none, none, none, none, none, none, none, none]) rfl ?_
    walk_at "rd"
    refine ⟨a, ns, 2, rfl, hS, hl, by decide, by decide, fun p0 H1 hp0 s1 p1 => ?_⟩
    walk_at "rd"
    refine ⟨p0, rfl, p1, fun xs q H2 hx8 hxN hxD hq0 s2 p2 hq => ?_⟩
    have s02 : Same H H2 := SameB.ofNone s1 hp0 s2
    walk_at "rd"
    refine ct_go cc fun pc lc dc H3 hpc0 hlc0 hdc0 s3 ct3 => ?_
    walk_at "rd"
    refine ct_go cc fun po lo do_ H4 hpo0 hlo0 hdo0 s4 co4 => ?_
    have ct4 := ct3.mono s4
    walk_at "rd"
    refine ⟨by show 0 ≤ sizeLine; decide, fun kn hkn => ?_⟩
    have s5 := same_new (o := .lst []) hkn
    have s25 : Same H2 (upd H4 kn (.lst [])) := (s3.trans s4).trans s5
    have b5 : Bd P w K a (ns.map V.int) q xs kn cc.C pc lc dc po lo do_ [] [] (upd H4 kn (.lst [])) := by
      refine ⟨?_, s25 _ _ hq, ct4.mono s5, co4.mono s5, upd_same, fun q hq => absurd hq List.not_mem_nil, Ne.symm (ne_of_none ct4.lst hkn), Ne.symm (ne_of_none co4.lst hkn), ne_of_none ((s3.trans s4) _ _ hq) hkn, ne_of_none hq hlc0, Ne.symm (ne_of_none ct3.lst hlo0), Ne.symm (ne_of_none ct3.dct hdo0)⟩
      rcases hS with (h | ⟨o, h⟩) | h
      · have h2 := s02 _ _ h
        exact .inr ⟨_, s25 _ _ h2, fun G e => .inl (.inl e), ne_of_none ((s3.trans s4) _ _ h2) hkn, ne_of_none h2 hlc0, ne_of_none h2 hdc0⟩
      · have h2 := s02 _ _ h
        exact .inr ⟨_, s25 _ _ h2, fun G e => .inl (.inr ⟨o, e⟩), ne_of_none ((s3.trans s4) _ _ h2) hkn, ne_of_none h2 hlc0, ne_of_none h2 hdc0⟩
      · exact .inl fun G => .inr h
    generalize upd H4 kn (.lst []) = H5 at s5 s25 b5
    have lf : ∀ ys : List Kn, (frefs ys).length = ys.length := fun ys => List.length_map ..
    walk_at "rd"
    refine len_ct b5.ct (by show 0 ≤ 1000; decide) ?_
    walk_at "rd"
    refine ⟨pc, lc, dc, [], 0, rfl, b5.ct, by show 0 ≤ 1000; decide, by show ¬ (0 ≤ (0 : Int) ∧ (0 : Int) < ((0 : Nat) : Int)); decide, fun t1 H6 s6 ht1 => ?_⟩
    walk_at "rd"
    refine ⟨by show 2 ≤ sizeLine; decide, fun t2 ht2 => ?_⟩
    have s7 := same_new (o := .tup [.int 0, .bl true]) ht2
    refine Rd.neTs (SqT.of (s7 _ _ ht1)) (SqT.of upd_same) (by decide +kernel) ?_
    have b7 := b5.same (s6.trans s7)
    generalize upd H6 t2 (.tup [.int 0, .bl true]) = H7 at s7 b7
    walk_at "rd"
    refine ⟨a, ns, 0, rfl, b7.sq, hl, by decide, by decide, fun p8 H8 hp80 s8 pl8 => ?_⟩
    have of8 := b7.off hp80
    have b8 := b7.same s8
    walk_at "rd"
    refine ⟨_, _, rfl, by decide, by decide, pl8, fun tn H9 t0 t21 e9 pl9 => ?_⟩
    have b9 := b8.sameB of8 pl8 (SameB.drawn e9)
    walk_at "rd"
    refine Rd.foW Rd.wRange (fun i σ H' => ∃ (o5 o6 o7 o8 o9 o10 o11 o12 : Option V) (ys : List Kn), σ = [some (.ref a), some (.ref q), some (.ref pc), some (.ref po), some (.ref kn), o5, o6, o7, o8, o9, o10, o11, o12, none] ∧
      Bd P w K a (ns.map V.int) q xs kn cc.C pc lc dc po lo do_ ys ys H' ∧ ys.length ≤ i ∧ ∀ g ∈ ys, g.2.ok) ⟨_, _, _, _, _, _, _, _, [], rfl, b9, Nat.le_refl _, fun g hg => absurd hg List.not_mem_nil⟩ (fun _ _ _ _ _ => trivial) ?_ ?_
    · clear b9 b8 b7 of8 e9 pl9 pl8 s8 s7 s6 b5 s5 s25
      rintro i x σ H10 hi hx ⟨o5, o6, o7, o8, o9, o10, o11, o12, ys, rfl, b10, hln, hok⟩
      rw [Int.zero_add] at hx
      subst hx
      dsimp only [List.set]
      walk_at "rd"
      refine ⟨a, ns, 14 + (i : Int), rfl, b10.sq, hl, by omega, by omega, fun p H11 hp0 s11 pl11 => ?_⟩
      have of := b10.off hp0
      have b11 := b10.same s11
      have hkn11 := b11.hkn
      show tSeq _ _ _ _ _
      refine Rd.seq ?_
      refine Rd.asg ?_
      refine Rd.cb ?_
      refine Rd.cons ?_
      refine Rd.var rfl ?_
      refine Rd.nil ?_
      refine Rd.lenL (SqL.of hkn11) ?_
      rw [lf]
      show tSeq _ _ _ _ _
      refine Rd.seq ?_
      refine Rd.mid (fun σ H' => ∃ (o8 o9 : Option V), σ = [some (.ref a), some (.ref q), some (.ref pc), some (.ref po), some (.ref kn), some (.int (i : Nat)), some (.ref p), some (.int (ys.length : Nat)), o8, o9, o10, o11, o12, none] ∧
        Bd P w K a (ns.map V.int) q xs kn cc.C pc lc dc po lo do_ ys ys H' ∧ PoolAt H' p) ?_ ?_
      · clear b11 hkn11 pl11 s11
        rintro σ H12 ⟨o8, o9, rfl, b12, pl12⟩
        walk_at "rd"
        refine ⟨p, q, xs, ys.length, rfl, pl12, b12.nq, hx8, hxN, by omega, fun b f H13 hb0 sB13 pl13 hf13 fok fn => ?_⟩
        have b13 := b12.sameB of pl12 sB13
        have hkn13 := b13.hkn
        show tSeq _ _ _ _ _
        refine Rd.seq ?_
        refine Rd.mid (fun σ H' => ∃ (ys' : List Kn) (J : Nat) (A : Addr), σ = [some (.ref a), some (.ref q), some (.ref pc), some (.ref po), some (.ref kn), some (.int (i : Nat)), some (.ref p), some (.int (ys.length : Nat)), o8, o9, some (.ref b), o11, o12, none] ∧
          Bd P w K a (ns.map V.int) q xs kn cc.C pc lc dc po lo do_ ys ys' H' ∧ FmAt H' b f ∧ (ys = ys' ∨ (ys' = ys ++ [(b, f)] ∧ ∀ g ∈ ys, g.2 ≠ f)) ∧ ys'[J]? = some (A, f) ∧ (ys'.map (·.2)).Nodup ∧ ∀ g ∈ ys', g.2.ok) ?_ ?_
        · rintro σ H14 ⟨ys', J, A, rfl, b14, hf14, hz, hJ, nd, hok'⟩
          have ly : ys'.length ≤ i + 1 := by
            rcases hz with e | ⟨e, _⟩
            · rw [← e]; omega
            · rw [e, List.length_append]; show _ + 1 ≤ _; omega
          walk_at "rd"
          refine Rd.foW Rd.wRange (fun t σ H' => ∃ (o11 o12 : Option V) (zs : List Kn), σ = [some (.ref a), some (.ref q), some (.ref pc), some (.ref po), some (.ref kn), some (.int (i : Nat)), some (.ref p), some (.int (ys.length : Nat)), o8, o9, some (.ref b), o11, o12, none] ∧
            Bd P w K a (ns.map V.int) q xs kn cc.C pc lc dc po lo do_ zs ys' H' ∧ FmAt H' b f ∧ (zs = ys' ∨ (ys' = zs ++ [(b, f)] ∧ ∀ g ∈ zs, g.2 ≠ f)) ∧ ys.length ≤ zs.length ∧ zs.length ≤ 100 ∧ (1 ≤ t → zs = ys')) ⟨_, _, ys, rfl, b14, hf14, hz, Nat.le_refl _, by omega, fun z => absurd z (by decide)⟩ (fun _ _ _ _ _ => trivial) ?_ ?_
          · rintro t x σ H15 ht hx ⟨o11, o12, zs, rfl, b15, hf15, hz, hlz, hlz2, _⟩
            dsimp only [List.set]
            obtain ⟨dx15, hp15⟩ := b15.ct.ins
            walk_at "rd"
            refine ⟨pc, dx15, _, rfl, hp15, ctf_no _ _ (by decide +kernel) (by decide +kernel), ?_⟩
            walk_at "rd"
            refine num_go b15 hf15 (by omega) (badN_none fn hlz) hz hJ nd fun H16 b16 hf16 => ?_
            walk_at "rd"
            refine ⟨(J : Int), rfl, ?_⟩
            have hkn16 := b16.hkn
            walk_at "rd"
            refine index_go hkn16 b16.ky hok' hf16 hJ nd ?_
            walk_at "rd"
            refine Rd.iteNDT rfl ?_
            walk_at "rd"
            exact ⟨_, _, ys', rfl, b16, hf16, .inl rfl, by
              rcases hz with e | ⟨e, _⟩
              · rw [← e]; exact hlz
              · rw [e, List.length_append]; omega, by omega, fun _ => rfl⟩
          · rintro σ H15 ⟨o11, o12, zs, rfl, b15, hf15, hz, hlz, hlz2, h1⟩
            have e := h1 (by decide)
            subst e
            have hkn15 := b15.hkn
            walk_at "rd"
            refine len_ct b15.ct (by omega) ?_
            walk_at "rd"
            refine Rd.iteNDT (by rw [lf]) ?_
            walk_at "rd"
            exact ⟨_, _, _, _, _, _, _, _, zs, rfl, b15, ly, hok'⟩
        · intro N' hN'
          have ndy := b13.ct.nd
          walk_at "rd"
          refine ⟨f.dat, (ys.map (·.2)).map Fm.dat, hf13.dp, .lst (SqL.of hkn13) (kns_dp b13.ky), Fm.sh fok, fms_sh fun g hg => by obtain ⟨z, hz, rfl⟩ := List.mem_map.mp hg; exact hok z hz, ?_⟩
          rw [fms_any fun g hg => by obtain ⟨z, hz, rfl⟩ := List.mem_map.mp hg; exact hok z hz]
          walk_at "rd"
          refine Rd.iteN (fun c => ?_) (fun c => ?_)
          · have hne : ∀ g ∈ ys, g.2 ≠ f := fun g hg e => c (List.mem_map.mpr ⟨g, hg, e⟩)
            have lys : (frefs ys).length < sizeLine := by rw [lf]; walk_at "sz"
            walk_at "rd"
            have ef : frefs ys ++ [V.ref b] = frefs (ys ++ [(b, f)]) := by unfold frefs; rw [List.map_append]; rfl
            rw [ef]
            have ky : KnsOk H13 (ys ++ [(b, f)]) := fun g hg => by
              rcases List.mem_append.mp hg with z | z
              · exact b13.ky g z
              · rw [List.mem_singleton.mp z]; exact hf13
            have b14 := b13.app ky
            refine hN' _ _ ⟨ys ++ [(b, f)], ys.length, b, rfl, b14, b14.ky _ (List.mem_append.mpr (.inr (List.mem_singleton.mpr rfl))), .inr ⟨rfl, hne⟩, ?_, ?_, fun g hg => ?_⟩
            · rw [List.getElem?_append_right (Nat.le_refl _), Nat.sub_self]; rfl
            · rw [List.map_append, List.nodup_append]
              refine ⟨ndy, by simp, fun x hx y hy e => ?_⟩
              rw [List.mem_singleton.mp (show y ∈ [f] from hy)] at e
              rw [e] at hx
              exact c hx
            · rcases List.mem_append.mp hg with z | z
              · exact hok g z
              · rw [List.mem_singleton.mp z]; exact fok
          · obtain ⟨g, hg, e⟩ := List.mem_map.mp c
            obtain ⟨J, hJ⟩ := List.mem_iff_getElem?.mp hg
            walk_at "rd"
            exact hN' _ _ ⟨ys, J, g.1, rfl, b13, hf13, .inl rfl, by rw [hJ, ← e], ndy, hok⟩
      · intro N' hN'
        walk_at "rd"
        refine ⟨_, _, rfl, by decide, by decide, pl11, fun dd H12 _ _ e12 pl12 => ?_⟩
        have b12 := b11.sameB of pl11 (SameB.drawn e12)
        walk_at "rd"
        refine Rd.iteD (fun c1 => ?_) (fun c1 => ?_)
        · walk_at "rd"
          refine ⟨p, q, xs, ys.length, rfl, pl12, b12.nq, hx8, hxN, by omega, fun b t s0 r ns' n H13 hb0 sB13 pl13 hb ht hl10 hbad => ?_⟩
          have b13 := b12.sameB of pl12 sB13
          have ln' : (ns'.map V.int).length = ns'.length := List.length_map ..
          walk_at "rd"
          refine Rd.lcW Rd.wTup (by rw [ln']; walk_at "sz") (fun i acc H' => Same H13 H' ∧ acc = ((ns'.take i).filter fun n => !decide (hasN ys.length n)).map V.int) ⟨Same.refl _, rfl⟩
            (fun D hD i acc ys H' j => ⟨same_upd j.1 hD, j.2⟩) (fun i acc H' hi j => SqT.of (j.1 _ _ ht)) ?_ ?_
          · rintro D hD j x acc H' hj hx hacc hlen ⟨j1, j2⟩ Kt Kf hT hF
            dsimp only [List.set]
            rw [List.getElem?_map] at hx
            obtain ⟨z, hz, rfl⟩ := Option.map_eq_some_iff.mp hx
            have e0 : (ns'.take (j + 1)).filter (fun n => !decide (hasN ys.length n)) = (ns'.take j).filter (fun n => !decide (hasN ys.length n)) ++ (if (!decide (hasN ys.length z)) = true then [z] else []) := by
              rw [List.take_add_one, hz, List.filter_append]
              congr 1
              cases hq : (!decide (hasN ys.length z)) <;> simp [hq]
            have bad : ¬ hasN ys.length z → Kt (.int z) H' := fun h => hT _ _ hacc ⟨j1, by
              rw [decide_eq_false h, if_pos (show (!false) = true from rfl)] at e0
              rw [e0, j2, List.map_append]; rfl⟩
            walk_at "rd"
            refine Rd.iteD (fun c2 => ?_) (fun c2 => ?_)
            · walk_at "rd"
              exact bad fun h => by have := h.1; omega
            · walk_at "rd"
              refine Rd.iteD (fun c3 => ?_) (fun c3 => ?_)
              · walk_at "rd"
                exact bad fun h => by have := h.2; omega
              · walk_at "rd"
                have h : hasN ys.length z := ⟨by omega, by omega⟩
                refine hF _ hacc ⟨j1, ?_⟩
                rw [decide_eq_true h, if_neg (by decide), List.append_nil] at e0
                rw [e0, j2]
          · rintro D acc H14 hD hacc hlen ⟨s14, rfl⟩
            rw [ln', List.take_length] at hacc
            have a0 : atI ((ns'.filter fun n => !decide (hasN ys.length n)).map V.int) 0 = some (.int n) := by
              refine atI_nat (j := 0) ?_
              have hh : (ns'.filter fun n => !decide (hasN ys.length n)).head? = some n := by
                rw [List.head?_filter]; exact hbad
              rw [List.getElem?_map, ← List.head?_eq_getElem?, hh]
              rfl
            have b14 := b13.same s14
            walk_at "rd"
            refine ⟨pc, lc, dc, b, .de s0 r ns', ys, n, rfl, b14.ct, ⟨t, s14 _ _ hb, s14 _ _ ht⟩, by omega, hbad, fun t3 H15 s15 ht3 => ?_⟩
            walk_at "rd"
            refine ⟨by show 2 ≤ sizeLine; decide, fun t4 ht4 => ?_⟩
            have s16 := same_new (o := .tup [.int n, .bl true]) ht4
            refine Rd.neTs (SqT.of (s16 _ _ ht3)) (SqT.of upd_same) (by rfl) ?_
            have s1516 := s15.trans s16
            have b16 := b14.same s1516
            have pl16 := pool_of (pool_of pl13 s14) s1516
            generalize upd H15 t4 (.tup [.int n, .bl true]) = H16 at b16 pl16
            walk_at "rd"
            refine len_ct b16.ct (by omega) ?_
            walk_at "rd"
            refine Rd.iteNDT rfl ?_
            walk_at "rd"
            exact hN' _ _ ⟨_, _, rfl, b16, pl16⟩
        · walk_at "rd"
          exact hN' _ _ ⟨_, _, rfl, b12, pl12⟩
    · clear b9 b8 b7 of8 e9 pl9 pl8 s8 s7 s6 b5 s5 s25
      rintro σ H10 ⟨o5, o6, o7, o8, o9, o10, o11, o12, ys, rfl, b10, hln, hok⟩
      have hkn10 := b10.hkn
      have h21 : ys.length ≤ 21 := by omega
      walk_at "rd"
      refine Rd.exrange (by rw [lf]; omega) (by rw [lf]; omega) ?_
      rw [lf]
      refine Rd.foW Rd.wRange (fun i σ H' => ∃ (o10 o12 : Option V), σ = [some (.ref a), some (.ref q), some (.ref pc), some (.ref po), some (.ref kn), o5, o6, o7, o8, o9, o10, o11, o12, none] ∧ H' = H10) ⟨_, _, rfl, rfl⟩ (fun _ _ _ _ _ => trivial) ?_ ?_
      · rintro i x σ H11 hi hx ⟨o10, o12, rfl, rfl⟩
        rw [Int.zero_add] at hx
        subst hx
        dsimp only [List.set]
        have hi' : i < ys.length := by omega
        obtain ⟨dx, hp⟩ := b10.ct.ins
        walk_at "rd"
        refine ⟨pc, dx, _, rfl, hp, ctf_no _ _ (by decide +kernel) (by decide +kernel), ?_⟩
        walk_at "rd"
        refine ⟨pc, lc, dc, (i : Int), ys, P, w, rfl, b10.ct, by omega, fun j A f e hj => ?_, fun h => absurd ⟨by omega, by omega⟩ h⟩
        have ej : i = j := by omega
        subst ej
        have hfa := b10.ct.ok _ (List.mem_of_getElem? hj)
        have fok := hok _ (List.mem_of_getElem? hj)
        obtain ⟨tx, htx⟩ := hfa.tup
        walk_at "rd"
        refine Rd.isi (.ty _) (.base (.tup htx)) (kit_ty (r := true) (by decide +kernel)) ?_
        have ak : atI (frefs ys) (i : Nat) = some (.ref A) := atI_nat (by rw [List.getElem?_map, hj]; rfl)
        walk_at "rd"
        refine Rd.neD hfa.dp hfa.dp (Fm.sh fok) (Fm.sh fok) ?_
        rw [SeqAt.eqv_refl _ (f.can fok)]
        walk_at "rd"
        exact ⟨_, _, rfl, rfl⟩
      · rintro σ H11 ⟨o10, o12, rfl, rfl⟩
        walk_at "rd"
        refine ⟨by show 3 ≤ sizeLine; decide, fun L hL => ?_⟩
        rw [lf]
        have s12 := same_new (o := .lst [V.int (-1), V.int (ys.length : Nat), V.int ((ys.length : Nat) + 9)]) hL
        have b12 := b10.same s12
        have hL12 : upd H11 L (.lst [V.int (-1), V.int (ys.length : Nat), V.int ((ys.length : Nat) + 9)]) L = some (.lst (([-1, (ys.length : Int), (ys.length : Int) + 9] : List Int).map V.int)) := upd_same
        generalize upd H11 L (.lst [V.int (-1), V.int (ys.length : Nat), V.int ((ys.length : Nat) + 9)]) = H12 at s12 b12 hL12
        refine Rd.exlist (SqL.of hL12) ?_
        refine Rd.foW Rd.wList (fun i σ H' => ∃ (o12 : Option V), σ = [some (.ref a), some (.ref q), some (.ref pc), some (.ref po), some (.ref kn), o5, o6, o7, o8, o9, o10, o11, o12, none] ∧ Same H12 H') ⟨_, rfl, Same.refl _⟩ (fun i σ H' hi ⟨_, _, j⟩ => SqL.of (j _ _ hL12)) ?_ ?_
        · rintro i x σ H13 hi hx ⟨o12, rfl, s13⟩
          rw [List.getElem?_map] at hx
          obtain ⟨n, hn, rfl⟩ := Option.map_eq_some_iff.mp hx
          have nb : ¬ hasN ys.length n := fun z => by
            have hm := List.mem_of_getElem? hn
            rcases List.mem_cons.mp hm with e | hm
            · have := z.1; omega
            rcases List.mem_cons.mp hm with e | hm
            · have := z.2; omega
            have e := List.mem_singleton.mp hm
            have := z.2; omega
          have b13 := b12.same s13
          dsimp only [List.set]
          walk_at "rd"
          refine ⟨pc, lc, dc, ys, n, rfl, b13.ct, by omega, nb, fun t1 H14 s14 ht1 => ?_⟩
          walk_at "rd"
          refine ⟨by show 2 ≤ sizeLine; decide, fun t2 ht2 => ?_⟩
          have s15 := same_new (o := .tup [.int n, .bl true]) ht2
          refine Rd.neTs (SqT.of (s15 _ _ ht1)) (SqT.of upd_same) (by rfl) ?_
          walk_at "rd"
          exact ⟨_, rfl, (s13.trans s14).trans s15⟩
        · rintro σ H13 ⟨o12, rfl, s13⟩
          have b13 := b12.same s13
          obtain ⟨n1, hn1, an1⟩ := at_names (ns := xs) (r := 1) (by decide) (by rw [hx8]; decide)
          have nmok := hxN n1 hn1
          walk_at "rd"
          refine len_ct b13.co (by show 0 ≤ 1000; decide) ?_
          have hq13 : H13 q = some (.lst (xs.map fun l => V.str (S l))) := b13.nq
          obtain ⟨dxo, hpo⟩ := b13.co.ins
          walk_at "rd"
          refine ⟨po, dxo, _, rfl, hpo, ctf_no _ _ (by decide +kernel) (by decide +kernel), ?_⟩
          walk_at "rd"
          refine ⟨by show 3 ≤ sizeLine; decide, fun tb htb => ?_⟩
          have s14 := same_new (o := .tup [.str (S freshS), .int 77, .str (S n1)]) htb
          have b14 := b13.same s14
          walk_at "rd"
          refine ⟨po, lo, do_, tb, .fr 77 n1, [], rfl, b14.co, upd_same, by show 0 ≤ 1000; decide, (fun n hn => by cases hn), fun _ => ⟨fun j A hj => by simp at hj, fun _ H15 fr ct2 => ?_⟩⟩
          have b14c := b14.ct
          have nlo : ∀ x o, upd H13 tb (.tup [.str (S freshS), .int 77, .str (S n1)]) x = some o → (∀ l, o ≠ .lst l) → x ≠ lo := fun x o hx hl z => by
            have := b14.co.lst
            rw [← z, hx] at this
            exact hl _ (Option.some.inj this)
          have ndo : ∀ x o, upd H13 tb (.tup [.str (S freshS), .int 77, .str (S n1)]) x = some o → (∀ φ, o ≠ .ext φ) → x ≠ do_ := fun x o hx hl z => by
            have := b14.co.dct
            rw [← z, hx] at this
            exact hl _ (Option.some.inj this)
          obtain ⟨dxc, hpc⟩ := b14c.ins
          have c15 : CtAt P w cc.C H15 pc lc dc ys := b14c.keep
            (fun o z => by rw [fr _ (nlo _ _ hpc fun l q => by cases q) (ndo _ _ hpc fun l q => by cases q)]; exact z)
            (fun o z => by rw [fr _ (Ne.symm b14.d5) (ndo _ _ b14c.lst fun l q => by cases q)]; exact z)
            (fun o z => by rw [fr _ (nlo _ _ b14c.dct fun l q => by cases q) (Ne.symm b14.d6)]; exact z)
            (fun b ys z => by rw [fr _ (nlo _ _ z fun l q => by cases q) (ndo _ _ z fun l q => by cases q)]; exact z)
          have kn15 : H15 kn = some (.lst (frefs ys)) := by rw [fr _ b14.d2 (ndo _ _ b14.hkn fun l q => by cases q)]; exact b14.hkn
          walk_at "rd"
          refine len_ct ct2 (by show 1 ≤ 1000; decide) ?_
          walk_at "rd"
          refine len_ct c15 (by omega) ?_
          walk_at "rd"
          rw [lf, decide_eq_true rfl]
          exact k _

end
section
variable {P : Program} {w : World} {K : PySem.W.Frag} {mg : Str → Option Value} {base : Heap} {tk : Tok}
/-! ### what the top has left -/
theorem all_mk {P : Program} {w : World} {K : PySem.W.Frag} {h : Heap} {mg : Str → Option Value} {fP fD fW fN fMi fOd fRef fFm fWh Ccn fCi fCl fNo fFo fRn cRE CExF fIxF fa fLaw : Addr} (X : K.In h) (G : h.Ns mainGlobals mg) (hfa : mg "law" = some (.ref fa))
    {odP anP : Option Addr} {slP : Array (Option Value)} {ocP kVP dcP pmP cdP ctP : Value}
    {odD anD : Option Addr} {slD : Array (Option Value)} {ocD kVD dcD pmD cdD ctD : Value}
    {odW anW : Option Addr} {slW : Array (Option Value)} {ocW kVW dcW pmW cdW ctW : Value}
    {odN anN : Option Addr} {slN : Array (Option Value)} {ocN kVN dcN pmN cdN ctN : Value}
    {odMi anMi : Option Addr} {slMi : Array (Option Value)} {ocMi kVMi dcMi pmMi cdMi ctMi : Value}
    {odOd anOd : Option Addr} {slOd : Array (Option Value)} {ocOd kVOd dcOd pmOd cdOd ctOd : Value}
    {odRef anRef : Option Addr} {slRef : Array (Option Value)} {ocRef kVRef dcRef pmRef cdRef ctRef : Value}
    {odFm anFm : Option Addr} {slFm : Array (Option Value)} {ocFm kVFm dcFm pmFm cdFm ctFm : Value}
    {odWh anWh : Option Addr} {slWh : Array (Option Value)} {ocWh kVWh dcWh pmWh cdWh ctWh : Value}
    {odCi anCi : Option Addr} {slCi : Array (Option Value)} {ocCi kVCi dcCi pmCi cdCi ctCi : Value}
    {odCl anCl : Option Addr} {slCl : Array (Option Value)} {ocCl kVCl dcCl pmCl cdCl ctCl : Value}
    {odNo anNo : Option Addr} {slNo : Array (Option Value)} {ocNo kVNo dcNo pmNo cdNo ctNo : Value}
    {odFo anFo : Option Addr} {slFo : Array (Option Value)} {ocFo kVFo dcFo pmFo cdFo ctFo : Value}
    {odRn anRn : Option Addr} {slRn : Array (Option Value)} {ocRn kVRn dcRn pmRn cdRn ctRn : Value}
    {enmxF eqxF : Str} {eAxF : Addr} {ebsxF ebmxF : List Value} {esnxF : List Str} {esubxF : List Value} {eabxF : Bool} {ecolxF : Option Bool} {eddxF : Option Addr} {eaxF ebxF ecxF edxF eexF : Option Value}
    {odIxF anIxF : Option Addr} {slIxF : Array (Option Value)} {ocIxF kVIxF dcIxF pmIxF cdIxF ctIxF : Value}
    {odLaw anLaw : Option Addr} {slLaw : Array (Option Value)} {ocLaw kVLaw dcLaw pmLaw cdLaw ctLaw : Value}
    (spc : PySem.W.specialIn K (.builtin "object.__class__") "__get__" = some (some (.builtin "getset_descriptor.__get__")))
    (tkc : PySem.W.takesIn K (.builtin "object.__class__") = some true)
    (aP : PySem.W.nsIn K mainGlobals "_law_pool" = some (some (.ref fP)))
    (lP : K.lookup fP = some ⟨ocP, odP, .func (PySem.W.fnOf "_law_pool" "_law_pool" (defArgs s_law_pool) (defBody s_law_pool) (defScope s_law_pool) .none kVP dcP pmP anP cdP ctP), slP⟩)
    (cP : PySem.W.codeIn K cdP "_law_pool" = true)
    (kP : PySem.W.keepIn K (.ref fP) = true)
    (aD : PySem.W.nsIn K mainGlobals "_law_draw" = some (some (.ref fD)))
    (lD : K.lookup fD = some ⟨ocD, odD, .func (PySem.W.fnOf "_law_draw" "_law_draw" (defArgs s_law_draw) (defBody s_law_draw) (defScope s_law_draw) .none kVD dcD pmD anD cdD ctD), slD⟩)
    (cD : PySem.W.codeIn K cdD "_law_draw" = true)
    (kD : PySem.W.keepIn K (.ref fD) = true)
    (aW : PySem.W.nsIn K mainGlobals "_law_word" = some (some (.ref fW)))
    (lW : K.lookup fW = some ⟨ocW, odW, .func (PySem.W.fnOf "_law_word" "_law_word" (defArgs s_law_word) (defBody s_law_word) (defScope s_law_word) .none kVW dcW pmW anW cdW ctW), slW⟩)
    (cW : PySem.W.codeIn K cdW "_law_word" = true)
    (kW : PySem.W.keepIn K (.ref fW) = true)
    (aN : PySem.W.nsIn K mainGlobals "_law_names" = some (some (.ref fN)))
    (lN : K.lookup fN = some ⟨ocN, odN, .func (PySem.W.fnOf "_law_names" "_law_names" (defArgs s_law_names) (defBody s_law_names) (defScope s_law_names) .none kVN dcN pmN anN cdN ctN), slN⟩)
    (cN : PySem.W.codeIn K cdN "_law_names" = true)
    (kN : PySem.W.keepIn K (.ref fN) = true)
    (aMi : PySem.W.nsIn K mainGlobals "_law_missing" = some (some (.ref fMi)))
    (lMi : K.lookup fMi = some ⟨ocMi, odMi, .func (PySem.W.fnOf "_law_missing" "_law_missing" (defArgs s_law_missing) (defBody s_law_missing) (defScope s_law_missing) .none kVMi dcMi pmMi anMi cdMi ctMi), slMi⟩)
    (cMi : PySem.W.codeIn K cdMi "_law_missing" = true)
    (kMi : PySem.W.keepIn K (.ref fMi) = true)
    (aOd : PySem.W.nsIn K mainGlobals "_law_odd" = some (some (.ref fOd)))
    (lOd : K.lookup fOd = some ⟨ocOd, odOd, .func (PySem.W.fnOf "_law_odd" "_law_odd" (defArgs s_law_odd) (defBody s_law_odd) (defScope s_law_odd) .none kVOd dcOd pmOd anOd cdOd ctOd), slOd⟩)
    (cOd : PySem.W.codeIn K cdOd "_law_odd" = true)
    (kOd : PySem.W.keepIn K (.ref fOd) = true)
    (aRef : PySem.W.nsIn K mainGlobals "_law_refusal" = some (some (.ref fRef)))
    (lRef : K.lookup fRef = some ⟨ocRef, odRef, .func (PySem.W.fnOf "_law_refusal" "_law_refusal" (defArgs s_law_refusal) (defBody s_law_refusal) (defScope s_law_refusal) .none kVRef dcRef pmRef anRef cdRef ctRef), slRef⟩)
    (cRef : PySem.W.codeIn K cdRef "_law_refusal" = true)
    (kRef : PySem.W.keepIn K (.ref fRef) = true)
    (aFm : PySem.W.nsIn K mainGlobals "_law_formula" = some (some (.ref fFm)))
    (lFm : K.lookup fFm = some ⟨ocFm, odFm, .func (PySem.W.fnOf "_law_formula" "_law_formula" (defArgs s_law_formula) (defBody s_law_formula) (defScope s_law_formula) .none kVFm dcFm pmFm anFm cdFm ctFm), slFm⟩)
    (cFm : PySem.W.codeIn K cdFm "_law_formula" = true)
    (kFm : PySem.W.keepIn K (.ref fFm) = true)
    (aWh : PySem.W.nsIn K mainGlobals "_law_whole" = some (some (.ref fWh)))
    (lWh : K.lookup fWh = some ⟨ocWh, odWh, .func (PySem.W.fnOf "_law_whole" "_law_whole" (defArgs s_law_whole) (defBody s_law_whole) (defScope s_law_whole) .none kVWh dcWh pmWh anWh cdWh ctWh), slWh⟩)
    (cWh : PySem.W.codeIn K cdWh "_law_whole" = true)
    (kWh : PySem.W.keepIn K (.ref fWh) = true)
    (gcn : PySem.W.nsIn K mainGlobals "Contents" = some (some (.ref Ccn)))
    (in_cn : PySem.W.findIn K (.ref Ccn) "__init__" = some (some (.ref fCi)))
    (at_len_cn : PySem.W.findIn K (.ref Ccn) "__len__" = some (some (.ref fCl)))
    (at_number_of_cn : PySem.W.findIn K (.ref Ccn) "number_of" = some (some (.ref fNo)))
    (at_formula_cn : PySem.W.findIn K (.ref Ccn) "formula" = some (some (.ref fFo)))
    (at_require_number_cn : PySem.W.findIn K (.ref Ccn) "require_number" = some (some (.ref fRn)))
    (pgcn : PySem.W.plainGet K Ccn Str.empty = true)
    (hdcn : PySem.W.hasDictIn K Ccn = true)
    (pocn : PySem.W.plainOver K Ccn = true)
    (sacn : PySem.W.findIn K (.ref Ccn) "__setattr__" = some (some (.builtin "object.__setattr__")))
    (mkcn : PySem.W.makesIn K Ccn = true)
    (kccn : PySem.W.keepIn K (.ref Ccn) = true)
    (n_formulas_cn : PySem.W.findIn K (.ref Ccn) "formulas" = some none)
    (n_places_cn : PySem.W.findIn K (.ref Ccn) "places" = some none)
    (lCi : K.lookup fCi = some ⟨ocCi, odCi, .func (PySem.W.fnOf "__init__" "Contents.__init__" (defArgs s_Contents___init) (defBody s_Contents___init) (defScope s_Contents___init) .none kVCi dcCi pmCi anCi cdCi ctCi), slCi⟩)
    (cCi : PySem.W.codeIn K cdCi "Contents.__init__" = true)
    (kCi : PySem.W.keepIn K (.ref fCi) = true)
    (fnCi : PySem.W.isFn K (.ref fCi) = true)
    (lCl : K.lookup fCl = some ⟨ocCl, odCl, .func (PySem.W.fnOf "__len__" "Contents.__len__" (defArgs s_Contents___len) (defBody s_Contents___len) (defScope s_Contents___len) .none kVCl dcCl pmCl anCl cdCl ctCl), slCl⟩)
    (cCl : PySem.W.codeIn K cdCl "Contents.__len__" = true)
    (kCl : PySem.W.keepIn K (.ref fCl) = true)
    (fnCl : PySem.W.isFn K (.ref fCl) = true)
    (lNo : K.lookup fNo = some ⟨ocNo, odNo, .func (PySem.W.fnOf "number_of" "Contents.number_of" (defArgs s_Contents_number_of) (defBody s_Contents_number_of) (defScope s_Contents_number_of) .none kVNo dcNo pmNo anNo cdNo ctNo), slNo⟩)
    (cNo : PySem.W.codeIn K cdNo "Contents.number_of" = true)
    (kNo : PySem.W.keepIn K (.ref fNo) = true)
    (fnNo : PySem.W.isFn K (.ref fNo) = true)
    (lFo : K.lookup fFo = some ⟨ocFo, odFo, .func (PySem.W.fnOf "formula" "Contents.formula" (defArgs s_Contents_formula) (defBody s_Contents_formula) (defScope s_Contents_formula) .none kVFo dcFo pmFo anFo cdFo ctFo), slFo⟩)
    (cFo : PySem.W.codeIn K cdFo "Contents.formula" = true)
    (kFo : PySem.W.keepIn K (.ref fFo) = true)
    (fnFo : PySem.W.isFn K (.ref fFo) = true)
    (lRn : K.lookup fRn = some ⟨ocRn, odRn, .func (PySem.W.fnOf "require_number" "Contents.require_number" (defArgs s_Contents_require_number) (defBody s_Contents_require_number) (defScope s_Contents_require_number) .none kVRn dcRn pmRn anRn cdRn ctRn), slRn⟩)
    (cRn : PySem.W.codeIn K cdRn "Contents.require_number" = true)
    (kRn : PySem.W.keepIn K (.ref fRn) = true)
    (fnRn : PySem.W.isFn K (.ref fRn) = true)
    (gl_cRE : PySem.W.nsIn K mainGlobals "RedoError" = some (some (.ref cRE)))
    (gExF : PySem.W.nsIn K mainGlobals "BadFormula" = some (some (.ref CExF)))
    (xExF : K.lookup CExF = some (excClassObj enmxF eqxF CExF eAxF ebsxF ebmxF true esnxF esubxF eabxF ecolxF eddxF eaxF ebxF ecxF edxF eexF "ValueError.__new__"))
    (bExF : PySem.HandSPX.refsVE ebmxF = true)
    (saExF : PySem.W.findIn K (.ref CExF) "__setattr__" = some (some (.builtin "object.__setattr__")))
    (gaExF : PySem.W.findIn K (.ref CExF) "__getattribute__" = some (some (.builtin "BaseException.__getattribute__")))
    (ggExF : PySem.W.findIn K (.ref CExF) "__getattr__" = some none)
    (nnExF : PySem.W.findIn K (.ref CExF) "number" = some none)
    (inExF : PySem.W.findIn K (.ref CExF) "__init__" = some (some (.ref fIxF)))
    (tyIxF : PySem.W.typeIn K (.ref fIxF) = some (.type "function"))
    (lIxF : K.lookup fIxF = some ⟨ocIxF, odIxF, .func (PySem.W.fnOf "__init__" "BadFormula.__init__" (defArgs s_BadFormula___init) (defBody s_BadFormula___init) (defScope s_BadFormula___init) .none kVIxF dcIxF pmIxF anIxF cdIxF ctIxF), slIxF⟩)
    (cIxF : PySem.W.codeIn K cdIxF "BadFormula.__init__" = true)
    (kIxF : PySem.W.keepIn K (.ref fIxF) = true)
    (kExF : PySem.W.keepIn K (.ref CExF) = true)
    (exExF : PySem.W.subIn K (.ref CExF) (.type "BaseException") = some true)
    (tyExF : PySem.W.typeIn K (.ref CExF) = some (.type "type"))
    (hdExF : PySem.W.hasDictIn K CExF = true)
    (sExF : PySem.W.subIn K (.ref CExF) (.ref CExF) = some true)
    (clExF : PySem.W.findIn K (.ref CExF) "__class__" = some (some (.builtin "object.__class__")))
    (moExF : PySem.W.mroIn K CExF (.type "object") = some true)
    (q1 : PySem.W.kitOne K (.ref CExF) (.ref cRE) = some true)
    (z_len : PySem.W.nsIn K mainGlobals "len" = some none)
    (z_sum : PySem.W.nsIn K mainGlobals "sum" = some none)
    (z_int : PySem.W.nsIn K mainGlobals "int" = some none)
    (z_range : PySem.W.nsIn K mainGlobals "range" = some none)
    (z_isinstance : PySem.W.nsIn K mainGlobals "isinstance" = some none)
    (z_any : PySem.W.nsIn K mainGlobals "any" = some none)
    (z_all : PySem.W.nsIn K mainGlobals "all" = some none)
    (z_list : PySem.W.nsIn K mainGlobals "list" = some none)
    (z_tuple : PySem.W.nsIn K mainGlobals "tuple" = some none)
    (z_sorted : PySem.W.nsIn K mainGlobals "sorted" = some none)
    (z_set : PySem.W.nsIn K mainGlobals "set" = some none)
    (z_bool : PySem.W.nsIn K mainGlobals "bool" = some none)
    (z_ValueError : PySem.W.nsIn K mainGlobals "ValueError" = some none)
    (aLaw : PySem.W.nsIn K mainGlobals "law" = some (some (.ref fLaw)))
    (lLaw : K.lookup fLaw = some ⟨ocLaw, odLaw, .func (PySem.W.fnOf "law" "law" (defArgs s_law) (defBody s_law) (defScope s_law) .none kVLaw dcLaw pmLaw anLaw cdLaw ctLaw), slLaw⟩)
    (cLaw : PySem.W.codeIn K cdLaw "law" = true)
    (kLaw : PySem.W.keepIn K (.ref fLaw) = true) :
    ∃ fd : FuncData, (∀ (s : Shared) (v : Value), BindsTo s fd ⟨[v], []⟩ [("_law_script", v)]) ∧ ∀ base : Heap, K.In base → base.Ns mainGlobals mg → FnOk P w K mg base CX0 9 fa fd ["_law_script"] (spLaw K) := by
  have e := hfa.symm.trans (PySem.W.mg_of X G aLaw)
  cases e
  refine ⟨PySem.W.fnOf "law" "law" (defArgs s_law) (defBody s_law) (defScope s_law) .none kVLaw dcLaw pmLaw anLaw cdLaw ctLaw, fun s v => .of_eq rfl, fun base _ _ => ?_⟩
  have FP := fun_mk (st := s_law_pool) lP cP kP
  let dP : Df K mg "_law_pool" "_law_pool" s_law_pool ["_law_script", "_law_k"] := ⟨fP, _, FP, PySem.W.mg_of X G aP, FP.binds (ps := ["_law_script", "_law_k"]) fun _ _ _ _ _ _ us hl => match us, hl with | [_, _], _ => rfl⟩
  have FD := fun_mk (st := s_law_draw) lD cD kD
  let dD : Df K mg "_law_draw" "_law_draw" s_law_draw ["_law_pool_here", "_law_many"] := ⟨fD, _, FD, PySem.W.mg_of X G aD, FD.binds (ps := ["_law_pool_here", "_law_many"]) fun _ _ _ _ _ _ us hl => match us, hl with | [_, _], _ => rfl⟩
  have FW := fun_mk (st := s_law_word) lW cW kW
  let dW : Df K mg "_law_word" "_law_word" s_law_word ["_law_numbers"] := ⟨fW, _, FW, PySem.W.mg_of X G aW, FW.binds (ps := ["_law_numbers"]) fun _ _ _ _ _ _ us hl => match us, hl with | [_], _ => rfl⟩
  have FN := fun_mk (st := s_law_names) lN cN kN
  let dN : Df K mg "_law_names" "_law_names" s_law_names ["_law_pool_here"] := ⟨fN, _, FN, PySem.W.mg_of X G aN, FN.binds (ps := ["_law_pool_here"]) fun _ _ _ _ _ _ us hl => match us, hl with | [_], _ => rfl⟩
  have FMi := fun_mk (st := s_law_missing) lMi cMi kMi
  let dMi : Df K mg "_law_missing" "_law_missing" s_law_missing ["_law_contents", "_law_number"] := ⟨fMi, _, FMi, PySem.W.mg_of X G aMi, FMi.binds (ps := ["_law_contents", "_law_number"]) fun _ _ _ _ _ _ us hl => match us, hl with | [_, _], _ => rfl⟩
  have FOd := fun_mk (st := s_law_odd) lOd cOd kOd
  let dOd : Df K mg "_law_odd" "_law_odd" s_law_odd ["_law_pool_here", "_law_names_here", "_law_many"] := ⟨fOd, _, FOd, PySem.W.mg_of X G aOd, FOd.binds (ps := ["_law_pool_here", "_law_names_here", "_law_many"]) fun _ _ _ _ _ _ us hl => match us, hl with | [_, _, _], _ => rfl⟩
  have FRef := fun_mk (st := s_law_refusal) lRef cRef kRef
  let dRef : Df K mg "_law_refusal" "_law_refusal" s_law_refusal ["_law_contents", "_law_formula_here"] := ⟨fRef, _, FRef, PySem.W.mg_of X G aRef, FRef.binds (ps := ["_law_contents", "_law_formula_here"]) fun _ _ _ _ _ _ us hl => match us, hl with | [_, _], _ => rfl⟩
  have FFm := fun_mk (st := s_law_formula) lFm cFm kFm
  let dFm : Df K mg "_law_formula" "_law_formula" s_law_formula ["_law_pool_here", "_law_names_here", "_law_many"] := ⟨fFm, _, FFm, PySem.W.mg_of X G aFm, FFm.binds (ps := ["_law_pool_here", "_law_names_here", "_law_many"]) fun _ _ _ _ _ _ us hl => match us, hl with | [_, _, _], _ => rfl⟩
  have FWh := fun_mk (st := s_law_whole) lWh cWh kWh
  let dWh : Df K mg "_law_whole" "_law_whole" s_law_whole ["_law_value"] := ⟨fWh, _, FWh, PySem.W.mg_of X G aWh, FWh.binds (ps := ["_law_value"]) fun _ _ _ _ _ _ us hl => match us, hl with | [_], _ => rfl⟩
  have FCi := fun_mk (st := s_Contents___init) lCi cCi kCi
  let mCi : Mf K "__init__" "Contents.__init__" s_Contents___init ["self"] := ⟨fCi, _, FCi, FCi.binds (ps := ["self"]) fun _ _ _ _ _ _ us hl => match us, hl with | [_], _ => rfl⟩
  have FCl := fun_mk (st := s_Contents___len) lCl cCl kCl
  let mCl : Mf K "__len__" "Contents.__len__" s_Contents___len ["self"] := ⟨fCl, _, FCl, FCl.binds (ps := ["self"]) fun _ _ _ _ _ _ us hl => match us, hl with | [_], _ => rfl⟩
  have FNo := fun_mk (st := s_Contents_number_of) lNo cNo kNo
  let mNo : Mf K "number_of" "Contents.number_of" s_Contents_number_of ["self", "formula"] := ⟨fNo, _, FNo, FNo.binds (ps := ["self", "formula"]) fun _ _ _ _ _ _ us hl => match us, hl with | [_, _], _ => rfl⟩
  have FFo := fun_mk (st := s_Contents_formula) lFo cFo kFo
  let mFo : Mf K "formula" "Contents.formula" s_Contents_formula ["self", "number"] := ⟨fFo, _, FFo, FFo.binds (ps := ["self", "number"]) fun _ _ _ _ _ _ us hl => match us, hl with | [_, _], _ => rfl⟩
  have FRn := fun_mk (st := s_Contents_require_number) lRn cRn kRn
  let mRn : Mf K "require_number" "Contents.require_number" s_Contents_require_number ["self", "number"] := ⟨fRn, _, FRn, FRn.binds (ps := ["self", "number"]) fun _ _ _ _ _ _ us hl => match us, hl with | [_, _], _ => rfl⟩
  let cc : Cn K mg fCi := ⟨Ccn, PySem.W.mg_of X G gcn, ⟨pgcn, hdcn, pocn, sacn⟩, ⟨mkcn, in_cn, fnCi, kccn⟩, n_formulas_cn, n_places_cn⟩
  have gl_cRE' : mg "RedoError" = some (.ref cRE) := PySem.W.mg_of X G gl_cRE
  have FExF := fun_mk (st := s_BadFormula___init) lIxF cIxF kIxF
  let exF : ErF K mg := ⟨CExF, fIxF, _, ⟨⟨enmxF, eqxF, eAxF, ebsxF, ebmxF, esnxF, esubxF, eabxF, ecolxF, eddxF, eaxF, ebxF, ecxF, edxF, eexF, xExF, bExF⟩, saExF, exExF, tyExF, kExF⟩, inExF, tyIxF, PySem.W.mg_of X G gExF, nnExF, FExF, FExF.binds (ps := ["self", "number"]) fun _ _ _ _ _ _ us hl => match us, hl with | [_, _], _ => rfl, ⟨gaExF, ggExF, exExF, hdExF⟩, ⟨gaExF, ggExF, exExF, hdExF, clExF, spc, tkc, moExF⟩, PySem.W.exm_ref exExF hdExF tyExF sExF⟩
  have T : Bt mg := ⟨PySem.W.mg_none_of X G z_len, PySem.W.mg_none_of X G z_sum, PySem.W.mg_none_of X G z_int, PySem.W.mg_none_of X G z_range, PySem.W.mg_none_of X G z_isinstance, PySem.W.mg_none_of X G z_any, PySem.W.mg_none_of X G z_all, PySem.W.mg_none_of X G z_list, PySem.W.mg_none_of X G z_tuple, PySem.W.mg_none_of X G z_sorted, PySem.W.mg_none_of X G z_set, PySem.W.mg_none_of X G z_bool, PySem.W.mg_none_of X G z_ValueError⟩
  have hNo : Meth K cc.C "number_of" mNo.f := ⟨at_number_of_cn, fnNo, kNo⟩
  have hFo : Meth K cc.C "formula" mFo.f := ⟨at_formula_cn, fnFo, kFo⟩
  have hR : Meth K cc.C "require_number" mRn.f := ⟨at_require_number_cn, fnRn, kRn⟩
  have GP : FnOk P w K mg base CX0 1 dP.f dP.fd _ (spPool K) := ok_pool dP.F T
  have GD : FnOk P w K mg base CX0 1 dD.f dD.fd _ spDraw := ok_draw dD.F T
  have GN : FnOk P w K mg base CX0 2 dN.f dN.fd _ spNames := ok_names dN.F T dD dW
  have GC : FnOk P w K mg base CX0 1 mCi.f mCi.fd _ (spCtI (K := K) P w) := ok_cti mCi T
  have GNo : FnOk P w K mg base (L2.CX P w) 4 mNo.f mNo.fd _ (spNum P w cc.C exF.C) := ok_num mNo T cc exF mRn hR
  have GFo : FnOk P w K mg base (L2.CX P w) 4 mFo.f mFo.fd _ (spForm cc.C exF.C) := ok_form mFo T cc exF mRn hR
  have GCl : FnOk P w K mg base CX0 1 mCl.f mCl.fd _ (spCtL cc.C) := ok_ctl mCl T cc
  have GMi : FnOk P w K mg base CX0 5 dMi.f dMi.fd _ (spMissing P w cc.C) := ok_missing dMi T cc exF mFo hFo GFo gl_cRE' q1
  have GOd : FnOk P w K mg base CX0 2 dOd.f dOd.fd _ spOdd := ok_odd dOd T dD GD
  have GRef : FnOk P w K mg base CX0 5 dRef.f dRef.fd _ (spRefusal P w cc.C) := ok_refusal dRef T cc exF mNo hNo GNo gl_cRE' q1
  have GFm : FnOk P w K mg base CX0 2 dFm.f dFm.fd _ spFormula := ok_formula dFm T dD GD
  have GWh : FnOk P w K mg base CX0 1 dWh.f dWh.fd _ spWhole := ok_whole dWh T
  exact ok_law (eF := exF) (fun_mk (st := s_law) lLaw cLaw kLaw) T dP dD dN dMi dOd dRef dFm dWh mCi cc mNo hNo mFo hFo mCl at_len_cn fnCl GP GD GN GMi GOd GRef GFm GWh GC GNo GFo GCl
theorem walk {l : PySem.W.OpenLaw} {q : Program} {loose : List Str} {XP : (Str → Option Value) → Heap → Prop} {YP : World → Heap → Prop} {d : DefRec} {K : Params → PySem.W.Frag} (hn : l.most = some 63) (hdf : d.params.defaults = []) (hY : ∀ (w : World) (h : Heap), YP w h → (K w.params).In h)
    (F : ∀ (w : World) (mg : Str → Option Value) (fa : Addr) (h : Heap), (K w.params).In h → h.Ns mainGlobals mg → mg d.name = some (.ref fa) → ∃ fd : FuncData, (∀ (s : Shared) (u : Value), BindsTo s fd ⟨[u], []⟩ [("_law_script", u)]) ∧ ∀ base : Heap, (K w.params).In base → base.Ns mainGlobals mg → FnOk l.prog w (K w.params) mg base CX0 9 fa fd ["_law_script"] (spLaw (K w.params))) :
    PySem.W.WalkO q loose XP YP l.row.toRowW d [] (fun f vs => PySem.call f vs) :=
  L2.walk_of (n := 63) (k := 9) (x := "_law_script") (CX := fun _ => CX0) (sp := fun w => spLaw (K w.params)) hn (by decide) hdf ⟨rfl, by decide, by decide⟩ hY F (fun _ _ a ns hl _ hS => ⟨a, ns, rfl, hS, hl, fun _ => rfl⟩) fun _ _ _ _ _ z => z

end
end Toy
open PySem PySem.W PyProof.Rows in
set_option maxRecDepth 100000 in
set_option maxHeartbeats 0 in
theorem PySem.Challenge.cw_redopages_k11_numbers_of_formulas_holds : PySem.Challenge.rw_redopages_k11_numbers_of_formulas.Holds := by
  w_on; o_law; k_head; (case hw => w_witness2)
  k_fill
  refine Toy.walk (l := PySem.Challenge.rw_redopages_k11_numbers_of_formulas) rfl rfl (fun w h Y => PySem.W.kIn_of Y) ?F
  case F =>
    intro w mg fa h KX G hmg
    refine' Toy.all_mk KX G hmg ?spc ?tkc ?aP ?lP ?cP ?kP ?aD ?lD ?cD ?kD ?aW ?lW ?cW ?kW ?aN ?lN ?cN ?kN ?aMi ?lMi ?cMi ?kMi ?aOd ?lOd ?cOd ?kOd ?aRef ?lRef ?cRef ?kRef ?aFm ?lFm ?cFm ?kFm ?aWh ?lWh ?cWh ?kWh ?gcn ?in_cn ?at_len_cn ?at_number_of_cn ?at_formula_cn ?at_require_number_cn ?pgcn ?hdcn ?pocn ?sacn ?mkcn ?kccn ?n_formulas_cn ?n_places_cn ?lCi ?cCi ?kCi ?fnCi ?lCl ?cCl ?kCl ?fnCl ?lNo ?cNo ?kNo ?fnNo ?lFo ?cFo ?kFo ?fnFo ?lRn ?cRn ?kRn ?fnRn ?gl_cRE ?gExF ?xExF ?bExF ?saExF ?gaExF ?ggExF ?nnExF ?inExF ?tyIxF ?lIxF ?cIxF ?kIxF ?kExF ?exExF ?tyExF ?hdExF ?sExF ?clExF ?moExF ?q1 ?z_len ?z_sum ?z_int ?z_range ?z_isinstance ?z_any ?z_all ?z_list ?z_tuple ?z_sorted ?z_set ?z_bool ?z_ValueError ?aLaw ?lLaw ?cLaw ?kLaw
    (case spc => k_is)
    (case tkc => k_is)
    (case aP => k_is)
    (case lP => k_is)
    (case cP => k_is)
    (case kP => k_is)
    (case aD => k_is)
    (case lD => k_is)
    (case cD => k_is)
    (case kD => k_is)
    (case aW => k_is)
    (case lW => k_is)
    (case cW => k_is)
    (case kW => k_is)
    (case aN => k_is)
    (case lN => k_is)
    (case cN => k_is)
    (case kN => k_is)
    (case aMi => k_is)
    (case lMi => k_is)
    (case cMi => k_is)
    (case kMi => k_is)
    (case aOd => k_is)
    (case lOd => k_is)
    (case cOd => k_is)
    (case kOd => k_is)
    (case aRef => k_is)
    (case lRef => k_is)
    (case cRef => k_is)
    (case kRef => k_is)
    (case aFm => k_is)
    (case lFm => k_is)
    (case cFm => k_is)
    (case kFm => k_is)
    (case aWh => k_is)
    (case lWh => k_is)
    (case cWh => k_is)
    (case kWh => k_is)
    (case gcn => k_is)
    (case in_cn => k_is)
    (case at_len_cn => k_is)
    (case at_number_of_cn => k_is)
    (case at_formula_cn => k_is)
    (case at_require_number_cn => k_is)
    (case pgcn => k_is)
    (case hdcn => k_is)
    (case pocn => k_is)
    (case sacn => k_is)
    (case mkcn => k_is)
    (case kccn => k_is)
    (case n_formulas_cn => k_is)
    (case n_places_cn => k_is)
    (case lCi => k_is)
    (case cCi => k_is)
    (case kCi => k_is)
    (case fnCi => k_is)
    (case lCl => k_is)
    (case cCl => k_is)
    (case kCl => k_is)
    (case fnCl => k_is)
    (case lNo => k_is)
    (case cNo => k_is)
    (case kNo => k_is)
    (case fnNo => k_is)
    (case lFo => k_is)
    (case cFo => k_is)
    (case kFo => k_is)
    (case fnFo => k_is)
    (case lRn => k_is)
    (case cRn => k_is)
    (case kRn => k_is)
    (case fnRn => k_is)
    (case gl_cRE => k_is)
    (case gExF => k_is)
    (case xExF => k_is)
    (case bExF => decide +kernel)
    (case saExF => k_is)
    (case gaExF => k_is)
    (case ggExF => k_is)
    (case nnExF => k_is)
    (case inExF => k_is)
    (case tyIxF => k_is)
    (case lIxF => k_is)
    (case cIxF => k_is)
    (case kIxF => k_is)
    (case kExF => k_is)
    (case exExF => k_is)
    (case tyExF => k_is)
    (case hdExF => k_is)
    (case sExF => first | rfl | k_is)
    (case clExF => k_is)
    (case moExF => k_is)
    (case q1 => kit_is)
    (case z_len => k_is)
    (case z_sum => k_is)
    (case z_int => k_is)
    (case z_range => k_is)
    (case z_isinstance => k_is)
    (case z_any => k_is)
    (case z_all => k_is)
    (case z_list => k_is)
    (case z_tuple => k_is)
    (case z_sorted => k_is)
    (case z_set => k_is)
    (case z_bool => k_is)
    (case z_ValueError => k_is)
    (case aLaw => k_is)
    (case lLaw => k_is)
    (case cLaw => k_is)
    (case kLaw => k_is)
