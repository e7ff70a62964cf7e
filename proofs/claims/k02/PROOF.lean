import PyProof.Rows.All
import Wide.All
import OpenK.AllK
import Wide.FinOn
import HandS.ForMost
import HandS.Exc
import HandS.ExcOwn
import HandS.ExcInit
import HandS.ExcField
import HandS.ExcIs
import HandS.TryOnly
import HandS.TryMany
import HandS.WordsExc
import HandS.CallSlots
import HandS.IsInst
import HandS.Codes
import HandS.Walk
import HandS.Steps
import HandS.StrMore
import HandS.Strs
import HandS.Zip
import PySem.Challenge.RW_redopages_k02_kinds_and_their_pairs
set_option Elab.async false
set_option linter.all false
set_option maxRecDepth 100000
set_option maxHeartbeats 4000000
/-! readings by named steps -/
namespace Fw
open PySem PySem.Spec L2

/-! ### a def of the top -/
structure Df (K : PySem.W.Frag) (mg : Str → Option Value) (nm qual : Str) (st : Stmt) (ps : List Str) where
  f : Addr
  fd : FuncData
  F : Fun K nm qual st f fd
  g : mg nm = some (.ref f)
  b : Binds K fd ps []
/-- a method: where it stands -/
structure Mf (K : PySem.W.Frag) (nm qual : Str) (st : Stmt) (ps : List Str) where
  f : Addr
  fd : FuncData
  F : Fun K nm qual st f fd
  b : Binds K fd ps []

section
variable {X : Cx}
/-! ### named relations -/
def rLtS : R2 := fun x y H Q => ∃ i j, x = .str i ∧ y = .str j ∧ Q (.bl (decide (i.cps.toList < j.cps.toList))) H
theorem op_ltS : OpR X (compareOp .Lt) rLtS := op_lt_str
def rLeS : R2 := fun x y H Q => ∃ i j, x = .str i ∧ y = .str j ∧ Q (.bl (!decide (j.cps.toList < i.cps.toList))) H
theorem op_leS : OpR X (compareOp .LtE) rLeS := op_le_str
def rLtA : R2 := fun x y H Q => rI0 (fun i j => .bl (decide (i < j))) x y H Q ∨ rLtS x y H Q
theorem op_ltA : OpR X (compareOp .Lt) rLtA := op_lt.or op_ltS
def rLeA : R2 := fun x y H Q => rI0 (fun i j => .bl (decide (i ≤ j))) x y H Q ∨ rLeS x y H Q
theorem op_leA : OpR X (compareOp .LtE) rLeA := op_le.or op_leS
def rGtI : R2 := rI0 fun i j => .bl (decide (j < i))
theorem op_gtI : OpR X (compareOp .Gt) rGtI := op_gt
def rGeI : R2 := rI0 fun i j => .bl (decide (j ≤ i))
theorem op_geI : OpR X (compareOp .GtE) rGeI := op_ge
def rAddA : R2 := fun x y H Q => rI0 (fun i j => .int (i + j)) x y H Q ∨ rAddS x y H Q ∨ rCat x y H Q
theorem op_addA : OpR X (binaryOp .Add) rAddA := op_add.or (OpR.or (r := rAddS) op_add_str op_cat)
def rSubI : R2 := rI0 fun i j => .int (i - j)
theorem op_subI : OpR X (binaryOp .Sub) rSubI := op_sub
def rModI : R2 := rI (fun _ j => 0 < j) fun i j => .int (i % j)
theorem op_modI : OpR X (binaryOp .Mod) rModI := op_mod
def rDivI : R2 := rI CDiv fun i j => .int (i / j)
theorem op_divI : OpR X (binaryOp .FloorDiv) rDivI := op_fdiv
def rPowI : R2 := rI CPow fun i j => .int (i ^ j.toNat)
theorem op_powI : OpR X (binaryOp .Pow) rPowI := op_pow
/-- == and != : of scalars, of data -/
def rEqA (K : PySem.W.Frag) : R2 := fun x y H Q => rEq x y H Q ∨ rEqD K x y H Q
def rNeA (K : PySem.W.Frag) : R2 := fun x y H Q => rNe x y H Q ∨ rNeD K x y H Q
theorem op_eqA (hu : X.A.units + 64 < cLine) : OpR X (compareOp .Eq) (rEqA X.K) := op_eq.or (op_eqD hu)
theorem op_neA (hu : X.A.units + 64 < cLine) : OpR X (compareOp .NotEq) (rNeA X.K) := op_ne.or (op_neD hu)
def rLenA (K : PySem.W.Frag) : List V → Hp → VK → Prop := fun xs H Q => ∃ x n, xs = [x] ∧ LenV K x H n ∧ Q (.int n) H
theorem call_lenA : CallR X (.builtin "len") (rLenA X.K) := call_len
def rInt1 : List V → Hp → VK → Prop := fun xs H Q => (∃ i, xs = [.int i] ∧ Q (.int i) H) ∨ ∃ k, xs = [.bl k] ∧ Q (.int (if k then 1 else 0)) H
theorem call_intA : CallR X (.type "int") rInt1 := call_int1
def rSlA (K : PySem.W.Frag) : V → Option Int → Option Int → Hp → VK → Prop := fun x lo hi H Q => rSlL K x lo hi H Q ∨ rSlS x lo hi H Q
theorem sl_any : SlR X (rSlA X.K) := sl_list.or sl_str
def rJoin (K : PySem.W.Frag) : V → List V → Hp → VK → Prop := fun x xs H Q => ∃ a p, ∃ ys : List Str, x = .str a ∧ xs = [.ref p] ∧ (SqL K H p (ys.map V.str) ∨ SqT K H p (ys.map V.str)) ∧
    (ys.map (·.length)).sum + ys.length * a.length ≤ 16777216 ∧ Q (.str (Txt.join a ys)) H
def rUpper : V → List V → Hp → VK → Prop := fun x xs H Q => ∃ a, x = .str a ∧ xs = [] ∧ a.length ≤ 5592405 ∧ Q (.str (Txt.upper a)) H
theorem pe_joinA {o e : Expr} {to te : TE} {apos pos : Pos} (ho : PE X o to) (he : PE X e te) (hs : starEach [e] X.env = [(false, eval e X.env)] := by rfl) (hbase : attributeBase o "join" X.env (eval o X.env) = eval o X.env := by rfl) (hline : (apos.endLine == pos.line) = true := by rfl) :
    PE X (.Call (.Attribute o "join" apos) [e] [] pos) (tM1 (rJoin X.K) to te) := pe_join ho he hs hbase hline
theorem pe_upperA {o : Expr} {to : TE} {apos pos : Pos} (ho : PE X o to) (hbase : attributeBase o "upper" X.env (eval o X.env) = eval o X.env := by rfl) (hline : (apos.endLine == pos.line) = true := by rfl) :
    PE X (.Call (.Attribute o "upper" apos) [] [] pos) (tM0 rUpper to) := pe_upper ho hbase hline

/-! ### calls of defs -/
theorem pe_cf {P : Program} {w : World} {K : PySem.W.Frag} {mg : Str → Option Value} {base : Heap} {nm q : Str} {st : Stmt} {ps : List Str} {CX : CXT} {k : Nat} {sp : Sp} {E : XK} {e : Expr} {es : List Expr} {t : TA} {p pos : Pos} (d : Df K mg nm q st ps) (F : FnOk P w K mg base CX k d.f d.fd ps sp) (hr : Room k X.A) (hx : Passes CX X E)
    (ha : PA X (e :: es) t) (h1 : X.prog = P := by rfl) (h2 : X.w = w := by rfl) (h3 : X.K = K := by rfl) (h4 : X.mg = mg := by rfl) (h5 : X.base = base := by rfl) (hg : Gl X nm := by rfl) (hd : (nm == ("__debug__" : Str)) = false := by decide) (he : starEach (e :: es) X.env = (false, eval e X.env) :: starEach es X.env := by rfl) (hpl : (backTo pos (starEach es X.env)).any (·.1) = false := by rfl) :
    PE X (.Call (.Name nm p) (e :: es) [] pos) (tCall sp [] E t) := by
  subst h1 h2 h3 h4 h5
  exact pe_call F hr hg d.g d.F.kp d.b .nil hx ha hd he hpl
end

/-! ### readings, step by step -/
namespace Rd
variable {K : PySem.W.Frag} {σ : St} {H : Hp} {Q : VK} {x y z v : V} {ta tb te tc to tx : TE} {t u : TS} {i j : Int} {a b p : Addr} {N : St → Hp → Prop} {r : VK} {bk ct : St → Hp → Prop} {g : Int → Int → V}
theorem var {i : Nat} (h : σ[i]? = some (some v)) (q : Q v H) : tVar i σ H Q := ⟨v, h, q⟩
theorem con (q : Q v H) : tC v σ H Q := q
theorem op {r : R2} (h : ta σ H fun x H1 => tb σ H1 fun y H2 => r x y H2 Q) : tOp r ta tb σ H Q := h
theorem i0 (q : Q (g i j) H) : rI0 g (.int i) (.int j) H Q := ⟨i, j, rfl, rfl, q⟩
theorem ii {C : Int → Int → Prop} (c : C i j) (q : Q (g i j) H) : rI C g (.int i) (.int j) H Q := ⟨i, j, rfl, rfl, c, q⟩
theorem addI (q : Q (.int (i + j)) H) : rAddA (.int i) (.int j) H Q := .inl ⟨i, j, rfl, rfl, q⟩
theorem addS {x y : Str} (h : x.length + y.length ≤ sizeLine) (q : Q (.str (x ++ y)) H) : rAddA (.str x) (.str y) H Q := .inr (.inl ⟨x, y, rfl, rfl, h, q⟩)
theorem addL {xs ys : List V} (h1 : H a = some (.lst xs)) (h2 : H b = some (.lst ys)) (hl : xs.length + ys.length ≤ sizeLine) (q : ∀ p, H p = none → Q (.ref p) (upd H p (.lst (xs ++ ys)))) : rAddA (.ref a) (.ref b) H Q :=
  .inr (.inr ⟨a, b, xs, ys, rfl, rfl, h1, h2, hl, q⟩)
theorem subI (q : Q (.int (i - j)) H) : rSubI (.int i) (.int j) H Q := ⟨i, j, rfl, rfl, q⟩
theorem modI (h : 0 < j) (q : Q (.int (i % j)) H) : rModI (.int i) (.int j) H Q := ⟨i, j, rfl, rfl, h, q⟩
theorem divI (h : CDiv i j) (q : Q (.int (i / j)) H) : rDivI (.int i) (.int j) H Q := ⟨i, j, rfl, rfl, h, q⟩
theorem powI (h : CPow i j) (q : Q (.int (i ^ j.toNat)) H) : rPowI (.int i) (.int j) H Q := ⟨i, j, rfl, rfl, h, q⟩
theorem gtI (q : Q (.bl (decide (j < i))) H) : rGtI (.int i) (.int j) H Q := ⟨i, j, rfl, rfl, q⟩
theorem geI (q : Q (.bl (decide (j ≤ i))) H) : rGeI (.int i) (.int j) H Q := ⟨i, j, rfl, rfl, q⟩
theorem ltI (q : Q (.bl (decide (i < j))) H) : rLtA (.int i) (.int j) H Q := .inl ⟨i, j, rfl, rfl, q⟩
theorem leI (q : Q (.bl (decide (i ≤ j))) H) : rLeA (.int i) (.int j) H Q := .inl ⟨i, j, rfl, rfl, q⟩
theorem ltS {x y : Str} (q : Q (.bl (decide (x.cps.toList < y.cps.toList))) H) : rLtA (.str x) (.str y) H Q := .inr ⟨x, y, rfl, rfl, q⟩
theorem leS {x y : Str} (q : Q (.bl (!decide (y.cps.toList < x.cps.toList))) H) : rLeA (.str x) (.str y) H Q := .inr ⟨x, y, rfl, rfl, q⟩
theorem eqI (q : Q (.bl (decide (i = j))) H) : rEqA K (.int i) (.int j) H Q := .inl ⟨rfl, by
  have e : decide (V.int i = V.int j) = decide (i = j) := decide_eq_decide.mpr ⟨fun z => V.int.inj z, fun z => by rw [z]⟩
  rw [e]; exact q⟩
theorem neI (q : Q (.bl (!decide (i = j))) H) : rNeA K (.int i) (.int j) H Q := .inl ⟨rfl, by
  have e : decide (V.int i = V.int j) = decide (i = j) := decide_eq_decide.mpr ⟨fun z => V.int.inj z, fun z => by rw [z]⟩
  rw [e]; exact q⟩
theorem eqS {x y : Str} (q : Q (.bl (decide (x = y))) H) : rEqA K (.str x) (.str y) H Q := .inl ⟨rfl, by
  have e : decide (V.str x = V.str y) = decide (x = y) := decide_eq_decide.mpr ⟨fun z => V.str.inj z, fun z => by rw [z]⟩
  rw [e]; exact q⟩
theorem neS {x y : Str} (q : Q (.bl (!decide (x = y))) H) : rNeA K (.str x) (.str y) H Q := .inl ⟨rfl, by
  have e : decide (V.str x = V.str y) = decide (x = y) := decide_eq_decide.mpr ⟨fun z => V.str.inj z, fun z => by rw [z]⟩
  rw [e]; exact q⟩
theorem eqD {d e : PyData} (h1 : Dp K H x d) (h2 : Dp K H y e) (s1 : SeqAt.shaped d = true) (s2 : SeqAt.shaped e = true) (q : Q (.bl (PyData.eqv d e)) H) : rEqA K x y H Q := .inr ⟨d, e, h1, h2, s1, s2, q⟩
theorem neD {d e : PyData} (h1 : Dp K H x d) (h2 : Dp K H y e) (s1 : SeqAt.shaped d = true) (s2 : SeqAt.shaped e = true) (q : Q (.bl (!PyData.eqv d e)) H) : rNeA K x y H Q := .inr ⟨d, e, h1, h2, s1, s2, q⟩
theorem int1 (q : Q (.int i) H) : rInt1 [.int i] H Q := .inl ⟨i, rfl, q⟩
theorem lenL {xs : List V} (h : SqL K H p xs) (q : Q (.int xs.length) H) : rLenA K [.ref p] H Q := ⟨_, _, rfl, .inl ⟨xs, h, rfl⟩, q⟩
theorem lenT {xs : List V} (h : SqT K H p xs) (q : Q (.int xs.length) H) : rLenA K [.ref p] H Q := ⟨_, _, rfl, .inr ⟨xs, h, rfl⟩, q⟩
theorem lenS {x : Str} (h : x.length ≤ sizeLine) (q : Q (.int x.length) H) : rLenA K [.str x] H Q := ⟨_, _, rfl, ⟨h, rfl⟩, q⟩
theorem ixL {xs : List V} (h : SqL K H p xs) (h2 : atI xs i = some v) (q : Q v H) : rIx K (.ref p) (.int i) H Q := .inl ⟨p, xs, i, v, rfl, rfl, h, h2, q⟩
theorem ixT {xs : List V} (h : SqT K H p xs) (h2 : atI xs i = some v) (q : Q v H) : rIx K (.ref p) (.int i) H Q := .inr (.inl ⟨p, xs, i, v, rfl, rfl, h, h2, q⟩)
theorem ixS {x : Str} {c : Nat} (h : x.length ≤ sizeLine) (h2 : atI x.cps.toList i = some c) (q : Q (.str ⟨#[c]⟩) H) : rIx K (.str x) (.int i) H Q := .inr (.inr ⟨x, i, c, rfl, rfl, h, h2, q⟩)
theorem slL {xs : List V} {lo hi : Option Int} (h : SqL K H a xs) (q : ∀ p, H p = none → Q (.ref p) (upd H p (.lst (cutV xs lo hi)))) : rSlA K (.ref a) lo hi H Q := .inl ⟨a, xs, rfl, h, q⟩
theorem slS {x : Str} {lo hi : Option Int} (h : x.length ≤ sizeLine) (q : Q (.str (cutS x lo hi)) H) : rSlA K (.str x) lo hi H Q := .inr ⟨x, rfl, h, q⟩
theorem sl {r : V → Option Int → Option Int → Hp → VK → Prop} {tl th : TO} (h : te σ H fun x H1 => tl σ H1 fun l H2 => th σ H2 fun u H3 => r x l u H3 Q) : tSl r te tl th σ H Q := h
theorem noPart {Q : Option Int → Hp → Prop} (q : Q none H) : tNoPart σ H Q := q
theorem part {Q : Option Int → Hp → Prop} (h : te σ H fun x H1 => ∃ i, x = .int i ∧ Q (some i) H1) : tPart te σ H Q := h
theorem exint {P : Int → Prop} (h : P i) : ∃ k, V.int i = .int k ∧ P k := ⟨i, rfl, h⟩
/-- tests -/
theorem test {Q : Bool → Hp → Prop} (h : te σ H fun x H' => ∃ k, x = .bl k ∧ Q k H') : tTest te σ H Q := h
theorem tbv {Q : Bool → Hp → Prop} (h : te σ H fun x H' => ∃ k, x = .bl k ∧ Q k H') : tB te σ H Q := h
theorem exbl {b : Bool} {P : Bool → Prop} (h : P b) : ∃ k, V.bl b = .bl k ∧ P k := ⟨b, rfl, h⟩
theorem yes {Q : Bool → Hp → Prop} (q : Q true H) : tYes σ H Q := q
theorem andT {t u : TT} {Q : Bool → Hp → Prop} (h : t σ H fun c H1 => if c = true then u σ H1 Q else Q false H1) : tAnd t u σ H Q := h
theorem orT {t u : TT} {Q : Bool → Hp → Prop} (h : t σ H fun c H1 => if c = true then Q true H1 else u σ H1 Q) : tOr t u σ H Q := h
theorem notT {t : TT} {Q : Bool → Hp → Prop} (h : t σ H fun c H1 => Q (!c) H1) : tNot t σ H Q := h
theorem andV (h : ta σ H fun x H1 => ∃ c, x = .bl c ∧ if c = true then tb σ H1 Q else Q (.bl false) H1) : tAndV ta tb σ H Q := h
theorem orV (h : ta σ H fun x H1 => ∃ c, x = .bl c ∧ if c = true then Q (.bl true) H1 else tb σ H1 Q) : tOrV ta tb σ H Q := h
theorem notV (h : ta σ H fun x H1 => ∃ c, x = .bl c ∧ Q (.bl (!c)) H1) : tNotV ta σ H Q := h
theorem chain {r r' : R2} (h : ta σ H fun x H1 => tb σ H1 fun y H2 => r x y H2 fun z H3 => ∃ k, z = .bl k ∧ (if k = true then tc σ H3 fun w' H4 => r' y w' H4 Q else Q (.bl false) H3)) : tChain r r' ta tb tc σ H Q := h
/-- statements -/
theorem seq (h : t (Ends.mk (u (Ends.mk N r bk ct)) r bk ct) σ H) : tSeq t u (Ends.mk N r bk ct) σ H := h
theorem asg {i : Nat} (h : te σ H fun x H1 => N (σ.set i (some x)) H1) : tAsg te (gName i) (Ends.mk N r bk ct) σ H := h
theorem drop (h : te σ H fun _ H1 => N σ H1) : tDrop te (Ends.mk N r bk ct) σ H := h
theorem ret (h : te σ H r) : tRet te (Ends.mk N r bk ct) σ H := h
theorem retN (h : r .non H) : tRetN (Ends.mk N r bk ct) σ H := h
theorem next (h : N σ H) : tNext (Ends.mk N r bk ct) σ H := h
theorem ifS {c : TT} (h : c σ H fun b H1 => if b = true then t (Ends.mk N r bk ct) σ H1 else u (Ends.mk N r bk ct) σ H1) : tIfS c t u (Ends.mk N r bk ct) σ H := h
theorem iteT {A B : Prop} (h : A) : if true = true then A else B := by rw [if_pos rfl]; exact h
theorem iteF {A B : Prop} (h : B) : if false = true then A else B := by rw [if_neg Bool.false_ne_true]; exact h
theorem iteNF {A B : Prop} (h : A) : if (!false) = true then A else B := h
theorem iteNT {A B : Prop} (h : B) : if (!true) = true then A else B := h
theorem iteD {c A B : Prop} [Decidable c] (h1 : c → A) (h2 : ¬ c → B) : if decide c = true then A else B := by
  by_cases h : c
  · rw [decide_eq_true h, if_pos rfl]; exact h1 h
  · rw [decide_eq_false h, if_neg Bool.false_ne_true]; exact h2 h
theorem iteN {c A B : Prop} [Decidable c] (h1 : ¬ c → A) (h2 : c → B) : if (!decide c) = true then A else B := by
  by_cases h : c
  · rw [decide_eq_true h]; rw [if_neg (by decide)]; exact h2 h
  · rw [decide_eq_false h]; rw [if_pos (by decide)]; exact h1 h
/-- calls, displays -/
theorem cons {tr : TA} {Q : List V → Hp → Prop} (h : ta σ H fun x H1 => tr σ H1 fun xs H2 => Q (x :: xs) H2) : tCons ta tr σ H Q := h
theorem nil {Q : List V → Hp → Prop} (q : Q [] H) : tNil σ H Q := q
theorem call {sp : Sp} {E : XK} {t : TA} (h : t σ H fun vs H1 => sp (vs ++ []) H1 Q E) : tCall sp [] E t σ H Q := h
theorem cb {r : List V → Hp → VK → Prop} {t : TA} (h : t σ H fun vs H1 => r vs H1 Q) : tCB r t σ H Q := h
theorem tup {t : TA} (h : t σ H fun xs H1 => xs.length ≤ sizeLine ∧ ∀ p, H1 p = none → Q (.ref p) (upd H1 p (.tup xs))) : tTup t σ H Q := h
theorem lst {t : TA} (h : t σ H fun xs H1 => xs.length ≤ sizeLine ∧ ∀ p, H1 p = none → Q (.ref p) (upd H1 p (.lst xs))) : tLst t σ H Q := h
theorem m0 {r : V → List V → Hp → VK → Prop} (h : to σ H fun x H1 => (∃ a, x = .str a) ∧ r x [] H1 Q) : tM0 r to σ H Q := h
theorem m1 {r : V → List V → Hp → VK → Prop} (h : to σ H fun x H1 => (∃ a, x = .str a) ∧ te σ H1 fun y H2 => r x [y] H2 Q) : tM1 r to te σ H Q := h
theorem isStr {x : Str} {A : Prop} (h : A) : (∃ a, V.str x = .str a) ∧ A := ⟨⟨x, rfl⟩, h⟩
theorem upper {x : Str} (h : x.length ≤ 5592405) (q : Q (.str (Txt.upper x)) H) : rUpper (.str x) [] H Q := ⟨x, rfl, rfl, h, q⟩
theorem join {x : Str} {ys : List Str} (h : SqL K H p (ys.map V.str)) (hz : (ys.map (·.length)).sum + ys.length * x.length ≤ 16777216) (q : Q (.str (Txt.join x ys)) H) : rJoin K (.str x) [.ref p] H Q := ⟨x, p, ys, rfl, rfl, .inl h, hz, q⟩
theorem fld {f : Str} (h : ta σ H fun x H1 => ∃ a C dx fs v, x = .ref a ∧ H1 a = some (.ins C dx fs) ∧ Cls K C ∧ NoAttr K C f ∧ fs.lookup f = some v ∧ Q v H1) : tFld K ta f σ H Q := h
theorem start_ {t : TS} {D : Ends} {σ' : St} (e : σ = σ') (h : t D σ' H) : t D σ H := by rw [e]; exact h
end Rd

/-- heaps -/
theorem same_new {H : Hp} {p : Addr} {o : HO} (h : H p = none) : Same H (upd H p o) := fun a u e => by
  rw [upd_ne (ne_of_none e h)]; exact e
theorem same_upd {H0 H : Hp} {p : Addr} {o : HO} (e : Same H0 H) (h : H0 p = none) : Same H0 (upd H p o) := fun a u ha => by
  rw [upd_ne (ne_of_none ha h)]; exact e a u ha
theorem Same.sqt {K : PySem.W.Frag} {H H' : Hp} {a : Addr} {xs : List V} (e : Same H H') (h : SqT K H a xs) : SqT K H' a xs := by
  rcases h with (h | ⟨o, h⟩) | h
  · exact .inl (.inl (e _ _ h))
  · exact .inl (.inr ⟨o, e _ _ h⟩)
  · exact .inr h
end Fw
namespace Fw
open PySem PySem.Spec L2
/-- the built-ins that the program leaves alone -/
structure Bt (mg : Str → Option Value) : Prop where
  len : mg "len" = none
  sum : mg "sum" = none
  int : mg "int" = none
  range : mg "range" = none
  isinstance : mg "isinstance" = none
  any : mg "any" = none
  all : mg "all" = none
  list : mg "list" = none
  tuple : mg "tuple" = none
  sorted : mg "sorted" = none
  set : mg "set" = none
  bool : mg "bool" = none
  ValueError : mg "ValueError" = none
section
variable {X : Cx}
def rMulS : R2 := fun x y H Q => ∃ z i, x = .str z ∧ y = .int i ∧ 0 ≤ i ∧ i < 1000 ∧ z.length ≤ 1000 ∧ Q (.str (Txt.mul z i)) H
theorem op_mulS : OpR X (binaryOp .Mult) rMulS := by
  intro pins s σ H x y v u Q I rx ry h
  obtain ⟨z, i, rfl, rfl, h0, h1, h2, q⟩ := h
  obtain ⟨t, rfl⟩ := rx
  obtain ⟨t', rfl⟩ := ry
  have e : i.toNat ≤ 1000 := by omega
  have hm : z.length * i.toNat ≤ 1000 * 1000 := Nat.mul_le_mul h2 e
  refine PySem.SB.mul ⟨?_, fun hn _ => ?_, fun hn _ => ?_⟩ fun t' k => ⟨.str _, H, I.tok k, ⟨t', rfl⟩, q⟩
  · rw [decide_eq_false (by omega), decide_eq_false (by omega)]; rfl
  · have hd : 1000 ≤ (2 ^ 63 - 1) / i := by
      rw [Int.le_ediv_iff_mul_le (by omega)]
      omega
    omega
  · show decide _ = false
    apply decide_eq_false
    have q : sizeLine = 16777216 := sizeLine_eq
    omega
def rMulA : R2 := fun x y H Q => rI CMul (fun i j => .int (i * j)) x y H Q ∨ rMulS x y H Q
theorem op_mulA : OpR X (binaryOp .Mult) rMulA := op_mul.or op_mulS
end
namespace Rd
variable {H : Hp} {Q : VK} {i j : Int} 
theorem mulI (h : CMul i j) (q : Q (.int (i * j)) H) : rMulA (.int i) (.int j) H Q := .inl ⟨i, j, rfl, rfl, h, q⟩
theorem mulS {z : Str} (h0 : 0 ≤ i) (h1 : i < 1000) (h2 : z.length ≤ 1000) (q : Q (.str (Txt.mul z i)) H) : rMulA (.str z) (.int i) H Q := .inr ⟨z, i, rfl, rfl, h0, h1, h2, q⟩
theorem asgSub {σ : St} {N : St → Hp → Prop} {r : VK} {bk ct : St → Hp → Prop} {te to ti : TE} {t : TSet} (h : te σ H fun v H1 => to σ H1 fun o H2 => ti σ H2 fun i H3 => t o i v H3 fun H4 => N σ H4) : tAsg te (gSub to ti t) (Ends.mk N r bk ct) σ H := h
theorem setL {p : Addr} {v : V} {xs : List V} {j : Nat} {Q : Hp → Prop} (h : H p = some (.lst xs)) (h2 : ixN xs.length i = some j) (q : Q (upd H p (.lst (xs.set j v)))) : rSetL (.ref p) (.int i) v H Q := ⟨p, xs, i, j, rfl, rfl, h, h2, q⟩
theorem sumL {K : PySem.W.Frag} {a : Addr} {ns : List Int} (h : SqL K H a (ns.map V.int)) (q : Q (.int ns.sum) H) : rSum K [.ref a] H Q := ⟨a, ns, rfl, h, q⟩
end Rd
end Fw
namespace Fw
open PySem PySem.Spec L2
/-- what is left of a comprehension, of a for, once the thing to walk is known -/
def LcGo (J : It) (g : TG) (tt : TT) (te : TE) (vs : List Nat) (σ : St) (H1 : Hp) (Q : VK) : Prop := tLc (fun _ H R => R J H) g tt te vs σ H1 Q
def FoGo (J : It) (g : TG) (tb : TS) (D : Ends) (σ : St) (H : Hp) : Prop := tFor (fun _ H R => R J H) g tb D σ H
abbrev Flat (Itm : Nat → V → Prop) : Nat → Hp → V → Hp → Prop := fun i H x H' => H' = H ∧ Itm i x
namespace Rd
variable {K : PySem.W.Frag} {σ : St} {H : Hp} {Q : VK} {te tl : TE} {ta : TA} {tt : TT} {g : TG} {vs : List Nat} {tb : TS} {D : Ends} {J : It} {n : Nat} {G : Hp → Prop} {Itm : Nat → V → Prop}
theorem lcL (h : tl σ H fun x H1 => ∃ a, x = .ref a ∧ (∃ xs, SqL K H1 a xs) ∧ LcGo (Itl K a) g tt te vs σ H1 Q) : tLc (iList K tl) g tt te vs σ H Q := h
theorem lcT (h : tl σ H fun x H1 => ∃ a, x = .ref a ∧ (∃ xs, SqT K H1 a xs) ∧ LcGo (Itt K a) g tt te vs σ H1 Q) : tLc (iTup K tl) g tt te vs σ H Q := h
theorem lcR (h : ta σ H fun us H1 => ∃ j : Int, us = [.int j] ∧ -(2 ^ 62) ≤ j ∧ j < 2 ^ 62 ∧ LcGo (Itr 0 j.toNat) g tt te vs σ H1 Q) : tLc (iRng1 ta) g tt te vs σ H Q := h
theorem lcS (h : tl σ H fun v H1 => ∃ x, v = .str x ∧ LcGo (Its x) g tt te vs σ H1 Q) : tLc (iStr tl) g tt te vs σ H Q := h
theorem foL (h : tl σ H fun x H1 => ∃ a, x = .ref a ∧ (∃ xs, SqL K H1 a xs) ∧ FoGo (Itl K a) g tb D σ H1) : tFor (iList K tl) g tb D σ H := h
theorem foT (h : tl σ H fun x H1 => ∃ a, x = .ref a ∧ (∃ xs, SqT K H1 a xs) ∧ FoGo (Itt K a) g tb D σ H1) : tFor (iTup K tl) g tb D σ H := h
theorem foR (h : ta σ H fun us H1 => ∃ j : Int, us = [.int j] ∧ -(2 ^ 62) ≤ j ∧ j < 2 ^ 62 ∧ FoGo (Itr 0 j.toNat) g tb D σ H1) : tFor (iRng1 ta) g tb D σ H := h
theorem exrange {i : Int} {P : Int → Prop} (h1 : -(2 ^ 62) ≤ i) (h2 : i < 2 ^ 62) (h : P i) : ∃ j : Int, [V.int i] = [.int j] ∧ -(2 ^ 62) ≤ j ∧ j < 2 ^ 62 ∧ P j := ⟨i, rfl, h1, h2, h⟩
theorem exstr {x : Str} {P : Str → Prop} (h : P x) : ∃ z, V.str x = .str z ∧ P z := ⟨x, rfl, h⟩
theorem exlist {a : Addr} {xs : List V} {P : Addr → Prop} (hs : SqL K H a xs) (h : P a) : ∃ b, V.ref a = .ref b ∧ (∃ xs, SqL K H b xs) ∧ P b := ⟨a, rfl, ⟨xs, hs⟩, h⟩
theorem extup {a : Addr} {xs : List V} {P : Addr → Prop} (hs : SqT K H a xs) (h : P a) : ∃ b, V.ref a = .ref b ∧ (∃ xs, SqT K H b xs) ∧ P b := ⟨a, rfl, ⟨xs, hs⟩, h⟩
/-- a comprehension: Jv by turn, items made and heap -/
theorem lcW {s : Nat} (w : Walk J n G (Flat Itm)) (hn : n < sizeLine) (Jv : Nat → List V → Hp → Prop) (h0 : Jv 0 [] H)
    (hst : ∀ D, H D = none → ∀ i acc ys H', Jv i acc H' → Jv i acc (upd H' D (.lst ys))) (hG : ∀ i acc H', i ≤ n → Jv i acc H' → G H')
    (step : ∀ D, H D = none → ∀ i x acc H', i < n → Itm i x → H' D = some (.lst acc) → acc.length ≤ i → Jv i acc H' → ∀ (Kt : V → Hp → Prop) (Kf : Hp → Prop), (∀ y H4, H4 D = some (.lst acc) → Jv (i + 1) (acc ++ [y]) H4 → Kt y H4) → (∀ H3, H3 D = some (.lst acc) → Jv (i + 1) acc H3 → Kf H3) →
      tt ((σ.set s none).set s (some x)) H' fun b H3 => if b = true then te ((σ.set s none).set s (some x)) H3 Kt else Kf H3)
    (fin : ∀ D acc H', H D = none → H' D = some (.lst acc) → acc.length ≤ n → Jv n acc H' → Q (.ref D) H') : LcGo J (gName s) tt te [s] σ H Q := by
  intro D hD
  refine lc_it w (fun i H' => ∃ acc, H' D = some (.lst acc) ∧ acc.length ≤ i ∧ Jv i acc H') ⟨[], upd_same, Nat.le_refl _, hst D hD _ _ _ _ h0⟩ (fun i H' hi ⟨acc, _, _, j⟩ => hG i acc H' hi j) ?_ (fun H' ⟨acc, a1, a2, a3⟩ => fin D acc H' hD a1 a2 a3)
  rintro i x H' H2 hi ⟨acc, a1, a2, a3⟩ ⟨rfl, hx⟩
  show wipe (((wipe σ [s])).set s (some x)) [s] = wipe σ [s] ∧ _
  refine ⟨?_, ?_⟩
  · show ((σ.set s none).set s (some x)).set s none = σ.set s none
    rw [List.set_set, List.set_set]
  · exact step D hD i x acc _ hi hx a1 a2 a3 _ _
      (fun y H4 b1 b2 => ⟨acc, b1, Nat.lt_of_le_of_lt a2 (Nat.lt_trans hi hn), acc ++ [y], upd_same, by rw [List.length_append, List.length_singleton]; omega, hst D hD _ _ _ _ b2⟩)
      (fun H3 b1 b2 => ⟨acc, b1, Nat.le_succ_of_le a2, b2⟩)
/-- a for: Pv by turn, slots and heap -/
theorem foW {s : Nat} {N : St → Hp → Prop} {r : VK} {bk ct : St → Hp → Prop} (w : Walk J n G (Flat Itm)) (Pv : Nat → St → Hp → Prop) (h0 : Pv 0 σ H) (hG : ∀ i σ H, i ≤ n → Pv i σ H → G H)
    (step : ∀ i x σ H, i < n → Itm i x → Pv i σ H → tb (Ends.mk (Pv (i + 1)) r N (Pv (i + 1))) (σ.set s (some x)) H) (fin : ∀ σ H, Pv n σ H → N σ H) : FoGo J (gName s) tb (Ends.mk N r bk ct) σ H :=
  for_it w Pv h0 hG (fun i x σ H H' hi p ⟨e, hx⟩ => by subst e; exact step i x σ _ hi hx p) fin
theorem wList {a : Addr} {xs : List V} : Walk (Itl K a) xs.length (fun H => SqL K H a xs) (Flat fun i x => xs[i]? = some x) := walk_list
theorem wTup {a : Addr} {xs : List V} : Walk (Itt K a) xs.length (fun H => SqT K H a xs) (Flat fun i x => xs[i]? = some x) := walk_tup
theorem wRange {n : Nat} : Walk (Itr 0 n) n (fun _ => True) (Flat fun i x => x = .int (0 + i)) := walk_range
theorem wStr {z : Str} : Walk (Its z) z.cps.size (fun _ => True) (Flat fun i v => ∃ c, z.cps[i]? = some c ∧ v = .str ⟨#[c]⟩) := walk_str
end Rd
end Fw
namespace Fw
open PySem PySem.Spec L2
section
variable {X : Cx} (K : PySem.W.Frag)
theorem kix (h : X.K = K := by rfl) : IxR X (rIx K) := by subst h; exact ix_seq
theorem keq (hu : X.A.units + 64 < cLine) (h : X.K = K := by rfl) : OpR X (compareOp .Eq) (rEqA K) := by subst h; exact op_eqA hu
theorem kne (hu : X.A.units + 64 < cLine) (h : X.K = K := by rfl) : OpR X (compareOp .NotEq) (rNeA K) := by subst h; exact op_neA hu
theorem klen (h : X.K = K := by rfl) : CallR X (.builtin "len") (rLenA K) := by subst h; exact call_lenA
theorem ksum (hc : X.calm = true := by rfl) (h : X.K = K := by rfl) : CallR X (.builtin "sum") (rSum K) := by subst h; exact cr_sum hc
theorem kany (hc : X.calm = true := by rfl) (h : X.K = K := by rfl) : CallR X (.builtin "any") (rAny K) := by subst h; exact cr_any hc
theorem kall (hc : X.calm = true := by rfl) (h : X.K = K := by rfl) : CallR X (.builtin "all") (rAll K) := by subst h; exact cr_all hc
theorem kisi (h : X.K = K := by rfl) : CallR X (.builtin "isinstance") (rIsi K) := by subst h; exact call_isi
def rListOf (K : PySem.W.Frag) : List V → Hp → VK → Prop := fun xs H Q => ∃ p ys, xs = [.ref p] ∧ (SqL K H p ys ∨ SqT K H p ys) ∧ ∀ l, H l = none → Q (.ref l) (upd H l (.lst ys))
def rTupOf (K : PySem.W.Frag) : List V → Hp → VK → Prop := fun xs H Q => ∃ p ys, xs = [.ref p] ∧ ((SqL K H p ys ∧ ∀ l, H l = none → Q (.ref l) (upd H l (.tup ys))) ∨ (SqT K H p ys ∧ Q (.ref p) H))
theorem klist (h : X.K = K := by rfl) : CallR X (.type "list") (rListOf K) := by subst h; exact call_list_of
theorem ktuple (h : X.K = K := by rfl) : CallR X (.type "tuple") (rTupOf K) := by subst h; exact call_tuple_of
theorem ksl (h : X.K = K := by rfl) : SlR X (rSlA K) := by subst h; exact sl_any
theorem kin (h : X.K = K := by rfl) : OpR X (compareOp .In) (rIn K false) := by subst h; exact op_in_seq
theorem knin (h : X.K = K := by rfl) : OpR X (compareOp .NotIn) (rIn K true) := by subst h; exact op_notIn_seq
theorem kpl {tg l : Expr} {tl : TE} (hl : PE X l tl) (h : X.K = K := by rfl) : PI X tg l (iList K tl) := by subst h; exact pi_list hl
theorem kpt {tg l : Expr} {tl : TE} (hl : PE X l tl) (h : X.K = K := by rfl) : PI X tg l (iTup K tl) := by subst h; exact pi_tup hl
theorem kjoin {o e : Expr} {to te : TE} {apos pos : Pos} (ho : PE X o to) (he : PE X e te) (h : X.K = K := by rfl) (hs : starEach [e] X.env = [(false, eval e X.env)] := by rfl) (hbase : attributeBase o "join" X.env (eval o X.env) = eval o X.env := by rfl) (hline : (apos.endLine == pos.line) = true := by rfl) :
    PE X (.Call (.Attribute o "join" apos) [e] [] pos) (tM1 (rJoin K) to te) := by subst h; exact pe_joinA ho he hs hbase hline
theorem kfld {e : Expr} {f : Str} {ta : TE} {pos : Pos} (he : PE X e ta) (h : X.K = K := by rfl) (hb : attributeBase e f X.env (eval e X.env) = eval e X.env := by rfl) : PE X (.Attribute e f pos) (tFld K ta f) := by subst h; exact pe_fld he hb
theorem kcon {e : Expr} {f : Str} {ta : TE} {pos : Pos} (he : PE X e ta) (h : X.K = K := by rfl) (hb : attributeBase e f X.env (eval e X.env) = eval e X.env := by rfl) : PE X (.Attribute e f pos) (tCon K ta f) := by subst h; exact pe_con he hb
end
namespace Rd
variable {K : PySem.W.Frag} {H : Hp} {Q : VK} {p : Addr}
theorem listL {ys : List V} (h : SqL K H p ys) (q : ∀ l, H l = none → Q (.ref l) (upd H l (.lst ys))) : rListOf K [.ref p] H Q := ⟨p, ys, rfl, .inl h, q⟩
theorem listT {ys : List V} (h : SqT K H p ys) (q : ∀ l, H l = none → Q (.ref l) (upd H l (.lst ys))) : rListOf K [.ref p] H Q := ⟨p, ys, rfl, .inr h, q⟩
theorem tupL {ys : List V} (h : SqL K H p ys) (q : ∀ l, H l = none → Q (.ref l) (upd H l (.tup ys))) : rTupOf K [.ref p] H Q := ⟨p, ys, rfl, .inl ⟨h, q⟩⟩
theorem tupT {ys : List V} (h : SqT K H p ys) (q : Q (.ref p) H) : rTupOf K [.ref p] H Q := ⟨p, ys, rfl, .inr ⟨h, q⟩⟩
/-- xs.append(y) -/
theorem bm {T : String} {r : V → List V → Hp → VK → Prop} {to : TE} {t : TA} {σ : St} (h : to σ H fun x H1 => tyV K T x H1 ∧ t σ H1 fun xs H2 => r x xs H2 Q) : tBM K T r to t σ H Q := h
theorem tyL {xs : List V} {A : Prop} (h : H p = some (.lst xs)) (q : A) : tyV K "list" (.ref p) H ∧ A := ⟨.inl ⟨rfl, _, SqL.of h⟩, q⟩
theorem append {xs : List V} {y : V} (h : H p = some (.lst xs)) (hl : xs.length < sizeLine) (q : Q .non (upd H p (.lst (xs ++ [y])))) : rAppend (.ref p) [y] H Q := ⟨p, xs, y, rfl, rfl, h, hl, q⟩
end Rd
end Fw

namespace Fw
open PySem PySem.Spec L2
theorem kapp {X : Cx} (K : PySem.W.Frag) {o e : Expr} {to : TE} {t : TA} {apos cpos : Pos} (ho : PE X o to) (ha : PA X [e] t) (h : X.K = K := by rfl)
    (hbase : attributeBase o "append" X.env (eval o X.env) = eval o X.env := by rfl)
    (hfew : ((backTo cpos (starEach [e] X.env)).all (fun x => !x.1) && (backToKw cpos (keywordEach [] X.env)).all (fun x => x.1.isSome)
      && decide (([e] : List Expr).length + ([] : List Keyword).length + (if ([] : List Keyword).isEmpty then 0 else 1) < 30)) = true := by rfl)
    (hline : (apos.endLine == cpos.line) = true := by rfl) (hs : starEach [e] X.env = (false, eval e X.env) :: starEach [] X.env := by rfl) (hplain : (backTo cpos (starEach [] X.env)).any (·.1) = false := by rfl) :
    PE X (.Call (.Attribute o "append" apos) [e] [] cpos) (tBM K "list" rAppend to t) := by
  subst h
  exact pe_bm PySem.F.plainAttrs_list PySem.F.slot_list_append PySem.F.type_list_append mt_append ho ha hbase hfew hline hs hplain
end Fw

namespace Fw
open PySem PySem.Spec L2
abbrev S (l : List Nat) : Str := ⟨l.toArray⟩
theorem pe_lit {X : Cx} (l : List Nat) {x : Str} {j pos} (h : x = S l) : PE X (.Constant (.str x) j pos) (tC (.str (S l))) := by subst h; exact pe_str
theorem dec_S {a b : List Nat} : decide (S a = S b) = decide (a = b) := decide_eq_decide.mpr ⟨fun h => SX.S_inj h, fun h => by rw [h]⟩
theorem sIx_ge {n d : Nat} {i : Int} (h : 0 ≤ i) : HT.sIx n d (some i) = min i.toNat n := by
  have e : i = ((i.toNat : Nat) : Int) := by omega
  rw [e, HT.sIx_nat]
  rfl
theorem cut_to {l : List Nat} {i : Int} (h : 0 ≤ i) : cutS (S l) none (some i) = S (l.take i.toNat) := by
  show (⟨((l.toArray.toList.drop 0).take (HT.sIx l.toArray.size l.toArray.size (some i) - 0)).toArray⟩ : Str) = ⟨(l.take i.toNat).toArray⟩
  rw [sIx_ge h, List.drop_zero, Nat.sub_zero, List.size_toArray]
  show (⟨(l.take (min i.toNat l.length)).toArray⟩ : Str) = ⟨(l.take i.toNat).toArray⟩
  by_cases hl : i.toNat ≤ l.length
  · rw [Nat.min_eq_left hl]
  · have e1 : min i.toNat l.length = l.length := by omega
    have e2 : l.take i.toNat = l := List.take_of_length_le (by omega)
    rw [e1, e2, List.take_length]
theorem cut_fromto {l : List Nat} {i j : Int} (h : 0 ≤ i) (h2 : 0 ≤ j) : cutS (S l) (some i) (some j) = S ((l.drop i.toNat).take (j.toNat - i.toNat)) := by
  show (⟨((l.toArray.toList.drop (HT.sIx l.toArray.size 0 (some i))).take (HT.sIx l.toArray.size l.toArray.size (some j) - HT.sIx l.toArray.size 0 (some i))).toArray⟩ : Str) = _
  rw [sIx_ge h, sIx_ge h2, List.size_toArray]
  show (⟨((l.drop (min i.toNat l.length)).take (min j.toNat l.length - min i.toNat l.length)).toArray⟩ : Str) = ⟨((l.drop i.toNat).take (j.toNat - i.toNat)).toArray⟩
  by_cases hl : i.toNat ≤ l.length
  · rw [Nat.min_eq_left hl]
    by_cases hj : j.toNat ≤ l.length
    · rw [Nat.min_eq_left hj]
    · have e1 : min j.toNat l.length = l.length := by omega
      have e2 : (l.drop i.toNat).take (l.length - i.toNat) = l.drop i.toNat := List.take_of_length_le (by rw [List.length_drop]; omega)
      have e3 : (l.drop i.toNat).take (j.toNat - i.toNat) = l.drop i.toNat := List.take_of_length_le (by rw [List.length_drop]; omega)
      rw [e1, e2, e3]
  · have e1 : min i.toNat l.length = l.length := by omega
    have e2 : l.drop i.toNat = [] := List.drop_of_length_le (by omega)
    have e3 : l.drop l.length = [] := List.drop_of_length_le (Nat.le_refl _)
    rw [e1, e2, e3, List.take_nil, List.take_nil]
theorem cut_from {l : List Nat} {i : Int} (h : 0 ≤ i) : cutS (S l) (some i) none = S (l.drop i.toNat) := by
  show (⟨((l.toArray.toList.drop (HT.sIx l.toArray.size 0 (some i))).take (l.toArray.size - HT.sIx l.toArray.size 0 (some i))).toArray⟩ : Str) = _
  rw [sIx_ge h, List.size_toArray]
  show (⟨((l.drop (min i.toNat l.length)).take (l.length - min i.toNat l.length)).toArray⟩ : Str) = ⟨(l.drop i.toNat).toArray⟩
  have e2 : (l.drop (min i.toNat l.length)).take (l.length - min i.toNat l.length) = l.drop (min i.toNat l.length) := List.take_of_length_le (by rw [List.length_drop]; omega)
  rw [e2]
  by_cases hl : i.toNat ≤ l.length
  · rw [Nat.min_eq_left hl]
  · have e1 : min i.toNat l.length = l.length := by omega
    have e2 : l.drop i.toNat = [] := List.drop_of_length_le (by omega)
    have e3 : l.drop l.length = [] := List.drop_of_length_le (Nat.le_refl _)
    rw [e1, e2, e3]
theorem foldl_cps (l : List Nat) : ∀ (n : Nat) (acc : Array Nat), ((List.replicate n l.toArray).foldl (· ++ ·) acc).toList = acc.toList ++ (List.replicate n l).flatten
  | 0, acc => by simp
  | n + 1, acc => by
    rw [List.replicate_succ, List.foldl_cons, foldl_cps l n]
    simp [List.replicate_succ]
theorem mul_S {l : List Nat} {n : Int} (h : 1 < n) (hl : 1 ≤ l.length) : Txt.mul (S l) n = S ((List.replicate n.toNat l).flatten) := by
  unfold Txt.mul
  rw [if_neg (by omega), if_neg]
  · have e := foldl_cps l n.toNat #[]
    rw [List.nil_append] at e
    show (⟨(List.replicate n.toNat l.toArray).foldl (· ++ ·) #[]⟩ : Str) = ⟨_⟩
    congr 1
    rw [← e]
  · intro z
    rw [Bool.or_eq_true] at z
    rcases z with z | z
    · have := eq_of_beq z; omega
    · have := eq_of_beq z
      rw [SX.S_len] at this
      omega
theorem rep_len (l : List Nat) (n : Nat) : ((List.replicate n l).flatten).length = n * l.length := by
  induction n with
  | zero => simp
  | succ n ih => rw [List.replicate_succ, List.flatten_cons, List.length_append, ih, Nat.succ_mul, Nat.add_comm]
namespace RS
theorem mul {H : Hp} {Q : VK} {i : Int} {l : List Nat} (h : 1 < i) (h1 : i < 1000) (hl : 1 ≤ l.length) (h2 : l.length ≤ 1000) (q : Q (.str (S ((List.replicate i.toNat l).flatten))) H) : rMulA (.str (S l)) (.int i) H Q :=
  Rd.mulS (by omega) h1 (by show l.toArray.size ≤ _; rw [List.size_toArray]; exact h2) (by rw [mul_S h hl]; exact q)
variable {H : Hp} {Q : VK} {i j : Int} {l a b : List Nat}
theorem len_S {l : List Nat} (h : l.length ≤ 1000) : (S l).length ≤ sizeLine := by
  have q : sizeLine = 16777216 := sizeLine_eq
  show l.toArray.size ≤ _
  rw [List.size_toArray]; omega
theorem slTo {K : PySem.W.Frag} (h : 0 ≤ i) (hl : l.length ≤ 1000) (q : Q (.str (S (l.take i.toNat))) H) : rSlA K (.str (S l)) none (some i) H Q := Rd.slS (len_S hl) (by rw [cut_to h]; exact q)
theorem slFrom {K : PySem.W.Frag} (h : 0 ≤ i) (hl : l.length ≤ 1000) (q : Q (.str (S (l.drop i.toNat))) H) : rSlA K (.str (S l)) (some i) none H Q := Rd.slS (len_S hl) (by rw [cut_from h]; exact q)
theorem slFT {K : PySem.W.Frag} (h : 0 ≤ i) (h2 : 0 ≤ j) (hl : l.length ≤ 1000) (q : Q (.str (S ((l.drop i.toNat).take (j.toNat - i.toNat)))) H) : rSlA K (.str (S l)) (some i) (some j) H Q := Rd.slS (len_S hl) (by rw [cut_fromto h h2]; exact q)
theorem add (h : a.length + b.length ≤ 1000) (q : Q (.str (S (a ++ b))) H) : rAddA (.str (S a)) (.str (S b)) H Q := by
  refine Rd.addS ?_ ?_
  · have q : sizeLine = 16777216 := sizeLine_eq
    show a.toArray.size + b.toArray.size ≤ _
    rw [List.size_toArray, List.size_toArray]; omega
  · rw [SX.S_cat]; exact q
theorem eq {K : PySem.W.Frag} (q : Q (.bl (decide (a = b))) H) : rEqA K (.str (S a)) (.str (S b)) H Q := Rd.eqS (by rw [dec_S]; exact q)
theorem ne {K : PySem.W.Frag} (q : Q (.bl (!decide (a = b))) H) : rNeA K (.str (S a)) (.str (S b)) H Q := Rd.neS (by rw [dec_S]; exact q)
theorem ix {K : PySem.W.Frag} {c : Nat} (h : l.length ≤ 1000) (h2 : atI l i = some c) (q : Q (.str (S [c])) H) : rIx K (.str (S l)) (.int i) H Q := Rd.ixS (len_S h) h2 q
theorem upper (h : l.all (· < 128) = true) (hl : l.length ≤ 1000) (q : Q (.str (S (l.map PyProof.Rows.up1))) H) : rUpper (.str (S l)) [] H Q := ⟨_, rfl, rfl, by
  show l.toArray.size ≤ _
  rw [List.size_toArray]; omega, by rw [SX.upper_S h]; exact q⟩
theorem len {K : PySem.W.Frag} (h : l.length ≤ 1000) (q : Q (.int l.length) H) : rLenA K [.str (S l)] H Q := Rd.lenS (len_S h) (by
  have e : (S l).length = l.length := SX.S_len l
  rw [e]; exact q)
end RS
end Fw

namespace Fw
open PySem PySem.Spec L2
/-- an own error class over ValueError, its __init__ one that stores its argument as fld -/
structure Er (K : PySem.W.Frag) (mg : Str → Option Value) (nm qual fld : Str) (st : Stmt) where
  C : Addr
  f : Addr
  fd : FuncData
  T : OexC K C
  iC : PySem.W.findIn K (.ref C) "__init__" = some (some (.ref f))
  tI : PySem.W.typeIn K (.ref f) = some (.type "function")
  g : mg nm = some (.ref C)
  no : PySem.W.findIn K (.ref C) fld = some none
  F : Fun K "__init__" qual st f fd
  b : Binds K fd ["self", fld] []
  xf : XfC K C
  xc : ExcC K C
  te : PySem.W.exmOne K (.ref C) (.ref C) = some true
/-- what such an __init__ keeps -/
def spErI (C : Addr) (fld : Str) : Sp := fun vs H Q _ => ∃ (a : Addr) (v : V), vs = [.ref a, v] ∧ H a = some (exo a C none) ∧ ∀ dx, H dx = none → dx ≠ a → Q .non (upd (upd H dx (exd dx [(fld, v)])) a (exo a C (some dx)))
theorem kost {X : Cx} (K : PySem.W.Frag) {o e : Expr} {to te : TE} {f : Str} {p' pos : Pos} (ho : PE X o to) (he : PE X e te) (h : X.K = K := by rfl) (hs : swapsWith e (some (.Attribute o f p')) pos.line X.env = pure false := by rfl) : PS X (.Assign [.Attribute o f p'] e pos) (tOst K f to te) := by
  subst h; exact ps_ost ho he hs
section
variable {X : Cx}
theorem pmk_er {P : Program} {w : World} {K : PySem.W.Frag} {mg : Str → Option Value} {base : Heap} {nm qual fld : Str} {st : Stmt} {k : Nat} {e : Expr} {es : List Expr} {ta : TA} {p pos : Pos} (r : Er K mg nm qual fld st) (F1 : FnOk P w K mg base CX0 k r.f r.fd ["self", fld] (spErI r.C fld)) (hr : Room (k + 1) X.A) (ha : PA X (e :: es) ta)
    (h1 : X.prog = P := by rfl) (h2 : X.w = w := by rfl) (h3 : X.K = K := by rfl) (h4 : X.mg = mg := by rfl) (h5 : X.base = base := by rfl) (hg : Gl X nm := by rfl)
    (hdb : (nm == ("__debug__" : Str)) = false := by decide) (he : starEach (e :: es) X.env = (false, eval e X.env) :: starEach es X.env := by rfl) (hpl : (backTo pos (starEach es X.env)).any (·.1) = false := by rfl) :
    PMk X (.Call (.Name nm p) (e :: es) [] pos) (tMkO r.C (spErI r.C fld) [] ta) := by
  subst h1 h2 h3 h4 h5
  exact pmk_oex (pos := pos) (p := p) r.T r.iC r.tI F1 hr r.b .nil pass0 hg r.g ha hdb he hpl
end
/-- what is left of raise C(v) -/
def ErGo (C : Addr) (fld : Str) (vs : List V) (H1 : Hp) (Q : XK) : Prop := vs.length ≤ 1000 ∧ ∀ a, H1 a = none → spErI C fld (.ref a :: (vs ++ [])) (upd H1 a (exo a C none))
  (fun v H2 => v = .non ∧ ∃ (d : Addr) (fs : List (Str × V)), H2 a = some (exo a C (some d)) ∧ H2 d = some (exd d fs) ∧ H1 d = none ∧ Q (.ref C) (some d) (upd (del H2 a) d (.xd fs))) (fun _ _ _ => False)
namespace Rd
theorem raise {t : St → Hp → XK → Prop} {W : WX} {σ : St} {H : Hp} {N : St → Hp → Prop} {r : VK} {bk ct : St → Hp → Prop} (h : t σ H fun cls d H' => W cls d σ H') : (fun (_ : Ends) (σ : St) (H : Hp) => t σ H fun cls d H' => W cls d σ H') (Ends.mk N r bk ct) σ H := h
theorem mko {C : Addr} {fld : Str} {ta : TA} {σ : St} {H : Hp} {Q : XK} (h : ta σ H fun vs H1 => ErGo C fld vs H1 Q) : tMkO C (spErI C fld) [] ta σ H Q := h
theorem erGo {C : Addr} {fld : Str} {v : V} {H1 : Hp} {Q : XK} (q : ∀ d, H1 d = none → Q (.ref C) (some d) (upd H1 d (.xd [(fld, v)]))) : ErGo C fld [v] H1 Q := by
  refine ⟨Nat.succ_le_succ (Nat.zero_le _), fun a ha => ⟨a, v, rfl, upd_same, fun dx hx ne => ⟨rfl, dx, [(fld, v)], upd_same, by rw [upd_ne ne]; exact upd_same, ?_, ?_⟩⟩⟩
  · rw [upd_ne ne] at hx; exact hx
  · rw [upd_ne ne] at hx
    have e2 : upd (del (upd (upd (upd H1 a (exo a C none)) dx (exd dx [(fld, v)])) a (exo a C (some dx))) a) dx (.xd [(fld, v)]) = upd H1 dx (.xd [(fld, v)]) := by
      funext b
      by_cases hb : b = dx
      · rw [hb, upd_same, upd_same]
      · rw [upd_ne hb, upd_ne hb]
        by_cases hb2 : b = a
        · rw [hb2, del_same, ha]
        · rw [del_ne hb2, upd_ne hb2, upd_ne hb, upd_ne hb2]
    rw [e2]
    exact q dx hx
/-- self.f = v in such an __init__ -/
theorem ost {K : PySem.W.Frag} {f : Str} {to te : TE} {σ : St} {H : Hp} {N : St → Hp → Prop} {r : VK} {bk ct : St → Hp → Prop} (h : te σ H fun y H1 => to σ H1 fun x H2 => ∃ a C : Addr, x = .ref a ∧ OexC K C ∧ PySem.W.findIn K (.ref C) f = some none ∧
  ((H2 a = some (exo a C none) ∧ ∀ dx, H2 dx = none → dx ≠ a → N σ (upd (upd H2 dx (exd dx [(f, y)])) a (exo a C (some dx)))) ∨
    ∃ (dx : Addr) (fs : List (Str × V)), H2 a = some (exo a C (some dx)) ∧ H2 dx = some (exd dx fs) ∧ fs.length ≤ 900 ∧ N σ (upd H2 dx (exd dx ((f, y) :: fs))))) : tOst K f to te (Ends.mk N r bk ct) σ H := h
theorem leC {H : Hp} {Q : VK} {a b : Nat} (q : Q (.bl (decide (a ≤ b))) H) : rLeA (.str (S [a])) (.str (S [b])) H Q := by
  refine Rd.leS ?_
  have e : (!decide ((S [b]).cps.toList < (S [a]).cps.toList)) = decide (a ≤ b) := by
    show (!decide ([b] < [a])) = decide (a ≤ b)
    by_cases h : a ≤ b
    · have n : ¬ [b] < [a] := by
        intro z
        cases z with
        | rel z => have z' : b < a := z; omega
        | cons z => cases z
      rw [decide_eq_true h, decide_eq_false n]; rfl
    · have n : [b] < [a] := List.Lex.rel (show b < a by omega)
      rw [decide_eq_false h, decide_eq_true n]; rfl
  rw [e]; exact q
end Rd
end Fw

namespace Fw
open PySem PySem.Spec L2
/-- what is left of C(..) -/
def MkGo (C : Addr) (sp : Sp) (vs : List V) (H1 : Hp) (Q : VK) (E : XK) : Prop := ∀ x dx, H1 x = none → H1 dx = none → dx ≠ x → sp (.ref x :: (vs ++ [])) (upd (upd H1 dx (.own x)) x (.ins C dx [])) (fun v H2 => v = .non ∧ Q (.ref x) H2) E

namespace Rd
variable {K : PySem.W.Frag} {σ : St} {H : Hp} {Q : VK} {te to ta tv : TE} {t : TA} {N : St → Hp → Prop} {r : VK} {bk ct : St → Hp → Prop}
theorem make {C : Addr} {sp : Sp} {E : XK} (h : t σ H fun vs H1 => MkGo C sp vs H1 Q E) : tMake C sp [] E t σ H Q := h
theorem meth {C : Addr} {m : Str} {sp : Sp} {E : XK} (h : ta σ H fun x H1 => ∃ a dx fs, x = .ref a ∧ H1 a = some (.ins C dx fs) ∧ fs.lookup m = none ∧ t σ H1 fun vs H2 => sp (x :: (vs ++ [])) H2 Q E) : tMeth C m sp [] E ta t σ H Q := h
theorem sfld {f : Str} (h : tv σ H fun y H1 => ta σ H1 fun x H2 => ∃ a C dx fs, x = .ref a ∧ H2 a = some (.ins C dx fs) ∧ Cls K C ∧ NoAttr K C f ∧ fs.length < 1000 ∧ N σ (upd H2 a (.ins C dx (putF f y fs)))) : sFld K ta tv f (Ends.mk N r bk ct) σ H := h
theorem con_ {f : Str} (h : ta σ H fun x H1 => ∃ a C dx fs v u, x = .ref a ∧ H1 a = some (.ins C dx fs) ∧ Cls K C ∧ Con K C f v u ∧ fs.lookup f = none ∧ Q v H1) : tCon K ta f σ H Q := h
end Rd
section
variable {X : Cx}
theorem kset {K : PySem.W.Frag} {o value : Expr} {f : Str} {ta tv : TE} {pos pos' : Pos} (ha : PE X o ta) (hv : PE X value tv) (h : X.K = K := by rfl) (hs : swapsWith value (some (.Attribute o f pos')) pos.line X.env = pure false := by rfl) : PS X (.Assign [.Attribute o f pos'] value pos) (sFld K ta tv f) := by
  subst h; exact ps_fld ha hv hs
theorem pe_mk {P : Program} {w : World} {K : PySem.W.Frag} {mg : Str → Option Value} {base : Heap} {CX : CXT} {x qual : Str} {st : Stmt} {C : Addr} {k : Nat} {ps : List Str} {sp : Sp} {E : XK} {e : Expr} {es : List Expr} {t : TA} {p pos : Pos} (d : Mf K "__init__" qual st ps) (M : Mk K C d.f) (hm : mg x = some (.ref C)) (F : FnOk P w K mg base CX k d.f d.fd ps sp) (hr : Room (k + 1) X.A) (hx : Passes CX X E) (ha : PA X (e :: es) t)
    (h1 : X.prog = P := by rfl) (h2 : X.w = w := by rfl) (h3 : X.K = K := by rfl) (h4 : X.mg = mg := by rfl) (h5 : X.base = base := by rfl) (hg : Gl X x := by rfl)
    (hdb : (x == ("__debug__" : Str)) = false := by decide) (he : starEach (e :: es) X.env = (false, eval e X.env) :: starEach es X.env := by rfl) (hpl : (backTo pos (starEach es X.env)).any (·.1) = false := by rfl) :
    PE X (.Call (.Name x p) (e :: es) [] pos) (tMake C sp [] E t) := by
  subst h1 h2 h3 h4 h5
  exact pe_make M F hr hg hm d.b .nil hx ha hdb he hpl
/-- o.m() on an instance of the class at C -/
theorem pe_m00 {pl : Sem Bool} {P : Program} {w : World} {K : PySem.W.Frag} {mg : Str → Option Value} {base : Heap} {CX : CXT} {m qual : Str} {st : Stmt} {C : Addr} {k : Nat} {ps : List Str} {sp : Sp} {E : XK} {o : Expr} {ta : TE} {apos pos : Pos} {nm : Str} (he : PE X o ta) (c : Cls K C) (d : Mf K nm qual st ps) (hm : Meth K C m d.f) (F : FnOk P w K mg base CX k d.f d.fd ps sp) (hr : Room k X.A) (hx : Passes CX X E)
    (h1 : X.prog = P := by rfl) (h2 : X.w = w := by rfl) (h3 : X.K = K := by rfl) (h4 : X.mg = mg := by rfl) (h5 : X.base = base := by rfl)
    (ht : eval (.Call (.Attribute o m apos) [] [] pos) X.env = (do
      let ov ← eval o X.env
      standAt apos.atName
      let (f, first) ← holding [ov] (getMethod ov m pl)
      callWith pos f first (backTo pos (starEach [] X.env)) (backToKw pos (keywordEach [] X.env))) := by rfl) :
    PE X (.Call (.Attribute o m apos) [] [] pos) (tMeth C m sp [] E ta tNil) := by
  subst h1 h2 h3 h4 h5
  exact pe_meth0 (pl := pl) he c hm F hr d.b .nil hx ht
end
end Fw

namespace Fw
open PySem PySem.Spec L2
section
open PySem.W PySem.Calls PyProof.Rows
variable {prog : Program} {w : World} {A : Around} {E : Value → Shared → Prop} {s : Shared} {K : PySem.W.Frag} {x D : Addr} {ox od : Obj}
/-- the class of a caught error that has a dict -/
theorem class_ofX {Q : Option Value → Shared → Prop} (T : ExcC K D) (X : K.In s.heap) (I : InstAt s.heap x ox D (some od)) (h : Q (some (.ref D)) { s with toks := s.toks + 1 }) : wpAny (model prog w) A (getAttr? (.ref x) "__class__") Q E s := by
  have hsome : (clsIn K D).isSome = true := by obtain ⟨c0, hc0, _⟩ := any_some T.hd; rw [hc0]; rfl
  have found : findObj K D (some od) "__class__" = some (.bind (.builtin "getset_descriptor.__get__") (.builtin "object.__class__")) := findObj_data hsome T.ha T.hn T.ht
  obtain ⟨hp, g, d, t, os⟩ := s
  have ly := I.type (M := model prog w)
  have lga := looks_findIn (M := model prog w) X T.hg
  have lgt := looks_findIn (M := model prog w) X T.hk
  have lfd := looks_find (M := model prog w) X I found
  have lsb : Looks (model prog w) hp (isInstance (.ref x) (.type "BaseException")) true := ly.andThen (looks_subIn X T.hs)
  have ne0 : (Value.builtin "BaseException.__getattribute__" == Value.builtin "object.__getattribute__") = false := by decide +kernel
  have nb0 : (onTheHeap (Value.ref D) && Value.builtin "BaseException.__getattribute__" == Value.builtin "object.__getattribute__") = false := by rw [ne0]; rfl
  unfold getAttr? getAttrBy? getAttrBy; refine wpAny_bind (wpAny_mkText (wpAny_bind (wpAny_attempt (wpAny_holding (wpAny_bind (ly.at (wpAny_bind (lga.at ?_))))))))
  show wpAny _ _ (if (onTheHeap (Value.ref D) && Value.builtin "BaseException.__getattribute__" == Value.builtin "object.__getattribute__") = true then _ else _) _ _ _; rw [nb0, if_neg Bool.false_ne_true]
  unfold getAttrByItsOwn hookBefore; refine wpAny_bind ?_; rw [if_pos (show onTheHeap (Value.ref D) = true from rfl)]
  refine lgt.at ?_; refine wpAny_bind (wpAny_attempt (wpAny_holding ?_))
  unfold callGetattribute boundAndCalled; rw [show (false && onTheHeap (Value.builtin "BaseException.__getattribute__")) = false from rfl, if_neg Bool.false_ne_true]
  rw [PySem.F.excAttr_ValueError.ga.bind (.ref x)]; refine wpAny_bind (wpAny_pure ?_)
  show wpAny _ _ (call (.builtin "BaseException.__getattribute__") [.ref x, .str "__class__" t]) _ _ _; refine wpAny_call (codeAny_call_builtin PySem.F.excAttr_ValueError.ga.plain PySem.F.entry_bexc_ga ?_)
  refine @check_slot (model prog w) _ _ ⟨hp, g, d, t + 1, os⟩ "BaseException.__getattribute__" "BaseException" "__getattribute__" (.ref x) [.str "__class__" t] [] _ (by decide +kernel) (by decide +kernel) lsb (PySem.F.args_bexc_ga (.ref x) (.str "__class__" t)) ?_
  unfold Builtin.«object.__getattribute__»; refine wpAny_bind (wpAny_of_eq (a := ((Value.ref x : Value), [Value.str "__class__" t])) (by first | rfl | (simp only [slotArgs]; rfl)) ?_)
  refine wpAny_bind (wpAny_pure (wpAny_bind (ly.at (wpAny_bind (lfd.at ?_)))))
  show wpAny _ _ (holding [Value.builtin "object.__class__"] (call (.builtin "getset_descriptor.__get__") [.builtin "object.__class__", .ref x, .ref D]) >>= ret) _ _ _
  refine wpAny_bind (wpAny_holding (wpAny_call (class_get (s := ⟨hp, g, d, t + 1, os⟩) (ox := ox) (od := some od) X I T.hm ?_))); refine wpAny_pure ?_
  show wpAny _ _ (handedOut (.ref D)) _ _ _; rw [handedOut_of (v := .ref D) rfl]
  first | exact wpAny_pure (wpAny_pure h) | exact wpAny_pure h | exact wpAny_pure (wpAny_bind (wpAny_pure (wpAny_pure h)))
theorem kitX (T : ExcC K D) : KitX K (.ref x) (.ref D) (fun h => InstAt h x ox D (some od)) where
  ty := fun _ _ _ I => I.type
  it := fun M h X _ => by
    obtain ⟨c0, hc0, _⟩ := any_some T.hd
    unfold clsIn at hc0; split at hc0
    · next ho =>
      intro A' Q' E' s' k q
      obtain ⟨h1, g1, d1, t1, o1⟩ := s'
      exact ks_wpAny_isType_cls (k _ _ (X _ _ ho)) rfl q
    · cases hc0
  ne := fun h tp dd its n sl X htp => by
    obtain ⟨c0, hc0, _⟩ := any_some T.hd
    unfold clsIn at hc0; split at hc0
    · next ho =>
      refine Bool.eq_false_iff.mpr fun q => ?_
      have e := Value.ref.inj (beq_iff_eq.mp q)
      rw [← e, X _ _ ho] at htp; cases htp
    · cases hc0
  ca := fun X I k => class_ofX T X I k
end
/-- isinstance(e, c), e the error that the suite holds, with its dict -/
def rIsX (K : PySem.W.Frag) (D a : Addr) (cls : Value) (d : Option Addr) : List V → Hp → VK → Prop := fun xs H Q => ∃ (c : V) (cv : Value) (b : Bool) (dd : Addr) (fs : List (Str × V)), xs = [.ref a, c] ∧ (∀ u, RelV c u → u = cv) ∧ cls = .ref D ∧ d = some dd ∧ H dd = some (.xd fs) ∧ PySem.W.kitOne K (.ref D) cv = some b ∧ Q (.bl b) H
theorem call_isX {X : Cx} {K : PySem.W.Frag} {a D : Addr} {oe : Obj} {cls : Value} {d : Option Addr} {pn : List (Addr × Obj)} (C : ExcC K D) (hz : Zc cls d oe) (hf : ∃ vs, oe.data = .fields vs) (hK : X.K = K := by rfl) : CallR (X.suite a ((a, oe) :: pn)) (.builtin "isinstance") (rIsX K D a cls d) := by
  subst hK
  intro pins s σ H xs us Q I r h
  obtain ⟨c, cv, b, dd, fs, rfl, hcv, rfl, rfl, hd, e, q⟩ := h
  obtain ⟨u1, u2, rfl, r1, r2⟩ := vals2 r
  cases r1
  have ec := hcv _ r2
  subst ec
  obtain ⟨hget, _⟩ := I.pin (a, oe) (List.mem_append.mpr (.inl List.mem_cons_self))
  obtain ⟨vs, hv⟩ := hf
  obtain ⟨mA, ⟨o0, es, ep, ho0, _⟩, _⟩ := (show ObjOk X.prog X.w H s.heap dd (.xd fs) from I.hok dd _ hd)
  have J : PySem.W.InstAt s.heap a oe D (some o0) := ⟨hget, hz.1, by unfold PySem.W.notCls; rw [hv] <;> rfl, by rw [hz.2]; exact ho0⟩
  exact PySem.W.kia_one (kitX C) I.kIn J e (fun z => nomatch z) fun tk => ⟨.bl b, H, I.kept (t' := tk) fun _ _ z => z, rfl, q⟩
/-- e.f in the suite -/
theorem kxf {X : Cx} {K : PySem.W.Frag} {a C : Addr} {oe : Obj} {cls : Value} {d : Option Addr} {pn : List (Addr × Obj)} {e : Expr} {te : TE} {pos : Pos} {n : Str} (T : XfC K C) (hno : PySem.W.findIn K (.ref C) n = some none) (hz : Zc cls d oe) (hf : ∃ vs, oe.data = .fields vs) (he : PE (X.suite a ((a, oe) :: pn)) e te) (hK : X.K = K := by rfl) (hb : attributeBase e n X.env (eval e X.env) = eval e X.env := by rfl) :
    PE (X.suite a ((a, oe) :: pn)) (.Attribute e n pos) (tXf a cls d C n te) := by
  subst hK
  exact pe_xf T hno hz hf he hb
namespace Rd
theorem xf {a : Addr} {cls : Value} {d : Option Addr} {C : Addr} {f : Str} {te : TE} {σ : St} {H : Hp} {Q : VK} (h : te σ H fun x H1 => x = .ref a ∧ cls = .ref C ∧ ∃ (dd : Addr) (fs : List (Str × V)) (v : V), d = some dd ∧ H1 dd = some (.xd fs) ∧ fs.lookup f = some v ∧ Q v H1) : tXf a cls d C f te σ H Q := h
end Rd
end Fw

namespace Fw
open PySem PySem.Spec L2
/-- try: .. except C as n: .. (nothing else leaves) -/
def tTryAs (K : PySem.W.Frag) (c : Value) (i : Nat) (tb : WX → TS) (ts : Addr → Value → Option Addr → TS) : TS := fun D σ H => tb (wAs K c i ts (fun _ _ _ _ => False) D) D σ H
section
variable {X : Cx} {x n : Str} {c : Value} {body suite : List Stmt} {b₀ : Stmt} {np pos pos' : Pos} {tb : WX → TS} {ts : Addr → Value → Option Addr → TS}
theorem ktry_as (K : PySem.W.Frag) (i : Nat) (hN : X.N.Nodup) (hc : Names X x c)
    (hb : ∀ (W : WX) (pn : List (Addr × Obj)) (xe : Value → Shared → Prop), Takes (X.tr pn xe) W → PassesOwn (model X.prog X.w) X.A X.env xe → PSs (X.tr pn xe) body (tb W))
    (hsu : ∀ (a : Addr) (oe : Obj) (cls : Value) (d : Option Addr) (pn : List (Addr × Obj)), Zc cls d oe → (∃ vs, oe.data = .fields vs) → PSs (X.suite a ((a, oe) :: pn)) (b₀ :: suite) (ts a cls d))
    (hK : X.K = K := by rfl) (hs : X.stack = X.env :: X.outer := by rfl) (hf : X.env.frame = some X.env.locals := by rfl) (hi : X.N[i]? = some n := by rfl) (hln : X.env.kindOf n = some .local := by rfl) :
    PS X (.Try body [.ExceptHandler (some (.Name x np)) (some n) (b₀ :: suite) pos'] [] [] pos) (tTryAs K c i tb ts) := by
  subst hK
  exact ps_try_as hs hf hN hi hln hc takes0 hb hsu
/-- a call within a try's body -/
theorem pe_cfS {P : Program} {w : World} {K : PySem.W.Frag} {mg : Str → Option Value} {base : Heap} {nm q : Str} {st : Stmt} {ps : List Str} {k : Nat} {sp : Sp} {W : WX} {e : Expr} {es : List Expr} {t : TA} {p pos : Pos} (d : Df K mg nm q st ps) (F : FnOk P w K mg base (L2.CX P w) k d.f d.fd ps sp) (hr : Room k X.A) (tk : Takes X W)
    (ha : PA X (e :: es) t) (h1 : X.prog = P := by rfl) (h2 : X.w = w := by rfl) (h3 : X.K = K := by rfl) (h4 : X.mg = mg := by rfl) (h5 : X.base = base := by rfl) (hg : Gl X nm := by rfl) (hd : (nm == ("__debug__" : Str)) = false := by decide) (he : starEach (e :: es) X.env = (false, eval e X.env) :: starEach es X.env := by rfl) (hpl : (backTo pos (starEach es X.env)).any (·.1) = false := by rfl) :
    PE X (.Call (.Name nm p) (e :: es) [] pos) (tCallS sp (WE W) t) := by
  subst h1 h2 h3 h4 h5
  exact pe_callS F hr hg d.g d.F.kp d.b (fun σ => passAt tk σ) ha hd he hpl
end
namespace Rd
variable {K : PySem.W.Frag} {σ : St} {H : Hp} {Q : VK} {N : St → Hp → Prop} {r : VK} {bk ct : St → Hp → Prop}
theorem tryAs {c : Value} {i : Nat} {tb : WX → TS} {ts : Addr → Value → Option Addr → TS} (h : tb (wAs K c i ts (fun _ _ _ _ => False) (Ends.mk N r bk ct)) (Ends.mk N r bk ct) σ H) : tTryAs K c i tb ts (Ends.mk N r bk ct) σ H := h
theorem callS {sp : Sp} {E : St → XK} {t : TA} (h : t σ H fun vs H1 => sp vs H1 Q (E σ)) : tCallS sp E t σ H Q := h
/-- the clause takes it -/
theorem wAs_yes {c cls : Value} {d : Option Addr} {i : Nat} {ts : Addr → Value → Option Addr → TS} {Wo : WX} (te : PySem.W.exmOne K cls c = some true) (h : ∀ a, H a = none → ts a cls d (Ends.mk (fun σ' H' => N (σ'.set i none) H') r (fun σ' H' => bk (σ'.set i none) H') (fun σ' H' => ct (σ'.set i none) H')) (σ.set i (some (.ref a))) H) :
    WE (wAs K c i ts Wo (Ends.mk N r bk ct)) σ cls d H := ⟨true, te, fun _ a ha => h a ha, fun q => nomatch q⟩
theorem isX {D a dd : Addr} {cls cv : Value} {d : Option Addr} {c : V} {b : Bool} {fs : List (Str × V)} (hc : ∀ u, RelV c u → u = cv) (e1 : cls = .ref D) (e2 : d = some dd) (hd : H dd = some (.xd fs)) (e : PySem.W.kitOne K (.ref D) cv = some b) (q : Q (.bl b) H) : rIsX K D a cls d [.ref a, c] H Q := ⟨c, cv, b, dd, fs, rfl, hc, e1, e2, hd, e, q⟩
theorem isi {x c : V} {t u : Value} {b : Bool} (k : ClsV c u) (ty : TyX K H x t) (e : PySem.W.kitOne K t u = some b) (q : Q (.bl b) H) : rIsi K [x, c] H Q := ⟨x, c, t, u, b, rfl, k, ty, e, q⟩
end Rd
end Fw
namespace Fw
open PySem PySem.Spec L2
/-! ### lists and tuples of numbers, bools and texts, compared -/
def okV : V → Bool
  | .non => true
  | .bl _ => true
  | .int _ => true
  | .str x => PyData.canLay0 (.str x)
  | _ => false
def dOf : V → PyData
  | .bl b => .bool b
  | .int i => .int i
  | .str x => .str x
  | _ => .none
section
variable {K : PySem.W.Frag} {H : Hp} {Q : VK} {a b : Addr} {xs : List V}
theorem dp_all : ∀ {xs : List V}, xs.all okV = true → DpAll K H xs (xs.map dOf)
  | [], _ => .nil
  | x :: xs, h => by
    rw [List.all_cons, Bool.and_eq_true] at h
    refine .cons ?_ (dp_all h.2)
    cases x with
    | non => exact .non
    | bl b => exact .bl b
    | int i => exact .int i
    | str x => exact .str x
    | byt _ => exact Bool.noConfusion h.1
    | flt _ => exact Bool.noConfusion h.1
    | ref _ => exact Bool.noConfusion h.1
    | ty _ => exact Bool.noConfusion h.1
theorem can_all : ∀ {xs : List V}, xs.all okV = true → PyData.canLayAll0 (xs.map dOf) = true
  | [], _ => rfl
  | x :: xs, h => by
    rw [List.all_cons, Bool.and_eq_true] at h
    show (PyData.canLay0 (dOf x) && PyData.canLayAll0 (xs.map dOf)) = true
    rw [can_all h.2, Bool.and_true]
    cases x with
    | str x => exact h.1
    | _ => first | rfl | exact Bool.noConfusion h.1
theorem depth_all : ∀ xs : List V, PyData.depthAll (xs.map dOf) = 0
  | [] => rfl
  | x :: xs => by
    show max (PyData.depth (dOf x)) (PyData.depthAll (xs.map dOf)) = 0
    rw [depth_all xs]
    cases x <;> rfl
theorem shL (h : xs.all okV = true) : SeqAt.shaped (.list (xs.map dOf)) = true := by
  show (PyData.canLayAll0 (xs.map dOf) && decide (PyData.depthAll (xs.map dOf) + 1 ≤ 64)) = true
  rw [can_all h, depth_all]; rfl
theorem shT (h : xs.all okV = true) : SeqAt.shaped (.tuple (xs.map dOf)) = true := by
  show (PyData.canLayAll0 (xs.map dOf) && decide (PyData.depthAll (xs.map dOf) + 1 ≤ 64)) = true
  rw [can_all h, depth_all]; rfl
theorem reflL (h : xs.all okV = true) : PyData.eqv (.list (xs.map dOf)) (.list (xs.map dOf)) = true := SeqAt.eqv_refl _ (can_all h)
theorem reflT (h : xs.all okV = true) : PyData.eqv (.tuple (xs.map dOf)) (.tuple (xs.map dOf)) = true := SeqAt.eqv_refl _ (can_all h)
namespace Rd
theorem eqLs (h1 : SqL K H a xs) (h2 : SqL K H b xs) (h : xs.all okV = true) (q : Q (.bl true) H) : rEqA K (.ref a) (.ref b) H Q := Rd.eqD (.lst h1 (dp_all h)) (.lst h2 (dp_all h)) (shL h) (shL h) (by rw [reflL h]; exact q)
theorem neLs (h1 : SqL K H a xs) (h2 : SqL K H b xs) (h : xs.all okV = true) (q : Q (.bl false) H) : rNeA K (.ref a) (.ref b) H Q := Rd.neD (.lst h1 (dp_all h)) (.lst h2 (dp_all h)) (shL h) (shL h) (by rw [reflL h]; exact q)
theorem eqTs (h1 : SqT K H a xs) (h2 : SqT K H b xs) (h : xs.all okV = true) (q : Q (.bl true) H) : rEqA K (.ref a) (.ref b) H Q := Rd.eqD (.tup h1 (dp_all h)) (.tup h2 (dp_all h)) (shT h) (shT h) (by rw [reflT h]; exact q)
theorem neTs (h1 : SqT K H a xs) (h2 : SqT K H b xs) (h : xs.all okV = true) (q : Q (.bl false) H) : rNeA K (.ref a) (.ref b) H Q := Rd.neD (.tup h1 (dp_all h)) (.tup h2 (dp_all h)) (shT h) (shT h) (by rw [reflT h]; exact q)
theorem iteBT {b : Bool} {A B : Prop} (hb : b = true) (h : A) : if b = true then A else B := by rw [if_pos hb]; exact h
theorem iteBF {b : Bool} {A B : Prop} (hb : b = false) (h : B) : if b = true then A else B := by rw [hb, if_neg Bool.false_ne_true]; exact h
theorem iteDT {c A B : Prop} [Decidable c] (hc : c) (h : A) : if decide c = true then A else B := by rw [decide_eq_true hc, if_pos rfl]; exact h
theorem iteDF {c A B : Prop} [Decidable c] (hc : ¬ c) (h : B) : if decide c = true then A else B := by rw [decide_eq_false hc, if_neg Bool.false_ne_true]; exact h
theorem iteNDT {c A B : Prop} [Decidable c] (hc : c) (h : B) : if (!decide c) = true then A else B := by rw [decide_eq_true hc]; exact h
theorem iteNDF {c A B : Prop} [Decidable c] (hc : ¬ c) (h : A) : if (!decide c) = true then A else B := by rw [decide_eq_false hc]; exact h
end Rd
end
/-- o.m(), by the facts -/
theorem pe_m0g {X : Cx} {pl : Sem Bool} {P : Program} {w : World} {K : PySem.W.Frag} {mg : Str → Option Value} {base : Heap} {CX : CXT} {m : Str} {C f : Addr} {fd : FuncData} {k : Nat} {ps : List Str} {sp : Sp} {E : XK} {o : Expr} {ta : TE} {apos pos : Pos} (he : PE X o ta) (c : Cls K C) (hm : Meth K C m f) (F : FnOk P w K mg base CX k f fd ps sp) (hr : Room k X.A) (hx : Passes CX X E) (hb : Binds K fd ps [])
    (h1 : X.prog = P := by rfl) (h2 : X.w = w := by rfl) (h3 : X.K = K := by rfl) (h4 : X.mg = mg := by rfl) (h5 : X.base = base := by rfl)
    (ht : eval (.Call (.Attribute o m apos) [] [] pos) X.env = (do let ov ← eval o X.env; standAt apos.atName; let (f, first) ← holding [ov] (getMethod ov m pl); callWith pos f first (backTo pos (starEach [] X.env)) (backToKw pos (keywordEach [] X.env))) := by rfl) :
    PE X (.Call (.Attribute o m apos) [] [] pos) (tMeth C m sp [] E ta tNil) := by
  subst h1 h2 h3 h4 h5
  exact pe_meth0 (pl := pl) he c hm F hr hb .nil hx ht
end Fw

namespace Fw
open PySem PySem.Spec L2
/-- one expression, read in one of several ways (an object of one of several classes) -/
def tAltN (n : Nat) (t : Nat → TE) : TE := fun σ H Q => ∃ m, m < n ∧ t m σ H Q
theorem pe_altN {X : Cx} {e : Expr} {n : Nat} {t : Nat → TE} (h : ∀ m, m < n → PE X e (t m)) : PE X e (tAltN n t) := ⟨fun pins s σ H Q I ⟨m, hm, q⟩ => (h m hm).run pins s σ H Q I q⟩
theorem Rd.alt {n m : Nat} {t : Nat → TE} {σ : St} {H : Hp} {Q : VK} (hm : m < n) (h : t m σ H Q) : tAltN n t σ H Q := ⟨m, hm, h⟩
end Fw

set_option Elab.async false
set_option linter.all false
set_option maxRecDepth 100000
set_option maxHeartbeats 4000000
/-! more readings: enumerate, two for, two except clauses -/
namespace Fw
open PySem PySem.Spec L2
section
variable {X : Cx} (K : PySem.W.Frag)
theorem kenum {e : Expr} {ta : TA} {p pos tpos : Pos} {elts : List Expr} {kk : Nat} (hm : X.mg "enumerate" = none) (ha : PA X [e] ta) (h : X.K = K := by rfl) (hg : Gl X "enumerate" := by rfl) (hs : starEach [e] X.env = [(false, eval e X.env)] := by rfl) :
    PI X (.Tuple elts kk tpos) (.Call (.Name "enumerate" p) [e] [] pos) (iEnum K ta) := by subst h; exact pi_enum hg hm ha hs
theorem kgt2 {e1 e2 : Expr} {k : Nat} {t1 t2 : TG} {pos : Pos} (h1 : PG X e1 t1) (h2 : PG X e2 t2) (hc : X.calm = true := by rfl) (h : X.K = K := by rfl) (hn : (assignEach [e1, e2] X.env).length = 2 := by rfl) (hst : (assignEach [e1, e2] X.env).findIdx? (·.1) = none := by rfl)
    (hs : (assignEach [e1, e2] X.env).map (·.2) = assign e1 X.env :: (assignEach [e2] X.env).map (·.2) := by rfl) (hs2 : (assignEach [e2] X.env).map (·.2) = assign e2 X.env :: (assignEach [] X.env).map (·.2) := by rfl) :
    PG X (.Tuple [e1, e2] k pos) (gTup K 2 (gCons t1 (gCons t2 gNil))) := by
  subst h; exact pg_tup hc (pgs_cons h1 (pgs_cons h2 pgs_nil hs2) hs) hn hst
end
/-- what is left of a comprehension with two for -/
def Lc2Go (J : It) (g : TG) (tt : TT) (wi1 : TI) (g1 : TG) (tt1 : TT) (te : TE) (vs vs1 : List Nat) (σ : St) (H1 : Hp) (Q : VK) : Prop := tLc2 (fun _ H R => R J H) g tt wi1 g1 tt1 te vs vs1 σ H1 Q
namespace Rd
variable {K : PySem.W.Frag} {σ : St} {H : Hp} {Q : VK} {te tl tl1 : TE} {ta : TA} {tt tt1 : TT} {g g1 : TG} {wi1 : TI} {vs vs1 : List Nat} {tb : TS} {D : Ends} {J : It} {n : Nat}
theorem foE (h : ta σ H fun us H1 => ∃ a, us = [.ref a] ∧ (∃ xs, SqL K H1 a xs) ∧ FoGo (Ite K a) g tb D σ H1) : tFor (iEnum K ta) g tb D σ H := by
  unfold tFor iEnum
  have e : (fun us H1 => ∃ a, us = [V.ref a] ∧ (∃ xs, SqL K H1 a xs) ∧ FoGo (Ite K a) g tb D σ H1) = fun us H1 => ∃ a xs, us = [V.ref a] ∧ SqL K H1 a xs ∧ FoGo (Ite K a) g tb D σ H1 := by
    funext us H1
    exact propext ⟨fun ⟨a, e, ⟨xs, h⟩, k⟩ => ⟨a, xs, e, h, k⟩, fun ⟨a, xs, e, h, k⟩ => ⟨a, e, ⟨xs, h⟩, k⟩⟩
  rw [e] at h
  exact h
theorem exlist1 {a : Addr} {xs : List V} {P : Addr → Prop} (hs : SqL K H a xs) (h : P a) : ∃ b, [V.ref a] = [.ref b] ∧ (∃ xs, SqL K H b xs) ∧ P b := ⟨a, rfl, ⟨xs, hs⟩, h⟩
/-- for i, x in enumerate(xs) -/
theorem foP {a : Addr} {xs : List V} {s1 s2 : Nat} {N : St → Hp → Prop} {r : VK} {bk ct : St → Hp → Prop} (Pv : Nat → St → Hp → Prop) (h0 : Pv 0 σ H) (hG : ∀ i σ H, i ≤ xs.length → Pv i σ H → SqL K H a xs)
    (step : ∀ i x σ H T, i < xs.length → xs[i]? = some x → Pv i σ H → H T = none → tb (Ends.mk (Pv (i + 1)) r N (Pv (i + 1))) ((σ.set s1 (some (.int (i : Nat)))).set s2 (some x)) (upd H T (.tup [.int (i : Nat), x]))) (fin : ∀ σ H, Pv xs.length σ H → N σ H) :
    FoGo (Ite K a) (gTup K 2 (gCons (gName s1) (gCons (gName s2) gNil))) tb (Ends.mk N r bk ct) σ H :=
  for_it walk_enum Pv h0 hG (fun i v σ H H' hi p ⟨T, y, x, e1, e2, e3, e4, e5⟩ => by
    cases e4; subst e1; subst e3
    exact ⟨T, _, rfl, SqT.of upd_same, rfl, _, _, rfl, _, _, rfl, rfl, step i x σ H T hi e5 p e2⟩) fin
theorem lc2L (h : tl σ H fun x H1 => ∃ a, x = .ref a ∧ (∃ xs, SqL K H1 a xs) ∧ Lc2Go (Itl K a) g tt wi1 g1 tt1 te vs vs1 σ H1 Q) : tLc2 (iList K tl) g tt wi1 g1 tt1 te vs vs1 σ H Q := h
/-- [e for x in xs for y in ys if t]: Jv by the two turns, items made and heap -/
theorem lc2W {s s1 : Nat} {a b : Addr} {xs ys : List V} (hss : s ≠ s1) (hn : xs.length * ys.length < sizeLine) (Jv : Nat → Nat → List V → Hp → Prop) (h0 : Jv 0 0 [] H)
    (hst : ∀ D, H D = none → ∀ i j acc zs H', (∀ a o, H' a = some (.tup o) → a ≠ D) → Jv i j acc H' → Jv i j acc (upd H' D (.lst zs))) (hG : ∀ i j acc H', Jv i j acc H' → SqL K H' a xs ∧ SqL K H' b ys)
    (hin : ∀ x H', tl1 (((σ.set s1 none).set s none).set s (some x)) H' fun z H1 => z = .ref b ∧ H1 = H') (hmono : ∀ (σ : St) (H : Hp) (Q R : VK), (∀ v H, Q v H → R v H) → tl1 σ H Q → tl1 σ H R)
    (hend : ∀ i acc H', i < xs.length → Jv i ys.length acc H' → Jv (i + 1) 0 acc H')
    (step : ∀ D, H D = none → ∀ i j x y acc H', xs[i]? = some x → ys[j]? = some y → H' D = some (.lst acc) → Jv i j acc H' → ∀ (Kt : V → Hp → Prop) (Kf : Hp → Prop), (∀ z H4, H4 D = some (.lst acc) → Jv i (j + 1) (acc ++ [z]) H4 → Kt z H4) → (∀ H3, H3 D = some (.lst acc) → Jv i (j + 1) acc H3 → Kf H3) →
      tt1 ((((σ.set s1 none).set s none).set s (some x)).set s1 (some y)) H' fun c H3 => if c = true then te ((((σ.set s1 none).set s none).set s (some x)).set s1 (some y)) H3 Kt else Kf H3)
    (fin : ∀ D acc H', H D = none → H' D = some (.lst acc) → acc.length ≤ xs.length * ys.length → Jv xs.length 0 acc H' → Q (.ref D) H') :
    Lc2Go (Itl K a) (gName s) tYes (iList K tl1) (gName s1) tt1 te [s, s1] [s1] σ H Q := by
  intro D hD
  refine ⟨fun i m H' => m = xs.length - i ∧ i ≤ xs.length ∧ ∃ acc, H' D = some (.lst acc) ∧ acc.length ≤ i * ys.length ∧ Jv i 0 acc H', ⟨_, rfl, Nat.zero_le _, [], upd_same, Nat.zero_le _, hst D hD _ _ _ _ _ (fun a o e z => by rw [z, hD] at e; cases e) h0⟩, ?_⟩
  rintro i m H' ⟨rfl, hi, acc, a1, a2, a3⟩
  rcases Nat.lt_or_ge i xs.length with lt | ge
  · refine .inr ⟨⟨xs, xs[i], (hG _ _ _ _ a3).1, List.getElem?_eq_getElem lt⟩, fun H'' => i + 1 ≤ xs.length ∧ ∃ acc, H'' D = some (.lst acc) ∧ acc.length ≤ (i + 1) * ys.length ∧ Jv (i + 1) 0 acc H'', fun H'' q => ⟨xs.length - (i + 1), by omega, rfl, q.1, q.2⟩, ?_⟩
    rintro x H2 ⟨rfl, hx⟩
    have hx' := hx xs (hG _ _ _ _ a3).1
    have w0 : wipe σ [s, s1] = (σ.set s1 none).set s none := rfl
    rw [w0]
    refine ⟨?_, ?_⟩
    · show ((((σ.set s1 none).set s none).set s (some x)).set s1 none).set s none = (σ.set s1 none).set s none
      rw [List.set_set, List.set_comm (some x) none hss, List.set_set, List.set_set]
    · show tl1 _ _ _
      refine hmono _ _ _ _ (fun z H1 ⟨e1, e2⟩ => ?_) (hin x _)
      subst e1 e2
      refine ⟨b, rfl, ⟨ys, (hG _ _ _ _ a3).2⟩, ?_⟩
      refine ⟨fun j k H'' => k = ys.length - j ∧ j ≤ ys.length ∧ ∃ acc, H'' D = some (.lst acc) ∧ acc.length ≤ i * ys.length + j ∧ Jv i j acc H'', ⟨_, rfl, Nat.zero_le _, acc, a1, a2, a3⟩, ?_⟩
      rintro j k H'' ⟨rfl, hj, acc, b1, b2, b3⟩
      rcases Nat.lt_or_ge j ys.length with lt1 | ge1
      · refine .inr ⟨⟨ys, ys[j], (hG _ _ _ _ b3).2, List.getElem?_eq_getElem lt1⟩, fun H3 => j + 1 ≤ ys.length ∧ ∃ acc, H3 D = some (.lst acc) ∧ acc.length ≤ i * ys.length + (j + 1) ∧ Jv i (j + 1) acc H3, fun H3 q => ⟨ys.length - (j + 1), by omega, rfl, q.1, q.2⟩, ?_⟩
        rintro y H3 ⟨rfl, hy⟩
        have hy' := hy ys (hG _ _ _ _ b3).2
        have w1 : wipe ((((σ.set s1 none).set s none).set s (some x))) [s1] = ((σ.set s1 none).set s none).set s (some x) := by
          show (((σ.set s1 none).set s none).set s (some x)).set s1 none = _
          rw [List.set_set, List.set_comm (some x) none hss, List.set_set]
        rw [w1]
        refine ⟨?_, ?_⟩
        · show ((((σ.set s1 none).set s none).set s (some x)).set s1 (some y)).set s1 none = _
          rw [List.set_set]
          exact w1
        · have lt2 : i * ys.length + j < xs.length * ys.length := Nat.lt_of_lt_of_le (show i * ys.length + j < (i + 1) * ys.length by rw [Nat.succ_mul]; omega) (Nat.mul_le_mul_right _ lt)
          refine step D hD i j x y acc _ hx' hy' b1 b3 _ _ (fun z H4 c1 c2 => ⟨acc, c1, by omega, lt1, acc ++ [z], upd_same, by rw [List.length_append, List.length_singleton]; omega, hst D hD _ _ _ _ _ (fun a o e z => by rw [z, c1] at e; cases e) c2⟩) fun H3 c1 c2 => ⟨lt1, acc, c1, by omega, c2⟩
      · have ej : j = ys.length := by omega
        subst ej
        exact .inl ⟨⟨ys, (hG _ _ _ _ b3).2, Nat.le_refl _⟩, lt, acc, b1, by rw [Nat.succ_mul]; exact b2, hend i acc _ lt b3⟩
  · have ei : i = xs.length := by omega
    subst ei
    exact .inl ⟨⟨xs, (hG _ _ _ _ a3).1, Nat.le_refl _⟩, fin D acc _ hD a1 a2 a3⟩
end Rd
end Fw

set_option Elab.async false
set_option linter.all false
set_option maxRecDepth 100000
set_option maxHeartbeats 4000000
/-! a set made of a list, whatever its items: one item after another -/
namespace Sets
open PySem PySem.Spec PyProof.Rows
/-- the set that is under way at S: J i h, it holds the first i items -/
structure Grows (P : Program) (w : World) (B : Around) (S : Addr) (n : Nat) (Pv : Nat → Value → Prop) (wr : List Addr) (J : Nat → Heap → Prop) : Prop where
  keep : ∀ {i : Nat} {h h' : Heap}, J i h → (∀ b o, b ∉ wr → h.get? b = some o → h'.get? b = some o) → J i h'
  add : ∀ {i : Nat} {v : Value} {s : Shared} {E : Value → Shared → Prop} {Q : Bool → Shared → Prop}, i < n → Pv i v → J i s.heap →
    (∀ (b : Bool) (h' : Heap) (tk : Nat), s.toks ≤ tk → Heap.SameBut S s.heap h' → J (i + 1) h' → Q b { s with heap := h', toks := tk }) → wpAny (model P w) B (setAdd S v) Q E s
section
variable {P : Program} {w : World} {A : Around} {R : Result → Shared → Prop} {I S : Addr} {fp wr : List Addr} {G : Array GenState → Array GenState → Prop} {n : Nat} {Pv : Nat → Value → Prop} {St : Nat → Shared → Prop} {J : Nat → Heap → Prop}
theorem grow_loop (W : WalksS P w A.in1 I fp wr G n Pv St) (hS : S ∉ fp) (g : Grows P w A.in1 S n Pv wr J) (d : Nat) :
    ∀ (i : Nat) (s : Shared), i + d = n → St i s → J i s.heap → (∀ z, Moved (S :: wr) G s z → J n z.heap → R (.ok (.ret .none)) z) → codeAny (model P w) A (.builtin "set.update.loop" ⟨[.ref S, .ref I], []⟩) R s := by
  have more : ∀ b, b ∈ wr → b ∈ S :: wr := fun b m => List.mem_cons.mpr (.inr m)
  induction d with
  | zero =>
    intro i s e st j k
    have e' : i = n := e
    subst e'
    refine codeAny_builtin F.entry_set_update_loop ?_; rw [Around.under_plainId F.plain_set_update_loop _]
    refine wpAny_bind (m := pyNext (.ref I)) (W.done s _ _ st fun z mv => ?_)
    exact wpAny_pure (M := model P w) (k z (mv.mono more) (g.keep j fun b o nb q => mv.heap b o nb q))
  | succ d ih =>
    intro i s e st j k
    refine codeAny_builtin F.entry_set_update_loop ?_; rw [Around.under_plainId F.plain_set_update_loop _]
    refine wpAny_bind (m := pyNext (.ref I)) (W.item i s _ _ (by omega) st fun v z pv st' mv => ?_)
    refine wpAny_bind (m := holding [v] (setAdd S v)) (wpAny_holding (g.add (by omega) pv (g.keep j fun b o nb q => mv.heap b o nb q) fun r h' tk ht sb j' => ?_))
    have far : ∀ b, b ≠ S → ∀ o, z.heap.get? b = some o → h'.get? b = some o := fun b nb o q => (sb.2 b nb).trans q
    refine wpAny_pure ⟨plainId_quiet F.plain_set_update_loop _, ih (i + 1) _ (by omega) (W.frame _ z _ _ st' ht fun b m o q => far b (fun x => hS (x ▸ m)) o q) j' fun z' mv' j'' => ?_⟩
    exact k z' (Moved.trans W.gtrans ((mv.mono more).then_heap ht fun b o nb q => far b (fun x => nb (x ▸ List.mem_cons_self)) o q) mv') j''
end
/-- a set just made -/
abbrev newSet0 (led : Bool) : Obj := { cls := .type "set", dict := none, data := .set #[] 0 (.fresh 0 0 led) }
section
variable {P : Program} {w : World} {A : Around} {E : Value → Shared → Prop} {s : Shared} {J : Nat → Heap → Prop} {l : Addr} {items : Array Value} {Q : Value → Shared → Prop}
/-- set(xs), xs a list -/
theorem set_of (hh : A.handled = none) (hl : s.heap.IsList l items) (h0 : ∀ led : Bool, J 0 (s.heap.push (newSet0 led)))
    (g : Grows P w A.in1.in1.in1 s.heap.objs.size items.size (fun i v => items[i]? = some v) [s.heap.objs.size + 1] J)
    (k : ∀ (h' : Heap) (tk : Nat), J items.size h' → (∀ b o, b < s.heap.objs.size → s.heap.get? b = some o → h'.get? b = some o) → Q (.ref s.heap.objs.size) { s with heap := h', toks := tk }) :
    wpAny (model P w) A (call (.type "set") [.ref l]) Q E s := by
  obtain ⟨c, tl, q_mro⟩ := PySem.F.called_set.mro
  have q_made := PySem.F.called_set.made
  have q_sub := PySem.F.called_set.sub; have q_nt := PySem.F.called_set.notType
  have q_can := PySem.F.called_set.canCreate; have q_tc := PySem.F.typeCall_set_1 (.ref l)
  refine wpAny_call (codeAny_of_tree ?_)
  refine wpAny_pure (M := model P w) ⟨Code.quiet_builtin _ (by decide +kernel), codeAny_builtin PySem.F.entry_type_call ?_⟩
  rw [Around.under_plain (weight_type_call_type "set" [.ref l] []) rfl]
  repeat (any_goals (first | assumption | wp_step))
  refine codeAny_mono (code_set_new_1 (.ref l) (E := E) (Q₁ := fun x z => ∃ led : Bool, x = .ref s.heap.objs.size ∧ z = { s with heap := s.heap.push (newSet0 led) }) fun led => ⟨led, rfl, rfl⟩) fun r s₁ hr => ?_
  match r, hr with
  | .error e, hr => exact hr
  | .ok (.ret obj), hr =>
    obtain ⟨led, rfl, rfl⟩ := hr
    have q_at : (s.heap.push (newSet0 led)).get? s.heap.objs.size = some (newSet0 led) := Heap.get?_push_size _ rfl
    have q_ty : Shared.TypeIs { s with heap := s.heap.push (newSet0 led) } (.ref s.heap.objs.size) "set" := ⟨_, q_at, rfl⟩
    have q_il := PySem.F.called_set.init.lookup
    have q_ib := PySem.F.called_set.init.bind (.ref s.heap.objs.size)
    repeat (any_goals (first | assumption | wp_step))
    refine codeAny_mono (codeAny_call_builtin (R := wants (fun x z => x = .none ∧ ∃ h' tk, z = { s with heap := h', toks := tk } ∧ J items.size h' ∧ (∀ b o, b < s.heap.objs.size → s.heap.get? b = some o → h'.get? b = some o)) E)
      PySem.F.called_set.init.plain PySem.F.entry_set_init (check_set_init_1 q_ty ?_)) fun r₂ s₂ hr₂ => ?_
    · obtain ⟨⟨oc, od, oD, os⟩, q_ol, q_c, q_n, q_d⟩ := hl
      simp only at q_c q_d
      subst q_c; subst q_d
      have q_ol' : (s.heap.push (newSet0 led)).get? l = some ⟨.type "list", od, .seq items q_n, os⟩ := Heap.get?_push_of_some _ q_ol
      have q_s1 := PySem.F.sub_list_set; have q_s2 := PySem.F.sub_list_frozenset
      have q_ne : (Value.type "list" == Value.type "dict") = false := by decide
      have q_il2 : (s.heap.push (newSet0 led)).IsList l items := ⟨_, q_ol', rfl, q_n, rfl⟩
      unfold Builtin.«set.__init__» noKeywords Builtin.Frozenset.updateFrom
      generalize q_pi : pyIter = PI
      wp_walk
      subst q_pi
      refine wpAny_pyIter_list q_il2 ?_; refine wpAny_bind (wpAny_runValue ?_)
      have lt : l < s.heap.objs.size := Heap.lt_size q_ol
      have z1 : (s.heap.push (newSet0 led)).objs.size = s.heap.objs.size + 1 := Heap.size_push ..
      have n1 : l ≠ s.heap.objs.size + 1 := Nat.ne_of_lt (Nat.lt_succ_of_lt lt)
      have n2 : ¬ s.heap.objs.size = s.heap.objs.size + 1 := Nat.ne_of_lt (Nat.lt_succ_self _)
      have n3 : ¬ s.heap.objs.size = l := Nat.ne_of_gt lt
      have far1 : ∀ b o, s.heap.get? b = some o → ((s.heap.push (newSet0 led)).push { cls := .type "list_iterator", data := .fields #[.ref l, .int 0 0] }).get? b = some o := fun b o e => Heap.get?_push_of_some _ (Heap.get?_push_of_some _ e)
      refine grow_loop ((Walks.list (I := (s.heap.push (newSet0 led)).objs.size) (by simp [hh]) l (z1.symm ▸ n1) items).toS) (S := s.heap.objs.size) (z1.symm ▸ fun m => (List.mem_cons.mp m).elim n2 fun m => n3 (List.mem_singleton.mp m)) (z1.symm ▸ g) items.size 0 _ (by omega)
        ⟨⟨_, Heap.get?_push_size _ rfl, rfl, rfl⟩, q_il2.push _⟩ (g.keep (h0 led) fun b o _ e => Heap.get?_push_of_some _ e) fun z mv j => ?_
      obtain ⟨h', g', d', tk', os'⟩ := z
      have eg : g' = s.gens := mv.gens
      have ed : d' = s.drawn := mv.drawn
      have eo : os' = s.os := mv.os
      subst eg ed eo
      show wpAny _ _ _ _ _ _
      refine wpAny_pure ?_
      refine wpAny_pure (M := model P w) ⟨rfl, h', tk', rfl, j, fun b o lb e => mv.heap b o (fun m => ?_) (far1 b o e)⟩
      have lb' : ∀ c, s.heap.objs.size ≤ c → b ≠ c := fun c q => Nat.ne_of_lt (Nat.lt_of_lt_of_le lb q)
      rcases List.mem_cons.mp m with e1 | e1
      · exact lb' _ (Nat.le_refl _) e1
      · exact lb' _ (by rw [z1]; exact Nat.le_succ _) (List.mem_singleton.mp e1)
    · match r₂, hr₂ with
      | .error e, hr₂ => exact hr₂
      | .ok (.ret x), hr₂ =>
        obtain ⟨rfl, h', tk, rfl, j, kp⟩ := hr₂
        repeat (any_goals (first | assumption | wp_step))
        exact k _ _ j kp
      | .ok .next, hr₂ => exact hr₂.elim
end
end Sets

set_option Elab.async false
set_option linter.all false
set_option maxRecDepth 100000
set_option maxHeartbeats 4000000
/-! len(set(xs)), xs a list of texts -/
namespace Sets
open PySem PySem.Spec PyProof.Rows L2
/-- the set at S holds the first i texts -/
def HasT (P : Program) (w : World) (S : Addr) (xs : List Str) (i : Nat) (h : Heap) : Prop :=
  ∃ m, h.SetOf (strKind P w) S (fun k => (xs.take i).any (· == k)) m ∧ m ≤ i ∧ (m = i ↔ (xs.take i).Nodup)
theorem any_next {xs : List Str} {i : Nat} {x : Str} (hx : xs[i]? = some x) (k : Str) : ((xs.take i).any (· == k) || decide (k = x)) = (xs.take (i + 1)).any (· == k) := by
  rw [List.take_add_one, hx, List.any_append]
  congr 1
  show decide (k = x) = ((x == k) || false)
  rw [Bool.or_false]
  by_cases e : k = x
  · subst e; simp
  · rw [decide_eq_false e]; exact (beq_eq_false_iff_ne.mpr fun q => e q.symm).symm
theorem nodup_next {xs : List Str} {i : Nat} {x : Str} (hx : xs[i]? = some x) : (xs.take (i + 1)).Nodup ↔ (xs.take i).Nodup ∧ (xs.take i).any (· == x) = false := by
  rw [List.take_add_one, hx]
  show (xs.take i ++ [x]).Nodup ↔ _
  rw [List.nodup_append]
  constructor
  · rintro ⟨a, _, c⟩
    exact ⟨a, List.any_eq_false.mpr fun y hy e => c y hy x (List.mem_singleton.mpr rfl) (eq_of_beq e)⟩
  · rintro ⟨a, b⟩
    refine ⟨a, by simp, fun y hy z hz e => ?_⟩
    have := List.any_eq_false.mp b y hy
    rw [List.mem_singleton] at hz
    subst e hz
    exact this (beq_self_eq_true _)
theorem grows_texts {P : Program} {w : World} {B : Around} {S I : Addr} {xs : List Str} {n : Nat} {Pv : Nat → Value → Prop} (hn : n ≤ xs.length) (hb : xs.length ≤ 4000) (hSI : S ≠ I) (hv : ∀ i v, Pv i v → ∃ t, v = .str (xs.getD i Str.empty) t) : Grows P w B S n Pv [I] (HasT P w S xs) where
  keep := fun {i h h'} ⟨m, ⟨o, es, ep, t, ho, r⟩, q⟩ k => ⟨m, ⟨o, es, ep, t, k S o (fun z => hSI (List.mem_singleton.mp z)) ho, r⟩, q⟩
  add := fun {i v s E Q} hi pv ⟨m, hS, hm, hd⟩ k => by
    obtain ⟨t, rfl⟩ := hv i v pv
    have hx : xs[i]? = some (xs.getD i Str.empty) := by
      have : i < xs.length := by omega
      simp [List.getD, this]
    generalize xs.getD i Str.empty = x at hx ⊢
    unfold setAdd
    refine wpAny_holding (wpAny_bind ((strKind P w).pyHash (k := x) (strKind_is _ _ _ _) ?_))
    refine wpAny_setAddHashed_of (s := { s with toks := s.toks + 1 }) (knd := strKind P w) (strKind_is _ _ _ _) rfl hS (by unfold scanBound; omega) fun h' sb hS' => ?_
    refine k _ h' _ (Nat.le_succ _) sb ⟨_, SetOf_congr hS' (any_next hx) rfl, ?_, ?_⟩
    · split <;> omega
    · rw [nodup_next hx, ← hd]
      try dsimp only
      cases (xs.take i).any (· == x)
      · simp only [Bool.false_eq_true, if_false]
        constructor
        · intro q; exact ⟨by omega, by simp⟩
        · intro q; omega
      · simp only [if_true]
        constructor
        · intro q; omega
        · intro q; exact absurd q.2 (by simp)
def tLenSetT (K : PySem.W.Frag) (ta : TE) : TE := fun σ H Q => ta σ H fun x H1 => ∃ (l : Addr) (xs : List Str), x = .ref l ∧ SqL K H1 l (xs.map V.str) ∧ xs.length ≤ 4000 ∧ ∀ m : Nat, m ≤ xs.length → (m = xs.length ↔ xs.Nodup) → Q (.int m) H1
theorem pe_lenSetT {X : Cx} {a : Expr} {ta : TE} {p p2 q pos : Pos} (hg : Gl X "len") (hm : X.mg "len" = none) (hg2 : Gl X "set") (hm2 : X.mg "set" = none) (ha : PE X a ta) (hc : X.calm = true := by rfl)
    (na : starEach [a] X.env = (false, eval a X.env) :: starEach [] X.env := by rfl) : PE X (.Call (.Name "len" p) [.Call (.Name "set" p2) [a] [] q] [] pos) (tLenSetT X.K ta) := by
  constructor
  intro pins s σ H Q I h
  refine Call_ (ld_blt I hg hm boot_len (callWith_builtin1 (args_cons ?_ rfl) rfl rfl))
  refine Call_ (ld_blt I hg2 hm2 boot_set (callWith_type1 (args_cons (thn (ha.run pins s σ H _ I h) fun v z ⟨x, H1, I1, r1, q1⟩ => args_nil ?_) na) na rfl))
  obtain ⟨l, xs, rfl, hq, hl, q1⟩ := q1
  cases r1
  obtain ⟨its, r, pl, _⟩ := I1.list hq
  have sa := Vals.strs r
  have hlen : its.toArray.size = xs.length := by rw [List.size_toArray, ← r.length, List.length_map]
  have hv : ∀ (i : Nat) (v : Value), its.toArray[i]? = some v → ∃ t, v = .str (xs.getD i Str.empty) t := fun i v e => SS.strs_at sa i v (by simpa using e)
  refine set_of (J := HasT X.prog X.w z.heap.objs.size xs) (I1.ok.hd hc) pl.isList (fun led => ⟨0, ?_, Nat.le_refl _, by simp⟩) (grows_texts (by omega) hl (Nat.ne_of_lt (Nat.lt_succ_self _)) hv) fun h' tk ⟨m, hS, hm', hd⟩ kp => ?_
  · exact SetOf_congr ((setObjOf_fresh (knd := strKind X.prog X.w) led).setOf (Heap.get?_push_size _ rfl) (by unfold scanBound; omega)) (fun _ => rfl) rfl
  · refine args_nil ?_
    rw [hlen, List.take_length] at hd
    rw [hlen] at hm'
    obtain ⟨o, es, ep, t, ho, ex, dt, _, _, _, hf, hn⟩ := hS
    have I2 : Inv X pins σ H1 { z with heap := h', toks := tk } := I1.kept fun b o e => kp b o (Heap.lt_size e) e
    exact call_len_set ho ex dt hf (by rw [hn]; omega) ⟨.int m, H1, I2.tok _, ⟨_, by rw [hn]⟩, q1 m (by omega) (by rw [← hd])⟩
end Sets
namespace Rd
open PySem PySem.Spec L2
theorem lenSetT {K : PySem.W.Frag} {ta : TE} {σ : St} {H : Hp} {Q : VK} (h : ta σ H fun x H1 => ∃ (l : Addr) (xs : List Str), x = .ref l ∧ SqL K H1 l (xs.map V.str) ∧ xs.length ≤ 4000 ∧ ∀ m : Nat, m ≤ xs.length → (m = xs.length ↔ xs.Nodup) → Q (.int m) H1) : Sets.tLenSetT K ta σ H Q := h
end Rd

set_option Elab.async false
set_option linter.all false
set_option maxRecDepth 100000
set_option maxHeartbeats 4000000
/-! several clauses 'except C as n'; calls of classes and methods in a try -/
namespace Fw
open PySem PySem.Spec PyProof.Rows L2
abbrev Cl := Value × (Addr → Value → Option Addr → TS)
/-- what the clauses wish of an error of the body -/
def wAsN (K : PySem.W.Frag) (i : Nat) (Wout : WX) (D : Ends) : List Cl → WX
  | [] => Wout
  | q :: r => wAs K q.1 i q.2 (wAsN K i Wout D r) D
inductive ClsOk (X : Cx) (n : Str) : List ExceptHandler → List Cl → Prop
  | nil : ClsOk X n [] []
  | cons {x : Str} {c : Value} {ts : Addr → Value → Option Addr → TS} {b : Stmt} {bs : List Stmt} {p p' : Pos} {hds : List ExceptHandler} {l : List Cl} (hc : Names X x c)
      (k : ∀ (a : Addr) (oe : Obj) (cls : Value) (d : Option Addr) (pn : List (Addr × Obj)), Zc cls d oe → (∃ vs, oe.data = .fields vs) → PSs (X.suite a ((a, oe) :: pn)) (b :: bs) (ts a cls d)) (r : ClsOk X n hds l) :
      ClsOk X n (.ExceptHandler (some (.Name x p)) (some n) (b :: bs) p' :: hds) ((c, ts) :: l)
section
variable {X : Cx} {n : Str} {i : Nat} {body : List Stmt} {h₀ : ExceptHandler} {hds : List ExceptHandler} {l : List Cl} {pos : Pos} {tb : WX → TS} {Wout : WX}
theorem ps_try_asN (hs : X.stack = X.env :: X.outer) (hf : X.env.frame = some X.env.locals) (hN : X.N.Nodup) (hi : X.N[i]? = some n) (hln : X.env.kindOf n = some .local) (tk : Takes X Wout)
    (hb : ∀ (W : WX) (pn : List (Addr × Obj)) (xe : Value → Shared → Prop), Takes (X.tr pn xe) W → PassesOwn (model X.prog X.w) X.A X.env xe → PSs (X.tr pn xe) body (tb W)) (hh : ClsOk X n (h₀ :: hds) l) :
    PS X (.Try body (h₀ :: hds) [] [] pos) (fun D σ H => tb (wAsN X.K i Wout D l) D σ H) := by
  constructor
  intro pins s σ H D I h
  have q_ok := I.ok
  have q_fr : X.A.frames = some (X.env :: X.outer) := hs ▸ q_ok.frames
  refine wpAny_Try_except (wpAny_mono ((hb (wAsN X.K i Wout D l) (X.pn ++ pins) (fun e z => wpAny (model X.prog X.w) X.A (noteFrame e X.env) (fun _ z => wpAny (model X.prog X.w) X.A (setFlight e none)
    (fun _ z => wpAny (model X.prog X.w) X.A (handleBy e X.env (h₀ :: hds)) (SP X pins D) X.xe z) X.xe z) X.xe z) (fun u z xx => ?_) PassesOwn.looking).run [] s σ H D (I.toTry _) h) (fun f z hsp => ?_) fun e z he => he)
  · obtain ⟨a, B, sI, pins', σ', H', cls, d, rfl, J', nb, up, sky, na, os, ag, wish⟩ := xx
    have J : Inv X pins σ' H' sI := J'.ofTry q_ok
    rw [hs] at sky
    refine Sky.land (M := model X.prog X.w) Zc.steady q_fr hf sky fun h3 fl3 up3 => ?_
    have J3 : Inv X pins σ' H' { z with heap := h3 } := J.landed nb fl3.1 (up.trans up3) os ag
    obtain ⟨o3, v3, at3, zc3, da3⟩ := fl3.there
    have away : a ∉ frs (X.env :: X.outer) := fun m => by
      obtain ⟨_, o', e', no⟩ := fl3.2.2.1.mem m
      rw [at3] at e'; cases e'
      exact no _ da3
    have nL : a ≠ X.env.locals := fun e => away (List.mem_filterMap.mpr ⟨X.env, List.mem_cons.mpr (.inl rfl), by rw [hf, e]⟩)
    have nF : a ∉ X.fs := fun m => let ⟨e, he, q⟩ := List.mem_filterMap.mp m; away (List.mem_filterMap.mpr ⟨e, List.mem_cons.mpr (.inr he), q⟩)
    have S3 := J3.suite at3 da3 na nL nF
    have all : ∀ {hds' : List ExceptHandler} {l' : List Cl}, ClsOk X n hds' l' → wAsN X.K i Wout D l' cls d σ' H' → wpAny (model X.prog X.w) X.A (handleBy (.ref a) X.env hds') (SP X pins D) X.xe { z with heap := h3 } := by
      intro hds' l' ok
      induction ok with
      | nil =>
        intro wish
        obtain ⟨_, _, _, oe, vs, T, oT, ts', at_, _, da, f1, _⟩ := id fl3
        have go : wpAny (model X.prog X.w) X.A (setFlight (.ref a) X.env.frame) (fun _ z => wpAny (model X.prog X.w) X.A (throw (.ref a) : Sem Flow) (SP X pins D) X.xe z) X.xe { z with heap := h3 } := by
          rw [hf]
          exact HandSPX.setFlight_upZ fl3 fun h4 fl4 up4 => wpAny_throw (tk _ _ ⟨a, B, sI, pins, σ', H', cls, d, rfl, J, nb, (up.trans up3).trans up4, .inr (.inr (hs ▸ fl4)), na, os, ag, wish⟩)
        refine wpAny_handleBy_nil ?_
        unfold PySem.passOn
        refine wpAny_bind (wpAny_field at_ da f1 ?_)
        rw [if_neg (by simp)]
        first | exact wpAny_bind go | exact wpAny_bind (wpAny_pure (wpAny_bind go))
      | @cons x c ts b bs p p' hds2 l2 hc k r ih =>
        rintro ⟨yes, te, w1, w2⟩
        have LM := PySem.W.exm_one (M := model X.prog X.w) J3.kIn (fun A Q E s k q => wpAny_typeOf_ref (k _ _ at3) (by rw [zc3.1]; exact q)) te
        have named : ∀ {Q : Value → Shared → Prop} {E : Value → Shared → Prop}, Q c { z with heap := h3 } → wpAny (model X.prog X.w) (X.A.mark (some (.ref a))) (eval (.Name x p) X.env) Q E { z with heap := h3 } := by
          intro Q E q
          rcases hc with ⟨g, db, m | ⟨m, v, nn⟩⟩
          · exact ld_glob (X := X.suite a ((a, o3) :: (X.pn ++ pins))) S3 g m q db
          · exact ld_blt (X := X.suite a ((a, o3) :: (X.pn ++ pins))) S3 g m v q nn db
        refine wpAny_handleBy_cons (codeAny_handlers_test (named (LM.here ?_))) (fun e => by cases e)
        match yes, w1, w2 with
        | false, _, w2 => exact ih (w2 rfl)
        | true, w1, _ =>
          refine codeAny_handlers_suite_as (HandSPX.lands_againZ fl3 fun h4 fl4 up4 => ?_)
          have J4 : Inv X pins σ' H' { z with heap := h4 } := J.landed nb fl4.1 ((up.trans up3).trans up4) os ag
          obtain ⟨o4, v4, at4, zc4, da4⟩ := fl4.there
          refine store_ok (X := X.suite a ((a, o4) :: (X.pn ++ pins))) (v := .ref a) (J4.suite at4 da4 na nL nF) hN hi (.inl hln) rfl (fun s5 S5 => ?_) (.inr hln)
          refine wpAny_mono ((k a o4 cls d (X.pn ++ pins) zc4 ⟨_, da4⟩).run [] s5 _ H' _ S5 (w1 rfl a na)) (fun f s6 hsp => ?_) fun _ _ e => e.elim
          have close : ∀ {σ6 : L2.St} {H6 : Hp} {Q : Shared → Prop}, Inv (X.suite a ((a, o4) :: (X.pn ++ pins))) [] σ6 H6 s6 → (∀ s7, Inv X pins (σ6.set i none) H6 s7 → Q s7) →
              wpAny (model X.prog X.w) X.A (do bindName X.env n .none; unbindBehindTheSuite X.env n p') (fun _ s7 => Q s7) X.xe s6 := fun S6 q => gone_ok (S6.unsuite q_ok) hN hi hln q
          match f, hsp with
          | .next, ⟨_, _, S6, q6⟩ => exact close S6 fun _ J7 => ⟨_, _, J7, q6⟩
          | .brk, ⟨_, _, S6, q6⟩ => exact close S6 fun _ J7 => ⟨_, _, J7, q6⟩
          | .cont, ⟨_, _, S6, q6⟩ => exact close S6 fun _ J7 => ⟨_, _, J7, q6⟩
          | .ret u, ⟨_, _, _, S6, r6, q6⟩ => exact close S6 fun _ J7 => ⟨_, _, _, J7, r6, q6⟩
    exact all hh wish
  · match f, hsp with
    | .next, ⟨_, _, J', q⟩ => exact wpAny_execs_nil ⟨_, _, J'.ofTry q_ok, q⟩
    | .brk, ⟨_, _, J', q⟩ => exact ⟨_, _, J'.ofTry q_ok, q⟩
    | .cont, ⟨_, _, J', q⟩ => exact ⟨_, _, J'.ofTry q_ok, q⟩
    | .ret u, ⟨_, _, _, J', r, q⟩ => exact ⟨_, _, _, J'.ofTry q_ok, r, q⟩
end
end Fw

set_option Elab.async false
set_option linter.all false
set_option maxRecDepth 100000
set_option maxHeartbeats 4000000
/-! C(..) and o.m(..) in a try's body -/
namespace Fw
open PySem PySem.Spec PyProof.Rows L2
section
variable {X : Cx} {CX : CXT} {k : Nat} {f C : Addr} {fd : FuncData} {ps : List Str} {sp : Sp} {E : L2.St → XK} {x m : Str} {p pos apos : Pos} {e o : Expr} {es : List Expr} {ta : TE} {t : TA}
theorem run_makeS {pins : List (Addr × Obj)} {σ : L2.St} {H : Hp} {s : Shared} {Q : VK} {us : List Value} {vs : List V} (M : Mk X.K C f) (F : FnOk X.prog X.w X.K X.mg X.base CX k f fd ps sp) (hr : Room (k + 1) X.A) (hb : Binds X.K fd ps []) (hx : PassesAt CX X σ (E σ)) (I : Inv X pins σ H s) (r : Vals vs us)
    (h : ∀ x dx, H x = none → H dx = none → dx ≠ x → sp (.ref x :: vs) (upd (upd H dx (.own x)) x (.ins C dx [])) (fun v H2 => v = .non ∧ Q (.ref x) H2) (E σ)) : wpAny (model X.prog X.w) X.A (call (.ref C) us) (EP X pins σ Q) X.xe s := by
  have q := h (s.heap.objs.size + 1) s.heap.objs.size (I.hok.fresh (Nat.le_succ _)) (I.hok.fresh (Nat.le_refl _)) (Nat.ne_of_lt (Nat.lt_succ_self _))
  have J := Inv.made (C := C) I
  have rr : Vals (V.ref (s.heap.objs.size + 1) :: vs) (Value.ref (s.heap.objs.size + 1) :: us) := .cons rfl r
  have len : (Value.ref (s.heap.objs.size + 1) :: us).length = ps.length := rr.length.symm.trans (F.len _ _ _ _ q)
  have bnd := hb _ (Value.ref (s.heap.objs.size + 1) :: us) J.kIn (by rw [List.append_nil]; exact len)
  rw [List.append_nil] at bnd
  refine wpAny_call (make_map (f := f) I.kIn M.makes M.init (beq_iff_eq.mp M.fn) (codeAny_mono (F.run _ X.stack _ _ ⟨_, []⟩ _ _ _ (E σ) (hr.make C us []) (J.env0.make C us []) bnd rr q) fun r z hq => ?_))
  match r, hq with
  | .error e, hq => exact hx pins _ _ e z J hq
  | .ok (.ret u), hq =>
    obtain ⟨v, G, I3, rv, ev, q3⟩ := J.after hq
    cases ev
    exact ⟨rv, V.ref _, G, I3, rfl, q3⟩
  | .ok .next, hq => exact hq.elim
  | .ok .brk, hq => exact hq.elim
  | .ok .cont, hq => exact hq.elim
def tMakeT (C : Addr) (sp : Sp) (E : L2.St → XK) (t : TA) : TE := fun σ H Q => t σ H fun vs H1 => MkGo C (fun us => sp us) vs H1 Q (E σ)
theorem pe_makeT (M : Mk X.K C f) (F : FnOk X.prog X.w X.K X.mg X.base CX k f fd ps sp) (hr : Room (k + 1) X.A) (hg : Gl X x) (hm : X.mg x = some (.ref C)) (hb : Binds X.K fd ps []) (hx : ∀ σ, PassesAt CX X σ (E σ))
    (ha : PA X (e :: es) t) (hdb : (x == ("__debug__" : Str)) = false := by decide) (he : starEach (e :: es) X.env = (false, eval e X.env) :: starEach es X.env := by rfl) (hpl : (backTo pos (starEach es X.env)).any (·.1) = false := by rfl) :
    PE X (.Call (.Name x p) (e :: es) [] pos) (tMakeT C sp E t) := by
  constructor
  intro pins s σ H Q I h
  refine wpAny_Call_Name_kw (ld_glob I hg hm (PySem.W.callWith_K (h₀ := X.base) I.ok.mod.kin M.kp (thn (ha.run pos pins s σ H _ I h) fun us s1 ⟨vs, H1, I1, r, q⟩ => ⟨I1.kIn, ?_⟩) he hpl) hdb)
  refine run_makeS M F hr hb (hx σ) I1 r fun x dx a b c => ?_
  have z := q x dx a b c
  rw [List.append_nil] at z
  exact z
def tMethT (C : Addr) (m : Str) (sp : Sp) (E : L2.St → XK) (ta : TE) (t : TA) : TE := fun σ H Q => ta σ H fun x H1 => ∃ a dx fs, x = .ref a ∧ H1 a = some (.ins C dx fs) ∧ fs.lookup m = none ∧ t σ H1 fun vs H2 => sp (x :: vs) H2 Q (E σ)
theorem pe_methT {pl : Sem Bool} (he : PE X o ta) (c : Cls X.K C) (hm : Meth X.K C m f) (F : FnOk X.prog X.w X.K X.mg X.base CX k f fd ps sp) (hr : Room k X.A) (hb : Binds X.K fd ps []) (hx : ∀ σ, PassesAt CX X σ (E σ)) (ha : PA X (e :: es) t)
    (hst : starEach (e :: es) X.env = (false, eval e X.env) :: starEach es X.env := by rfl) (hpl : (backTo pos (starEach es X.env)).any (·.1) = false := by rfl)
    (ht : eval (.Call (.Attribute o m apos) (e :: es) [] pos) X.env = (do let ov ← eval o X.env; standAt apos.atName; let (f, first) ← holding [ov] (getMethod ov m pl); callWith pos f first (backTo pos (starEach (e :: es) X.env)) (backToKw pos (keywordEach [] X.env))) := by rfl) :
    PE X (.Call (.Attribute o m apos) (e :: es) [] pos) (tMethT C m sp E ta t) := by
  constructor
  intro pins s σ H Q I h
  refine PySem.W.methodCall_KW (pl := pl) (thn (he.run pins s σ H _ I h) fun u s1 ⟨x, H1, I1, rx, a, dx, fs, ex, ea, l, q⟩ => ?_) ht
  subst ex
  cases rx
  refine getmeth_ok I1 ea c hm l (PySem.W.callWith_K (first := [.ref a]) (h₀ := X.base) I.ok.mod.kin hm.kp (thn (ha.run pos pins s1 σ H1 _ I1 q) fun us s2 ⟨vs, H2, I2, r, q2⟩ => ⟨I2.kIn, ?_⟩) hst hpl)
  exact run_fnS (us := .ref a :: us) (vs := .ref a :: vs) F hr hb (hx σ) I2 (.cons rfl r) q2
/-- K-explicit: C(..) in a try's body -/
theorem pe_mkT {P : Program} {w : World} {K : PySem.W.Frag} {mg : Str → Option Value} {base : Heap} {qual : Str} {st : Stmt} {W : WX} (d : Mf K "__init__" qual st ps) (M : Mk K C d.f) (hm : mg x = some (.ref C)) (F : FnOk P w K mg base (L2.CX P w) k d.f d.fd ps sp) (hr : Room (k + 1) X.A) (tk : Takes X W) (ha : PA X (e :: es) t)
    (h1 : X.prog = P := by rfl) (h2 : X.w = w := by rfl) (h3 : X.K = K := by rfl) (h4 : X.mg = mg := by rfl) (h5 : X.base = base := by rfl) (hg : Gl X x := by rfl)
    (hdb : (x == ("__debug__" : Str)) = false := by decide) (he : starEach (e :: es) X.env = (false, eval e X.env) :: starEach es X.env := by rfl) (hpl : (backTo pos (starEach es X.env)).any (·.1) = false := by rfl) :
    PE X (.Call (.Name x p) (e :: es) [] pos) (tMakeT C sp (WE W) t) := by
  subst h1 h2 h3 h4 h5
  exact pe_makeT M F hr hg hm d.b (fun σ => passAt tk σ) ha hdb he hpl
/-- o.m(..) in a try's body -/
theorem pe_mT {pl : Sem Bool} {P : Program} {w : World} {K : PySem.W.Frag} {mg : Str → Option Value} {base : Heap} {nm qual : Str} {st : Stmt} {W : WX} (he : PE X o ta) (c : Cls K C) (d : Mf K nm qual st ps) (hm : Meth K C m d.f) (F : FnOk P w K mg base (L2.CX P w) k d.f d.fd ps sp) (hr : Room k X.A) (tk : Takes X W) (ha : PA X (e :: es) t)
    (h1 : X.prog = P := by rfl) (h2 : X.w = w := by rfl) (h3 : X.K = K := by rfl) (h4 : X.mg = mg := by rfl) (h5 : X.base = base := by rfl)
    (hst : starEach (e :: es) X.env = (false, eval e X.env) :: starEach es X.env := by rfl) (hpl : (backTo pos (starEach es X.env)).any (·.1) = false := by rfl)
    (ht : eval (.Call (.Attribute o m apos) (e :: es) [] pos) X.env = (do let ov ← eval o X.env; standAt apos.atName; let (f, first) ← holding [ov] (getMethod ov m pl); callWith pos f first (backTo pos (starEach (e :: es) X.env)) (backToKw pos (keywordEach [] X.env))) := by rfl) :
    PE X (.Call (.Attribute o m apos) (e :: es) [] pos) (tMethT C m sp (WE W) ta t) := by
  subst h1 h2 h3 h4 h5
  exact pe_methT (pl := pl) he c hm F hr d.b (fun σ => passAt tk σ) ha hst hpl ht
/-- o.m(..), the errors passing on -/
theorem pe_mA {pl : Sem Bool} {P : Program} {w : World} {K : PySem.W.Frag} {mg : Str → Option Value} {base : Heap} {nm qual : Str} {st : Stmt} {E : XK} (he : PE X o ta) (c : Cls K C) (d : Mf K nm qual st ps) (hm : Meth K C m d.f) (F : FnOk P w K mg base CX k d.f d.fd ps sp) (hr : Room k X.A) (hx : Passes CX X E) (ha : PA X (e :: es) t)
    (h1 : X.prog = P := by rfl) (h2 : X.w = w := by rfl) (h3 : X.K = K := by rfl) (h4 : X.mg = mg := by rfl) (h5 : X.base = base := by rfl)
    (hst : starEach (e :: es) X.env = (false, eval e X.env) :: starEach es X.env := by rfl) (hpl : (backTo pos (starEach es X.env)).any (·.1) = false := by rfl)
    (ht : eval (.Call (.Attribute o m apos) (e :: es) [] pos) X.env = (do let ov ← eval o X.env; standAt apos.atName; let (f, first) ← holding [ov] (getMethod ov m pl); callWith pos f first (backTo pos (starEach (e :: es) X.env)) (backToKw pos (keywordEach [] X.env))) := by rfl) :
    PE X (.Call (.Attribute o m apos) (e :: es) [] pos) (tMeth C m sp [] E ta t) := by
  subst h1 h2 h3 h4 h5
  exact pe_meth (pl := pl) he c hm F hr d.b .nil hx ha hst hpl ht
/-- try: .. except C as n: .. except C2 as n: .. -/
def tTryAsN (K : PySem.W.Frag) (i : Nat) (tb : WX → TS) (l : List Cl) : TS := fun D σ H => tb (wAsN K i (fun _ _ _ _ => False) D l) D σ H
theorem ktry_asN (K : PySem.W.Frag) (i : Nat) {n : Str} {body : List Stmt} {h₀ : ExceptHandler} {hds : List ExceptHandler} {l : List Cl} {tb : WX → TS} (hN : X.N.Nodup)
    (hb : ∀ (W : WX) (pn : List (Addr × Obj)) (xe : Value → Shared → Prop), Takes (X.tr pn xe) W → PassesOwn (model X.prog X.w) X.A X.env xe → PSs (X.tr pn xe) body (tb W)) (hh : ClsOk X n (h₀ :: hds) l)
    (hK : X.K = K := by rfl) (hs : X.stack = X.env :: X.outer := by rfl) (hf : X.env.frame = some X.env.locals := by rfl) (hi : X.N[i]? = some n := by rfl) (hln : X.env.kindOf n = some .local := by rfl) :
    PS X (.Try body (h₀ :: hds) [] [] pos) (tTryAsN K i tb l) := by
  subst hK
  exact ps_try_asN hs hf hN hi hln takes0 hb hh
end
namespace Rd
variable {K : PySem.W.Frag} {σ : L2.St} {H : Hp} {Q : VK} {N : L2.St → Hp → Prop} {r : VK} {bk ct : L2.St → Hp → Prop}
theorem tryAsN {i : Nat} {tb : WX → TS} {l : List Cl} (h : tb (wAsN K i (fun _ _ _ _ => False) (Ends.mk N r bk ct) l) (Ends.mk N r bk ct) σ H) : tTryAsN K i tb l (Ends.mk N r bk ct) σ H := h
theorem makeT {C : Addr} {sp : Sp} {E : L2.St → XK} {t : TA} (h : t σ H fun vs H1 => MkGo C sp vs H1 Q (E σ)) : tMakeT C sp E t σ H Q := h
theorem methT {C : Addr} {m : Str} {sp : Sp} {E : L2.St → XK} {ta : TE} {t : TA} (h : ta σ H fun x H1 => ∃ a dx fs, x = .ref a ∧ H1 a = some (.ins C dx fs) ∧ fs.lookup m = none ∧ t σ H1 fun vs H2 => sp (x :: vs) H2 Q (E σ)) : tMethT C m sp E ta t σ H Q := h
/-- the next clause is asked -/
theorem wAs_no {c cls : Value} {d : Option Addr} {i : Nat} {ts : Addr → Value → Option Addr → TS} {Wo : WX} {D : Ends} (te : PySem.W.exmOne K cls c = some false) (h : WE Wo σ cls d H) : WE (wAs K c i ts Wo D) σ cls d H := ⟨false, te, fun q => (nomatch q), fun _ => h⟩
end Rd
end Fw

namespace Toy
open PySem L2 Fw
local macro_rules | `(tactic| walk_at "sz") => `(tactic| first | assumption | omega | decide | (have q_sz : sizeLine = 16777216 := sizeLine_eq; simp only [List.length_append, List.length_cons, List.length_nil]; omega) | (have q_sz : sizeLine = 16777216 := sizeLine_eq; simp only [List.length_cons, List.length_nil] at *; omega) | (have q_sz : sizeLine = 16777216 := sizeLine_eq; omega))
local macro_rules | `(tactic| walk_at "hp") => `(tactic| first | assumption | exact upd_same)
local macro_rules | `(tactic| walk_at "sq") => `(tactic| first | assumption | exact SqL.of (by walk_at "hp") | exact SqT.of (by walk_at "hp"))
local macro_rules | `(tactic| walk_at "sl") => `(tactic| first | assumption | omega | (simp only [List.length_append, List.length_take, List.length_drop, List.length_singleton, List.length_cons, List.length_nil, List.length_map, rep_len, Int.reduceToNat]; omega))
local macro_rules | `(tactic| walk_at "rd1") => `(tactic| first
  | ((with_reducible refine' Rd.var ?k1 ?_); (case k1 => rfl))
  | (with_reducible refine Rd.con ?_)
  | (with_reducible refine Rd.op ?_)
  | (with_reducible refine Rd.seq ?_)
  | ((with_reducible refine Rd.asg ?_); dsimp only [List.set])
  | (with_reducible refine Rd.drop ?_)
  | (with_reducible refine Rd.asgSub ?_)
  | ((with_reducible refine' Rd.setL ?k1 ?k2 ?_); (case k1 => walk_at "hp"); (case k2 => first | assumption | rfl); try dsimp only [List.set])
  | (with_reducible refine Rd.ret ?_)
  | (with_reducible refine Rd.retN ?_)
  | (with_reducible refine Rd.next ?_)
  | (with_reducible refine Rd.ifS ?_)
  | (with_reducible refine Rd.cons ?_)
  | (with_reducible refine Rd.nil ?_)
  | (with_reducible refine Rd.call ?_)
  | (with_reducible refine Rd.cb ?_)
  | (with_reducible refine Rd.test ?_)
  | (with_reducible refine Rd.tbv ?_)
  | (with_reducible refine Rd.exbl ?_)
  | (with_reducible refine Rd.exint ?_)
  | (with_reducible refine Rd.yes ?_)
  | (with_reducible refine Rd.andT ?_)
  | (with_reducible refine Rd.orT ?_)
  | (with_reducible refine Rd.notT ?_)
  | (with_reducible refine Rd.andV ?_)
  | (with_reducible refine Rd.orV ?_)
  | (with_reducible refine Rd.notV ?_)
  | (with_reducible refine Rd.chain ?_)
  | (with_reducible refine Rd.sl ?_)
  | (with_reducible refine Rd.lcL ?_)
  | (with_reducible refine Rd.lcT ?_)
  | (with_reducible refine Rd.lcR ?_)
  | (with_reducible refine Rd.lcS ?_)
  | (with_reducible refine Rd.foL ?_)
  | (with_reducible refine Rd.foT ?_)
  | (with_reducible refine Rd.foR ?_)
  | ((with_reducible refine' Rd.exrange ?k1 ?k2 ?_); (case k1 => first | decide | omega); (case k2 => first | decide | omega))
  | (with_reducible refine Rd.exstr ?_)
  | ((with_reducible refine' Rd.exlist ?k1 ?_); (case k1 => walk_at "sq"))
  | ((with_reducible refine' Rd.extup ?k1 ?_); (case k1 => walk_at "sq"))
  | (with_reducible refine Rd.noPart ?_)
  | (with_reducible refine Rd.part ?_)
  | (with_reducible refine Rd.addI ?_)
  | (with_reducible refine Rd.subI ?_)
  | (with_reducible refine Rd.gtI ?_)
  | (with_reducible refine Rd.geI ?_)
  | (with_reducible refine Rd.ltI ?_)
  | (with_reducible refine Rd.leI ?_)
  | (with_reducible refine Rd.eqI ?_)
  | (with_reducible refine Rd.neI ?_)
  | (with_reducible refine RS.eq ?_)
  | (with_reducible refine RS.ne ?_)
  | (with_reducible refine Rd.eqS ?_)
  | (with_reducible refine Rd.neS ?_)
  | (with_reducible refine Rd.leC ?_)
  | (with_reducible refine Rd.ltS ?_)
  | (with_reducible refine Rd.leS ?_)
  | (with_reducible refine Rd.int1 ?_)
  | ((with_reducible refine' Rd.modI ?k1 ?_); (case k1 => first | decide | omega | assumption))
  | ((with_reducible refine' Rd.divI ?k1 ?_); (case k1 => exact ⟨by omega, by omega⟩))
  | ((with_reducible refine' Rd.mulI ?k1 ?_); (case k1 => first | exact .inl ⟨by decide, by decide⟩ | exact .inr ⟨by decide, by decide⟩ | exact .inl ⟨by omega, by omega⟩ | exact .inr ⟨by omega, by omega⟩))
  | ((with_reducible refine' RS.mul ?k1 ?k2 ?k3 ?k4 ?_); (case k1 => decide); (case k2 => decide); (case k3 => walk_at "sl"); (case k4 => walk_at "sl"))
  | ((with_reducible refine' Rd.mulS ?k1 ?k2 ?k3 ?_); (case k1 => first | decide | omega); (case k2 => first | decide | omega); (case k3 => walk_at "sz"))
  | ((with_reducible refine' Rd.powI ?k1 ?_); (case k1 => exact ⟨by decide, by decide, by decide⟩))
  | ((with_reducible refine' Rd.lenL ?k1 ?_); (case k1 => walk_at "sq"))
  | ((with_reducible refine' Rd.lenT ?k1 ?_); (case k1 => walk_at "sq"))
  | ((with_reducible refine' RS.len ?k1 ?_); (case k1 => walk_at "sl"))
  | ((with_reducible refine' Rd.lenS ?k1 ?_); (case k1 => walk_at "sz"))
  | ((with_reducible refine' Rd.sumL ?k1 ?_); (case k1 => walk_at "sq"))
  | ((with_reducible refine' RS.ix ?k1 ?k2 ?_); (case k1 => walk_at "sl"); (case k2 => assumption))
  | ((with_reducible refine' Rd.ixL ?k1 ?k2 ?_); (case k1 => walk_at "sq"); (case k2 => first | assumption | rfl))
  | ((with_reducible refine' Rd.ixT ?k1 ?k2 ?_); (case k1 => walk_at "sq"); (case k2 => first | assumption | rfl))
  | ((with_reducible refine' RS.slTo ?k1 ?k2 ?_); (case k1 => omega); (case k2 => walk_at "sl"))
  | ((with_reducible refine' RS.slFrom ?k1 ?k2 ?_); (case k1 => omega); (case k2 => walk_at "sl"))
  | ((with_reducible refine' RS.slFT ?k1 ?k2 ?k3 ?_); (case k1 => omega); (case k2 => omega); (case k3 => walk_at "sl"))
  | ((with_reducible refine' Rd.slS ?k1 ?_); (case k1 => walk_at "sz"))
  | ((with_reducible refine' RS.add ?k1 ?_); (case k1 => walk_at "sl"))
  | ((with_reducible refine' Rd.addS ?k1 ?_); (case k1 => walk_at "sz"))
  | (with_reducible refine Rd.tup ?_)
  | (with_reducible refine Rd.lst ?_)
  | (with_reducible refine Rd.m0 ?_)
  | (with_reducible refine Rd.m1 ?_)
  | (with_reducible refine Rd.isStr ?_)
  | ((with_reducible refine' RS.upper ?k1 ?k2 ?_); (case k1 => assumption); (case k2 => walk_at "sl"))
  | ((with_reducible refine' Rd.upper ?k1 ?_); (case k1 => walk_at "sz"))
  | (with_reducible refine Rd.bm ?_)
  | ((with_reducible refine' Rd.tyL ?k1 ?_); (case k1 => walk_at "hp"))
  | ((with_reducible refine' Rd.append ?k1 ?k2 ?_); (case k1 => walk_at "hp"); (case k2 => walk_at "sz"))
  | (with_reducible refine Rd.make ?_)
  | (with_reducible refine Rd.meth ?_)
  | (with_reducible refine Rd.sfld ?_)
  | (with_reducible refine Rd.con_ ?_)
  | (with_reducible refine Rd.fld ?_)
  | (with_reducible refine Rd.tryAs ?_)
  | (with_reducible refine Rd.tryAsN ?_)
  | (with_reducible refine Rd.lenSetT ?_)
  | (with_reducible refine Rd.makeT ?_)
  | (with_reducible refine Rd.methT ?_)
  | (with_reducible refine Rd.callS ?_)
  | (with_reducible refine Rd.xf ?_)
  | (with_reducible refine Rd.mko ?_)
  | (with_reducible refine Rd.ost ?_)
  | (with_reducible refine Rd.iteNF ?_)
  | (with_reducible refine Rd.iteNT ?_)
  | (with_reducible refine Rd.iteT ?_)
  | (with_reducible refine Rd.iteF ?_)
  | ((with_reducible refine' Rd.iteDT ?k1 ?_); (case k1 => decide))
  | ((with_reducible refine' Rd.iteDF ?k1 ?_); (case k1 => decide))
  | ((with_reducible refine' Rd.iteNDT ?k1 ?_); (case k1 => decide))
  | ((with_reducible refine' Rd.iteNDF ?k1 ?_); (case k1 => decide))
  | ((with_reducible refine' Rd.iteBT ?k1 ?_); (case k1 => rfl))
  | ((with_reducible refine' Rd.iteBF ?k1 ?_); (case k1 => rfl)))
local macro_rules | `(tactic| walk_at "rd") => `(tactic| repeat walk_at "rd1")
def top (i : Nat) : Stmt := PySem.Challenge.pw_redopages_k02_kinds_and_their_pairs.main.body.getD i (.Pass ⟨0, 0, 0, 0⟩)
section
variable {P : Program} {w : World} {K : PySem.W.Frag} {mg : Str → Option Value} {base : Heap} {tk : Tok}
/-! ### the draws -/
def PoolAt (H : Hp) (p : Addr) : Prop := ∃ d s c : Int, H p = some (.lst [.int d, .int s, .int c])
def spDraw : Sp := fun vs H Q _ => ∃ (p : Addr) (m : Int), vs = [.ref p, .int m] ∧ 0 < m ∧ m < 1073741824 ∧ PoolAt H p ∧
  ∀ (r : Int) (H' : Hp), 0 ≤ r → r < m → (∀ a, a ≠ p → H' a = H a) → PoolAt H' p → Q (.int r) H'
abbrev s_law_draw : Stmt := top 22
theorem sc_law_draw : FnScope ["_law_pool_here", "_law_many", "_law_digit"] ["_law_pool_here", "_law_many"] (defScope s_law_draw) := ⟨rfl, rfl, rfl, by decide +kernel, rfl, by decide +kernel, by decide +kernel⟩
theorem ok_draw {f : Addr} {fd : FuncData} (F : Fun K "_law_draw" "_law_draw" s_law_draw f fd) (T : Bt mg) : FnOk P w K mg base CX0 1 f fd ["_law_pool_here", "_law_many"] spDraw := by
  refine F.ok sc_law_draw (fun vs H Q E h => ?_) (fun cdv A outer s H vs Q E hr h => ?_)
  · obtain ⟨p, m, rfl, _⟩ := h
    rfl
  · obtain ⟨p, m, rfl, hm, hm2, ⟨d, sd, c, hp⟩, k⟩ := h
    refine ⟨_, (pss_cons (ps_if (PW.pt (pw_and (pt_cmpR op_gtI (pe_ix (kix K) (pv 0) pe_int (fun _ _ => rfl)) pe_int (nomark _)) (pw_and1 (pt_cmpR op_gtI (pe_ix (kix K) (pv 0) pe_int (fun _ _ => rfl)) pe_int (nomark _))))) (pss_cons (ps_set (i := 2) sc_law_draw.nd rfl (Or.inl rfl) (pe_op op_modI (pe_callTy call_intA (by rfl) T.int (by decide +kernel) (pa_cons (pe_ix (kix K) (pv 0) pe_int (fun _ _ => rfl)) pa_nil)) (pv 1)))
  (pss_cons (ps_asg (pe_op op_divI (pe_ix (kix K) (pv 0) pe_int (fun _ _ => rfl)) (pv 1)) (pg_sub (pv 0) pe_int set_list))
  (pss_cons (ps_asg (pe_op op_subI (pe_ix (kix K) (pv 0) pe_int (fun _ _ => rfl)) pe_int) (pg_sub (pv 0) pe_int set_list))
  (pss_one (ps_ret (pv 2))))))
  pss_nil)
  (pss_cons (ps_asg (pe_op op_modI (pe_callTy call_intA (by rfl) T.int (by decide +kernel) (pa_cons (pe_op op_addA (pe_op op_mulA (pe_ix (kix K) (pv 0) pe_int (fun _ _ => rfl)) pe_int) pe_int) pa_nil)) pe_int) (pg_sub (pv 0) pe_int set_list))
  (pss_one (ps_ret (pe_op op_modI (pe_callTy call_intA (by rfl) T.int (by decide +kernel) (pa_cons (pe_ix (kix K) (pv 0) pe_int (fun _ _ => rfl)) pa_nil)) (pv 1)))))), ?_⟩
    refine Rd.start_ (σ' := [some (.ref p), some (.int m), none]) rfl ?_
    have fin : ∀ (H' : Hp) (x : Int) (d' s' c' : Int), H' = upd (upd H p (.lst [.int d', .int sd, .int c])) p (.lst [.int d', .int s', .int c']) → Q (.int (x % m)) H' := fun H' x d' s' c' e => by
      subst e
      exact k _ _ (Int.emod_nonneg _ (by omega)) (Int.emod_lt_of_pos _ hm) (fun a ha => by rw [upd_ne ha, upd_ne ha]) ⟨_, _, _, upd_same⟩
    have fin1 : ∀ (x : Int) (d' s' c' : Int), Q (.int (x % m)) (upd H p (.lst [.int d', .int s', .int c'])) := fun x d' s' c' =>
      k _ _ (Int.emod_nonneg _ (by omega)) (Int.emod_lt_of_pos _ hm) (fun a ha => by rw [upd_ne ha]) ⟨_, _, _, upd_same⟩
    walk_at "rd"
    refine Rd.iteD (fun h1 => ?_) (fun h1 => ?_)
    · walk_at "rd"
      refine Rd.iteD (fun h2 => ?_) (fun h2 => ?_)
      · walk_at "rd"
        exact fin _ _ _ _ _ rfl
      · walk_at "rd"
        exact fin1 _ _ _ _
    · walk_at "rd"
      exact fin1 _ _ _ _

def spPool (K : PySem.W.Frag) : Sp := fun vs H Q _ => ∃ (a : Addr) (ns : List Int) (k : Int), vs = [.ref a, .int k] ∧ SqL K H a (ns.map V.int) ∧ ns.length ≤ 63 ∧ 0 ≤ k ∧ k < 100 ∧
  ∀ (p : Addr) (H' : Hp), H p = none → Same H H' → PoolAt H' p → Q (.ref p) H'
abbrev s_law_pool : Stmt := top 21
theorem sc_law_pool : FnScope ["_law_script", "_law_k", "_law_seed", "_law_digits"] ["_law_script", "_law_k"] (defScope s_law_pool) := ⟨rfl, rfl, rfl, by decide +kernel, rfl, by decide +kernel, by decide +kernel⟩
theorem ok_pool {f : Addr} {fd : FuncData} (F : Fun K "_law_pool" "_law_pool" s_law_pool f fd) (T : Bt mg) : FnOk P w K mg base CX0 1 f fd ["_law_script", "_law_k"] (spPool K) := by
  refine F.ok sc_law_pool (fun vs H Q E h => ?_) (fun cdv A outer s H vs Q E hr h => ?_)
  · obtain ⟨p, ns, m, rfl, _⟩ := h
    rfl
  · obtain ⟨a, ns, m, rfl, hS, hl, hm, hm2, k⟩ := h
    have hu := hr.units
    refine ⟨_, (pss_cons (ps_set (i := 2) sc_law_pool.nd rfl (Or.inl rfl) (pe_op op_addA (pe_op op_addA (pe_op op_mulA pe_int (pv 1)) pe_int) (pe_op op_mulA pe_int (pe_callB (ksum K) (by rfl) T.sum (by decide +kernel) (pa_cons (pv 0) pa_nil)))))
  (pss_cons (ps_set (i := 3) sc_law_pool.nd rfl (Or.inl rfl) pe_int)
  (pss_cons (ps_if (pt_cmpR op_ltA (pv 1) (pe_callB (klen K) (by rfl) T.len (by decide +kernel) (pa_cons (pv 0) pa_nil)) (nomark _)) (pss_cons (ps_set (i := 2) sc_law_pool.nd rfl (Or.inl rfl) (pe_op op_addA (pv 2) (pe_ix (kix K) (pv 0) (pv 1) (fun _ _ => rfl))))
  (pss_one (ps_if (pt_cmpR op_geI (pe_ix (kix K) (pv 0) (pv 1) (fun _ _ => rfl)) (pe_op op_powI pe_int pe_int) (nomark _)) (pss_one (ps_set (i := 3) sc_law_pool.nd rfl (Or.inl rfl) (pe_ix (kix K) (pv 0) (pv 1) (fun _ _ => rfl))))
  pss_nil)))
  pss_nil)
  (pss_one (ps_ret (pe_lst (pa_cons (pv 3) (pa_cons (pe_op op_modI (pe_callTy call_intA (by rfl) T.int (by decide +kernel) (pa_cons (pv 2) pa_nil)) pe_int) (pa_cons pe_int pa_nil))))))))), ?_⟩
    refine Rd.start_ (σ' := [some (.ref a), some (.int m), none, none]) rfl ?_
    have fin : ∀ x y z : Int, ∀ p, H p = none → Q (.ref p) (upd H p (.lst [.int x, .int y, .int z])) := fun x y z p hp => k p _ hp (same_new hp) ⟨_, _, _, upd_same⟩
    walk_at "rd"
    refine Rd.iteD (fun h1 => ?_) (fun h1 => ?_)
    · rw [List.length_map] at h1
      obtain ⟨z, hat⟩ : ∃ z, atI (ns.map V.int) m = some (V.int z) := by
        have hlt : m.toNat < ns.length := by omega
        have e : m = ((m.toNat : Nat) : Int) := by omega
        exact ⟨ns[m.toNat], (congrArg (atI (ns.map V.int)) e).trans (atI_nat (by simp [hlt]))⟩
      walk_at "rd"
      refine Rd.iteD (fun h2 => ?_) (fun h2 => ?_)
      · walk_at "rd"
        exact ⟨by show 3 ≤ sizeLine; decide, fin _ _ _⟩
      · walk_at "rd"
        exact ⟨by show 3 ≤ sizeLine; decide, fin _ _ _⟩
    · walk_at "rd"
      exact ⟨by show 3 ≤ sizeLine; decide, fin _ _ _⟩

/-! ### words of drawn letters -/
theorem letters_at : ∀ k, k < 26 → ([97, 98, 99, 100, 101, 102, 103, 104, 105, 106, 107, 108, 109, 110, 111, 112, 113, 114, 115, 116, 117, 118, 119, 120, 121, 122] : List Nat)[k]? = some (97 + k) := by decide +kernel
theorem letter_at (n : Int) : atI ([97, 98, 99, 100, 101, 102, 103, 104, 105, 106, 107, 108, 109, 110, 111, 112, 113, 114, 115, 116, 117, 118, 119, 120, 121, 122] : List Nat) (n % 26) = some (97 + (n % 26).toNat) := by
  have h0 : 0 ≤ n % 26 := Int.emod_nonneg _ (by decide)
  have h1 : n % 26 < 26 := Int.emod_lt_of_pos _ (by decide)
  have e : n % 26 = (((n % 26).toNat : Nat) : Int) := by omega
  rw [e]
  exact atI_nat (letters_at _ (by omega))
def wordL (ns : List Int) : List Nat := ns.map fun n => 97 + (n % 26).toNat
theorem join_chars : ∀ l : List Nat, TL.joinL [] (l.map fun c => [c]) = l
  | [] => rfl
  | [c] => rfl
  | c :: d :: l => by
    show [c] ++ ([] ++ TL.joinL [] ((d :: l).map fun c => [c])) = c :: d :: l
    rw [join_chars (d :: l)]
    rfl
theorem join_word (l : List Nat) : Txt.join (S []) (l.map fun c => (⟨#[c]⟩ : Str)) = S l := by
  have e := SX.join_S [] (l.map fun c => [c])
  rw [join_chars, List.map_map] at e
  exact e
theorem sum_ones (l : List Nat) : ((l.map fun c => (⟨#[c]⟩ : Str)).map (·.length)).sum = l.length := by
  induction l with
  | nil => rfl
  | cons c l ih =>
    rw [List.map_cons, List.map_cons, List.sum_cons, ih, List.length_cons]
    show 1 + l.length = l.length + 1
    omega
def spWord (K : PySem.W.Frag) : Sp := fun vs H Q _ => ∃ (a : Addr) (ns : List Int), vs = [.ref a] ∧ SqL K H a (ns.map V.int) ∧ ns.length ≤ 100 ∧
  ∀ (H' : Hp), Same H H' → Q (.str (S (wordL ns))) H'
abbrev s_law_word : Stmt := top 23
theorem sc_law_word : FnScope ["_law_numbers", "_law_letters", "_law_number"] ["_law_numbers"] (defScope s_law_word) := ⟨rfl, rfl, rfl, by decide +kernel, rfl, by decide +kernel, by decide +kernel⟩
theorem ok_word {f : Addr} {fd : FuncData} (F : Fun K "_law_word" "_law_word" s_law_word f fd) (T : Bt mg) : FnOk P w K mg base CX0 1 f fd ["_law_numbers"] (spWord K) := by
  refine F.ok sc_law_word (fun vs H Q E h => ?_) (fun cdv A outer s H vs Q E hr h => ?_)
  · obtain ⟨p, ns, rfl, _⟩ := h
    rfl
  · obtain ⟨a, ns, rfl, hS, hl, k⟩ := h
    refine ⟨_, (pss_cons (ps_set (i := 1) sc_law_word.nd rfl (Or.inr rfl) (pe_lit [97, 98, 99, 100, 101, 102, 103, 104, 105, 106, 107, 108, 109, 110, 111, 112, 113, 114, 115, 116, 117, 118, 119, 120, 121, 122] (by decide +kernel)))
  (pss_one (ps_ret (kjoin K (pe_lit [] (by decide +kernel)) (pe_lc (own := [("_law_number", 2)]) (g := gName 2) (tt := tYes) rfl sc_law_word.nd (kpl K (pv 0)) (blkOk_by (N := ["_law_numbers", "_law_letters", "_law_number"]) (sc := defScope s_law_word) (by decide +kernel)) (fun _ _ _ _ _ => (pg_name (i := 2) sc_law_word.nd rfl (Or.inl rfl))) (fun _ _ _ _ _ => pts_nil) (fun _ _ _ _ _ => (pe_ix (kix K) (pv 1) (pe_op op_modI (pe_callTy call_intA (by rfl) T.int (by decide +kernel) (pa_cons (pv 2) pa_nil)) pe_int) (fun _ _ => rfl)))))))), ?_⟩
    refine Rd.start_ (σ' := [some (.ref a), none, none]) rfl ?_
    walk_at "rd"
    refine Rd.lcW Rd.wList (by rw [List.length_map]; walk_at "sz") (fun i acc H' => Same H H' ∧ acc = (wordL (ns.take i)).map fun c => V.str ⟨#[c]⟩) ⟨Same.refl _, rfl⟩
      (fun D hD i acc ys H' j => ⟨same_upd j.1 hD, j.2⟩) (fun i acc H' hi j => j.1.seq hS) ?_ ?_
    · intro D hD i x acc H' hi hx hacc hlen ⟨j1, j2⟩ Kt Kf hT hF
      dsimp only [List.set]
      rw [List.getElem?_map] at hx
      obtain ⟨z, hz, rfl⟩ := Option.map_eq_some_iff.mp hx
      walk_at "rd"
      refine RS.ix (by decide) (letter_at z) ?_
      refine hT _ _ hacc ⟨j1, ?_⟩
      rw [j2]
      unfold wordL
      rw [List.take_add_one, hz]
      simp
    · intro D acc H' hD hacc hlen ⟨j1, j2⟩
      rw [List.length_map] at j2
      rw [List.take_length] at j2
      have e : acc = (((wordL ns).map fun c => (⟨#[c]⟩ : Str)).map V.str) := by rw [j2, List.map_map]; rfl
      rw [e] at hacc
      refine Rd.join (SqL.of hacc) ?_ ?_
      · rw [sum_ones]
        show _ + _ * 0 ≤ _
        unfold wordL
        rw [List.length_map]
        omega
      · rw [join_word]
        exact k H' j1

end
section
variable {P : Program} {w : World} {K : PySem.W.Frag} {mg : Str → Option Value} {base : Heap} {tk : Tok}
/-! ### names -/
/-- a name: 1 to 8 letters -/
def Nm (l : List Nat) : Prop := 1 ≤ l.length ∧ l.length ≤ 8 ∧ ∀ c ∈ l, 97 ≤ c ∧ c ≤ 122
def letterL (z : Int) : List Nat := [97 + (z % 26).toNat]
/-- the k-th name, as drawn -/
def nameL (style shift stride place size : Int) (word : List Nat) (k : Nat) : List Nat :=
  if style = 2 then letterL (shift + stride * k) ++ (word.drop k).take ((k + (place + 3 * k) % 8).toNat - k)
  else if style = 1 then word.take (1 + (k + place) % 8).toNat
  else word.take (place % size).toNat ++ letterL (shift + stride * k) ++ (word.drop (place % size + 1).toNat).take (size.toNat - (place % size + 1).toNat)
structure Drawn (style shift stride place size : Int) (word : List Nat) : Prop where
  sh : 0 ≤ shift ∧ shift < 26
  st : ∃ d : Int, 0 ≤ d ∧ d < 6 ∧ stride = 1 + 2 * d
  pl : 0 ≤ place ∧ place < 8
  sz : 1 ≤ size ∧ size ≤ 8
  wl : word.length = 8
  wc : ∀ c ∈ word, 97 ≤ c ∧ c ≤ 122
theorem letter_ok {z : Int} : ∀ c ∈ letterL z, 97 ≤ c ∧ c ≤ 122 := by
  intro c hc
  have h1 : z % 26 < 26 := Int.emod_lt_of_pos _ (by decide)
  have e : c = 97 + (z % 26).toNat := List.mem_singleton.mp hc
  omega
section
variable {style shift stride place size : Int} {word : List Nat}
theorem at_lt (D : Drawn style shift stride place size word) : 0 ≤ place % size ∧ place % size < size := ⟨Int.emod_nonneg _ (by have := D.sz; omega), Int.emod_lt_of_pos _ (by have := D.sz; omega)⟩
theorem name_ok (D : Drawn style shift stride place size word) {k : Nat} (hk : k < 8) : Nm (nameL style shift stride place size word k) := by
  obtain ⟨⟨s1, s2⟩, _, ⟨p1, p2⟩, ⟨z1, z2⟩, wl, wc⟩ := id D
  obtain ⟨a1, a2⟩ := at_lt D
  unfold nameL Nm
  by_cases h2 : style = 2
  · rw [if_pos h2]
    refine ⟨?_, ?_, ?_⟩
    · simp [letterL]
    · simp only [letterL, List.length_append, List.length_singleton, List.length_take, List.length_drop, wl]; omega
    · intro c hc
      rcases List.mem_append.mp hc with hc | hc
      · exact letter_ok c hc
      · exact wc c (List.mem_of_mem_drop (List.mem_of_mem_take hc))
  · rw [if_neg h2]
    by_cases h1 : style = 1
    · rw [if_pos h1]
      refine ⟨?_, ?_, fun c hc => wc c (List.mem_of_mem_take hc)⟩
      · rw [List.length_take, wl]; omega
      · rw [List.length_take, wl]; omega
    · rw [if_neg h1]
      refine ⟨?_, ?_, ?_⟩
      · simp only [letterL, List.length_append, List.length_singleton]; omega
      · simp only [letterL, List.length_append, List.length_singleton, List.length_take, List.length_drop, wl]; omega
      · intro c hc
        rcases List.mem_append.mp hc with hc | hc
        · rcases List.mem_append.mp hc with hc | hc
          · exact wc c (List.mem_of_mem_take hc)
          · exact letter_ok c hc
        · exact wc c (List.mem_of_mem_drop (List.mem_of_mem_take hc))
theorem letter_inj (D : Drawn style shift stride place size word) {j k : Nat} (hj : j < 8) (hk : k < 8) (e : 97 + ((shift + stride * j) % 26).toNat = 97 + ((shift + stride * k) % 26).toNat) : j = k := by
  obtain ⟨d, d0, d6, rfl⟩ := D.st
  have hd : d = 0 ∨ d = 1 ∨ d = 2 ∨ d = 3 ∨ d = 4 ∨ d = 5 := by omega
  rcases hd with rfl | rfl | rfl | rfl | rfl | rfl <;> omega
theorem name_inj (D : Drawn style shift stride place size word) {j k : Nat} (hj : j < 8) (hk : k < 8) (e : nameL style shift stride place size word j = nameL style shift stride place size word k) : j = k := by
  obtain ⟨⟨s1, s2⟩, _, ⟨p1, p2⟩, ⟨z1, z2⟩, wl, wc⟩ := id D
  obtain ⟨a1, a2⟩ := at_lt D
  unfold nameL at e
  by_cases h2 : style = 2
  · rw [if_pos h2, if_pos h2] at e
    exact letter_inj D hj hk (List.cons.inj e).1
  · rw [if_neg h2, if_neg h2] at e
    by_cases h1 : style = 1
    · rw [if_pos h1, if_pos h1] at e
      have q := congrArg List.length e
      rw [List.length_take, List.length_take, wl] at q
      omega
    · rw [if_neg h1, if_neg h1, List.append_assoc, List.append_assoc] at e
      exact letter_inj D hj hk (List.cons.inj (List.append_cancel_left e)).1
theorem names_nodup (D : Drawn style shift stride place size word) : ((List.range 8).map (nameL style shift stride place size word)).Nodup := by
  refine List.pairwise_map.mpr (List.Pairwise.imp_of_mem (fun {a b} ha hb hab e => ?_) (List.nodup_range (n := 8)))
  exact hab (name_inj D (List.mem_range.mp ha) (List.mem_range.mp hb) e)
end
/-- all but p as it was -/
def SameB (p : Addr) (H H' : Hp) : Prop := ∀ a o, a ≠ p → H a = some o → H' a = some o
theorem SameB.refl (p : Addr) (H : Hp) : SameB p H H := fun _ _ _ h => h
theorem SameB.trans {p : Addr} {H H1 H2 : Hp} (a : SameB p H H1) (b : SameB p H1 H2) : SameB p H H2 := fun c o n h => b c o n (a c o n h)
theorem SameB.of {p : Addr} {H H' : Hp} (a : Same H H') : SameB p H H' := fun c o _ h => a c o h
theorem SameB.drawn {p : Addr} {H H' : Hp} (a : ∀ b, b ≠ p → H' b = H b) : SameB p H H' := fun c o n h => by rw [a c n]; exact h
theorem SameB.upd {p D : Addr} {o : HO} {H0 H : Hp} (e : SameB p H0 H) (h : H0 D = none) : SameB p H0 (upd H D o) := fun a u n ha => by
  rw [upd_ne (ne_of_none ha h)]; exact e a u n ha
theorem fresh_of {H G : Hp} {a p : Addr} (h : G a = none) (s : SameB p H G) (n : p ≠ a) : H a = none := by
  cases e : H a with
  | none => rfl
  | some o => rw [s a o (Ne.symm n) e] at h; cases h
/-- a list of names at q -/
def NamesAt (H : Hp) (q : Addr) (ns : List (List Nat)) : Prop := H q = some (.lst (ns.map fun l => V.str (S l)))
def spNames : Sp := fun vs H Q _ => ∃ (p : Addr), vs = [.ref p] ∧ PoolAt H p ∧
  ∀ (ns : List (List Nat)) (q : Addr) (H' : Hp), ns.length = 8 → (∀ l ∈ ns, Nm l) → ns.Nodup → H q = none → SameB p H H' → PoolAt H' p → NamesAt H' q ns → Q (.ref q) H'

theorem pool_of {H H' : Hp} {p : Addr} (h : PoolAt H p) (e : Same H H') : PoolAt H' p := by
  obtain ⟨d, s, c, q⟩ := h
  exact ⟨d, s, c, e _ _ q⟩
theorem PoolAt.upd {H : Hp} {p D : Addr} {o : HO} (h : PoolAt H p) (n : p ≠ D) : PoolAt (upd H D o) p := by
  obtain ⟨d, s, c, q⟩ := h
  exact ⟨d, s, c, by rw [upd_ne n]; exact q⟩
theorem pool_ne {H : Hp} {p D : Addr} (h : PoolAt H p) (n : H D = none) : p ≠ D := by
  obtain ⟨d, s, c, q⟩ := h
  exact ne_of_none q n
theorem nameL0 {style shift stride place size : Int} {word : List Nat} {k : Nat} (h1 : ¬ style = 1) (h2 : ¬ style = 2) : nameL style shift stride place size word k = word.take (place % size).toNat ++ letterL (shift + stride * k) ++ (word.drop (place % size + 1).toNat).take (size.toNat - (place % size + 1).toNat) := by
  unfold nameL; rw [if_neg h2, if_neg h1]
theorem nameL1 {style shift stride place size : Int} {word : List Nat} {k : Nat} (h1 : style = 1) : nameL style shift stride place size word k = word.take (1 + (k + place) % 8).toNat := by
  unfold nameL; rw [if_neg (by omega), if_pos h1]
theorem nameL2 {style shift stride place size : Int} {word : List Nat} {k : Nat} (h2 : style = 2) : nameL style shift stride place size word k = letterL (shift + stride * k) ++ (word.drop k).take ((k + (place + 3 * k) % 8).toNat - k) := by
  unfold nameL; rw [if_pos h2]
abbrev s_law_names : Stmt := top 24
theorem sc_law_names : FnScope ["_law_pool_here", "_law_style", "_law_shift", "_law_stride", "_law_place", "_law_size", "_law_word_here", "_law_names_here", "_law_k", "_law_letter", "_law_at", "_law_name"] ["_law_pool_here"] (defScope s_law_names) := ⟨rfl, rfl, rfl, by decide +kernel, rfl, by decide +kernel, by decide +kernel⟩
theorem ok_names {f : Addr} {fd : FuncData} (F : Fun K "_law_names" "_law_names" s_law_names f fd) (T : Bt mg) (dD : Df K mg "_law_draw" "_law_draw" s_law_draw ["_law_pool_here", "_law_many"]) (dW : Df K mg "_law_word" "_law_word" s_law_word ["_law_numbers"]) :
    FnOk P w K mg base CX0 2 f fd ["_law_pool_here"] spNames := by
  have GD : FnOk P w K mg base CX0 1 dD.f dD.fd _ spDraw := ok_draw dD.F T
  have GW : FnOk P w K mg base CX0 1 dW.f dW.fd _ (spWord K) := ok_word dW.F T
  refine F.ok sc_law_names (fun vs H Q E h => ?_) (fun cdv A outer s H vs Q E hr h => ?_)
  · obtain ⟨p, rfl, _⟩ := h
    rfl
  · obtain ⟨p, rfl, hp, k⟩ := h
    have hu := hr.units
    refine ⟨_, (pss_cons (ps_set (i := 1) sc_law_names.nd rfl (Or.inl rfl) (pe_cf dD GD hr pass0 (pa_cons (pv 0) (pa_cons pe_int pa_nil))))
  (pss_cons (ps_set (i := 2) sc_law_names.nd rfl (Or.inl rfl) (pe_cf dD GD hr pass0 (pa_cons (pv 0) (pa_cons pe_int pa_nil))))
  (pss_cons (ps_set (i := 3) sc_law_names.nd rfl (Or.inl rfl) (pe_op op_addA pe_int (pe_op op_mulA pe_int (pe_cf dD GD hr pass0 (pa_cons (pv 0) (pa_cons pe_int pa_nil))))))
  (pss_cons (ps_set (i := 4) sc_law_names.nd rfl (Or.inl rfl) (pe_cf dD GD hr pass0 (pa_cons (pv 0) (pa_cons pe_int pa_nil))))
  (pss_cons (ps_set (i := 5) sc_law_names.nd rfl (Or.inl rfl) (pe_op op_addA pe_int (pe_cf dD GD hr pass0 (pa_cons (pv 0) (pa_cons pe_int pa_nil)))))
  (pss_cons (ps_set (i := 6) sc_law_names.nd rfl (Or.inl rfl) (pe_cf dW GW hr pass0 (pa_cons (pe_lc (own := [("_law_k", 8)]) (g := gName 8) (tt := tYes) rfl sc_law_names.nd (pi_range1 rfl T.range (pa_cons pe_int pa_nil)) (blkOk_by (N := ["_law_pool_here", "_law_style", "_law_shift", "_law_stride", "_law_place", "_law_size", "_law_word_here", "_law_names_here", "_law_k", "_law_letter", "_law_at", "_law_name"]) (sc := defScope s_law_names) (by decide +kernel)) (fun _ _ _ _ _ => (pg_name (i := 8) sc_law_names.nd rfl (Or.inl rfl))) (fun _ _ _ _ _ => pts_nil) (fun _ _ _ _ _ => (pe_cf dD GD hr pass0 (pa_cons (pv 0) (pa_cons pe_int pa_nil))))) pa_nil)))
  (pss_cons (ps_set (i := 7) sc_law_names.nd rfl (Or.inl rfl) (pe_lst pa_nil))
  (pss_cons (ps_for PassesOwn.never rfl (pi_range1 rfl T.range (pa_cons pe_int pa_nil)) (pg_name (i := 8) sc_law_names.nd rfl (Or.inl rfl))
  (pss_cons (ps_set (i := 9) sc_law_names.nd rfl (Or.inl rfl) (pe_cf dW GW hr pass0 (pa_cons (pe_lst (pa_cons (pe_op op_addA (pv 2) (pe_op op_mulA (pv 3) (pv 8))) pa_nil)) pa_nil)))
  (pss_cons (ps_set (i := 10) sc_law_names.nd rfl (Or.inl rfl) (pe_op op_modI (pe_callTy call_intA (by rfl) T.int (by decide +kernel) (pa_cons (pv 4) pa_nil)) (pv 5)))
  (pss_cons (ps_set (i := 11) sc_law_names.nd rfl (Or.inl rfl) (pe_op op_addA (pe_op op_addA (pe_slice (ksl K) (pv 6) po_none (po_some (pv 10))) (pv 9)) (pe_slice (ksl K) (pv 6) (po_some (pe_op op_addA (pv 10) pe_int)) (po_some (pv 5)))))
  (pss_cons (ps_if (pt_cmpR (keq K hu) (pv 1) pe_int (nomark _)) (pss_one (ps_set (i := 11) sc_law_names.nd rfl (Or.inl rfl) (pe_slice (ksl K) (pv 6) po_none (po_some (pe_op op_addA pe_int (pe_op op_modI (pe_callTy call_intA (by rfl) T.int (by decide +kernel) (pa_cons (pe_op op_addA (pv 8) (pv 4)) pa_nil)) pe_int))))))
  pss_nil)
  (pss_cons (ps_if (pt_cmpR (keq K hu) (pv 1) pe_int (nomark _)) (pss_one (ps_set (i := 11) sc_law_names.nd rfl (Or.inl rfl) (pe_op op_addA (pv 9) (pe_slice (ksl K) (pv 6) (po_some (pv 8)) (po_some (pe_op op_addA (pv 8) (pe_op op_modI (pe_callTy call_intA (by rfl) T.int (by decide +kernel) (pa_cons (pe_op op_addA (pv 4) (pe_op op_mulA pe_int (pv 8))) pa_nil)) pe_int)))))))
  pss_nil)
  (pss_one (ps_expr (kapp K (pv 7) (pa_cons (pv 11) pa_nil))))))))))
  (pss_one (ps_ret (pv 7))))))))))), ?_⟩
    refine Rd.start_ (σ' := [some (.ref p), none, none, none, none, none, none, none, none, none, none, none]) rfl ?_
    walk_at "rd"
    refine ⟨_, _, rfl, by decide, by decide, hp, fun style H1 a1 b1 e1 p1 => ?_⟩
    walk_at "rd"
    refine ⟨_, _, rfl, by decide, by decide, p1, fun shift H2 a2 b2 e2 p2 => ?_⟩
    walk_at "rd"
    refine ⟨_, _, rfl, by decide, by decide, p2, fun d H3 a3 b3 e3 p3 => ?_⟩
    walk_at "rd"
    refine ⟨_, _, rfl, by decide, by decide, p3, fun place H4 a4 b4 e4 p4 => ?_⟩
    walk_at "rd"
    refine ⟨_, _, rfl, by decide, by decide, p4, fun sz H5 a5 b5 e5 p5 => ?_⟩
    have s5 : SameB p H H5 := fun a o n h => by rw [e5 a n, e4 a n, e3 a n, e2 a n, e1 a n]; exact h
    walk_at "rd"
    refine Rd.lcW Rd.wRange (by decide) (fun i acc H' => SameB p H5 H' ∧ PoolAt H' p ∧ ∃ ns : List Int, ns.length = i ∧ acc = ns.map V.int) ⟨SameB.refl _ _, p5, [], rfl, rfl⟩
      (fun D hD i acc ys H' ⟨j1, j2, j3⟩ => ⟨j1.upd hD, PoolAt.upd j2 (pool_ne p5 hD), j3⟩) (fun _ _ _ _ _ => trivial) ?_ ?_
    · intro D hD i x acc H' hi hx hacc hlen ⟨j1, j2, ns, j3, j4⟩ Kt Kf hT hF
      dsimp only [List.set]
      walk_at "rd"
      refine ⟨_, _, rfl, by decide, by decide, j2, fun r H6 r0 r1 e6 p6 => ?_⟩
      refine hT _ _ ?_ ⟨j1.trans (SameB.drawn e6), p6, ns ++ [r], by rw [List.length_append, j3]; rfl, by rw [j4, List.map_append]; rfl⟩
      rw [e6 D (Ne.symm (pool_ne p5 hD))]
      exact hacc
    intro D acc H6 hD hacc hlen ⟨j1, j2, ns, j3, j4⟩
    rw [j4] at hacc
    walk_at "rd"
    refine ⟨_, ns, rfl, SqL.of hacc, by rw [j3]; decide, fun H7 s7 => ?_⟩
    have wl : (wordL ns).length = 8 := by unfold wordL; rw [List.length_map]; exact j3
    have wc : ∀ c ∈ wordL ns, 97 ≤ c ∧ c ≤ 122 := by
      intro c hc
      obtain ⟨z, _, rfl⟩ := List.mem_map.mp hc
      have := Int.emod_lt_of_pos z (show (0 : Int) < 26 by decide)
      omega
    generalize wordL ns = word at wl wc ⊢
    have D8 : Drawn style shift (1 + 2 * d) place (1 + sz) word := ⟨⟨a2, b2⟩, ⟨d, a3, b3, rfl⟩, ⟨a4, b4⟩, ⟨by omega, by omega⟩, wl, wc⟩
    have s7' : SameB p H H7 := (s5.trans j1).trans (SameB.of s7)
    have p7 : PoolAt H7 p := pool_of j2 s7
    walk_at "rd"
    refine ⟨Nat.zero_le _, fun q hq => ?_⟩
    have hq0 : H q = none := by
      cases e : H q with
      | none => rfl
      | some o => rw [s7' q o (Ne.symm (pool_ne p7 hq)) e] at hq; cases hq
    have npq := pool_ne p7 hq
    walk_at "rd"
    refine Rd.foW Rd.wRange (fun i σ H' => ∃ a b c d' : Option V, σ = [some (.ref p), some (.int style), some (.int shift), some (.int (1 + 2 * d)), some (.int place), some (.int (1 + sz)), some (.str (S word)), some (.ref q), a, b, c, d'] ∧
      SameB p H H' ∧ PoolAt H' p ∧ NamesAt H' q ((List.range i).map (nameL style shift (1 + 2 * d) place (1 + sz) word)))
      ⟨none, none, none, none, rfl, s7'.upd hq0, p7.upd npq, upd_same⟩ (fun _ _ _ _ _ => trivial) ?_ ?_
    · rintro i x σ H8 hi hx ⟨a, b, c, d', rfl, t1, t2, t3⟩
      rw [Int.zero_add] at hx
      subst hx
      have hi8 : i < 8 := hi
      dsimp only [List.set]
      have fin : ∀ (z : List Nat) (σ' : St), (∃ a b c d' : Option V, σ' = [some (.ref p), some (.int style), some (.int shift), some (.int (1 + 2 * d)), some (.int place), some (.int (1 + sz)), some (.str (S word)), some (.ref q), a, b, c, d']) → ∀ H9, SameB p H H9 → PoolAt H9 p → H9 q = some (.lst (((List.range i).map (nameL style shift (1 + 2 * d) place (1 + sz) word)).map (fun l => V.str (S l)) ++ [.str (S z)])) → z = nameL style shift (1 + 2 * d) place (1 + sz) word i →
          ∃ a b c d' : Option V, σ' = [some (.ref p), some (.int style), some (.int shift), some (.int (1 + 2 * d)), some (.int place), some (.int (1 + sz)), some (.str (S word)), some (.ref q), a, b, c, d'] ∧
      SameB p H H9 ∧ PoolAt H9 p ∧ NamesAt H9 q ((List.range (i + 1)).map (nameL style shift (1 + 2 * d) place (1 + sz) word)) := by
        rintro z σ' ⟨a, b, c, d', e⟩ H9 q1 q2 q3 rfl
        refine ⟨a, b, c, d', e, q1, q2, ?_⟩
        unfold NamesAt
        rw [List.range_succ, List.map_append, List.map_append]
        exact q3
      walk_at "rd"
      refine ⟨by show 1 ≤ sizeLine; decide, fun l hl => ?_⟩
      walk_at "rd"
      refine ⟨_, [shift + (1 + 2 * d) * i], rfl, SqL.of upd_same, (by show 1 ≤ 100; decide), fun H9 s9 => ?_⟩
      have t1' : SameB p H H9 := (t1.trans (SameB.of (same_new hl))).trans (SameB.of s9)
      have t2' : PoolAt H9 p := pool_of (pool_of t2 (same_new hl)) s9
      have t3' : H9 q = some (.lst (((List.range i).map (nameL style shift (1 + 2 * d) place (1 + sz) word)).map (fun l => V.str (S l)))) := s9 _ _ (same_new hl _ _ t3)
      have g0 : 0 ≤ place % (1 + sz) := Int.emod_nonneg _ (by omega)
      have g1 : place % (1 + sz) < 1 + sz := Int.emod_lt_of_pos _ (by omega)
      have wl1 : word.length ≤ 900 := by omega
      have ll : (wordL [shift + (1 + 2 * d) * ↑i]).length = 1 := rfl
      have hq9 : (((List.range i).map (nameL style shift (1 + 2 * d) place (1 + sz) word)).map (fun l => V.str (S l))).length < sizeLine := by
        rw [List.length_map, List.length_map, List.length_range]
        exact Nat.lt_trans hi8 (by decide)
      have en : ∀ z : List Nat, SameB p H (upd H9 q (.lst (((List.range i).map (nameL style shift (1 + 2 * d) place (1 + sz) word)).map (fun l => V.str (S l)) ++ [.str (S z)]))) ∧ PoolAt (upd H9 q (.lst (((List.range i).map (nameL style shift (1 + 2 * d) place (1 + sz) word)).map (fun l => V.str (S l)) ++ [.str (S z)]))) p :=
        fun z => ⟨t1'.upd hq0, t2'.upd npq⟩
      walk_at "rd"
      refine Rd.iteD (fun c1 => ?_) (fun c1 => ?_)
      · walk_at "rd"
        refine Rd.iteD (fun c2 => absurd c2 (by omega)) (fun c2 => ?_)
        walk_at "rd"
        exact fin _ _ ⟨_, _, _, _, rfl⟩ _ (en _).1 (en _).2 upd_same (nameL1 c1).symm
      · walk_at "rd"
        refine Rd.iteD (fun c2 => ?_) (fun c2 => ?_)
        · walk_at "rd"
          exact fin _ _ ⟨_, _, _, _, rfl⟩ _ (en _).1 (en _).2 upd_same (nameL2 c2).symm
        · walk_at "rd"
          exact fin _ _ ⟨_, _, _, _, rfl⟩ _ (en _).1 (en _).2 upd_same (nameL0 c1 c2).symm
    · rintro σ H8 ⟨a, b, c, d', rfl, t1, t2, t3⟩
      walk_at "rd"
      exact k _ q H8 (by rw [List.length_map, List.length_range]) (fun l hl => by
        obtain ⟨j, hj, rfl⟩ := List.mem_map.mp hl
        exact name_ok D8 (List.mem_range.mp hj)) (names_nodup D8) hq0 t1 t2 t3

end
section
variable {P : Program} {w : World} {K : PySem.W.Frag} {mg : Str → Option Value} {base : Heap} {tk : Tok}
/-! ### texts that are no names -/
theorem at_mem {xs : List V} {i : Int} (h0 : 0 ≤ i) (h1 : i < xs.length) : ∃ v, atI xs i = some v ∧ v ∈ xs := by
  have hlt : i.toNat < xs.length := by omega
  have e : i = ((i.toNat : Nat) : Int) := by omega
  exact ⟨xs[i.toNat], (congrArg (atI xs) e).trans (atI_nat (by simp [hlt])), List.getElem_mem hlt⟩
def oddL : List Nat := [32, 33, 34, 35, 36, 38, 39, 40, 41, 42, 43, 44, 45, 46, 47, 48, 49, 50, 51, 52, 53, 54, 55, 56, 57, 58, 59, 60, 61, 62, 63, 64, 65, 66, 67, 68, 69, 70, 71, 72, 73, 74, 75, 76, 77, 78, 79, 80, 81, 82, 83, 84, 85, 86, 87, 88, 89, 90, 91, 92, 93, 94, 95, 96, 123, 124, 125, 126]
theorem odd_at : ∀ k, k < oddL.length → ∃ c, oddL[k]? = some c ∧ (c < 97 ∨ 122 < c) ∧ c < 128 := by
  intro k hk
  have h : ∀ k, k < oddL.length → (oddL.getD k 0 < 97 ∨ 122 < oddL.getD k 0) ∧ oddL.getD k 0 < 128 := by decide +kernel
  refine ⟨oddL[k], List.getElem?_eq_getElem hk, ?_⟩
  have := h k hk
  rw [List.getD_eq_getElem?_getD, List.getElem?_eq_getElem hk] at this
  exact this
theorem odd_ix {i : Int} (h0 : 0 ≤ i) (h1 : i < (oddL.length : Nat)) : ∃ c, atI oddL i = some c ∧ (c < 97 ∨ 122 < c) ∧ c < 128 := by
  obtain ⟨c, e, h⟩ := odd_at i.toNat (by omega)
  have e2 : i = ((i.toNat : Nat) : Int) := by omega
  exact ⟨c, (congrArg (atI oddL) e2).trans (atI_nat e), h⟩
/-- no name, of at most 20 signs -/
def Bad (l : List Nat) : Prop := ¬ Nm l ∧ l.length ≤ 20
theorem bad_sign {l : List Nat} {c : Nat} (h : c ∈ l) (hc : c < 97 ∨ 122 < c) (hl : l.length ≤ 20) : Bad l := ⟨fun n => by
  have := n.2.2 c h
  omega, hl⟩
theorem bad_long {l : List Nat} (h : 8 < l.length) (hl : l.length ≤ 20) : Bad l := ⟨fun n => by have := n.2.1; omega, hl⟩
def spBad : Sp := fun vs H Q _ => ∃ (p : Addr) (l : List Nat), vs = [.ref p, .str (S l)] ∧ Nm l ∧ PoolAt H p ∧
  ∀ (z : List Nat) (H' : Hp), Bad z → (∀ c ∈ z, c < 128) → SameB p H H' → PoolAt H' p → Q (.str (S z)) H'
abbrev s_law_bad_name : Stmt := top 25
theorem sc_law_bad_name : FnScope ["_law_pool_here", "_law_name", "_law_odd", "_law_at", "_law_sign", "_law_spoilt", "_law_texts"] ["_law_pool_here", "_law_name"] (defScope s_law_bad_name) := ⟨rfl, rfl, rfl, by decide +kernel, rfl, by decide +kernel, by decide +kernel⟩
theorem ok_bad {f : Addr} {fd : FuncData} (F : Fun K "_law_bad_name" "_law_bad_name" s_law_bad_name f fd) (T : Bt mg) (dD : Df K mg "_law_draw" "_law_draw" s_law_draw ["_law_pool_here", "_law_many"]) :
    FnOk P w K mg base CX0 2 f fd ["_law_pool_here", "_law_name"] spBad := by
  have GD : FnOk P w K mg base CX0 1 dD.f dD.fd _ spDraw := ok_draw dD.F T
  refine F.ok sc_law_bad_name (fun vs H Q E h => ?_) (fun cdv A outer s H vs Q E hr h => ?_)
  · obtain ⟨p, l, rfl, _⟩ := h
    rfl
  · obtain ⟨p, l, rfl, hN, hp, k⟩ := h
    have hu := hr.units
    obtain ⟨n1, n2, n3⟩ := id hN
    refine ⟨_, (pss_cons (ps_set (i := 2) sc_law_bad_name.nd rfl (Or.inl rfl) (pe_lit [32, 33, 34, 35, 36, 38, 39, 40, 41, 42, 43, 44, 45, 46, 47, 48, 49, 50, 51, 52, 53, 54, 55, 56, 57, 58, 59, 60, 61, 62, 63, 64, 65, 66, 67, 68, 69, 70, 71, 72, 73, 74, 75, 76, 77, 78, 79, 80, 81, 82, 83, 84, 85, 86, 87, 88, 89, 90, 91, 92, 93, 94, 95, 96, 123, 124, 125, 126] (by decide +kernel)))
  (pss_cons (ps_set (i := 3) sc_law_bad_name.nd rfl (Or.inl rfl) (pe_cf dD GD hr pass0 (pa_cons (pv 0) (pa_cons (pe_callB (klen K) (by rfl) T.len (by decide +kernel) (pa_cons (pv 1) pa_nil)) pa_nil))))
  (pss_cons (ps_set (i := 4) sc_law_bad_name.nd rfl (Or.inl rfl) (pe_ix (kix K) (pv 2) (pe_cf dD GD hr pass0 (pa_cons (pv 0) (pa_cons (pe_callB (klen K) (by rfl) T.len (by decide +kernel) (pa_cons (pv 2) pa_nil)) pa_nil))) (fun _ _ => rfl)))
  (pss_cons (ps_set (i := 5) sc_law_bad_name.nd rfl (Or.inl rfl) (pe_op op_addA (pe_op op_addA (pe_slice (ksl K) (pv 1) po_none (po_some (pv 3))) (pv 4)) (pe_slice (ksl K) (pv 1) (po_some (pe_op op_addA (pv 3) pe_int)) po_none)))
  (pss_cons (ps_set (i := 6) sc_law_bad_name.nd rfl (Or.inl rfl) (pe_lst (pa_cons (pe_lit [] (by decide +kernel)) (pa_cons (pe_lit [97, 97, 97, 97, 97, 97, 97, 97, 97] (by decide +kernel)) (pa_cons (pv 5) (pa_cons (pv 5) (pa_cons (pe_upperA (pv 1)) pa_nil)))))))
  (pss_cons (ps_set (i := 6) sc_law_bad_name.nd rfl (Or.inl rfl) (pe_op op_addA (pv 6) (pe_lst (pa_cons (pe_slice (ksl K) (pe_op op_mulA (pv 1) pe_int) po_none (po_some pe_int)) (pa_cons (pe_slice (ksl K) (pe_op op_mulA (pv 1) pe_int) po_none (po_some pe_int)) pa_nil)))))
  (pss_cons (ps_set (i := 6) sc_law_bad_name.nd rfl (Or.inl rfl) (pe_op op_addA (pv 6) (pe_lst (pa_cons (pe_op op_addA (pe_lit [32] (by decide +kernel)) (pe_slice (ksl K) (pv 1) po_none (po_some pe_int))) (pa_cons (pe_op op_addA (pe_slice (ksl K) (pv 1) po_none (po_some pe_int)) (pe_lit [32] (by decide +kernel))) pa_nil)))))
  (pss_one (ps_ret (pe_ix (kix K) (pv 6) (pe_cf dD GD hr pass0 (pa_cons (pv 0) (pa_cons (pe_callB (klen K) (by rfl) T.len (by decide +kernel) (pa_cons (pv 6) pa_nil)) pa_nil))) (fun _ _ => rfl))))))))))), ?_⟩
    refine Rd.start_ (σ' := [some (.ref p), some (.str (S l)), none, none, none, none, none]) rfl ?_
    walk_at "rd"
    refine ⟨_, _, rfl, by omega, by omega, hp, fun at_ H1 a1 b1 e1 p1 => ?_⟩
    walk_at "rd"
    refine ⟨_, _, rfl, by decide, by decide, p1, fun sg H2 a2 b2 e2 p2 => ?_⟩
    obtain ⟨c, hc, hodd, hc8⟩ := odd_ix a2 b2
    have hall : l.all (· < 128) = true := List.all_eq_true.mpr fun c hc => decide_eq_true (by have := n3 c hc; omega)
    refine RS.ix (by decide) hc ?_
    walk_at "rd"
    refine ⟨by show 5 ≤ sizeLine; decide, fun t1 h1 => ?_⟩
    walk_at "rd"
    refine ⟨by show 2 ≤ sizeLine; decide, fun t2 h2 => ?_⟩
    walk_at "rd"
    refine Rd.addL (by rw [upd_ne (ne_of_none upd_same h2)]; exact upd_same) upd_same (by show 7 ≤ sizeLine; decide) (fun t3 h3 => ?_)
    walk_at "rd"
    refine ⟨by show 2 ≤ sizeLine; decide, fun t4 h4 => ?_⟩
    walk_at "rd"
    refine Rd.addL (by rw [upd_ne (ne_of_none upd_same h4)]; exact upd_same) upd_same (by show 9 ≤ sizeLine; decide) (fun t5 h5 => ?_)
    walk_at "rd"
    have s2 : SameB p H H2 := fun a o n h => by rw [e2 a n, e1 a n]; exact h
    have n1' := pool_ne p2 h1
    have f1 := fresh_of h1 s2 n1'
    have n2' := pool_ne (p2.upd n1') h2
    have f2 := fresh_of h2 (s2.upd f1) n2'
    have n3' := pool_ne ((p2.upd n1').upd n2') h3
    have f3 := fresh_of h3 ((s2.upd f1).upd f2) n3'
    have n4' := pool_ne (((p2.upd n1').upd n2').upd n3') h4
    have f4 := fresh_of h4 (((s2.upd f1).upd f2).upd f3) n4'
    have n5' := pool_ne ((((p2.upd n1').upd n2').upd n3').upd n4') h5
    have f5 := fresh_of h5 ((((s2.upd f1).upd f2).upd f3).upd f4) n5'
    refine ⟨_, _, rfl, by show (0 : Int) < 9; decide, by show (9 : Int) < _; decide, ((((p2.upd n1').upd n2').upd n3').upd n4').upd n5', fun r H6 r0 r1 e6 p6 => ?_⟩
    obtain ⟨v, hv, hm⟩ := at_mem (xs := ([V.str (S []), V.str (S [97, 97, 97, 97, 97, 97, 97, 97, 97]), V.str (S (List.take at_.toNat l ++ [c] ++ List.drop (at_ + 1).toNat l)), V.str (S (List.take at_.toNat l ++ [c] ++ List.drop (at_ + 1).toNat l)), V.str (S (List.map PyProof.Rows.up1 l)),
      V.str (S (List.take (9 : Int).toNat (List.replicate (9 : Int).toNat l).flatten)), V.str (S (List.take (20 : Int).toNat (List.replicate (20 : Int).toNat l).flatten)), V.str (S ([32] ++ List.take (7 : Int).toNat l)), V.str (S (List.take (7 : Int).toNat l ++ [32]))] : List V)) r0 r1
    refine Rd.ixL (SqL.of ?_) hv ?_
    · rw [e6 t5 (Ne.symm n5')]
      exact upd_same
    have fin : ∃ z, v = .str (S z) ∧ Bad z ∧ ∀ c ∈ z, c < 128 := by
      have hlen : (List.take at_.toNat l ++ [c] ++ List.drop (at_ + 1).toNat l).length ≤ 20 := by walk_at "sl"
      have b1 : Bad (List.take at_.toNat l ++ [c] ++ List.drop (at_ + 1).toNat l) := bad_sign (c := c) (by simp) hodd hlen
      have b2 : Bad (List.map PyProof.Rows.up1 l) := by
        cases l with
        | nil => exact absurd n1 (by decide)
        | cons d r =>
          refine bad_sign (c := PyProof.Rows.up1 d) (by simp) ?_ (by simp only [List.length_map]; omega)
          have := n3 d (by simp)
          unfold PyProof.Rows.up1
          rw [if_pos ⟨this.1, this.2⟩]
          omega
      have b3 : ∀ n : Int, 9 ≤ n → n ≤ 20 → Bad (List.take n.toNat (List.replicate n.toNat l).flatten) := fun n x1 x2 => by
        have e1 : n.toNat * 1 ≤ n.toNat * l.length := Nat.mul_le_mul_left _ n1
        refine bad_long ?_ ?_
        · rw [List.length_take, rep_len]; omega
        · rw [List.length_take]; omega
      simp only [List.mem_cons, List.not_mem_nil, or_false] at hm
      have lo : ∀ d ∈ l, d < 128 := fun d hd => by have := n3 d hd; omega
      have lo1 : ∀ d ∈ List.take at_.toNat l ++ [c] ++ List.drop (at_ + 1).toNat l, d < 128 := by
        intro d hd
        simp only [List.mem_append, List.mem_singleton] at hd
        rcases hd with (hd | rfl) | hd
        · exact lo d (List.mem_of_mem_take hd)
        · exact hc8
        · exact lo d (List.mem_of_mem_drop hd)
      have lo2 : ∀ d ∈ List.map PyProof.Rows.up1 l, d < 128 := by
        intro d hd
        obtain ⟨e, he, rfl⟩ := List.mem_map.mp hd
        have := n3 e he
        unfold PyProof.Rows.up1
        split <;> omega
      have lo3 : ∀ n : Nat, ∀ d ∈ List.take n (List.replicate n l).flatten, d < 128 := by
        intro n d hd
        obtain ⟨e, he, hd⟩ := List.mem_flatten.mp (List.mem_of_mem_take hd)
        rw [(List.mem_replicate.mp he).2] at hd
        exact lo d hd
      have lo4 : ∀ d ∈ List.take (7 : Int).toNat l, d < 128 := fun d hd => lo d (List.mem_of_mem_take hd)
      rcases hm with rfl | rfl | rfl | rfl | rfl | rfl | rfl | rfl | rfl
      · exact ⟨[], rfl, ⟨fun n => absurd n.1 (by decide), Nat.zero_le _⟩, fun _ h => nomatch h⟩
      · exact ⟨_, rfl, bad_long (by decide) (by decide), by decide⟩
      · exact ⟨_, rfl, b1, lo1⟩
      · exact ⟨_, rfl, b1, lo1⟩
      · exact ⟨_, rfl, b2, lo2⟩
      · exact ⟨_, rfl, b3 9 (by decide) (by decide), lo3 _⟩
      · exact ⟨_, rfl, b3 20 (by decide) (by decide), lo3 _⟩
      · refine ⟨_, rfl, bad_sign (c := 32) (by simp) (.inl (by decide)) (by walk_at "sl"), fun d hd => ?_⟩
        rcases List.mem_append.mp hd with hd | hd
        · rw [List.mem_singleton.mp hd]; decide
        · exact lo4 d hd
      · refine ⟨_, rfl, bad_sign (c := 32) (by simp) (.inl (by decide)) (by walk_at "sl"), fun d hd => ?_⟩
        rcases List.mem_append.mp hd with hd | hd
        · exact lo4 d hd
        · rw [List.mem_singleton.mp hd]; decide
    obtain ⟨z, rfl, hb, hz8⟩ := fin
    exact k z H6 hb hz8 ((((((s2.upd f1).upd f2).upd f3).upd f4).upd f5).trans (SameB.drawn e6)) p6

end
section
variable {P : Program} {w : World} {K : PySem.W.Frag} {mg : Str → Option Value} {base : Heap} {tk : Tok}
/-! ### the error BadName, require_name -/
abbrev s_BadName___init : Stmt := inClass (top 3) 0
theorem sc_BadName___init : FnScope ["self", "name"] ["self", "name"] (defScope s_BadName___init) := ⟨rfl, rfl, rfl, by decide +kernel, rfl, by decide +kernel, by decide +kernel⟩
abbrev ErN (K : PySem.W.Frag) (mg : Str → Option Value) := Er K mg "BadName" "BadName.__init__" "name" s_BadName___init
theorem ok_bni (r : ErN K mg) : FnOk P w K mg base CX0 1 r.f r.fd ["self", "name"] (spErI r.C "name") := by
  refine r.F.ok sc_BadName___init (fun vs H Q E h => ?_) (fun cdv A outer s H vs Q E hr h => ?_)
  · obtain ⟨a, v, rfl, _⟩ := h
    rfl
  · obtain ⟨a, v, rfl, ha, k⟩ := h
    refine ⟨_, (pss_one (kost K (pv 0) (pv 1))), ?_⟩
    refine Rd.start_ (σ' := [some (.ref a), some v]) rfl ?_
    walk_at "rd"
    exact ⟨a, r.C, rfl, r.T, r.no, .inl ⟨ha, k⟩⟩
/-- an error of the class at C with one field -/
def Raised (E : XK) (C : Addr) (fld : Str) (v : V) (H : Hp) : Prop := ∀ d H', Same H H' → H' d = some (.xd [(fld, v)]) → E (.ref C) (some d) H'
def spReq (C : Addr) : Sp := fun vs H Q E => ∃ l : List Nat, vs = [.str (S l)] ∧ l.length ≤ 100 ∧ (Nm l → ∀ H', Same H H' → Q .non H') ∧ (¬ Nm l → Raised E C "name" (.str (S l)) H)
def lett (l : List Nat) : List Nat := l.filter fun c => decide (97 ≤ c ∧ c ≤ 122)
theorem lett_all {l : List Nat} : (lett l).length < l.length ↔ ¬ ∀ c ∈ l, 97 ≤ c ∧ c ≤ 122 := by
  unfold lett
  constructor
  · intro h z
    rw [List.filter_eq_self.mpr (fun c hc => decide_eq_true (z c hc))] at h
    omega
  · intro h
    refine Nat.lt_of_le_of_ne (List.length_filter_le _ _) fun e => h fun c hc => ?_
    exact of_decide_eq_true (List.length_filter_eq_length_iff.mp e c hc)
abbrev s_require_name : Stmt := top 9
theorem sc_require_name : FnScope ["text", "letters", "sign"] ["text"] (defScope s_require_name) := ⟨rfl, rfl, rfl, by decide +kernel, rfl, by decide +kernel, by decide +kernel⟩
theorem ok_req {f : Addr} {fd : FuncData} (F : Fun K "require_name" "require_name" s_require_name f fd) (T : Bt mg) (eN : ErN K mg) (gL : mg "LONGEST_NAME" = some (.int 8 tk)) : FnOk P w K mg base (L2.CX P w) 3 f fd ["text"] (spReq eN.C) := by
  have GN : FnOk P w K mg base CX0 1 eN.f eN.fd _ (spErI eN.C "name") := ok_bni eN
  refine F.okX sc_require_name (fun vs H Q E h => ?_) (fun cdv A outer s H vs Q E hr h => ?_)
  · obtain ⟨l, rfl, _⟩ := h
    rfl
  · obtain ⟨l, rfl, hl, k1, k2⟩ := h
    have hu := hr.units
    refine ⟨_, (pss_cons (ps_setLc (i := 1) (own := [("sign", 2)]) (g := gName 2) rfl sc_require_name.nd rfl rfl (sw_true rfl rfl rfl (by decide +kernel)) (pi_str (pv 0)) (blkOk_by (N := ["text", "letters", "sign"]) (sc := defScope s_require_name) (by decide +kernel)) (fun _ _ _ _ _ => (pg_name (i := 2) sc_require_name.nd rfl (Or.inl rfl))) (fun _ _ _ _ _ => (pts_one (pt_chain op_leA op_leA (pe_lit [97] (by decide +kernel)) (pv 2) (pe_lit [122] (by decide +kernel))))) (fun _ _ _ _ _ => (pv 2)))
  (pss_one (ps_if (PW.pt (pw_or (pt_not (pt_chain op_leA op_leA pe_int (pe_callB (klen K) (by rfl) T.len (by decide +kernel) (pa_cons (pv 0) pa_nil)) (pe_glob (v := .int 8) rfl gL ⟨_, rfl⟩))) (pw_or1 (pt_cmpR op_ltA (pe_callB (klen K) (by rfl) T.len (by decide +kernel) (pa_cons (pv 1) pa_nil)) (pe_callB (klen K) (by rfl) T.len (by decide +kernel) (pa_cons (pv 0) pa_nil)) (nomark _))))) (pss_one (ps_raise rfl (takes_of rfl rfl rfl rfl) (pmk_er eN GN hr (pa_cons (pv 0) pa_nil))))
  pss_nil))), ?_⟩
    refine Rd.start_ (σ' := [some (.str (S l)), none, none]) rfl ?_
    walk_at "rd"
    refine Rd.lcW Rd.wStr (by show l.toArray.size < _; rw [List.size_toArray]; walk_at "sz") (fun i acc H' => Same H H' ∧ acc = (lett (l.take i)).map fun c => V.str (S [c])) ⟨Same.refl _, rfl⟩
      (fun D hD i acc ys H' j => ⟨same_upd j.1 hD, j.2⟩) (fun _ _ _ _ _ => trivial) ?_ ?_
    · rintro D hD i x acc H' hi ⟨c, hc, rfl⟩ hacc hlen ⟨j1, j2⟩ Kt Kf hT hF
      dsimp only [List.set]
      have hc' : l[i]? = some c := by
        rw [List.getElem?_toArray] at hc; exact hc
      have e1 : ∀ b : Bool, decide (97 ≤ c ∧ c ≤ 122) = b → lett (l.take (i + 1)) = lett (l.take i) ++ (if b then [c] else []) := by
        intro b hb
        unfold lett
        rw [List.take_add_one, hc', List.filter_append]
        congr 1
        cases b with
        | true => simp [of_decide_eq_true hb]
        | false =>
          have := of_decide_eq_false hb
          simp only [Option.toList, List.filter_cons, hb]
          rfl
      walk_at "rd"
      refine Rd.iteD (fun c1 => ?_) (fun c1 => ?_)
      · walk_at "rd"
        refine Rd.iteD (fun c2 => ?_) (fun c2 => ?_)
        · walk_at "rd"
          refine hT _ _ hacc ⟨j1, ?_⟩
          rw [j2, e1 true (decide_eq_true ⟨c1, c2⟩), List.map_append]
          rfl
        · refine hF _ hacc ⟨j1, ?_⟩
          rw [j2, e1 false (decide_eq_false fun z => c2 z.2), List.map_append]
          simp
      · walk_at "rd"
        refine hF _ hacc ⟨j1, ?_⟩
        rw [j2, e1 false (decide_eq_false fun z => c1 z.1), List.map_append]
        simp
    · intro D acc H' hD hacc hlen ⟨j1, j2⟩
      have e0 : l.take (S l).cps.size = l := by
        show l.take l.toArray.size = l
        rw [List.size_toArray, List.take_length]
      rw [e0] at j2
      have hal : acc.length = (lett l).length := by rw [j2, List.length_map]
      have good : Nm l → Q .non H' := fun n => k1 n H' j1
      have badE : ¬ Nm l → ∀ d, H' d = none → E (.ref eN.C) (some d) (upd H' d (.xd [("name", .str (S l))])) := fun n d hd => k2 n d _ (Same.trans j1 (same_new hd)) upd_same
      walk_at "rd"
      refine Rd.iteD (fun c1 => ?_) (fun c1 => ?_)
      · walk_at "rd"
        refine Rd.iteN (fun c2 => ?_) (fun c2 => ?_)
        · walk_at "rd"
          exact Rd.erGo (badE fun n => c2 (by have := n.2.1; omega))
        · walk_at "rd"
          refine Rd.iteD (fun c3 => ?_) (fun c3 => ?_)
          · walk_at "rd"
            rw [hal] at c3
            exact Rd.erGo (badE fun n => lett_all.mp (by omega) n.2.2)
          · walk_at "rd"
            rw [hal] at c3
            refine good ⟨by omega, by omega, ?_⟩
            exact Classical.byContradiction fun z => c3 (by have := lett_all.mpr z; omega)
      · walk_at "rd"
        exact Rd.erGo (badE fun n => c1 (by have := n.1; omega))

end
section
variable {P : Program} {w : World} {K : PySem.W.Frag} {mg : Str → Option Value} {base : Heap} {tk : Tok}
/-! ### roles -/
/-- a class of roles -/
structure Rc (K : PySem.W.Frag) (mg : Str → Option Value) (mI : Addr) (nm : Str) (mk : List Nat) where
  C : Addr
  g : mg nm = some (.ref C)
  cl : Cls K C
  M : Mk K C mI
  nN : NoAttr K C "name"
  nG : NoAttr K C "group"
  u : Value
  mark : Con K C "MARK" (.str (S mk)) u
  ha : PySem.W.findIn K (.ref C) "__class__" = some (some (.builtin "object.__class__"))
  hn : PySem.W.specialIn K (.builtin "object.__class__") "__get__" = some (some (.builtin "getset_descriptor.__get__"))
  htk : PySem.W.takesIn K (.builtin "object.__class__") = some true
  hm : PySem.W.mroIn K C (.type "object") = some true
def flds (n g : List Nat) : List (Str × V) := [("name", .str (S n)), ("group", .str (S g))]
theorem ng_ne : ¬ (("name" : Str) = "group") := by decide +kernel
theorem flds_put (v : V) (n g : List Nat) : putF "group" (.str (S g)) (putF "name" (.str (S n)) []) = flds n g := by
  show (if ("name" : Str) = "group" then [(("name" : Str), V.str (S g))] else (("name" : Str), V.str (S n)) :: putF "group" (V.str (S g)) []) = flds n g
  rw [if_neg ng_ne]
  rfl
theorem flds_name (n g : List Nat) : (flds n g).lookup ("name" : Str) = some (.str (S n)) := by
  unfold flds; simp [List.lookup]
theorem flds_group (n g : List Nat) : (flds n g).lookup ("group" : Str) = some (.str (S g)) := by
  have e : (("group" : Str) == "name") = false := by decide +kernel
  unfold flds; simp [List.lookup, e]
theorem flds_no (n g : List Nat) {m : Str} (h1 : (m == ("name" : Str)) = false) (h2 : (m == ("group" : Str)) = false) : (flds n g).lookup m = none := by
  unfold flds; simp [List.lookup, h1, h2]
/-- a role of the class at C stands at x -/
def RoleAt (C : Addr) (H : Hp) (x : Addr) (n g : List Nat) : Prop := ∃ dx, H x = some (.ins C dx (flds n g))
theorem RoleAt.mono {C : Addr} {H H' : Hp} {x : Addr} {n g : List Nat} (h : RoleAt C H x n g) (e : Same H H') : RoleAt C H' x n g := by
  obtain ⟨dx, h⟩ := h
  exact ⟨dx, e _ _ h⟩
def spInit (K : PySem.W.Frag) (eC : Addr) : Sp := fun vs H Q E => ∃ (p C dx : Addr) (n g : List Nat), vs = [.ref p, .str (S n), .str (S g)] ∧ n.length ≤ 100 ∧ g.length ≤ 100 ∧ Cls K C ∧ NoAttr K C "name" ∧ NoAttr K C "group" ∧ H p = some (.ins C dx []) ∧
  (Nm n → Nm g → ∀ H', SameB p H H' → H' p = some (.ins C dx (flds n g)) → Q .non H') ∧ (¬ Nm n → Raised E eC "name" (.str (S n)) H) ∧ (Nm n → ¬ Nm g → Raised E eC "name" (.str (S g)) H)
abbrev s_Role___init : Stmt := inClass (top 11) 1
theorem sc_Role___init : FnScope ["self", "name", "group"] ["self", "name", "group"] (defScope s_Role___init) := ⟨rfl, rfl, rfl, by decide +kernel, rfl, by decide +kernel, by decide +kernel⟩
theorem Raised.mono {E : XK} {C : Addr} {fld : Str} {v : V} {H H' : Hp} (h : Raised E C fld v H) (e : Same H H') : Raised E C fld v H' := fun d G s q => h d G (e.trans s) q
abbrev DReq (K : PySem.W.Frag) (mg : Str → Option Value) := Df K mg "require_name" "require_name" s_require_name ["text"]
abbrev MInit (K : PySem.W.Frag) := Mf K "__init__" "Role.__init__" s_Role___init ["self", "name", "group"]
theorem ok_init (m : MInit K) (T : Bt mg) (dR : DReq K mg) (eN : ErN K mg) (gL : mg "LONGEST_NAME" = some (.int 8 tk)) : FnOk P w K mg base (L2.CX P w) 4 m.f m.fd ["self", "name", "group"] (spInit K eN.C) := by
  have GR : FnOk P w K mg base (L2.CX P w) 3 dR.f dR.fd _ (spReq eN.C) := ok_req dR.F T eN gL
  refine m.F.okX sc_Role___init (fun vs H Q E h => ?_) (fun cdv A outer s H vs Q E hr h => ?_)
  · obtain ⟨p, C, dx, n, g, rfl, _⟩ := h
    rfl
  · obtain ⟨p, C, dx, n, g, rfl, hn, hg, cl, nN, nG, hp, k1, k2, k3⟩ := h
    refine ⟨_, (pss_cons (ps_expr (pe_cf dR GR hr (passes_call (takes_of rfl rfl rfl rfl) (fun _ _ _ _ h => h)) (pa_cons (pv 1) pa_nil)))
  (pss_cons (ps_expr (pe_cf dR GR hr (passes_call (takes_of rfl rfl rfl rfl) (fun _ _ _ _ h => h)) (pa_cons (pv 2) pa_nil)))
  (pss_cons (kset (pv 0) (pv 1))
  (pss_one (kset (pv 0) (pv 2)))))), ?_⟩
    refine Rd.start_ (σ' := [some (.ref p), some (.str (S n)), some (.str (S g))]) rfl ?_
    walk_at "rd"
    refine ⟨n, rfl, hn, fun a1 H1 s1 => ?_, fun a1 => k2 a1⟩
    walk_at "rd"
    refine ⟨g, rfl, hg, fun a2 H2 s2 => ?_, fun a2 => (k3 a1 a2).mono s1⟩
    walk_at "rd"
    have hp2 := s2 _ _ (s1 _ _ hp)
    refine ⟨p, C, dx, [], rfl, hp2, cl, nN, by decide, ?_⟩
    walk_at "rd"
    refine ⟨p, C, dx, _, rfl, upd_same, cl, nG, by show 1 < 1000; decide, ?_⟩
    refine k1 a1 a2 _ (fun a o na ha => ?_) ?_
    · rw [upd_ne na, upd_ne na]
      exact s2 _ _ (s1 _ _ ha)
    · rw [upd_same, flds_put .non]
/-- C(name, group), C a class of roles -/
theorem mk_go {mI : Addr} {nm : Str} {mk : List Nat} (c : Rc K mg mI nm mk) {eC : Addr} {n g : List Nat} {H : Hp} {Q : VK} {E : XK} (hn : n.length ≤ 100) (hg : g.length ≤ 100)
    (k1 : Nm n → Nm g → ∀ x H', H x = none → Same H H' → RoleAt c.C H' x n g → Q (.ref x) H') (k2 : ¬ Nm n → Raised E eC "name" (.str (S n)) H) (k3 : Nm n → ¬ Nm g → Raised E eC "name" (.str (S g)) H) :
    MkGo c.C (spInit K eC) [.str (S n), .str (S g)] H Q E := by
  intro x dx hx hd ne
  have s0 : Same H (upd (upd H dx (.own x)) x (.ins c.C dx [])) := fun b o e => by
    rw [upd_ne (ne_of_none e hx), upd_ne (ne_of_none e hd)]; exact e
  refine ⟨x, c.C, dx, n, g, rfl, hn, hg, c.cl, c.nN, c.nG, upd_same, fun a1 a2 H' s1 h1 => ⟨rfl, ?_⟩, fun a1 => (k2 a1).mono s0, fun a1 a2 => (k3 a1 a2).mono s0⟩
  exact k1 a1 a2 x H' hx (fun b o e => s1 b o (ne_of_none e hx) (s0 b o e)) ⟨dx, h1⟩
/-! ### their methods -/
def spTells (v : V) : Sp := fun vs H Q _ => ∃ p : Addr, vs = [.ref p] ∧ Q v H
theorem ok_tells {nm qual : Str} {st : Stmt} {pos pos' : Pos} {j : Nat} {b : Bool} (m : Mf K nm qual st ["self"]) (S0 : FnScope ["self"] ["self"] (defScope st)) (hb : defBody st = [.Return (some (.Constant (.bool b) j pos)) pos']) : FnOk P w K mg base CX0 1 m.f m.fd ["self"] (spTells (.bl b)) := by
  refine m.F.ok S0 (fun vs H Q E h => ?_) (fun cdv A outer s H vs Q E hr h => ?_)
  · obtain ⟨p, rfl, _⟩ := h
    rfl
  · obtain ⟨p, rfl, k⟩ := h
    rw [hb]
    exact ⟨_, pss_one (ps_ret pe_bl), k⟩
abbrev s_Role_reads : Stmt := inClass (top 11) 2
theorem sc_Role_reads : FnScope ["self"] ["self"] (defScope s_Role_reads) := ⟨rfl, rfl, rfl, by decide +kernel, rfl, by decide +kernel, by decide +kernel⟩
abbrev s_Role_makes : Stmt := inClass (top 11) 3
theorem sc_Role_makes : FnScope ["self"] ["self"] (defScope s_Role_makes) := ⟨rfl, rfl, rfl, by decide +kernel, rfl, by decide +kernel, by decide +kernel⟩
abbrev s_Role_derived : Stmt := inClass (top 11) 4
theorem sc_Role_derived : FnScope ["self"] ["self"] (defScope s_Role_derived) := ⟨rfl, rfl, rfl, by decide +kernel, rfl, by decide +kernel, by decide +kernel⟩
abbrev s_Read_reads : Stmt := inClass (top 12) 1
theorem sc_Read_reads : FnScope ["self"] ["self"] (defScope s_Read_reads) := ⟨rfl, rfl, rfl, by decide +kernel, rfl, by decide +kernel, by decide +kernel⟩
abbrev s_Fresh_makes : Stmt := inClass (top 13) 1
theorem sc_Fresh_makes : FnScope ["self"] ["self"] (defScope s_Fresh_makes) := ⟨rfl, rfl, rfl, by decide +kernel, rfl, by decide +kernel, by decide +kernel⟩
abbrev s_Made_makes : Stmt := inClass (top 15) 1
theorem sc_Made_makes : FnScope ["self"] ["self"] (defScope s_Made_makes) := ⟨rfl, rfl, rfl, by decide +kernel, rfl, by decide +kernel, by decide +kernel⟩
abbrev s_Made_derived : Stmt := inClass (top 15) 2
theorem sc_Made_derived : FnScope ["self"] ["self"] (defScope s_Made_derived) := ⟨rfl, rfl, rfl, by decide +kernel, rfl, by decide +kernel, by decide +kernel⟩
abbrev MRr (K : PySem.W.Frag) := Mf K "reads" "Role.reads" s_Role_reads ["self"]
theorem ok_Rr (m : MRr K) : FnOk P w K mg base CX0 1 m.f m.fd ["self"] (spTells (.bl false)) := ok_tells m sc_Role_reads rfl
abbrev MRm (K : PySem.W.Frag) := Mf K "makes" "Role.makes" s_Role_makes ["self"]
theorem ok_Rm (m : MRm K) : FnOk P w K mg base CX0 1 m.f m.fd ["self"] (spTells (.bl false)) := ok_tells m sc_Role_makes rfl
abbrev MRd (K : PySem.W.Frag) := Mf K "derived" "Role.derived" s_Role_derived ["self"]
theorem ok_Rd (m : MRd K) : FnOk P w K mg base CX0 1 m.f m.fd ["self"] (spTells (.bl false)) := ok_tells m sc_Role_derived rfl
abbrev MEr (K : PySem.W.Frag) := Mf K "reads" "Read.reads" s_Read_reads ["self"]
theorem ok_Er (m : MEr K) : FnOk P w K mg base CX0 1 m.f m.fd ["self"] (spTells (.bl true)) := ok_tells m sc_Read_reads rfl
abbrev MFm (K : PySem.W.Frag) := Mf K "makes" "Fresh.makes" s_Fresh_makes ["self"]
theorem ok_Fm (m : MFm K) : FnOk P w K mg base CX0 1 m.f m.fd ["self"] (spTells (.bl true)) := ok_tells m sc_Fresh_makes rfl
abbrev MMm (K : PySem.W.Frag) := Mf K "makes" "Made.makes" s_Made_makes ["self"]
theorem ok_Mm (m : MMm K) : FnOk P w K mg base CX0 1 m.f m.fd ["self"] (spTells (.bl true)) := ok_tells m sc_Made_makes rfl
abbrev MMd (K : PySem.W.Frag) := Mf K "derived" "Made.derived" s_Made_derived ["self"]
theorem ok_Md (m : MMd K) : FnOk P w K mg base CX0 1 m.f m.fd ["self"] (spTells (.bl true)) := ok_tells m sc_Made_derived rfl

end
section
variable {P : Program} {w : World} {K : PySem.W.Frag} {mg : Str → Option Value} {base : Heap} {tk : Tok}
/-! ### the law's helpers -/
structure Six (K : PySem.W.Frag) (mg : Str → Option Value) (mI : Addr) where
  r : Rc K mg mI "Role" []
  e : Rc K mg mI "Read" [114]
  m : Rc K mg mI "Made" [109]
  f : Rc K mg mI "Fresh" [102]
  b : Rc K mg mI "Both" [114, 109]
  w : Rc K mg mI "Renewed" [114, 102]
section
variable {mI : Addr}
/-- the class of the mode m -/
def Six.C (c : Six K mg mI) : Nat → Addr
  | 0 => c.e.C
  | 1 => c.m.C
  | 2 => c.f.C
  | 3 => c.b.C
  | 4 => c.w.C
  | _ => c.r.C
theorem Six.cl (c : Six K mg mI) (m : Nat) : Cls K (c.C m) := match m with
  | 0 => c.e.cl
  | 1 => c.m.cl
  | 2 => c.f.cl
  | 3 => c.b.cl
  | 4 => c.w.cl
  | _ + 5 => c.r.cl
theorem Six.nN (c : Six K mg mI) (m : Nat) : NoAttr K (c.C m) "name" := match m with
  | 0 => c.e.nN
  | 1 => c.m.nN
  | 2 => c.f.nN
  | 3 => c.b.nN
  | 4 => c.w.nN
  | _ + 5 => c.r.nN
theorem Six.nG (c : Six K mg mI) (m : Nat) : NoAttr K (c.C m) "group" := match m with
  | 0 => c.e.nG
  | 1 => c.m.nG
  | 2 => c.f.nG
  | 3 => c.b.nG
  | 4 => c.w.nG
  | _ + 5 => c.r.nG
theorem Six.ty (c : Six K mg mI) (m : Nat) {H : Hp} {p dx : Addr} {fs : List (Str × V)} (h : H p = some (.ins (c.C m) dx fs)) : TyX K H (.ref p) (.ref (c.C m)) := match m, h with
  | 0, h => .base (.ins h c.e.cl c.e.ha c.e.hn c.e.htk c.e.hm)
  | 1, h => .base (.ins h c.m.cl c.m.ha c.m.hn c.m.htk c.m.hm)
  | 2, h => .base (.ins h c.f.cl c.f.ha c.f.hn c.f.htk c.f.hm)
  | 3, h => .base (.ins h c.b.cl c.b.ha c.b.hn c.b.htk c.b.hm)
  | 4, h => .base (.ins h c.w.cl c.w.ha c.w.hn c.w.htk c.w.hm)
  | _ + 5, h => .base (.ins h c.r.cl c.r.ha c.r.hn c.r.htk c.r.hm)
end
/-- a new role of the mode m, or BadName -/
def spRole (eC : Addr) (C : Nat → Addr) (lim : Nat) : Sp := fun vs H Q E => ∃ (n g : List Nat) (m : Nat), vs = [.str (S n), .str (S g), .int (m : Nat)] ∧ m < lim ∧ n.length ≤ 100 ∧ g.length ≤ 100 ∧
  (Nm n → Nm g → ∀ x H', H x = none → Same H H' → RoleAt (C m) H' x n g → Q (.ref x) H') ∧ (¬ Nm n → Raised E eC "name" (.str (S n)) H) ∧ (Nm n → ¬ Nm g → Raised E eC "name" (.str (S g)) H)
abbrev s_law_role : Stmt := top 26
theorem sc_law_role : FnScope ["_law_name", "_law_group", "_law_mode"] ["_law_name", "_law_group", "_law_mode"] (defScope s_law_role) := ⟨rfl, rfl, rfl, by decide +kernel, rfl, by decide +kernel, by decide +kernel⟩
abbrev DRo (K : PySem.W.Frag) (mg : Str → Option Value) := Df K mg "_law_role" "_law_role" s_law_role ["_law_name", "_law_group", "_law_mode"]
theorem ok_role (d : DRo K mg) (mI : MInit K) (c : Six K mg mI.f) (T : Bt mg) (dR : DReq K mg) (eN : ErN K mg) (gL : mg "LONGEST_NAME" = some (.int 8 tk)) : FnOk P w K mg base (L2.CX P w) 6 d.f d.fd ["_law_name", "_law_group", "_law_mode"] (spRole eN.C c.C 5) := by
  have GI : FnOk P w K mg base (L2.CX P w) 4 mI.f mI.fd _ (spInit K eN.C) := ok_init mI T dR eN gL
  refine d.F.okX sc_law_role (fun vs H Q E h => ?_) (fun cdv A outer s H vs Q E hr h => ?_)
  · obtain ⟨n, g, m, rfl, _⟩ := h
    rfl
  · obtain ⟨n, g, m, rfl, hm, hn, hg, k1, k2, k3⟩ := h
    have hu := hr.units
    refine ⟨_, (pss_cons (ps_if (pt_cmpR (keq K hu) (pv 2) pe_int (nomark _)) (pss_one (ps_ret (pe_mk mI c.e.M c.e.g GI hr (passes_call (takes_of rfl rfl rfl rfl) (fun _ _ _ _ h => h)) (pa_cons (pv 0) (pa_cons (pv 1) pa_nil)))))
  pss_nil)
  (pss_cons (ps_if (pt_cmpR (keq K hu) (pv 2) pe_int (nomark _)) (pss_one (ps_ret (pe_mk mI c.m.M c.m.g GI hr (passes_call (takes_of rfl rfl rfl rfl) (fun _ _ _ _ h => h)) (pa_cons (pv 0) (pa_cons (pv 1) pa_nil)))))
  pss_nil)
  (pss_cons (ps_if (pt_cmpR (keq K hu) (pv 2) pe_int (nomark _)) (pss_one (ps_ret (pe_mk mI c.f.M c.f.g GI hr (passes_call (takes_of rfl rfl rfl rfl) (fun _ _ _ _ h => h)) (pa_cons (pv 0) (pa_cons (pv 1) pa_nil)))))
  pss_nil)
  (pss_cons (ps_if (pt_cmpR (keq K hu) (pv 2) pe_int (nomark _)) (pss_one (ps_ret (pe_mk mI c.b.M c.b.g GI hr (passes_call (takes_of rfl rfl rfl rfl) (fun _ _ _ _ h => h)) (pa_cons (pv 0) (pa_cons (pv 1) pa_nil)))))
  pss_nil)
  (pss_one (ps_ret (pe_mk mI c.w.M c.w.g GI hr (passes_call (takes_of rfl rfl rfl rfl) (fun _ _ _ _ h => h)) (pa_cons (pv 0) (pa_cons (pv 1) pa_nil))))))))), ?_⟩
    refine Rd.start_ (σ' := [some (.str (S n)), some (.str (S g)), some (.int m)]) rfl ?_
    have hm' : m = 0 ∨ m = 1 ∨ m = 2 ∨ m = 3 ∨ m = 4 := by omega
    rcases hm' with rfl | rfl | rfl | rfl | rfl <;>
    · walk_at "rd"
      repeat (first | exact mk_go _ hn hg k1 k2 k3 | (refine Rd.iteD (fun h => ?_) (fun h => ?_)) | (exfalso; revert h; decide) | walk_at "rd1")
/-! whether a role of the mode m reads, makes, is derived; to which classes it belongs -/
def rdB (m : Nat) : Bool := decide (m = 0 ∨ m = 3 ∨ m = 4)
def mkB (m : Nat) : Bool := decide (1 ≤ m ∧ m ≤ 4)
def dvB (m : Nat) : Bool := decide (m = 1 ∨ m = 3)
def spLr : Sp := fun vs H Q _ => ∃ m : Nat, m < 5 ∧ vs = [.int m] ∧ Q (.bl (rdB m)) H
def spLd : Sp := fun vs H Q _ => ∃ m : Nat, m < 6 ∧ vs = [.int m] ∧ Q (.bl (dvB m)) H
theorem lr_go {m : Nat} {H : Hp} {Q : VK} {E : XK} (h : m < 5) (q : Q (.bl (rdB m)) H) : spLr ([.int m] ++ []) H Q E := ⟨m, h, rfl, q⟩
theorem ld_go {m : Nat} {H : Hp} {Q : VK} {E : XK} (h : m < 6) (q : Q (.bl (dvB m)) H) : spLd ([.int m] ++ []) H Q E := ⟨m, h, rfl, q⟩
abbrev s_law_reads : Stmt := top 19
theorem sc_law_reads : FnScope ["_law_mode"] ["_law_mode"] (defScope s_law_reads) := ⟨rfl, rfl, rfl, by decide +kernel, rfl, by decide +kernel, by decide +kernel⟩
abbrev s_law_derived : Stmt := top 20
theorem sc_law_derived : FnScope ["_law_mode"] ["_law_mode"] (defScope s_law_derived) := ⟨rfl, rfl, rfl, by decide +kernel, rfl, by decide +kernel, by decide +kernel⟩
theorem ok_lr {f : Addr} {fd : FuncData} (F : Fun K "_law_reads" "_law_reads" s_law_reads f fd) : FnOk P w K mg base CX0 1 f fd ["_law_mode"] spLr := by
  refine F.ok sc_law_reads (fun vs H Q E h => ?_) (fun cdv A outer s H vs Q E hr h => ?_)
  · obtain ⟨m, _, rfl, _⟩ := h
    rfl
  · obtain ⟨m, hm, rfl, k⟩ := h
    have hu := hr.units
    refine ⟨_, (pss_one (ps_ret (pe_or (pe_cmpR (keq K hu) (pv 0) pe_int (nomark _)) (pe_one (pe_cmpR op_geI (pv 0) pe_int (nomark _)))))), ?_⟩
    refine Rd.start_ (σ' := [some (.int m)]) rfl ?_
    have hm' : m = 0 ∨ m = 1 ∨ m = 2 ∨ m = 3 ∨ m = 4 := by omega
    walk_at "rd"
    rcases hm' with rfl | rfl | rfl | rfl | rfl
    all_goals
      refine Rd.iteD (fun h => ?_) (fun h => ?_)
      all_goals first | exact k | (exfalso; revert h; decide) | (walk_at "rd"; exact k)
theorem ok_ld {f : Addr} {fd : FuncData} (F : Fun K "_law_derived" "_law_derived" s_law_derived f fd) : FnOk P w K mg base CX0 1 f fd ["_law_mode"] spLd := by
  refine F.ok sc_law_derived (fun vs H Q E h => ?_) (fun cdv A outer s H vs Q E hr h => ?_)
  · obtain ⟨m, _, rfl, _⟩ := h
    rfl
  · obtain ⟨m, hm, rfl, k⟩ := h
    have hu := hr.units
    refine ⟨_, (pss_one (ps_ret (pe_or (pe_cmpR (keq K hu) (pv 0) pe_int (nomark _)) (pe_one (pe_cmpR (keq K hu) (pv 0) pe_int (nomark _)))))), ?_⟩
    refine Rd.start_ (σ' := [some (.int m)]) rfl ?_
    have hm' : m = 0 ∨ m = 1 ∨ m = 2 ∨ m = 3 ∨ m = 4 ∨ m = 5 := by omega
    walk_at "rd"
    rcases hm' with rfl | rfl | rfl | rfl | rfl | rfl
    all_goals
      refine Rd.iteD (fun h => ?_) (fun h => ?_)
      all_goals first | exact k | (exfalso; revert h; decide) | (walk_at "rd"; exact k)

end
section
variable {P : Program} {w : World} {K : PySem.W.Frag} {mg : Str → Option Value} {base : Heap} {tk : Tok}
/-! ### names that stand twice -/
theorem none_same {H H' : Hp} {t : Addr} (e : Same H H') (h : H' t = none) : H t = none := by
  cases q : H t with
  | none => rfl
  | some o => rw [e _ _ q] at h; cases h
theorem inV_strs (x : List Nat) (ns : List (List Nat)) : inV (.str (S x)) (ns.map fun l => V.str (S l)) = decide (x ∈ ns) := by
  unfold inV
  induction ns with
  | nil => rfl
  | cons y ns ih =>
    rw [List.map_cons, List.any_cons, ih]
    have e : eqV (V.str (S y)) (V.str (S x)) = decide (x = y) := by
      have e0 : eqV (V.str (S y)) (V.str (S x)) = decide (S y = S x) := rfl
      rw [e0, dec_S]
      exact decide_eq_decide.mpr ⟨Eq.symm, Eq.symm⟩
    rw [e]
    by_cases h : x = y
    · subst h; simp
    · simp [h]
theorem flat_strs (ns : List (List Nat)) : (ns.map fun l => V.str (S l)).all flatV = true := by
  induction ns with
  | nil => rfl
  | cons y ns ih => rw [List.map_cons, List.all_cons, ih]; rfl
theorem nodup_take {ns : List (List Nat)} {i : Nat} {x : List Nat} (h : ns[i]? = some x) (a : (ns.take i).Nodup) (b : x ∉ ns.take i) : (ns.take (i + 1)).Nodup := by
  rw [List.take_add_one, h]
  exact List.nodup_append.mpr ⟨a, by simp, fun y hy z hz e => b (by rw [List.mem_singleton.mp (show z ∈ [x] from hz)] at e; rw [← e]; exact hy)⟩
theorem not_nodup {ns : List (List Nat)} {i : Nat} {x : List Nat} (h : ns[i]? = some x) (b : x ∈ ns.take i) : ¬ ns.Nodup := fun q => by
  have q1 : (ns.take (i + 1)).Nodup := List.Sublist.nodup (List.take_sublist _ _) q
  rw [List.take_add_one, h] at q1
  exact (List.nodup_append.mp q1).2.2 x b x (List.mem_singleton.mpr rfl) rfl
theorem cutV_to (xs : List V) (i : Nat) : cutV xs none (some (i : Int)) = xs.take i := by
  unfold cutV
  rw [sIx_ge (by omega)]
  show (xs.drop 0).take (min (i : Int).toNat xs.length - 0) = xs.take i
  rw [List.drop_zero, Nat.sub_zero, Int.toNat_natCast]
  by_cases h : i ≤ xs.length
  · rw [Nat.min_eq_left h]
  · rw [Nat.min_eq_right (by omega), List.take_length, List.take_of_length_le (by omega)]
def spRep (K : PySem.W.Frag) : Sp := fun vs H Q _ => ∃ (a : Addr) (ns : List (List Nat)), vs = [.ref a] ∧ SqL K H a (ns.map fun l => V.str (S l)) ∧ ns.length ≤ 100 ∧ ∀ H', Same H H' → (ns.Nodup → Q .non H') ∧ (¬ ns.Nodup → ∀ x, Q (.str x) H')
abbrev s_first_repeated : Stmt := top 10
theorem sc_first_repeated : FnScope ["names", "at", "name"] ["names"] (defScope s_first_repeated) := ⟨rfl, rfl, rfl, by decide +kernel, rfl, by decide +kernel, by decide +kernel⟩
theorem ok_rep {f : Addr} {fd : FuncData} (F : Fun K "first_repeated" "first_repeated" s_first_repeated f fd) (T : Bt mg) (hEn : mg "enumerate" = none) : FnOk P w K mg base CX0 1 f fd ["names"] (spRep K) := by
  refine F.ok sc_first_repeated (fun vs H Q E h => ?_) (fun cdv A outer s H vs Q E hr h => ?_)
  · obtain ⟨a, ns, rfl, _⟩ := h
    rfl
  · obtain ⟨a, ns, rfl, hS, hl, k⟩ := h
    have hu := hr.units
    refine ⟨_, (pss_cons (ps_for PassesOwn.never rfl (kenum K hEn (pa_cons (pv 0) pa_nil)) (kgt2 K (pg_name (i := 1) sc_first_repeated.nd rfl (Or.inl rfl)) (pg_name (i := 2) sc_first_repeated.nd rfl (Or.inl rfl)))
  (pss_one (ps_if (pt_cmpR (kin K) (pv 2) (pe_slice (ksl K) (pv 0) po_none (po_some (pv 1))) rfl) (pss_one (ps_ret (pv 2)))
  pss_nil)))
  (pss_one (ps_ret pe_non))), ?_⟩
    refine Rd.start_ (σ' := [some (.ref a), none, none]) rfl ?_
    walk_at "rd"
    refine Rd.foE ?_
    walk_at "rd"
    refine Rd.exlist1 hS ?_
    refine Rd.foP (fun i σ H' => ∃ o1 o2, σ = [some (.ref a), o1, o2] ∧ Same H H' ∧ (ns.take i).Nodup) ⟨_, _, rfl, Same.refl _, List.nodup_nil⟩ (fun i σ H' hi ⟨_, _, _, j, _⟩ => j.seq hS) ?_ ?_
    · rintro i x σ H' t hi hx ⟨o1, o2, rfl, j1, j2⟩ ht
      rw [List.getElem?_map] at hx
      obtain ⟨z, hz, rfl⟩ := Option.map_eq_some_iff.mp hx
      dsimp only [List.set]
      have s1 := same_upd (o := .tup [.int (i : Nat), .str (S z)]) j1 (none_same j1 ht)
      walk_at "rd"
      refine Rd.slL (s1.seq hS) fun q hq => ?_
      rw [cutV_to, ← List.map_take]
      have s2 := same_upd (o := .lst ((ns.take i).map fun l => V.str (S l))) s1 (none_same s1 hq)
      refine ⟨q, _, rfl, .inl (SqL.of upd_same), rfl, flat_strs _, ?_⟩
      show ∃ k, V.bl (inV _ _) = .bl k ∧ _
      rw [inV_strs]
      walk_at "rd"
      refine Rd.iteD (fun c => ?_) (fun c => ?_)
      · walk_at "rd"
        exact (k _ s2).2 (not_nodup hz c) _
      · walk_at "rd"
        exact ⟨_, _, rfl, s2, nodup_take hz j2 c⟩
    · rintro σ H' ⟨o1, o2, rfl, j1, j2⟩
      rw [List.length_map, List.take_length] at j2
      walk_at "rd"
      exact (k _ j1).1 j2

end
section
variable {P : Program} {w : World} {K : PySem.W.Frag} {mg : Str → Option Value} {base : Heap} {tk : Tok}
/-! ### roles in a list; the error BadKind; a new kind -/
/-- Tells as in the helper of a class's method without arguments -/
def Tells (P : Program) (w : World) (K : PySem.W.Frag) (mg : Str → Option Value) (base : Heap) (C : Addr) (m : Str) (v : V) : Prop := ∃ (nm q : Str) (st : Stmt) (d : Mf K nm q st ["self"]), Meth K C m d.f ∧ FnOk P w K mg base CX0 1 d.f d.fd ["self"] (spTells v)
structure Ro where
  a : Addr
  n : List Nat
  g : List Nat
  m : Nat
def RoOk (C : Nat → Addr) (H : Hp) (r : Ro) : Prop := r.m < 5 ∧ RoleAt (C r.m) H r.a r.n r.g
def RosOk (C : Nat → Addr) (H : Hp) (rs : List Ro) : Prop := ∀ r ∈ rs, RoOk C H r
theorem RosOk.mono {C : Nat → Addr} {H H' : Hp} {rs : List Ro} (h : RosOk C H rs) (e : Same H H') : RosOk C H' rs := fun r hr => ⟨(h r hr).1, (h r hr).2.mono e⟩
abbrev refs (rs : List Ro) : List V := rs.map fun r => V.ref r.a
theorem ref_at {rs : List Ro} {i : Nat} {x : V} (h : (refs rs)[i]? = some x) : ∃ r, rs[i]? = some r ∧ x = .ref r.a := by
  rw [List.getElem?_map] at h
  obtain ⟨r, h1, h2⟩ := Option.map_eq_some_iff.mp h
  exact ⟨r, h1, h2.symm⟩
abbrev s_BadKind___init : Stmt := inClass (top 4) 0
theorem sc_BadKind___init : FnScope ["self", "name"] ["self", "name"] (defScope s_BadKind___init) := ⟨rfl, rfl, rfl, by decide +kernel, rfl, by decide +kernel, by decide +kernel⟩
abbrev ErK (K : PySem.W.Frag) (mg : Str → Option Value) := Er K mg "BadKind" "BadKind.__init__" "name" s_BadKind___init
theorem ok_bki (r : ErK K mg) : FnOk P w K mg base CX0 1 r.f r.fd ["self", "name"] (spErI r.C "name") := by
  refine r.F.ok sc_BadKind___init (fun vs H Q E h => ?_) (fun cdv A outer s H vs Q E hr h => ?_)
  · obtain ⟨a, v, rfl, _⟩ := h
    rfl
  · obtain ⟨a, v, rfl, ha, k⟩ := h
    refine ⟨_, (pss_one (kost K (pv 0) (pv 1))), ?_⟩
    refine Rd.start_ (σ' := [some (.ref a), some v]) rfl ?_
    walk_at "rd"
    exact ⟨a, r.C, rfl, r.T, r.no, .inl ⟨ha, k⟩⟩
abbrev s_NoRole___init : Stmt := inClass (top 5) 0
theorem sc_NoRole___init : FnScope ["self", "name"] ["self", "name"] (defScope s_NoRole___init) := ⟨rfl, rfl, rfl, by decide +kernel, rfl, by decide +kernel, by decide +kernel⟩
abbrev ErR (K : PySem.W.Frag) (mg : Str → Option Value) := Er K mg "NoRole" "NoRole.__init__" "name" s_NoRole___init
theorem ok_nri (r : ErR K mg) : FnOk P w K mg base CX0 1 r.f r.fd ["self", "name"] (spErI r.C "name") := by
  refine r.F.ok sc_NoRole___init (fun vs H Q E h => ?_) (fun cdv A outer s H vs Q E hr h => ?_)
  · obtain ⟨a, v, rfl, _⟩ := h
    rfl
  · obtain ⟨a, v, rfl, ha, k⟩ := h
    refine ⟨_, (pss_one (kost K (pv 0) (pv 1))), ?_⟩
    refine Rd.start_ (σ' := [some (.ref a), some v]) rfl ?_
    walk_at "rd"
    exact ⟨a, r.C, rfl, r.T, r.no, .inl ⟨ha, k⟩⟩
def KindOk (rs : List Ro) : Prop := 1 ≤ rs.length ∧ rs.length ≤ 6 ∧ (rs.map (·.n)).Nodup ∧ ∃ r ∈ rs, mkB r.m = true
def kflds (n : List Nat) (t : Addr) : List (Str × V) := [("name", .str (S n)), ("roles", .ref t)]
def spKInit (K : PySem.W.Frag) (C : Nat → Addr) (eN eK : Addr) : Sp := fun vs H Q E => ∃ (p D dx a : Addr) (n : List Nat) (rs : List Ro), vs = [.ref p, .str (S n), .ref a] ∧ n.length ≤ 100 ∧ Cls K D ∧ NoAttr K D "name" ∧ NoAttr K D "roles" ∧ H p = some (.ins D dx []) ∧
  H a = some (.lst (refs rs)) ∧ RosOk C H rs ∧ rs.length ≤ 8 ∧
  (Nm n → KindOk rs → ∀ H' t, SameB p H H' → H' p = some (.ins D dx (kflds n t)) → H' t = some (.tup (refs rs)) → t ≠ p → Q .non H') ∧ (¬ Nm n → Raised E eN "name" (.str (S n)) H) ∧ (Nm n → ¬ KindOk rs → Raised E eK "name" (.str (S n)) H)
abbrev s_Kind___init : Stmt := inClass (top 17) 0
theorem sc_Kind___init : FnScope ["self", "name", "roles", "names", "role"] ["self", "name", "roles"] (defScope s_Kind___init) := ⟨rfl, rfl, rfl, by decide +kernel, rfl, by decide +kernel, by decide +kernel⟩
abbrev MKi (K : PySem.W.Frag) := Mf K "__init__" "Kind.__init__" s_Kind___init ["self", "name", "roles"]
abbrev DRep (K : PySem.W.Frag) (mg : Str → Option Value) := Df K mg "first_repeated" "first_repeated" s_first_repeated ["names"]
theorem any_mk {rs : List Ro} : (rs.map fun r => mkB r.m).any id = true ↔ ∃ r ∈ rs, mkB r.m = true := by
  rw [List.any_map, List.any_eq_true]
  rfl
theorem nr_ne : ¬ (("name" : Str) = "roles") := by decide +kernel
theorem kflds_put (n : List Nat) (t : Addr) : putF "roles" (.ref t) (putF "name" (.str (S n)) []) = kflds n t := by
  show (if ("name" : Str) = "roles" then [(("name" : Str), V.ref t)] else (("name" : Str), V.str (S n)) :: putF "roles" (V.ref t) []) = kflds n t
  rw [if_neg nr_ne]
  rfl
theorem ok_kinit {mI : Addr} (m : MKi K) (T : Bt mg) (hEn : mg "enumerate" = none) (dR : DReq K mg) (dF : DRep K mg) (c : Six K mg mI) (eN : ErN K mg) (eK : ErK K mg) (gL : mg "LONGEST_NAME" = some (.int 8 tk)) {tk2 : Tok} (gM : mg "MOST_ROLES" = some (.int 6 tk2))
    (t2 : ∀ m, m < 5 → Tells P w K mg base (c.C m) "makes" (.bl (mkB m))) : FnOk P w K mg base (L2.CX P w) 4 m.f m.fd ["self", "name", "roles"] (spKInit K c.C eN.C eK.C) := by
  have GR : FnOk P w K mg base (L2.CX P w) 3 dR.f dR.fd _ (spReq eN.C) := ok_req dR.F T eN gL
  have GF : FnOk P w K mg base CX0 1 dF.f dF.fd _ (spRep K) := ok_rep dF.F T hEn
  have GK : FnOk P w K mg base CX0 1 eK.f eK.fd _ (spErI eK.C "name") := ok_bki eK
  refine m.F.okX sc_Kind___init (fun vs H Q E h => ?_) (fun cdv A outer s H vs Q E hr h => ?_)
  · obtain ⟨p, D, dx, a, n, rs, rfl, _⟩ := h
    rfl
  · obtain ⟨p, D, dx, a, n, rs, rfl, hn, cl, nN, nR, hp, hS, hro, hl, k1, k2, k3⟩ := h
    have hu := hr.units
    have hr1 : Room 1 _ := hr.mono (by decide)
    have hr2 : Room 2 _ := hr.mono (by decide)
    refine ⟨_, (pss_cons (ps_expr (pe_cf dR GR hr (passes_call (takes_of rfl rfl rfl rfl) (fun _ _ _ _ h => h)) (pa_cons (pv 1) pa_nil)))
  (pss_cons (ps_setLc (i := 3) (own := [("role", 4)]) (g := gName 4) (tt := tYes) rfl sc_Kind___init.nd rfl rfl (sw_true rfl rfl rfl (by decide +kernel)) (kpl K (pv 2)) (blkOk_by (N := ["self", "name", "roles", "names", "role"]) (sc := defScope s_Kind___init) (by decide +kernel)) (fun _ _ _ _ _ => (pg_name (i := 4) sc_Kind___init.nd rfl (Or.inl rfl))) (fun _ _ _ _ _ => pts_nil) (fun _ _ _ _ _ => (kfld K (pv 4))))
  (pss_cons (ps_if (PW.pt (pw_or (pt_not (pt_chain op_leA op_leA pe_int (pe_callB (klen K) (by rfl) T.len (by decide +kernel) (pa_cons (pv 2) pa_nil)) (pe_glob (v := .int 6) rfl gM ⟨_, rfl⟩))) (pw_or1 (pt_cmpR op_notN (pe_cf dF GF hr1 pass0 (pa_cons (pv 3) pa_nil)) pe_non (nomark _))))) (pss_one (ps_raise rfl (takes_of rfl rfl rfl rfl) (pmk_er eK GK hr2 (pa_cons (pv 1) pa_nil))))
  pss_nil)
  (pss_cons (ps_if (pt_not (pt_val (pe_callB (kany K) (by rfl) T.any (by decide +kernel) (pa_cons (pe_lc (own := [("role", 4)]) (g := gName 4) (tt := tYes) rfl sc_Kind___init.nd (kpl K (pv 2)) (blkOk_by (N := ["self", "name", "roles", "names", "role"]) (sc := defScope s_Kind___init) (by decide +kernel)) (fun _ _ _ _ _ => (pg_name (i := 4) sc_Kind___init.nd rfl (Or.inl rfl))) (fun _ _ _ _ _ => pts_nil) (fun _ _ _ _ _ => (pe_altN (n := 5) (t := fun m => tMeth (c.C m) "makes" (spTells (.bl (mkB m))) [] E0 (tVar 4) tNil) fun m hm => by obtain ⟨_, _, _, dd, mm, GG⟩ := t2 m hm; exact pe_m0g (pv 4) (c.cl m) mm GG hr1 pass0 dd.b))) pa_nil)))) (pss_one (ps_raise rfl (takes_of rfl rfl rfl rfl) (pmk_er eK GK hr2 (pa_cons (pv 1) pa_nil))))
  pss_nil)
  (pss_cons (kset (pv 0) (pv 1))
  (pss_one (kset (pv 0) (pe_callTy (ktuple K) (by rfl) T.tuple (by decide +kernel) (pa_cons (pv 2) pa_nil))))))))), ?_⟩
    refine Rd.start_ (σ' := [some (.ref p), some (.str (S n)), some (.ref a), none, none]) rfl ?_
    walk_at "rd"
    refine ⟨n, rfl, hn, fun a1 H1 s1 => ?_, fun a1 => k2 a1⟩
    have hS0 : SqL K H a (refs rs) := SqL.of hS
    have hS1 := s1.seq hS0
    have hro1 := hro.mono s1
    walk_at "rd"
    refine Rd.lcW Rd.wList (by rw [List.length_map]; walk_at "sz") (fun i acc H' => Same H1 H' ∧ acc = (rs.take i).map fun r => V.str (S r.n)) ⟨Same.refl _, rfl⟩
      (fun D hD i acc ys H' j => ⟨same_upd j.1 hD, j.2⟩) (fun i acc H' hi j => j.1.seq hS1) ?_ ?_
    · intro D2 hD i x acc H' hi hx hacc hlen ⟨j1, j2⟩ Kt Kf hT hF
      dsimp only [List.set]
      obtain ⟨r, hr', rfl⟩ := ref_at hx
      have hro' := hro1.mono j1
      obtain ⟨_, dr, hat⟩ := hro' r (List.mem_of_getElem? hr')
      walk_at "rd"
      refine ⟨r.a, _, dr, _, _, rfl, hat, c.cl r.m, c.nN r.m, flds_name _ _, ?_⟩
      refine hT _ _ hacc ⟨j1, ?_⟩
      rw [j2, List.take_add_one, hr', List.map_append]
      rfl
    · intro D2 acc H2 hD hacc hlen ⟨s2, j2⟩
      rw [List.length_map, List.take_length] at j2
      subst j2
      have e1 : (rs.map fun r => V.str (S r.n)) = (rs.map (·.n)).map fun l => V.str (S l) := by rw [List.map_map]; rfl
      rw [e1] at hacc
      have hS2 := s2.seq hS1
      have s12 := s1.trans s2
      have bad : ∀ G, Same H G → ¬ KindOk rs → Raised E eK.C "name" (.str (S n)) G := fun G sg nk => (k3 a1 nk).mono sg
      have go : ∀ G, Same H G → ¬ KindOk rs → ∀ d, G d = none → E (.ref eK.C) (some d) (upd G d (.xd [("name", .str (S n))])) := fun G sg nk d hd => bad G sg nk d _ (same_new hd) upd_same
      walk_at "rd"
      have hlr : (refs rs).length = rs.length := List.length_map ..
      rw [hlr]
      refine Rd.iteD (fun c1 => ?_) (fun c1 => ?_)
      · walk_at "rd"
        refine Rd.iteN (fun c2 => ?_) (fun c2 => ?_)
        · walk_at "rd"
          exact Rd.erGo (go _ s12 fun z => c2 (by have := z.2.1; omega))
        · walk_at "rd"
          refine ⟨D2, rs.map (·.n), rfl, SqL.of hacc, by rw [List.length_map]; omega, fun H3 s3 => ⟨fun nd => ?_, fun nd x => ?_⟩⟩
          · walk_at "rd"
            refine ⟨rfl, ?_⟩
            walk_at "rd"
            have s13 := s12.trans s3
            have hS3 := s13.seq hS0
            have hro3 := hro.mono s13
            refine Rd.exlist hS3 ?_
            refine Rd.lcW Rd.wList (by rw [List.length_map]; walk_at "sz") (fun i acc H' => Same H3 H' ∧ acc = (rs.take i).map fun r => V.bl (mkB r.m)) ⟨Same.refl _, rfl⟩
              (fun D hD i acc ys H' j => ⟨same_upd j.1 hD, j.2⟩) (fun i acc H' hi j => j.1.seq hS3) ?_ ?_
            · intro D4 hD4 i x acc H' hi hx hacc hlen ⟨j1, j2⟩ Kt Kf hT hF
              dsimp only [List.set]
              obtain ⟨r, hr', rfl⟩ := ref_at hx
              obtain ⟨rm, dr, hat⟩ := hro3.mono j1 r (List.mem_of_getElem? hr')
              walk_at "rd"
              refine Rd.alt rm ?_
              walk_at "rd"
              refine ⟨r.a, dr, _, rfl, hat, flds_no _ _ (by decide +kernel) (by decide +kernel), ?_⟩
              walk_at "rd"
              refine ⟨r.a, rfl, hT _ _ hacc ⟨j1, ?_⟩⟩
              rw [j2, List.take_add_one, hr', List.map_append]
              rfl
            · intro D4 acc H4 hD4 hacc hlen ⟨s4, j2⟩
              rw [List.length_map, List.take_length] at j2
              subst j2
              have e2 : (rs.map fun r => V.bl (mkB r.m)) = (rs.map fun r => mkB r.m).map V.bl := by rw [List.map_map]; rfl
              rw [e2] at hacc
              have s14 := s13.trans s4
              walk_at "rd"
              refine ⟨D4, _, rfl, SqL.of hacc, ?_⟩
              walk_at "rd"
              have p4 := s14 _ _ hp
              have hany := any_mk (rs := rs)
              cases hb : (rs.map fun r => mkB r.m).any id with
              | false =>
                rw [hb] at hany
                walk_at "rd"
                exact Rd.erGo (go _ s14 fun z => Bool.false_ne_true (hany.mpr z.2.2.2))
              | true =>
                rw [hb] at hany
                walk_at "rd"
                refine ⟨p, D, dx, [], rfl, p4, cl, nN, by decide, ?_⟩
                walk_at "rd"
                have hne : a ≠ p := fun z => by rw [z, hp] at hS; cases hS
                have ha5 : upd H4 p (.ins D dx (putF "name" (.str (S n)) [])) a = some (.lst (refs rs)) := by rw [upd_ne hne]; exact s14 _ _ hS
                refine Rd.tupL (SqL.of ha5) fun t ht => ?_
                have htp : t ≠ p := fun z => by rw [z, upd_same] at ht; cases ht
                walk_at "rd"
                refine ⟨p, D, dx, _, rfl, by rw [upd_ne (Ne.symm htp)]; exact upd_same, cl, nR, by show 1 < 1000; decide, ?_⟩
                refine k1 a1 ⟨by omega, by omega, nd, hany.mp rfl⟩ _ t (fun b o nb hb' => ?_) ?_ ?_ htp
                · rw [upd_ne nb]
                  by_cases hbt : b = t
                  · rw [hbt] at hb' nb
                    rw [upd_ne nb, s14 _ _ hb'] at ht
                    cases ht
                  · rw [upd_ne hbt, upd_ne nb]
                    exact s14 _ _ hb'
                · rw [upd_same, kflds_put]
                · rw [upd_ne htp, upd_same]
          · walk_at "rd"
            refine ⟨rfl, ?_⟩
            walk_at "rd"
            exact Rd.erGo (go _ (s12.trans s3) fun z => nd z.2.2.1)
      · walk_at "rd"
        exact Rd.erGo (go _ s12 fun z => c1 (by have := z.1; omega))

end
section
variable {P : Program} {w : World} {K : PySem.W.Frag} {mg : Str → Option Value} {base : Heap} {tk : Tok}
/-! ### a kind's methods -/
def KindAt (D : Addr) (H : Hp) (p t : Addr) (n : List Nat) (rs : List Ro) : Prop := (∃ dx, H p = some (.ins D dx (kflds n t))) ∧ H t = some (.tup (refs rs))
theorem KindAt.mono {D : Addr} {H H' : Hp} {p t : Addr} {n : List Nat} {rs : List Ro} (h : KindAt D H p t n rs) (e : Same H H') : KindAt D H' p t n rs := by
  obtain ⟨⟨dx, h1⟩, h2⟩ := h
  exact ⟨⟨dx, e _ _ h1⟩, e _ _ h2⟩
theorem kflds_name (n : List Nat) (t : Addr) : (kflds n t).lookup ("name" : Str) = some (.str (S n)) := by
  unfold kflds; simp [List.lookup]
theorem kflds_roles (n : List Nat) (t : Addr) : (kflds n t).lookup ("roles" : Str) = some (.ref t) := by
  have e : (("roles" : Str) == "name") = false := by decide +kernel
  unfold kflds; simp [List.lookup, e]
theorem kflds_no (n : List Nat) (t : Addr) {m : Str} (h1 : (m == ("name" : Str)) = false) (h2 : (m == ("roles" : Str)) = false) : (kflds n t).lookup m = none := by
  unfold kflds; simp [List.lookup, h1, h2]
/-- the class of kinds -/
structure Kc (K : PySem.W.Frag) (mg : Str → Option Value) (mK : Addr) where
  C : Addr
  g : mg "Kind" = some (.ref C)
  cl : Cls K C
  M : Mk K C mK
  nN : NoAttr K C "name"
  nR : NoAttr K C "roles"
def spNamed (D : Addr) (C : Nat → Addr) (eR : Addr) : Sp := fun vs H Q E => ∃ (p t : Addr) (n x : List Nat) (rs : List Ro), vs = [.ref p, .str (S x)] ∧ KindAt D H p t n rs ∧ RosOk C H rs ∧ rs.length ≤ 8 ∧
  (∀ r ∈ rs, r.n = x → Q (.ref r.a) H) ∧ ((∀ r ∈ rs, r.n ≠ x) → Raised E eR "name" (.str (S x)) H)
abbrev s_Kind_role_named : Stmt := inClass (top 17) 1
theorem sc_Kind_role_named : FnScope ["self", "name", "role"] ["self", "name"] (defScope s_Kind_role_named) := ⟨rfl, rfl, rfl, by decide +kernel, rfl, by decide +kernel, by decide +kernel⟩
abbrev MKn (K : PySem.W.Frag) := Mf K "role_named" "Kind.role_named" s_Kind_role_named ["self", "name"]
theorem ok_named {mI mK : Addr} (m : MKn K) (T : Bt mg) (c : Six K mg mI) (kc : Kc K mg mK) (eR : ErR K mg) : FnOk P w K mg base (L2.CX P w) 3 m.f m.fd ["self", "name"] (spNamed kc.C c.C eR.C) := by
  have GR : FnOk P w K mg base CX0 1 eR.f eR.fd _ (spErI eR.C "name") := ok_nri eR
  refine m.F.okX sc_Kind_role_named (fun vs H Q E h => ?_) (fun cdv A outer s H vs Q E hr h => ?_)
  · obtain ⟨p, t, n, x, rs, rfl, _⟩ := h
    rfl
  · obtain ⟨p, t, n, x, rs, rfl, ⟨⟨dx, hp⟩, ht⟩, hro, hl, k1, k2⟩ := h
    have hu := hr.units
    refine ⟨_, (pss_cons (ps_for (passes_of rfl) rfl (kpt K (kfld K (pv 0))) (pg_name (i := 2) sc_Kind_role_named.nd rfl (Or.inl rfl))
  (pss_one (ps_if (pt_cmpR (keq K hu) (kfld K (pv 2)) (pv 1) (nomark _)) (pss_one (ps_ret (pv 2)))
  pss_nil)))
  (pss_one (ps_raise rfl (takes_of rfl rfl rfl rfl) (pmk_er eR GR hr (pa_cons (pv 1) pa_nil))))), ?_⟩
    refine Rd.start_ (σ' := [some (.ref p), some (.str (S x)), none]) rfl ?_
    walk_at "rd"
    refine ⟨p, kc.C, dx, _, _, rfl, hp, kc.cl, kc.nR, kflds_roles _ _, ?_⟩
    refine Rd.extup (SqT.of ht) ?_
    refine Rd.foW Rd.wTup (fun i σ H' => ∃ o, σ = [some (.ref p), some (.str (S x)), o] ∧ H' = H ∧ ∀ r ∈ rs.take i, r.n ≠ x) ⟨none, rfl, rfl, fun r hr => absurd hr (List.not_mem_nil)⟩ (fun i σ H' hi ⟨_, _, e, _⟩ => by subst e; exact SqT.of ht) ?_ ?_
    · rintro i y σ H' hi hy ⟨o, rfl, rfl, j2⟩
      obtain ⟨r, hr', rfl⟩ := ref_at hy
      have hmem := List.mem_of_getElem? hr'
      obtain ⟨rm, dr, hat⟩ := hro r hmem
      dsimp only [List.set]
      walk_at "rd"
      refine ⟨r.a, _, dr, _, _, rfl, hat, c.cl r.m, c.nN r.m, flds_name _ _, ?_⟩
      walk_at "rd"
      refine Rd.iteD (fun c1 => ?_) (fun c1 => ?_)
      · walk_at "rd"
        exact k1 r hmem c1
      · walk_at "rd"
        refine ⟨_, rfl, rfl, fun r2 h2 => ?_⟩
        rw [List.take_add_one, hr'] at h2
        rcases List.mem_append.mp h2 with h2 | h2
        · exact j2 r2 h2
        · rw [List.mem_singleton.mp h2]; exact c1
    · rintro σ H' ⟨o, rfl, rfl, j2⟩
      have e1 : rs.take (refs rs).length = rs := by rw [List.length_map, List.take_length]
      rw [e1] at j2
      walk_at "rd"
      exact Rd.erGo fun d hd => k2 j2 d _ (same_new hd) upd_same
/-! the pairs -/
def pairsOf (rs : List (List Nat × Nat)) : List (List Nat × List Nat) := rs.flatMap fun f => (rs.filter fun s => rdB f.2 && (dvB s.2 && !decide (f.1 = s.1))).map fun s => (f.1, s.1)
def pairsP (R D : List (List Nat)) : List (List Nat × List Nat) := R.flatMap fun a => (D.filter fun b => !decide (a = b)).map fun b => (a, b)
theorem filt_flat {α β : Type} (p : α → Bool) (f : α → List β) (l : List α) : (l.filter p).flatMap f = l.flatMap fun x => if p x then f x else [] := by
  induction l with
  | nil => rfl
  | cons x l ih =>
    rw [List.flatMap_cons]
    by_cases h : p x
    · rw [List.filter_cons_of_pos h, List.flatMap_cons, ih, if_pos h]
    · rw [List.filter_cons_of_neg h, ih, if_neg h, List.nil_append]
theorem pairs_eq (rs : List (List Nat × Nat)) : pairsP ((rs.filter fun r => rdB r.2).map (·.1)) ((rs.filter fun r => dvB r.2).map (·.1)) = pairsOf rs := by
  unfold pairsP pairsOf
  rw [List.flatMap_map, filt_flat]
  congr 1
  funext f
  rw [List.filter_map, List.map_map, List.filter_filter]
  by_cases h : rdB f.2 = true
  · rw [if_pos h, h]
    show ((rs.filter fun a => ((fun b => !decide (f.1 = b)) ∘ fun x => x.1) a && dvB a.2).map fun s => (f.1, s.1)) = _
    congr 2
    funext s
    show ((!decide (f.1 = s.1)) && dvB s.2) = (true && (dvB s.2 && !decide (f.1 = s.1)))
    rw [Bool.true_and, Bool.and_comm]
  · have h' : rdB f.2 = false := Bool.eq_false_iff.mpr h
    rw [if_neg h, h']
    show [] = ((rs.filter fun s => false && (dvB s.2 && !decide (f.1 = s.1))).map fun s => (f.1, s.1))
    simp

end
section
variable {P : Program} {w : World} {K : PySem.W.Frag} {mg : Str → Option Value} {base : Heap} {tk : Tok}
/-! ### the pairs of a kind -/
inductive PrAt (H : Hp) : List V → List (List Nat × List Nat) → Prop
  | nil : PrAt H [] []
  | cons {a : Addr} {x y : List Nat} {vs : List V} {ps : List (List Nat × List Nat)} : H a = some (.tup [.str (S x), .str (S y)]) → PrAt H vs ps → PrAt H (.ref a :: vs) ((x, y) :: ps)
theorem PrAt.mono {H H' : Hp} {vs : List V} {ps : List (List Nat × List Nat)} (h : PrAt H vs ps) (e : Same H H') : PrAt H' vs ps := by
  induction h with
  | nil => exact .nil
  | cons h _ ih => exact .cons (e _ _ h) ih
theorem PrAt.app {H : Hp} {vs us : List V} {ps qs : List (List Nat × List Nat)} (h : PrAt H vs ps) (k : PrAt H us qs) : PrAt H (vs ++ us) (ps ++ qs) := by
  induction h with
  | nil => exact k
  | cons h _ ih => exact .cons h ih
theorem PrAt.one {H : Hp} {a : Addr} {x y : List Nat} {vs : List V} {ps : List (List Nat × List Nat)} (h : PrAt H vs ps) (k : H a = some (.tup [.str (S x), .str (S y)])) : PrAt H (vs ++ [.ref a]) (ps ++ [(x, y)]) := h.app (.cons k .nil)
def nm2 (rs : List Ro) : List (List Nat × Nat) := rs.map fun r => (r.n, r.m)
def spPairs (D : Addr) (C : Nat → Addr) : Sp := fun vs H Q _ => ∃ (p t : Addr) (n : List Nat) (rs : List Ro), vs = [.ref p] ∧ KindAt D H p t n rs ∧ RosOk C H rs ∧ rs.length ≤ 8 ∧
  ∀ l vs H', H l = none → Same H H' → H' l = some (.lst vs) → PrAt H' vs (pairsOf (nm2 rs)) → Q (.ref l) H'
abbrev s_Kind_pairs : Stmt := inClass (top 17) 2
theorem sc_Kind_pairs : FnScope ["self", "readers", "derived", "role", "first", "second"] ["self"] (defScope s_Kind_pairs) := ⟨rfl, rfl, rfl, by decide +kernel, rfl, by decide +kernel, by decide +kernel⟩
abbrev MKp (K : PySem.W.Frag) := Mf K "pairs" "Kind.pairs" s_Kind_pairs ["self"]
theorem filt_take {α : Type} {p : α → Bool} {l : List α} {i : Nat} {x : α} (h : l[i]? = some x) : (l.take (i + 1)).filter p = (l.take i).filter p ++ (if p x then [x] else []) := by
  rw [List.take_add_one, h, List.filter_append]
  congr 1
  cases hp : p x <;> simp [hp]
def inner (a : List Nat) (D : List (List Nat)) : List (List Nat × List Nat) := (D.filter fun b => !decide (a = b)).map fun b => (a, b)
theorem str_at {ns : List (List Nat)} {i : Nat} {x : V} (h : (ns.map fun l => V.str (S l))[i]? = some x) : ∃ l, ns[i]? = some l ∧ x = .str (S l) := by
  rw [List.getElem?_map] at h
  obtain ⟨r, h1, h2⟩ := Option.map_eq_some_iff.mp h
  exact ⟨r, h1, h2.symm⟩
theorem ok_pairs {mI mK : Addr} (m : MKp K) (T : Bt mg) (c : Six K mg mI) (kc : Kc K mg mK) (t1 : ∀ m, m < 5 → Tells P w K mg base (c.C m) "reads" (.bl (rdB m))) (t3 : ∀ m, m < 5 → Tells P w K mg base (c.C m) "derived" (.bl (dvB m))) :
    FnOk P w K mg base CX0 2 m.f m.fd ["self"] (spPairs kc.C c.C) := by
  refine m.F.ok sc_Kind_pairs (fun vs H Q E h => ?_) (fun cdv A outer s H vs Q E hr h => ?_)
  · obtain ⟨p, t, n, rs, rfl, _⟩ := h
    rfl
  · obtain ⟨p, t, n, rs, rfl, ⟨⟨dx, hp⟩, ht⟩, hro, hl, k⟩ := h
    have hu := hr.units
    have hr1 : Room 1 _ := hr.mono (by decide)
    refine ⟨_, (pss_cons (ps_setLc (i := 1) (own := [("role", 3)]) (g := gName 3) rfl sc_Kind_pairs.nd rfl rfl (sw_true rfl rfl rfl (by decide +kernel)) (kpt K (kfld K (pv 0))) (blkOk_by (N := ["self", "readers", "derived", "role", "first", "second"]) (sc := defScope s_Kind_pairs) (by decide +kernel)) (fun _ _ _ _ _ => (pg_name (i := 3) sc_Kind_pairs.nd rfl (Or.inl rfl))) (fun _ _ _ _ _ => (pts_one (pt_val (pe_altN (n := 5) (t := fun m => tMeth (c.C m) "reads" (spTells (.bl (rdB m))) [] E0 (tVar 3) tNil) fun m hm => by obtain ⟨_, _, _, dd, mm, GG⟩ := t1 m hm; exact pe_m0g (pv 3) (c.cl m) mm GG hr1 pass0 dd.b)))) (fun _ _ _ _ _ => (kfld K (pv 3))))
  (pss_cons (ps_set (i := 2) sc_Kind_pairs.nd rfl (Or.inr rfl) (pe_lc (own := [("role", 3)]) (g := gName 3) rfl sc_Kind_pairs.nd (kpt K (kfld K (pv 0))) (blkOk_by (N := ["self", "readers", "derived", "role", "first", "second"]) (sc := defScope s_Kind_pairs) (by decide +kernel)) (fun _ _ _ _ _ => (pg_name (i := 3) sc_Kind_pairs.nd rfl (Or.inl rfl))) (fun _ _ _ _ _ => (pts_one (pt_val (pe_altN (n := 5) (t := fun m => tMeth (c.C m) "derived" (spTells (.bl (dvB m))) [] E0 (tVar 3) tNil) fun m hm => by obtain ⟨_, _, _, dd, mm, GG⟩ := t3 m hm; exact pe_m0g (pv 3) (c.cl m) mm GG hr1 pass0 dd.b)))) (fun _ _ _ _ _ => (kfld K (pv 3)))))
  (pss_one (ps_ret (pe_lc2 (own := [("first", 4), ("second", 5)]) (vs1 := [5]) (g := gName 4) (g1 := gName 5) (tt := tYes) rfl sc_Kind_pairs.nd (kpl K (pv 1)) (blkOk_by (N := ["self", "readers", "derived", "role", "first", "second"]) (sc := defScope s_Kind_pairs) (by decide +kernel)) (by decide) (fun _ _ _ _ _ => (pg_name (i := 4) sc_Kind_pairs.nd rfl (Or.inl rfl))) (fun _ _ _ _ _ => pts_nil) (fun _ _ _ _ _ => (kpl K (pv 2))) (fun _ _ _ _ _ => (pg_name (i := 5) sc_Kind_pairs.nd rfl (Or.inl rfl))) (fun _ _ _ _ _ => (pts_one (pt_cmpR (kne K hu) (pv 4) (pv 5) (nomark _)))) (fun _ _ _ _ _ => (pe_tup (pa_cons (pv 4) (pa_cons (pv 5) pa_nil))))))))), ?_⟩
    refine Rd.start_ (σ' := [some (.ref p), none, none, none, none, none]) rfl ?_
    walk_at "rd"
    refine ⟨p, kc.C, dx, _, _, rfl, hp, kc.cl, kc.nR, kflds_roles _ _, ?_⟩
    refine Rd.extup (SqT.of ht) ?_
    refine Rd.lcW Rd.wTup (by rw [List.length_map]; walk_at "sz") (fun i acc H' => Same H H' ∧ acc = ((rs.take i).filter fun r => rdB r.m).map fun r => V.str (S r.n)) ⟨Same.refl _, rfl⟩
      (fun D hD i acc ys H' j => ⟨same_upd j.1 hD, j.2⟩) (fun i acc H' hi j => SqT.of (j.1 _ _ ht)) ?_ ?_
    · intro D2 hD i x acc H' hi hx hacc hlen ⟨j1, j2⟩ Kt Kf hT hF
      dsimp only [List.set]
      obtain ⟨r, hr', rfl⟩ := ref_at hx
      obtain ⟨rm, dr, hat⟩ := hro.mono j1 r (List.mem_of_getElem? hr')
      walk_at "rd"
      refine Rd.alt rm ?_
      walk_at "rd"
      refine ⟨r.a, dr, _, rfl, hat, flds_no _ _ (by decide +kernel) (by decide +kernel), ?_⟩
      walk_at "rd"
      refine ⟨r.a, rfl, ?_⟩
      walk_at "rd"
      have e1 := filt_take (p := fun r : Ro => rdB r.m) hr'
      cases hb : rdB r.m with
      | true =>
        rw [hb, if_pos rfl] at e1
        walk_at "rd"
        refine ⟨r.a, _, dr, _, _, rfl, hat, c.cl r.m, c.nN r.m, flds_name _ _, ?_⟩
        refine hT _ _ hacc ⟨j1, ?_⟩
        rw [j2, e1, List.map_append]
        rfl
      | false =>
        rw [hb, if_neg Bool.false_ne_true, List.append_nil] at e1
        walk_at "rd"
        refine hF _ hacc ⟨j1, ?_⟩
        rw [j2, e1]
    intro R acc H1 hRn hR hlenR ⟨s1, j2⟩
    rw [List.length_map, List.take_length] at j2
    have eR : acc = ((rs.filter fun r => rdB r.m).map (·.n)).map fun l => V.str (S l) := by rw [j2, List.map_map]; rfl
    rw [eR] at hR
    have hp1 := s1 _ _ hp
    have ht1 := s1 _ _ ht
    have hro1 := hro.mono s1
    walk_at "rd"
    refine ⟨p, kc.C, dx, _, _, rfl, hp1, kc.cl, kc.nR, kflds_roles _ _, ?_⟩
    refine Rd.extup (SqT.of ht1) ?_
    refine Rd.lcW Rd.wTup (by rw [List.length_map]; walk_at "sz") (fun i acc H' => Same H1 H' ∧ acc = ((rs.take i).filter fun r => dvB r.m).map fun r => V.str (S r.n)) ⟨Same.refl _, rfl⟩
      (fun D hD i acc ys H' j => ⟨same_upd j.1 hD, j.2⟩) (fun i acc H' hi j => SqT.of (j.1 _ _ ht1)) ?_ ?_
    · intro D2 hD i x acc H' hi hx hacc hlen ⟨j1, j2⟩ Kt Kf hT hF
      dsimp only [List.set]
      obtain ⟨r, hr', rfl⟩ := ref_at hx
      obtain ⟨rm, dr, hat⟩ := hro1.mono j1 r (List.mem_of_getElem? hr')
      walk_at "rd"
      refine Rd.alt rm ?_
      walk_at "rd"
      refine ⟨r.a, dr, _, rfl, hat, flds_no _ _ (by decide +kernel) (by decide +kernel), ?_⟩
      walk_at "rd"
      refine ⟨r.a, rfl, ?_⟩
      walk_at "rd"
      have e1 := filt_take (p := fun r : Ro => dvB r.m) hr'
      cases hb : dvB r.m with
      | true =>
        rw [hb, if_pos rfl] at e1
        walk_at "rd"
        refine ⟨r.a, _, dr, _, _, rfl, hat, c.cl r.m, c.nN r.m, flds_name _ _, ?_⟩
        refine hT _ _ hacc ⟨j1, ?_⟩
        rw [j2, e1, List.map_append]
        rfl
      | false =>
        rw [hb, if_neg Bool.false_ne_true, List.append_nil] at e1
        walk_at "rd"
        refine hF _ hacc ⟨j1, ?_⟩
        rw [j2, e1]
    intro E2 acc H2 hEn hE hlenE ⟨s2, j3⟩
    rw [List.length_map, List.take_length] at j3
    have eE : acc = ((rs.filter fun r => dvB r.m).map (·.n)).map fun l => V.str (S l) := by rw [j3, List.map_map]; rfl
    rw [eE] at hE
    have hR2 := s2 _ _ hR
    walk_at "rd"
    generalize hRn' : ((rs.filter fun r => rdB r.m).map (·.n)) = Rn at hR hR2
    generalize hDn' : ((rs.filter fun r => dvB r.m).map (·.n)) = Dn at hE
    have lR : Rn.length ≤ 8 := by rw [← hRn', List.length_map]; exact Nat.le_trans (List.length_filter_le _ _) hl
    have lD : Dn.length ≤ 8 := by rw [← hDn', List.length_map]; exact Nat.le_trans (List.length_filter_le _ _) hl
    have lRD : Rn.length * Dn.length ≤ 8 * 8 := Nat.mul_le_mul lR lD
    have eP : pairsP Rn Dn = pairsOf (nm2 rs) := by
      rw [← pairs_eq, ← hRn', ← hDn']
      unfold nm2
      rw [List.filter_map, List.filter_map, List.map_map, List.map_map]
      rfl
    refine Rd.lc2L ?_
    walk_at "rd"
    refine Rd.lc2W (s := 4) (s1 := 5) (b := E2) (ys := Dn.map fun l => V.str (S l)) (by decide) (by rw [List.length_map, List.length_map]; walk_at "sz") (fun i j acc H' => Same H2 H' ∧ PrAt H' acc (pairsP (Rn.take i) Dn ++ match Rn[i]? with | some a => inner a (Dn.take j) | none => []))
      ⟨Same.refl _, ?_⟩ ?_ (fun i j acc H' q => ⟨SqL.of (q.1 _ _ hR2), SqL.of (q.1 _ _ hE)⟩) (fun x H' => ⟨_, rfl, rfl, rfl⟩) (fun σ H Q R h ⟨v, e, q⟩ => ⟨v, e, h _ _ q⟩) ?_ ?_ ?_
    · show PrAt H2 [] ([] ++ _)
      cases Rn[0]? <;> exact .nil
    · intro D3 hD3 i j acc zs H' hne ⟨q1, q2⟩
      refine ⟨same_upd q1 hD3, ?_⟩
      clear hE hR hR2 hRn' hDn' eP lRD lD lR q1
      generalize (pairsP (Rn.take i) Dn ++ match Rn[i]? with | some a => inner a (Dn.take j) | none => []) = ps at q2 ⊢
      induction q2 with
      | nil => exact .nil
      | cons h _ ih => exact .cons (by rw [upd_ne (hne _ _ h)]; exact h) ih
    · intro i acc H' hi ⟨q1, q2⟩
      rw [List.length_map] at hi q2
      refine ⟨q1, ?_⟩
      have hat : Rn[i]? = some Rn[i] := List.getElem?_eq_getElem hi
      rw [hat, List.take_length] at q2
      have e3 : pairsP (Rn.take (i + 1)) Dn = pairsP (Rn.take i) Dn ++ inner Rn[i] Dn := by
        rw [List.take_add_one, hat]
        show pairsP (Rn.take i ++ [Rn[i]]) Dn = _
        unfold pairsP
        rw [List.flatMap_append]
        show _ ++ (inner Rn[i] Dn ++ []) = _
        rw [List.append_nil]
      have e4 : (match Rn[i + 1]? with | some a => inner a (Dn.take 0) | none => []) = ([] : List (List Nat × List Nat)) := by cases Rn[i + 1]? <;> rfl
      rw [e3, e4, List.append_nil]
      exact q2
    · intro D3 hD3 i j x y acc H' hx hy hacc ⟨q1, q2⟩ Kt Kf hT hF
      obtain ⟨x, hx', rfl⟩ := str_at hx
      obtain ⟨y, hy', rfl⟩ := str_at hy
      dsimp only [List.set]
      rw [hx'] at q2
      have e5 := filt_take (p := fun b => !decide (x = b)) hy'
      have e6 : inner x (Dn.take (j + 1)) = inner x (Dn.take j) ++ (if (!decide (x = y)) = true then [(x, y)] else []) := by
        unfold inner
        rw [e5, List.map_append]
        congr 1
        cases (!decide (x = y)) <;> rfl
      walk_at "rd"
      refine Rd.iteN (fun c1 => ?_) (fun c1 => ?_)
      · rw [decide_eq_false c1] at e6
        walk_at "rd"
        refine ⟨by show 2 ≤ sizeLine; decide, fun tp htp => ?_⟩
        have htD : D3 ≠ tp := fun z => by rw [← z, hacc] at htp; cases htp
        refine hT _ _ (by rw [upd_ne htD]; exact hacc) ⟨same_upd q1 (none_same q1 htp), ?_⟩
        rw [hx']
        show PrAt _ _ (_ ++ inner x (Dn.take (j + 1)))
        rw [e6, ← List.append_assoc]
        exact (q2.mono (same_new htp)).one upd_same
      · rw [decide_eq_true c1] at e6
        refine hF _ hacc ⟨q1, ?_⟩
        rw [hx']
        show PrAt _ _ (_ ++ inner x (Dn.take (j + 1)))
        rw [e6]
        show PrAt _ _ (_ ++ (inner x (Dn.take j) ++ []))
        rw [List.append_nil]
        exact q2
    · intro l vs H' hl' hvs hlen ⟨q1, q2⟩
      rw [List.length_map, List.take_length] at q2
      have e7 : (match Rn[Rn.length]? with | some a => inner a (Dn.take 0) | none => []) = ([] : List (List Nat × List Nat)) := by cases Rn[Rn.length]? <;> rfl
      rw [e7, List.append_nil, eP] at q2
      exact k l vs H' (none_same (s1.trans s2) hl') ((s1.trans s2).trans q1) hvs q2

end
section
variable {P : Program} {w : World} {K : PySem.W.Frag} {mg : Str → Option Value} {base : Heap} {tk : Tok}
/-! ### lists of tuples of flat things, compared -/
inductive TlAt (H : Hp) : List V → List (List V) → Prop
  | nil : TlAt H [] []
  | cons {a : Addr} {xs : List V} {vs : List V} {xss : List (List V)} : H a = some (.tup xs) → TlAt H vs xss → TlAt H (.ref a :: vs) (xs :: xss)
theorem TlAt.mono {H H' : Hp} {vs : List V} {xss : List (List V)} (h : TlAt H vs xss) (e : Same H H') : TlAt H' vs xss := by
  induction h with
  | nil => exact .nil
  | cons h _ ih => exact .cons (e _ _ h) ih
theorem TlAt.app {H : Hp} {vs us : List V} {ps qs : List (List V)} (h : TlAt H vs ps) (k : TlAt H us qs) : TlAt H (vs ++ us) (ps ++ qs) := by
  induction h with
  | nil => exact k
  | cons h _ ih => exact .cons h ih
theorem TlAt.one {H : Hp} {a : Addr} {xs : List V} {vs : List V} {ps : List (List V)} (h : TlAt H vs ps) (k : H a = some (.tup xs)) : TlAt H (vs ++ [.ref a]) (ps ++ [xs]) := h.app (.cons k .nil)
theorem TlAt.upd {H : Hp} {D : Addr} {zs : List V} {vs : List V} {ps : List (List V)} (h : TlAt H vs ps) (hD : ∀ o, H D = some (.tup o) → False) : TlAt (upd H D (.lst zs)) vs ps := by
  induction h with
  | nil => exact .nil
  | @cons a xs vs xss h _ ih => exact .cons (by rw [upd_ne (fun z => hD _ (by rw [← z]; exact h))]; exact h) ih
theorem TlAt.len {H : Hp} {vs : List V} {ps : List (List V)} (h : TlAt H vs ps) : vs.length = ps.length := by
  induction h with
  | nil => rfl
  | cons _ _ ih => rw [List.length_cons, List.length_cons, ih]
theorem TlAt.get {H : Hp} {vs : List V} {ps : List (List V)} (h : TlAt H vs ps) : ∀ {i : Nat} {v : V}, vs[i]? = some v → ∃ a xs, v = .ref a ∧ ps[i]? = some xs ∧ H a = some (.tup xs) := by
  induction h with
  | nil => intro i v h; simp at h
  | @cons a xs vs xss h _ ih =>
    intro i v e
    cases i with
    | zero => exact ⟨a, xs, (Option.some.inj e).symm, rfl, h⟩
    | succ i => exact ih e
def prs (ps : List (List Nat × List Nat)) : List (List V) := ps.map fun p => [V.str (S p.1), V.str (S p.2)]
theorem PrAt.tl {H : Hp} {vs : List V} {ps : List (List Nat × List Nat)} (h : PrAt H vs ps) : TlAt H vs (prs ps) := by
  induction h with
  | nil => exact .nil
  | cons h _ ih => exact .cons h ih
abbrev datL (xss : List (List V)) : List PyData := xss.map fun xs => PyData.tuple (xs.map dOf)
theorem TlAt.dp {H : Hp} {vs : List V} {xss : List (List V)} (h : TlAt H vs xss) (k : xss.all (fun xs => xs.all okV) = true) : DpAll K H vs (datL xss) := by
  induction h with
  | nil => exact .nil
  | cons h _ ih =>
    rw [List.all_cons, Bool.and_eq_true] at k
    exact .cons (.tup (SqT.of h) (dp_all k.1)) (ih k.2)
theorem can_datL : ∀ {xss : List (List V)}, xss.all (fun xs => xs.all okV) = true → PyData.canLayAll0 (datL xss) = true
  | [], _ => rfl
  | xs :: xss, k => by
    rw [List.all_cons, Bool.and_eq_true] at k
    show (PyData.canLay0 (.tuple (xs.map dOf)) && PyData.canLayAll0 (datL xss)) = true
    rw [can_datL k.2, Bool.and_true]
    exact can_all k.1
theorem depth_datL : ∀ xss : List (List V), PyData.depthAll (datL xss) ≤ 1
  | [] => Nat.zero_le _
  | xs :: xss => by
    show max (PyData.depth (.tuple (xs.map dOf))) (PyData.depthAll (datL xss)) ≤ 1
    refine Nat.max_le.mpr ⟨?_, depth_datL xss⟩
    show PyData.depthAll (xs.map dOf) + 1 ≤ 1
    rw [depth_all]
    exact Nat.le_refl _
theorem sh_datL {xss : List (List V)} (k : xss.all (fun xs => xs.all okV) = true) : SeqAt.shaped (.list (datL xss)) = true := by
  show (PyData.canLayAll0 (datL xss) && decide (PyData.depthAll (datL xss) + 1 ≤ 64)) = true
  have := depth_datL xss
  rw [can_datL k, Bool.true_and]
  exact decide_eq_true (by omega)
theorem refl_datL {xss : List (List V)} (k : xss.all (fun xs => xs.all okV) = true) : PyData.eqv (.list (datL xss)) (.list (datL xss)) = true := SeqAt.eqv_refl _ (can_datL k)
theorem eqTl {H : Hp} {Q : VK} {a b : Addr} {vs us : List V} {xss : List (List V)} (h1 : H a = some (.lst vs)) (h2 : H b = some (.lst us)) (t1 : TlAt H vs xss) (t2 : TlAt H us xss) (k : xss.all (fun xs => xs.all okV) = true) (q : Q (.bl true) H) : rEqA K (.ref a) (.ref b) H Q :=
  Rd.eqD (.lst (SqL.of h1) (t1.dp k)) (.lst (SqL.of h2) (t2.dp k)) (sh_datL k) (sh_datL k) (by rw [refl_datL k]; exact q)
theorem neTl {H : Hp} {Q : VK} {a b : Addr} {vs us : List V} {xss : List (List V)} (h1 : H a = some (.lst vs)) (h2 : H b = some (.lst us)) (t1 : TlAt H vs xss) (t2 : TlAt H us xss) (k : xss.all (fun xs => xs.all okV) = true) (q : Q (.bl false) H) : rNeA K (.ref a) (.ref b) H Q :=
  Rd.neD (.lst (SqL.of h1) (t1.dp k)) (.lst (SqL.of h2) (t2.dp k)) (sh_datL k) (sh_datL k) (by rw [refl_datL k]; exact q)
theorem ok_S {l : List Nat} (h : Nm l) : okV (.str (S l)) = true := by
  show l.toArray.all (· < 0x110000) = true
  rw [List.all_toArray]
  exact List.all_eq_true.mpr fun c hc => decide_eq_true (by have := h.2.2 c hc; omega)
/-! ### the law's helpers about one kind -/
def markOf : Nat → List Nat
  | 0 => [114]
  | 1 => [109]
  | 2 => [102]
  | 3 => [114, 109]
  | 4 => [114, 102]
  | _ => []
theorem Six.mark {mI : Addr} (c : Six K mg mI) (m : Nat) : ∃ u, Con K (c.C m) "MARK" (.str (S (markOf m))) u := match m with
  | 0 => ⟨_, c.e.mark⟩
  | 1 => ⟨_, c.m.mark⟩
  | 2 => ⟨_, c.f.mark⟩
  | 3 => ⟨_, c.b.mark⟩
  | 4 => ⟨_, c.w.mark⟩
  | _ + 5 => ⟨_, c.r.mark⟩
def mrk (n g : List Nat) (m : Nat) : List V := [.str (S n), .str (S g), .str (S (markOf m))]
def spMark (C : Nat → Addr) : Sp := fun vs H Q _ => ∃ (a : Addr) (n g : List Nat) (m : Nat), vs = [.ref a] ∧ RoleAt (C m) H a n g ∧ ∀ t, H t = none → Q (.ref t) (upd H t (.tup (mrk n g m)))
abbrev s_law_mark : Stmt := top 29
theorem sc_law_mark : FnScope ["_law_role_here"] ["_law_role_here"] (defScope s_law_mark) := ⟨rfl, rfl, rfl, by decide +kernel, rfl, by decide +kernel, by decide +kernel⟩
abbrev DMa (K : PySem.W.Frag) (mg : Str → Option Value) := Df K mg "_law_mark" "_law_mark" s_law_mark ["_law_role_here"]
theorem ok_mark {mI : Addr} (d : DMa K mg) (c : Six K mg mI) : FnOk P w K mg base CX0 1 d.f d.fd ["_law_role_here"] (spMark c.C) := by
  refine d.F.ok sc_law_mark (fun vs H Q E h => ?_) (fun cdv A outer s H vs Q E hr h => ?_)
  · obtain ⟨a, n, g, m, rfl, _⟩ := h
    rfl
  · obtain ⟨a, n, g, m, rfl, ⟨dx, ha⟩, k⟩ := h
    obtain ⟨u, hm⟩ := c.mark m
    refine ⟨_, (pss_one (ps_ret (pe_tup (pa_cons (kfld K (pv 0)) (pa_cons (kfld K (pv 0)) (pa_cons (kcon K (pv 0)) pa_nil)))))), ?_⟩
    refine Rd.start_ (σ' := [some (.ref a)]) rfl ?_
    walk_at "rd"
    refine ⟨a, _, dx, _, _, rfl, ha, c.cl m, c.nN m, flds_name _ _, ?_⟩
    walk_at "rd"
    refine ⟨a, _, dx, _, _, rfl, ha, c.cl m, c.nG m, flds_group _ _, ?_⟩
    walk_at "rd"
    refine ⟨a, _, dx, _, _, u, rfl, ha, c.cl m, hm, flds_no _ _ (by decide +kernel) (by decide +kernel), ?_⟩
    walk_at "rd"
    exact ⟨by show 3 ≤ sizeLine; decide, fun t ht => k t ht⟩
theorem kmk_go {mK : Addr} (kc : Kc K mg mK) {C : Nat → Addr} {eN eK a : Addr} {n : List Nat} {rs : List Ro} {H : Hp} {Q : VK} {E : XK} (hn : n.length ≤ 100) (ha : H a = some (.lst (refs rs))) (hro : RosOk C H rs) (hl : rs.length ≤ 8)
    (k1 : Nm n → KindOk rs → ∀ p t H', H p = none → Same H H' → KindAt kc.C H' p t n rs → Q (.ref p) H') (k2 : ¬ Nm n → Raised E eN "name" (.str (S n)) H) (k3 : Nm n → ¬ KindOk rs → Raised E eK "name" (.str (S n)) H) :
    MkGo kc.C (spKInit K C eN eK) [.str (S n), .ref a] H Q E := by
  intro x dx hx hd ne
  have s0 : Same H (upd (upd H dx (.own x)) x (.ins kc.C dx [])) := fun b o e => by
    rw [upd_ne (ne_of_none e hx), upd_ne (ne_of_none e hd)]; exact e
  refine ⟨x, kc.C, dx, a, n, rs, rfl, hn, kc.cl, kc.nN, kc.nR, upd_same, s0 _ _ ha, hro.mono s0, hl, fun a1 a2 H' t s1 h1 h2 _ => ⟨rfl, ?_⟩, fun a1 => (k2 a1).mono s0, fun a1 a2 => (k3 a1 a2).mono s0⟩
  exact k1 a1 a2 x t H' hx (fun b o e => s1 b o (ne_of_none e hx) (s0 b o e)) ⟨⟨dx, h1⟩, h2⟩
def nameS : List Nat := [110, 97, 109, 101]
def kindS : List Nat := [107, 105, 110, 100]
/-- what a kind's making is refused for -/
def spRefusal (C : Nat → Addr) : Sp := fun vs H Q _ => ∃ (n : List Nat) (a : Addr) (rs : List Ro), vs = [.str (S n), .ref a] ∧ n.length ≤ 100 ∧ H a = some (.lst (refs rs)) ∧ RosOk C H rs ∧ rs.length ≤ 8 ∧
  ∀ (t : Addr) (H' : Hp) (xs : List V), Same H H' → H' t = some (.tup xs) → (¬ Nm n → xs = [.str (S nameS), .str (S n), .bl true]) → (Nm n → ¬ KindOk rs → xs = [.str (S kindS), .str (S n), .bl true]) → Q (.ref t) H'
abbrev s_law_refusal : Stmt := top 27
theorem sc_law_refusal : FnScope ["_law_name", "_law_roles", "e"] ["_law_name", "_law_roles"] (defScope s_law_refusal) := ⟨rfl, rfl, rfl, by decide +kernel, rfl, by decide +kernel, by decide +kernel⟩
abbrev DRef (K : PySem.W.Frag) (mg : Str → Option Value) := Df K mg "_law_refusal" "_law_refusal" s_law_refusal ["_law_name", "_law_roles"]
theorem ok_refusal {mI : Addr} (d : DRef K mg) (mK : MKi K) (kc : Kc K mg mK.f) (T : Bt mg) (hEn : mg "enumerate" = none) (dR : DReq K mg) (dF : DRep K mg) (c : Six K mg mI) (eN : ErN K mg) (eK : ErK K mg) (gL : mg "LONGEST_NAME" = some (.int 8 tk)) {tk2 : Tok} (gM : mg "MOST_ROLES" = some (.int 6 tk2))
    (t2 : ∀ m, m < 5 → Tells P w K mg base (c.C m) "makes" (.bl (mkB m))) {cRE : Addr} (gRE : mg "RedoError" = some (.ref cRE)) (q1 : PySem.W.kitOne K (.ref eN.C) (.ref cRE) = some true) (q2 : PySem.W.kitOne K (.ref eK.C) (.ref cRE) = some true) (xNK : PySem.W.exmOne K (.ref eK.C) (.ref eN.C) = some false) :
    FnOk P w K mg base CX0 6 d.f d.fd ["_law_name", "_law_roles"] (spRefusal c.C) := by
  have GK : FnOk P w K mg base (L2.CX P w) 4 mK.f mK.fd _ (spKInit K c.C eN.C eK.C) := ok_kinit mK T hEn dR dF c eN eK gL gM t2
  refine d.F.ok sc_law_refusal (fun vs H Q E h => ?_) (fun cdv A outer s H vs Q E hr h => ?_)
  · obtain ⟨n, a, rs, rfl, _⟩ := h
    rfl
  · obtain ⟨n, a, rs, rfl, hn, ha, hro, hl, k⟩ := h
    have hu := hr.units
    refine ⟨_, (pss_cons (ktry_asN K 2 sc_law_refusal.nd (fun W pn xe tk _ => (pss_one (ps_expr (pe_mkT mK kc.M kc.g GK hr tk (pa_cons (pv 0) (pa_cons (pv 1) pa_nil)))))) (.cons ⟨rfl, by decide, Or.inl eN.g⟩ (fun a oe cls d pn hz hf => (pss_one (ps_ret (pe_tup (pa_cons (pe_lit [110, 97, 109, 101] (by decide +kernel)) (pa_cons (kxf eN.xf eN.no hz hf (pv 2)) (pa_cons (pe_callB (call_isX eN.xc hz hf) (by rfl) T.isinstance (by decide +kernel) (pa_cons (pv 2) (pa_cons (pe_glob (v := .ref cRE) rfl gRE rfl) pa_nil))) pa_nil))))))) (.cons ⟨rfl, by decide, Or.inl eK.g⟩ (fun a oe cls d pn hz hf => (pss_one (ps_ret (pe_tup (pa_cons (pe_lit [107, 105, 110, 100] (by decide +kernel)) (pa_cons (kxf eK.xf eK.no hz hf (pv 2)) (pa_cons (pe_callB (call_isX eK.xc hz hf) (by rfl) T.isinstance (by decide +kernel) (pa_cons (pv 2) (pa_cons (pe_glob (v := .ref cRE) rfl gRE rfl) pa_nil))) pa_nil))))))) .nil)))
  (pss_one (ps_ret (pe_tup pa_nil)))), ?_⟩
    refine Rd.start_ (σ' := [some (.str (S n)), some (.ref a), none]) rfl ?_
    walk_at "rd"
    refine kmk_go kc hn ha hro hl (fun a1 a2 p t H1 _ s1 _ => ?_) (fun a1 dd H1 s1 hd => Rd.wAs_yes eN.te fun ae hae => ?_) (fun a1 a2 dd H1 s1 hd => Rd.wAs_no xNK (Rd.wAs_yes eK.te fun ae hae => ?_))
    · walk_at "rd"
      refine ⟨by show 0 ≤ sizeLine; decide, fun t ht => ?_⟩
      exact k t _ [] (s1.trans (same_new ht)) upd_same (fun z => absurd a1 z) (fun _ z => absurd a2 z)
    · dsimp only [List.set]
      walk_at "rd"
      refine ⟨rfl, rfl, dd, _, _, rfl, hd, by simp [List.lookup]; rfl, ?_⟩
      walk_at "rd"
      refine Rd.isX (fun u h => h) rfl rfl hd q1 ?_
      walk_at "rd"
      refine ⟨by show 3 ≤ sizeLine; decide, fun t ht => ?_⟩
      exact k t _ _ (s1.trans (same_new ht)) upd_same (fun _ => rfl) (fun z _ => absurd z a1)
    · dsimp only [List.set]
      walk_at "rd"
      refine ⟨rfl, rfl, dd, _, _, rfl, hd, by simp [List.lookup]; rfl, ?_⟩
      walk_at "rd"
      refine Rd.isX (fun u h => h) rfl rfl hd q2 ?_
      walk_at "rd"
      refine ⟨by show 3 ≤ sizeLine; decide, fun t ht => ?_⟩
      exact k t _ _ (s1.trans (same_new ht)) upd_same (fun z => absurd a1 z) (fun _ _ => rfl)
/-- the error of a name that no role has -/
def spUnknown (D : Addr) (C : Nat → Addr) : Sp := fun vs H Q _ => ∃ (p t : Addr) (n x : List Nat) (rs : List Ro), vs = [.ref p, .str (S x)] ∧ KindAt D H p t n rs ∧ RosOk C H rs ∧ rs.length ≤ 8 ∧ (∀ r ∈ rs, r.n ≠ x) ∧
  ∀ (t : Addr) (H' : Hp), Same H H' → H' t = some (.tup [.str (S x), .bl true]) → Q (.ref t) H'
abbrev s_law_unknown : Stmt := top 28
theorem sc_law_unknown : FnScope ["_law_kind", "_law_name", "e"] ["_law_kind", "_law_name"] (defScope s_law_unknown) := ⟨rfl, rfl, rfl, by decide +kernel, rfl, by decide +kernel, by decide +kernel⟩
abbrev DUn (K : PySem.W.Frag) (mg : Str → Option Value) := Df K mg "_law_unknown" "_law_unknown" s_law_unknown ["_law_kind", "_law_name"]
theorem ok_unknown {mI mK : Addr} (d : DUn K mg) (mN : MKn K) (kc : Kc K mg mK) (hN : Meth K kc.C "role_named" mN.f) (T : Bt mg) (c : Six K mg mI) (eR : ErR K mg) {cRE : Addr} (gRE : mg "RedoError" = some (.ref cRE)) (q1 : PySem.W.kitOne K (.ref eR.C) (.ref cRE) = some true) :
    FnOk P w K mg base CX0 5 d.f d.fd ["_law_kind", "_law_name"] (spUnknown kc.C c.C) := by
  have GN : FnOk P w K mg base (L2.CX P w) 4 mN.f mN.fd _ (spNamed kc.C c.C eR.C) := (ok_named mN T c kc eR).mono (by decide)
  refine d.F.ok sc_law_unknown (fun vs H Q E h => ?_) (fun cdv A outer s H vs Q E hr h => ?_)
  · obtain ⟨p, t, n, x, rs, rfl, _⟩ := h
    rfl
  · obtain ⟨p, t, n, x, rs, rfl, hk, hro, hl, hx, k⟩ := h
    have hu := hr.units
    refine ⟨_, (pss_cons (ktry_as K 2 sc_law_unknown.nd ⟨rfl, by decide, Or.inl eR.g⟩ (fun W pn xe tk _ => (pss_one (ps_expr (pe_mT (pv 0) kc.cl mN hN GN hr tk (pa_cons (pv 1) pa_nil))))) (fun a oe cls d pn hz hf => (pss_one (ps_ret (pe_tup (pa_cons (kxf eR.xf eR.no hz hf (pv 2)) (pa_cons (pe_callB (call_isX eR.xc hz hf) (by rfl) T.isinstance (by decide +kernel) (pa_cons (pv 2) (pa_cons (pe_glob (v := .ref cRE) rfl gRE rfl) pa_nil))) pa_nil)))))))
  (pss_one (ps_ret (pe_tup pa_nil)))), ?_⟩
    refine Rd.start_ (σ' := [some (.ref p), some (.str (S x)), none]) rfl ?_
    have hk0 := hk
    obtain ⟨⟨dx, hp⟩, ht⟩ := hk0
    walk_at "rd"
    refine ⟨p, dx, _, rfl, hp, kflds_no _ _ (by decide +kernel) (by decide +kernel), ?_⟩
    walk_at "rd"
    refine ⟨p, t, n, x, rs, rfl, hk, hro, hl, fun r hr' e => absurd e (hx r hr'), fun _ dd H1 s1 hd => Rd.wAs_yes eR.te fun ae hae => ?_⟩
    dsimp only [List.set]
    walk_at "rd"
    refine ⟨rfl, rfl, dd, _, _, rfl, hd, by simp [List.lookup]; rfl, ?_⟩
    walk_at "rd"
    refine Rd.isX (fun u h => h) rfl rfl hd q1 ?_
    walk_at "rd"
    refine ⟨by show 2 ≤ sizeLine; decide, fun t ht => ?_⟩
    exact k t _ (s1.trans (same_new ht)) upd_same

end
section
variable {P : Program} {w : World} {K : PySem.W.Frag} {mg : Str → Option Value} {base : Heap} {tk : Tok}
/-! ### what the law expects -/
theorem klset {X : Cx} (K : PySem.W.Frag) {a : Expr} {ta : TE} {p p2 q pos : Pos} (T : Bt mg) (ha : PE X a ta) (hmg : X.mg = mg := by rfl) (hg : Gl X "len" := by rfl) (hg2 : Gl X "set" := by rfl) (hc : X.calm = true := by rfl) (hK : X.K = K := by rfl)
    (na : starEach [a] X.env = (false, eval a X.env) :: starEach [] X.env := by rfl) : PE X (.Call (.Name "len" p) [.Call (.Name "set" p2) [a] [] q] [] pos) (Sets.tLenSetT K ta) := by
  subst hmg hK
  exact Sets.pe_lenSetT hg T.len hg2 T.set ha hc na
abbrev Tri := List Nat × List Nat × Nat
def tri (ts : List Tri) : List (List V) := ts.map fun r => [V.str (S r.1), V.str (S r.2.1), V.int (r.2.2 : Nat)]
theorem tri_at {H : Hp} {vs : List V} {ts : List Tri} (h : TlAt H vs (tri ts)) {i : Nat} {v : V} (e : vs[i]? = some v) : ∃ a r, v = .ref a ∧ ts[i]? = some r ∧ H a = some (.tup [V.str (S r.1), V.str (S r.2.1), V.int (r.2.2 : Nat)]) := by
  obtain ⟨a, xs, rfl, h2, h3⟩ := h.get e
  unfold tri at h2
  rw [List.getElem?_map] at h2
  obtain ⟨r, h4, rfl⟩ := Option.map_eq_some_iff.mp h2
  exact ⟨a, r, rfl, h4, h3⟩
theorem tri_len {H : Hp} {vs : List V} {ts : List Tri} (h : TlAt H vs (tri ts)) : vs.length = ts.length := by
  rw [h.len]; unfold tri; rw [List.length_map]
theorem tri_ok {ts : List Tri} (h : ∀ r ∈ ts, Nm r.1 ∧ Nm r.2.1) : (tri ts).all (fun xs => xs.all okV) = true := by
  rw [List.all_eq_true]
  intro xs hx
  obtain ⟨r, hr, rfl⟩ := List.mem_map.mp hx
  rw [List.all_cons, List.all_cons, List.all_cons, ok_S (h r hr).1, ok_S (h r hr).2]
  rfl
def DueOk (ts : List Tri) : Prop := 1 ≤ ts.length ∧ ts.length ≤ 6 ∧ (ts.map (·.1)).Nodup ∧ ∃ r ∈ ts, 0 < r.2.2
def spDue : Sp := fun vs H Q _ => ∃ (n : List Nat) (bad : Bool) (a : Addr) (us : List V) (ts : List Tri), vs = [.str (S n), .bl bad, .ref a] ∧ H a = some (.lst us) ∧ TlAt H us (tri ts) ∧ ts.length ≤ 8 ∧ (∀ r ∈ ts, Nm r.1 ∧ Nm r.2.1) ∧
  ∀ (t : Addr) (H' : Hp) (xs : List V), Same H H' → H' t = some (.tup xs) → (bad = true → xs = [.str (S nameS), .str (S n), .bl true]) → (bad = false → ¬ DueOk ts → xs = [.str (S kindS), .str (S n), .bl true]) → (bad = false → DueOk ts → xs = []) → Q (.ref t) H'
abbrev s_law_due : Stmt := top 30
theorem sc_law_due : FnScope ["_law_name", "_law_bad", "_law_roles", "_law_names_here", "_law_role_here"] ["_law_name", "_law_bad", "_law_roles"] (defScope s_law_due) := ⟨rfl, rfl, rfl, by decide +kernel, rfl, by decide +kernel, by decide +kernel⟩
abbrev DDu (K : PySem.W.Frag) (mg : Str → Option Value) := Df K mg "_law_due" "_law_due" s_law_due ["_law_name", "_law_bad", "_law_roles"]
theorem nodup_S {ns : List (List Nat)} : (ns.map S).Nodup ↔ ns.Nodup := by
  constructor
  · intro h
    exact (List.pairwise_map.mp h).imp fun hab e => hab (by rw [e])
  · intro h
    exact List.pairwise_map.mpr (h.imp fun hab e => hab (SX.S_inj e))
theorem eqv_nil (ds : List PyData) : PyData.eqv (.list ds) (.list []) = ds.isEmpty := by
  cases ds with
  | nil => rfl
  | cons d ds => rfl
theorem ok_due (d : DDu K mg) (T : Bt mg) : FnOk P w K mg base CX0 1 d.f d.fd ["_law_name", "_law_bad", "_law_roles"] spDue := by
  refine d.F.ok sc_law_due (fun vs H Q E h => ?_) (fun cdv A outer s H vs Q E hr h => ?_)
  · obtain ⟨n, bad, a, us, ts, rfl, _⟩ := h
    rfl
  · obtain ⟨n, bad, a, us, ts, rfl, ha, hT, hl, hnm, k⟩ := h
    have hu := hr.units
    refine ⟨_, (pss_cons (ps_if (pt_val (pv 1)) (pss_one (ps_ret (pe_tup (pa_cons (pe_lit [110, 97, 109, 101] (by decide +kernel)) (pa_cons (pv 0) (pa_cons pe_bl pa_nil))))))
  pss_nil)
  (pss_cons (ps_setLc (i := 3) (own := [("_law_role_here", 4)]) (g := gName 4) (tt := tYes) rfl sc_law_due.nd rfl rfl (sw_true rfl rfl rfl (by decide +kernel)) (kpl K (pv 2)) (blkOk_by (N := ["_law_name", "_law_bad", "_law_roles", "_law_names_here", "_law_role_here"]) (sc := defScope s_law_due) (by decide +kernel)) (fun _ _ _ _ _ => (pg_name (i := 4) sc_law_due.nd rfl (Or.inl rfl))) (fun _ _ _ _ _ => pts_nil) (fun _ _ _ _ _ => (pe_ix (kix K) (pv 4) pe_int (fun _ _ => rfl))))
  (pss_cons (ps_if (PW.pt (pw_or (pt_cmpR (keq K hu) (pe_callB (klen K) (by rfl) T.len (by decide +kernel) (pa_cons (pv 2) pa_nil)) pe_int (nomark _)) (pw_or (pt_cmpR op_gtI (pe_callB (klen K) (by rfl) T.len (by decide +kernel) (pa_cons (pv 2) pa_nil)) pe_int (nomark _)) (pw_or1 (pt_cmpR op_ltA (klset K T (pv 3)) (pe_callB (klen K) (by rfl) T.len (by decide +kernel) (pa_cons (pv 3) pa_nil)) (nomark _)))))) (pss_one (ps_ret (pe_tup (pa_cons (pe_lit [107, 105, 110, 100] (by decide +kernel)) (pa_cons (pv 0) (pa_cons pe_bl pa_nil))))))
  pss_nil)
  (pss_cons (ps_if (pt_cmpR (keq K hu) (pe_lc (own := [("_law_role_here", 4)]) (g := gName 4) rfl sc_law_due.nd (kpl K (pv 2)) (blkOk_by (N := ["_law_name", "_law_bad", "_law_roles", "_law_names_here", "_law_role_here"]) (sc := defScope s_law_due) (by decide +kernel)) (fun _ _ _ _ _ => (pg_name (i := 4) sc_law_due.nd rfl (Or.inl rfl))) (fun _ _ _ _ _ => (pts_one (pt_cmpR op_gtI (pe_ix (kix K) (pv 4) pe_int (fun _ _ => rfl)) pe_int (nomark _)))) (fun _ _ _ _ _ => (pv 4))) (pe_lst pa_nil) (nomark _)) (pss_one (ps_ret (pe_tup (pa_cons (pe_lit [107, 105, 110, 100] (by decide +kernel)) (pa_cons (pv 0) (pa_cons pe_bl pa_nil))))))
  pss_nil)
  (pss_one (ps_ret (pe_tup pa_nil))))))), ?_⟩
    refine Rd.start_ (σ' := [some (.str (S n)), some (.bl bad), some (.ref a), none, none]) rfl ?_
    have hle := tri_len hT
    walk_at "rd"
    cases bad with
    | true =>
      walk_at "rd"
      refine ⟨by show 3 ≤ sizeLine; decide, fun t ht => ?_⟩
      exact k t _ _ (same_new ht) upd_same (fun _ => rfl) (fun z => nomatch z) (fun z => nomatch z)
    | false =>
      walk_at "rd"
      refine Rd.lcW Rd.wList (by walk_at "sz") (fun i acc H' => Same H H' ∧ acc = (ts.take i).map fun r => V.str (S r.1)) ⟨Same.refl _, rfl⟩
        (fun D hD i acc ys H' j => ⟨same_upd j.1 hD, j.2⟩) (fun i acc H' hi j => SqL.of (j.1 _ _ ha)) ?_ ?_
      · intro D hD i x acc H' hi hx hacc hlen ⟨j1, j2⟩ Kt Kf hT' hF
        dsimp only [List.set]
        obtain ⟨ta, r, rfl, hr', hat⟩ := tri_at (hT.mono j1) hx
        walk_at "rd"
        refine hT' _ _ hacc ⟨j1, ?_⟩
        rw [j2, List.take_add_one, hr', List.map_append]
        rfl
      · intro D acc H1 hD hacc hlen ⟨s1, j2⟩
        rw [hle, List.take_length] at j2
        have e1 : acc = ((ts.map (·.1)).map S).map V.str := by rw [j2, List.map_map, List.map_map]; rfl
        have la : acc.length = ts.length := by rw [j2, List.length_map]
        rw [e1] at hacc la
        have ha1 := s1 _ _ ha
        have bad : ¬ DueOk ts → ∀ G t, Same H G → G t = none → Q (.ref t) (upd G t (.tup [.str (S kindS), .str (S n), .bl true])) := fun nd G t sg ht => k t _ _ (sg.trans (same_new ht)) upd_same (fun z => nomatch z) (fun _ _ => rfl) (fun _ z => absurd z nd)
        walk_at "rd"
        refine Rd.iteD (fun c1 => ?_) (fun c1 => ?_)
        · walk_at "rd"
          exact ⟨by show 3 ≤ sizeLine; decide, fun t ht => bad (fun z => by have := z.1; omega) _ t s1 ht⟩
        · walk_at "rd"
          refine Rd.iteD (fun c2 => ?_) (fun c2 => ?_)
          · walk_at "rd"
            exact ⟨by show 3 ≤ sizeLine; decide, fun t ht => bad (fun z => by have := z.2.1; omega) _ t s1 ht⟩
          · walk_at "rd"
            refine ⟨D, (ts.map (·.1)).map S, rfl, SqL.of hacc, by rw [List.length_map, List.length_map]; omega, fun m hm hd => ?_⟩
            rw [nodup_S] at hd
            rw [List.length_map, List.length_map] at hm hd
            walk_at "rd"
            have la2 : (((ts.map (·.1)).map S).map V.str).length = ts.length := by rw [List.length_map, List.length_map, List.length_map]
            rw [la2]
            refine Rd.iteD (fun c3 => ?_) (fun c3 => ?_)
            · walk_at "rd"
              exact ⟨by show 3 ≤ sizeLine; decide, fun t ht => bad (fun z => by have := hd.mpr z.2.2.1; omega) _ t s1 ht⟩
            · have nd : (ts.map (·.1)).Nodup := hd.mp (by omega)
              have hT1 := hT.mono s1
              walk_at "rd"
              refine Rd.lcW Rd.wList (by walk_at "sz") (fun i acc H' => Same H1 H' ∧ TlAt H1 acc (tri ((ts.take i).filter fun r => decide (0 < r.2.2)))) ⟨Same.refl _, .nil⟩
                (fun D hD i acc ys H' j => ⟨same_upd j.1 hD, j.2⟩) (fun i acc H' hi j => SqL.of (j.1 _ _ ha1)) ?_ ?_
              · intro D2 hD2 i x acc H' hi hx hacc2 hlen2 ⟨j1, j3⟩ Kt Kf hT' hF
                dsimp only [List.set]
                obtain ⟨ta, r, rfl, hr', hat⟩ := tri_at hT1 hx
                have hat2 := j1 _ _ hat
                have e2 := filt_take (p := fun r : Tri => decide (0 < r.2.2)) hr'
                walk_at "rd"
                refine Rd.iteD (fun c4 => ?_) (fun c4 => ?_)
                · rw [if_pos (decide_eq_true (by omega))] at e2
                  walk_at "rd"
                  refine hT' _ _ hacc2 ⟨j1, ?_⟩
                  rw [e2]
                  unfold tri
                  rw [List.map_append]
                  exact j3.one hat
                · rw [if_neg (by rw [decide_eq_false (by omega)]; decide), List.append_nil] at e2
                  refine hF _ hacc2 ⟨j1, ?_⟩
                  rw [e2]
                  exact j3
              · intro D2 acc H2 hD2 hacc2 hlen2 ⟨s2, j3⟩
                rw [hle, List.take_length] at j3
                have hok2 : (tri (ts.filter fun r => decide (0 < r.2.2))).all (fun xs => xs.all okV) = true := tri_ok fun r hr => hnm r (List.mem_filter.mp hr).1
                walk_at "rd"
                refine ⟨by show 0 ≤ sizeLine; decide, fun l hl' => ?_⟩
                have s3 := same_new (o := .lst []) hl'
                refine Rd.eqD (.lst (SqL.of (s3 _ _ hacc2)) (((j3.mono s2).mono s3).dp hok2)) (.lst (SqL.of upd_same) .nil) (sh_datL hok2) rfl ?_
                rw [eqv_nil]
                have s13 := (s1.trans s2).trans s3
                have any : (datL (tri (ts.filter fun r => decide (0 < r.2.2)))).isEmpty = true ↔ ¬ ∃ r ∈ ts, 0 < r.2.2 := by
                  unfold datL tri
                  rw [List.isEmpty_iff, List.map_eq_nil_iff, List.map_eq_nil_iff, List.filter_eq_nil_iff]
                  constructor
                  · rintro z ⟨r, hr, h0⟩
                    exact z r hr (decide_eq_true h0)
                  · intro z r hr h0
                    exact z ⟨r, hr, of_decide_eq_true h0⟩
                cases hb : (datL (tri (ts.filter fun r => decide (0 < r.2.2)))).isEmpty with
                | true =>
                  rw [hb] at any
                  walk_at "rd"
                  exact ⟨by show 3 ≤ sizeLine; decide, fun t ht => bad (fun z => any.mp rfl z.2.2.2) _ t s13 ht⟩
                | false =>
                  rw [hb] at any
                  walk_at "rd"
                  refine ⟨by show 0 ≤ sizeLine; decide, fun t ht => ?_⟩
                  refine k t _ _ (s13.trans (same_new ht)) upd_same (fun z => nomatch z) (fun _ z => absurd ⟨by omega, by omega, nd, ?_⟩ z) (fun _ _ => rfl)
                  exact Classical.byContradiction fun q => Bool.false_ne_true (any.mpr q)

end
section
variable {P : Program} {w : World} {K : PySem.W.Frag} {mg : Str → Option Value} {base : Heap} {tk : Tok}
/-! ### the pairs that the law expects -/
def row (f : List Nat × Nat) (us : List (List Nat × Nat)) : List (List Nat × List Nat) := (us.filter fun s => rdB f.2 && (dvB s.2 && !decide (f.1 = s.1))).map fun s => (f.1, s.1)
theorem pairs_take {us : List (List Nat × Nat)} (f : List Nat × Nat) {i : Nat} (h : us[i]? = some f) : (us.take (i + 1)).flatMap (fun f => row f us) = (us.take i).flatMap (fun f => row f us) ++ row f us := by
  rw [List.take_add_one, h]
  show (us.take i ++ [f]).flatMap _ = _
  rw [List.flatMap_append]
  show _ ++ (row f us ++ []) = _
  rw [List.append_nil]
def tn (ts : List Tri) : List (List Nat × Nat) := ts.map fun r => (r.1, r.2.2)
theorem tn_at {ts : List Tri} {i : Nat} {r : Tri} (h : ts[i]? = some r) : (tn ts)[i]? = some (r.1, r.2.2) := by
  unfold tn
  rw [List.getElem?_map, h]
  rfl
def spLPairs : Sp := fun vs H Q _ => ∃ (a : Addr) (us : List V) (ts : List Tri), vs = [.ref a] ∧ H a = some (.lst us) ∧ TlAt H us (tri ts) ∧ ts.length ≤ 8 ∧ (∀ r ∈ ts, r.2.2 < 5) ∧
  ∀ (l : Addr) (vs : List V) (H' : Hp), Same H H' → H' l = some (.lst vs) → PrAt H' vs (pairsOf (tn ts)) → Q (.ref l) H'
abbrev s_law_pairs : Stmt := top 31
theorem sc_law_pairs : FnScope ["_law_roles", "_law_pairs_here", "_law_first", "_law_second"] ["_law_roles"] (defScope s_law_pairs) := ⟨rfl, rfl, rfl, by decide +kernel, rfl, by decide +kernel, by decide +kernel⟩
abbrev DPa (K : PySem.W.Frag) (mg : Str → Option Value) := Df K mg "_law_pairs" "_law_pairs" s_law_pairs ["_law_roles"]
abbrev DLr (K : PySem.W.Frag) (mg : Str → Option Value) := Df K mg "_law_reads" "_law_reads" s_law_reads ["_law_mode"]
abbrev DLd (K : PySem.W.Frag) (mg : Str → Option Value) := Df K mg "_law_derived" "_law_derived" s_law_derived ["_law_mode"]
theorem row_len (f : List Nat × Nat) (us : List (List Nat × Nat)) : (row f us).length ≤ us.length := by
  unfold row
  rw [List.length_map]
  exact List.length_filter_le _ _
theorem flat_len (us : List (List Nat × Nat)) : ∀ l : List (List Nat × Nat), (l.flatMap fun f => row f us).length ≤ l.length * us.length
  | [] => Nat.zero_le _
  | f :: l => by
    rw [List.flatMap_cons, List.length_append, List.length_cons, Nat.succ_mul]
    have h1 := row_len f us
    have h2 := flat_len us l
    omega
theorem PrAt.len {H : Hp} {vs : List V} {ps : List (List Nat × List Nat)} (h : PrAt H vs ps) : vs.length = ps.length := by
  induction h with
  | nil => rfl
  | cons _ _ ih => rw [List.length_cons, List.length_cons, ih]
theorem PrAt.upd {H : Hp} {D : Addr} {zs : List V} {vs : List V} {ps : List (List Nat × List Nat)} (h : PrAt H vs ps) (hD : ∀ o, H D = some (.tup o) → False) : PrAt (upd H D (.lst zs)) vs ps := by
  induction h with
  | nil => exact .nil
  | @cons a x y vs ps h _ ih => exact .cons (by rw [upd_ne (fun z => hD _ (by rw [← z]; exact h))]; exact h) ih
theorem ok_lpairs (d : DPa K mg) (T : Bt mg) (dLr : DLr K mg) (dLd : DLd K mg) : FnOk P w K mg base CX0 2 d.f d.fd ["_law_roles"] spLPairs := by
  have GLr : FnOk P w K mg base CX0 1 dLr.f dLr.fd _ spLr := ok_lr dLr.F
  have GLd : FnOk P w K mg base CX0 1 dLd.f dLd.fd _ spLd := ok_ld dLd.F
  refine d.F.ok sc_law_pairs (fun vs H Q E h => ?_) (fun cdv A outer s H vs Q E hr h => ?_)
  · obtain ⟨a, us, ts, rfl, _⟩ := h
    rfl
  · obtain ⟨a, us, ts, rfl, ha, hT, hl, hm5, k⟩ := h
    have hu := hr.units
    have hr1 : Room 1 _ := hr.mono (by decide)
    refine ⟨_, (pss_cons (ps_set (i := 1) sc_law_pairs.nd rfl (Or.inl rfl) (pe_lst pa_nil))
  (pss_cons (ps_for PassesOwn.never rfl (kpl K (pv 0)) (pg_name (i := 2) sc_law_pairs.nd rfl (Or.inl rfl))
  (pss_one (ps_for PassesOwn.never rfl (kpl K (pv 0)) (pg_name (i := 3) sc_law_pairs.nd rfl (Or.inl rfl))
  (pss_one (ps_if (PW.pt (pw_and (pt_val (pe_cf dLr GLr hr1 pass0 (pa_cons (pe_ix (kix K) (pv 2) pe_int (fun _ _ => rfl)) pa_nil))) (pw_and (pt_val (pe_cf dLd GLd hr1 pass0 (pa_cons (pe_ix (kix K) (pv 3) pe_int (fun _ _ => rfl)) pa_nil))) (pw_and1 (pt_cmpR (kne K hu) (pe_ix (kix K) (pv 2) pe_int (fun _ _ => rfl)) (pe_ix (kix K) (pv 3) pe_int (fun _ _ => rfl)) (nomark _)))))) (pss_one (ps_expr (kapp K (pv 1) (pa_cons (pe_tup (pa_cons (pe_ix (kix K) (pv 2) pe_int (fun _ _ => rfl)) (pa_cons (pe_ix (kix K) (pv 3) pe_int (fun _ _ => rfl)) pa_nil))) pa_nil))))
  pss_nil)))))
  (pss_one (ps_ret (pv 1))))), ?_⟩
    refine Rd.start_ (σ' := [some (.ref a), none, none, none]) rfl ?_
    have hle := tri_len hT
    have ltn : (tn ts).length = ts.length := List.length_map ..
    walk_at "rd"
    refine ⟨by show 0 ≤ sizeLine; decide, fun D hD => ?_⟩
    walk_at "rd"
    have haD : a ≠ D := ne_of_none ha hD
    refine Rd.exlist (SqL.of (by rw [upd_ne haD]; exact ha)) ?_
    refine Rd.foW Rd.wList (fun i σ H' => ∃ o1 o2 vs, σ = [some (.ref a), some (.ref D), o1, o2] ∧ Same H H' ∧ H' D = some (.lst vs) ∧ PrAt H' vs (((tn ts).take i).flatMap fun f => row f (tn ts)))
      ⟨none, none, [], rfl, same_new hD, upd_same, .nil⟩ (fun i σ H' hi ⟨_, _, _, _, j, _⟩ => SqL.of (j _ _ ha)) ?_ ?_
    · rintro i x σ H1 hi hx ⟨o1, o2, vs, rfl, s1, hD1, hP⟩
      obtain ⟨ta, r, rfl, hr', hat⟩ := tri_at (hT.mono s1) hx
      dsimp only [List.set]
      walk_at "rd"
      refine Rd.exlist (SqL.of (s1 _ _ ha)) ?_
      refine Rd.foW Rd.wList (fun j σ H' => ∃ o2 vs, σ = [some (.ref a), some (.ref D), some (.ref ta), o2] ∧ Same H H' ∧ H' D = some (.lst vs) ∧ PrAt H' vs ((((tn ts).take i).flatMap fun f => row f (tn ts)) ++ row (r.1, r.2.2) ((tn ts).take j)))
        ⟨o2, vs, rfl, s1, hD1, by show PrAt H1 vs (_ ++ []); rw [List.append_nil]; exact hP⟩ (fun i σ H' hi ⟨_, _, _, j, _⟩ => SqL.of (j _ _ ha)) ?_ ?_
      · rintro j y σ H2 hj hy ⟨o2, vs2, rfl, s2, hD2, hP2⟩
        obtain ⟨tb, r2, rfl, hr2, hbt⟩ := tri_at (hT.mono s2) hy
        obtain ⟨_, _, e, hq, hat2⟩ := tri_at (hT.mono s2) hx
        cases e
        rw [hr'] at hq
        cases hq
        dsimp only [List.set]
        walk_at "rd"
        have hr2' := tn_at hr2
        have e5 := filt_take (p := fun s : List Nat × Nat => rdB r.2.2 && (dvB s.2 && !decide (r.1 = s.1))) hr2'
        have e6 : row (r.1, r.2.2) ((tn ts).take (j + 1)) = row (r.1, r.2.2) ((tn ts).take j) ++ (if (rdB r.2.2 && (dvB r2.2.2 && !decide (r.1 = r2.1))) = true then [(r.1, r2.1)] else []) := by
          unfold row
          rw [e5, List.map_append]
          congr 1
          show List.map _ (if (rdB r.2.2 && (dvB r2.2.2 && !decide (r.1 = r2.1))) = true then _ else _) = _
          cases (rdB r.2.2 && (dvB r2.2.2 && !decide (r.1 = r2.1))) <;> rfl
        have skip : (rdB r.2.2 && (dvB r2.2.2 && !decide (r.1 = r2.1))) = false → ∃ o2 vs, [some (V.ref a), some (V.ref D), some (V.ref ta), some (V.ref tb)] = [some (V.ref a), some (V.ref D), some (V.ref ta), o2] ∧ Same H H2 ∧ H2 D = some (.lst vs) ∧ PrAt H2 vs ((((tn ts).take i).flatMap fun f => row f (tn ts)) ++ row (r.1, r.2.2) ((tn ts).take (j + 1))) := fun z => by
          rw [e6, z, if_neg Bool.false_ne_true, List.append_nil]
          exact ⟨_, vs2, rfl, s2, hD2, hP2⟩
        refine lr_go (hm5 r (List.mem_of_getElem? hr')) ?_
        cases hb1 : rdB r.2.2 with
        | false =>
          walk_at "rd"
          exact skip (by rw [hb1]; rfl)
        | true =>
          walk_at "rd"
          refine ld_go (by have := hm5 r2 (List.mem_of_getElem? hr2); omega) ?_
          cases hb2 : dvB r2.2.2 with
          | false =>
            walk_at "rd"
            exact skip (by rw [hb1, hb2]; rfl)
          | true =>
            walk_at "rd"
            refine Rd.iteN (fun c1 => ?_) (fun c1 => ?_)
            · walk_at "rd"
              refine ⟨by show 2 ≤ sizeLine; decide, fun tp htp => ?_⟩
              have s3 := same_new (o := .tup [.str (S r.1), .str (S r2.1)]) htp
              have hD3 := s3 _ _ hD2
              have lv : vs2.length ≤ 80 := by
                have h1 := hP2.len
                rw [List.length_append] at h1
                have h2 := flat_len (tn ts) ((tn ts).take i)
                have h3 := row_len (r.1, r.2.2) ((tn ts).take j)
                have h4 : ((tn ts).take i).length ≤ 8 := by rw [List.length_take, ltn]; omega
                have h5 : ((tn ts).take j).length ≤ 8 := by rw [List.length_take, ltn]; omega
                have h6 : ((tn ts).take i).length * (tn ts).length ≤ 8 * 8 := Nat.mul_le_mul h4 (by rw [ltn]; exact hl)
                omega
              walk_at "rd"
              refine ⟨_, _, rfl, same_upd (s2.trans s3) hD, upd_same, ?_⟩
              have e7 : (rdB r.2.2 && (dvB r2.2.2 && !decide (r.1 = r2.1))) = true := by rw [hb1, hb2, decide_eq_false c1]; rfl
              rw [e6, if_pos e7, ← List.append_assoc]
              exact ((hP2.mono s3).one upd_same).upd (fun o z => by rw [hD3] at z; cases z)
            · walk_at "rd"
              exact skip (by rw [hb1, hb2, decide_eq_true c1]; rfl)
      · rintro σ H2 ⟨o2, vs2, rfl, s2, hD2, hP2⟩
        rw [hle, ← ltn, List.take_length, ← pairs_take _ (tn_at hr')] at hP2
        exact ⟨_, _, _, rfl, s2, hD2, hP2⟩
    · rintro σ H2 ⟨o1, o2, vs2, rfl, s2, hD2, hP2⟩
      rw [hle, ← ltn, List.take_length] at hP2
      walk_at "rd"
      exact k D vs2 _ s2 hD2 hP2

end
section
variable {P : Program} {w : World} {K : PySem.W.Frag} {mg : Str → Option Value} {base : Heap} {tk : Tok}
/-! ### what the law says of a kind -/
theorem lcX {J : It} {n : Nat} {G : Hp → Prop} {Itm : Nat → V → Prop} {σ : L2.St} {H : Hp} {Q : VK} {te : TE} {tt : TT} {s : Nat} (w : Walk J n G (Flat Itm)) (hn : n < sizeLine) (Jv : Nat → List V → Hp → Prop) (h0 : Jv 0 [] H)
    (hst : ∀ D, H D = none → ∀ i acc ys H', (∀ a o, H' a = some (.tup o) → a ≠ D) → Jv i acc H' → Jv i acc (upd H' D (.lst ys))) (hG : ∀ i acc H', i ≤ n → Jv i acc H' → G H')
    (step : ∀ D, H D = none → ∀ i x acc H', i < n → Itm i x → H' D = some (.lst acc) → acc.length ≤ i → Jv i acc H' → ∀ (Kt : V → Hp → Prop) (Kf : Hp → Prop), (∀ y H4, H4 D = some (.lst acc) → Jv (i + 1) (acc ++ [y]) H4 → Kt y H4) → (∀ H3, H3 D = some (.lst acc) → Jv (i + 1) acc H3 → Kf H3) →
      tt ((σ.set s none).set s (some x)) H' fun b H3 => if b = true then te ((σ.set s none).set s (some x)) H3 Kt else Kf H3)
    (fin : ∀ D acc H', H D = none → H' D = some (.lst acc) → acc.length ≤ n → Jv n acc H' → Q (.ref D) H') : LcGo J (gName s) tt te [s] σ H Q := by
  intro D hD
  refine lc_it w (fun i H' => ∃ acc, H' D = some (.lst acc) ∧ acc.length ≤ i ∧ Jv i acc H') ⟨[], upd_same, Nat.le_refl _, hst D hD _ _ _ _ (fun a o e z => by rw [z, hD] at e; cases e) h0⟩ (fun i H' hi ⟨acc, _, _, j⟩ => hG i acc H' hi j) ?_ (fun H' ⟨acc, a1, a2, a3⟩ => fin D acc H' hD a1 a2 a3)
  rintro i x H' H2 hi ⟨acc, a1, a2, a3⟩ ⟨rfl, hx⟩
  refine ⟨?_, ?_⟩
  · show ((σ.set s none).set s (some x)).set s none = σ.set s none
    rw [List.set_set, List.set_set]
  · exact step D hD i x acc _ hi hx a1 a2 a3 _ _
      (fun y H4 b1 b2 => ⟨acc, b1, Nat.lt_of_le_of_lt a2 (Nat.lt_trans hi hn), acc ++ [y], upd_same, by rw [List.length_append, List.length_singleton]; omega, hst D hD _ _ _ _ (fun a o e z => by rw [z, b1] at e; cases e) b2⟩)
      (fun H3 b1 b2 => ⟨acc, b1, Nat.le_succ_of_le a2, b2⟩)
def trs (rs : List Ro) : List Tri := rs.map fun r => (r.n, r.g, r.m)
def mks (rs : List Ro) : List (List V) := rs.map fun r => mrk r.n r.g r.m
theorem mark_nm {m : Nat} (h : m < 5) : Nm (markOf m) := by
  have h' : m = 0 ∨ m = 1 ∨ m = 2 ∨ m = 3 ∨ m = 4 := by omega
  rcases h' with rfl | rfl | rfl | rfl | rfl <;> (unfold Nm markOf; decide)
theorem mrk_ok {n g : List Nat} {m : Nat} (hn : Nm n) (hg : Nm g) (hm : m < 5) : (mrk n g m).all okV = true := by
  unfold mrk
  rw [List.all_cons, List.all_cons, List.all_cons, ok_S hn, ok_S hg, ok_S (mark_nm hm)]
  rfl
theorem mks_ok {rs : List Ro} (h : ∀ r ∈ rs, Nm r.n ∧ Nm r.g ∧ r.m < 5) : (mks rs).all (fun xs => xs.all okV) = true := by
  rw [List.all_eq_true]
  intro xs hx
  obtain ⟨r, hr, rfl⟩ := List.mem_map.mp hx
  exact mrk_ok (h r hr).1 (h r hr).2.1 (h r hr).2.2
def marksV : List V := [.str (S [114]), .str (S [109]), .str (S [102]), .str (S [114, 109]), .str (S [114, 102])]
theorem marks_at {m : Nat} (h : m < 5) : atI marksV (m : Nat) = some (.str (S (markOf m))) := by
  have h' : m = 0 ∨ m = 1 ∨ m = 2 ∨ m = 3 ∨ m = 4 := by omega
  rcases h' with rfl | rfl | rfl | rfl | rfl <;> rfl
theorem same_of_name {rs : List Ro} (h : (rs.map (·.n)).Nodup) {r r2 : Ro} (h1 : r ∈ rs) (h2 : r2 ∈ rs) (e : r2.n = r.n) : r2 = r := by
  induction rs with
  | nil => exact absurd h1 List.not_mem_nil
  | cons x rs ih =>
    rw [List.map_cons, List.nodup_cons] at h
    rcases List.mem_cons.mp h1 with a | a <;> rcases List.mem_cons.mp h2 with b | b
    · rw [a, b]
    · exact absurd (List.mem_map.mpr ⟨r2, b, by rw [e, a]⟩) h.1
    · exact absurd (List.mem_map.mpr ⟨r, a, by rw [← e, b]⟩) h.1
    · exact ih h.2 a b
theorem mks_at {H : Hp} {vs : List V} {rs : List Ro} (h : TlAt H vs (mks rs)) {i : Nat} {v : V} (e : vs[i]? = some v) : ∃ a r, v = .ref a ∧ rs[i]? = some r ∧ H a = some (.tup (mrk r.n r.g r.m)) := by
  obtain ⟨a, xs, rfl, h2, h3⟩ := h.get e
  unfold mks at h2
  rw [List.getElem?_map] at h2
  obtain ⟨r, h4, rfl⟩ := Option.map_eq_some_iff.mp h2
  exact ⟨a, r, rfl, h4, h3⟩
theorem pairs_ok {us : List (List Nat × Nat)} (h : ∀ r ∈ us, Nm r.1) : (prs (pairsOf us)).all (fun xs => xs.all okV) = true := by
  rw [List.all_eq_true]
  intro xs hx
  obtain ⟨p, hp, rfl⟩ := List.mem_map.mp hx
  obtain ⟨f, hf, hp2⟩ := List.mem_flatMap.mp hp
  obtain ⟨g, hg, rfl⟩ := List.mem_map.mp hp2
  rw [List.all_cons, List.all_cons, ok_S (h f hf), ok_S (h g (List.mem_filter.mp hg).1)]
  rfl
def spIs (D : Addr) (C : Nat → Addr) : Sp := fun vs H Q _ => ∃ (p t a : Addr) (n o : List Nat) (rs : List Ro) (us : List V), vs = [.ref p, .str (S n), .ref a, .str (S o)] ∧ KindAt D H p t n rs ∧ RosOk C H rs ∧ rs.length ≤ 8 ∧
  H a = some (.lst us) ∧ TlAt H us (tri (trs rs)) ∧ (∀ r ∈ rs, Nm r.n ∧ Nm r.g) ∧ (rs.map (·.n)).Nodup ∧ Nm o ∧ (∀ r ∈ rs, r.n ≠ o) ∧ ∀ H', Same H H' → Q (.bl true) H'
abbrev s_law_is : Stmt := top 32
theorem sc_law_is : FnScope ["_law_kind", "_law_name", "_law_roles", "_law_other", "_law_marks", "_law_due_here", "_law_one", "_law_told", "_law_role_here"] ["_law_kind", "_law_name", "_law_roles", "_law_other"] (defScope s_law_is) := ⟨rfl, rfl, rfl, by decide +kernel, rfl, by decide +kernel, by decide +kernel⟩
abbrev DIs (K : PySem.W.Frag) (mg : Str → Option Value) := Df K mg "_law_is" "_law_is" s_law_is ["_law_kind", "_law_name", "_law_roles", "_law_other"]
theorem ok_is {mI mK : Addr} (d : DIs K mg) (T : Bt mg) (c : Six K mg mI) (kc : Kc K mg mK) (mN : MKn K) (hN : Meth K kc.C "role_named" mN.f) (mP : MKp K) (hP : Meth K kc.C "pairs" mP.f) (dMa : DMa K mg) (dUn : DUn K mg) (dPa : DPa K mg) (dLr : DLr K mg) (dLd : DLd K mg) (eR : ErR K mg)
    (t1 : ∀ m, m < 5 → Tells P w K mg base (c.C m) "reads" (.bl (rdB m))) (t3 : ∀ m, m < 5 → Tells P w K mg base (c.C m) "derived" (.bl (dvB m))) {cRE : Addr} (gRE : mg "RedoError" = some (.ref cRE)) (q1 : PySem.W.kitOne K (.ref eR.C) (.ref cRE) = some true) :
    FnOk P w K mg base CX0 6 d.f d.fd ["_law_kind", "_law_name", "_law_roles", "_law_other"] (spIs kc.C c.C) := by
  have GMa : FnOk P w K mg base CX0 1 dMa.f dMa.fd _ (spMark c.C) := ok_mark dMa c
  have GUn : FnOk P w K mg base CX0 5 dUn.f dUn.fd _ (spUnknown kc.C c.C) := ok_unknown dUn mN kc hN T c eR gRE q1
  have GPa : FnOk P w K mg base CX0 2 dPa.f dPa.fd _ spLPairs := ok_lpairs dPa T dLr dLd
  have GP : FnOk P w K mg base CX0 2 mP.f mP.fd _ (spPairs kc.C c.C) := ok_pairs mP T c kc t1 t3
  have GN : FnOk P w K mg base (L2.CX P w) 4 mN.f mN.fd _ (spNamed kc.C c.C eR.C) := (ok_named mN T c kc eR).mono (by decide)
  refine d.F.ok sc_law_is (fun vs H Q E h => ?_) (fun cdv A outer s H vs Q E hr h => ?_)
  · obtain ⟨p, t, a, n, o, rs, us, rfl, _⟩ := h
    rfl
  · obtain ⟨p, t, a, n, o, rs, us, rfl, hk, hro, hl, ha, hT, hnm, hnd, ho, hox, k⟩ := h
    have hu := hr.units
    have hr5 : Room 5 _ := hr.mono (by decide)
    have hr4 : Room 4 _ := hr.mono (by decide)
    have hr2 : Room 2 _ := hr.mono (by decide)
    have hr1 : Room 1 _ := hr.mono (by decide)
    refine ⟨_, (pss_cons (ps_set (i := 4) sc_law_is.nd rfl (Or.inr rfl) (pe_lst (pa_cons (pe_lit [114] (by decide +kernel)) (pa_cons (pe_lit [109] (by decide +kernel)) (pa_cons (pe_lit [102] (by decide +kernel)) (pa_cons (pe_lit [114, 109] (by decide +kernel)) (pa_cons (pe_lit [114, 102] (by decide +kernel)) pa_nil)))))))
  (pss_cons (ps_setLc (i := 5) (own := [("_law_role_here", 8)]) (g := gName 8) (tt := tYes) rfl sc_law_is.nd rfl rfl (sw_true rfl rfl rfl (by decide +kernel)) (kpl K (pv 2)) (blkOk_by (N := ["_law_kind", "_law_name", "_law_roles", "_law_other", "_law_marks", "_law_due_here", "_law_one", "_law_told", "_law_role_here"]) (sc := defScope s_law_is) (by decide +kernel)) (fun _ _ _ _ _ => (pg_name (i := 8) sc_law_is.nd rfl (Or.inl rfl))) (fun _ _ _ _ _ => pts_nil) (fun _ _ _ _ _ => (pe_tup (pa_cons (pe_ix (kix K) (pv 8) pe_int (fun _ _ => rfl)) (pa_cons (pe_ix (kix K) (pv 8) pe_int (fun _ _ => rfl)) (pa_cons (pe_ix (kix K) (pv 4) (pe_ix (kix K) (pv 8) pe_int (fun _ _ => rfl)) (fun _ _ => rfl)) pa_nil))))))
  (pss_cons (ps_if (PW.pt (pw_or (pt_cmpR (kne K hu) (kfld K (pv 0)) (pv 1) (nomark _)) (pw_or1 (pt_not (pt_val (pe_callB (kisi K) (by rfl) T.isinstance (by decide +kernel) (pa_cons (kfld K (pv 0)) (pa_cons (pe_bltn (v := .ty "tuple") (by rfl) T.tuple (by decide +kernel) rfl) pa_nil)))))))) (pss_one (ps_ret pe_bl))
  pss_nil)
  (pss_cons (ps_if (pt_cmpR (kne K hu) (pe_lc (own := [("_law_role_here", 8)]) (g := gName 8) (tt := tYes) rfl sc_law_is.nd (kpt K (kfld K (pv 0))) (blkOk_by (N := ["_law_kind", "_law_name", "_law_roles", "_law_other", "_law_marks", "_law_due_here", "_law_one", "_law_told", "_law_role_here"]) (sc := defScope s_law_is) (by decide +kernel)) (fun _ _ _ _ _ => (pg_name (i := 8) sc_law_is.nd rfl (Or.inl rfl))) (fun _ _ _ _ _ => pts_nil) (fun _ _ _ _ _ => (pe_cf dMa GMa hr1 pass0 (pa_cons (pv 8) pa_nil)))) (pv 5) (nomark _)) (pss_one (ps_ret pe_bl))
  pss_nil)
  (pss_cons (ps_for PassesOwn.never rfl (kpl K (pv 5)) (pg_name (i := 6) sc_law_is.nd rfl (Or.inl rfl))
  (pss_one (ps_if (pt_cmpR (kne K hu) (pe_cf dMa GMa hr1 pass0 (pa_cons (pe_mA (pv 0) kc.cl mN hN GN hr4 passL (pa_cons (pe_ix (kix K) (pv 6) pe_int (fun _ _ => rfl)) pa_nil)) pa_nil)) (pv 6) (nomark _)) (pss_one (ps_ret pe_bl))
  pss_nil)))
  (pss_cons (ps_if (PW.pt (pw_or (pt_cmpR (kne K hu) (pe_cf dUn GUn hr5 pass0 (pa_cons (pv 0) (pa_cons (pv 3) pa_nil))) (pe_tup (pa_cons (pv 3) (pa_cons pe_bl pa_nil))) (nomark _)) (pw_or1 (pt_cmpR (kne K hu) (pe_cf dUn GUn hr5 pass0 (pa_cons (pv 0) (pa_cons (pe_lit [] (by decide +kernel)) pa_nil))) (pe_tup (pa_cons (pe_lit [] (by decide +kernel)) (pa_cons pe_bl pa_nil))) (nomark _))))) (pss_one (ps_ret pe_bl))
  pss_nil)
  (pss_cons (ps_set (i := 7) sc_law_is.nd rfl (Or.inl rfl) (pe_m0g (pv 0) kc.cl hP GP hr2 pass0 mP.b))
  (pss_one (ps_ret (pe_and (pe_callB (kisi K) (by rfl) T.isinstance (by decide +kernel) (pa_cons (pv 7) (pa_cons (pe_bltn (v := .ty "list") (by rfl) T.list (by decide +kernel) rfl) pa_nil))) (pe_one (pe_cmpR (keq K hu) (pv 7) (pe_cf dPa GPa hr2 pass0 (pa_cons (pv 2) pa_nil)) (nomark _))))))))))))), ?_⟩
    refine Rd.start_ (σ' := [some (.ref p), some (.str (S n)), some (.ref a), some (.str (S o)), none, none, none, none, none]) rfl ?_
    have hle := tri_len hT
    have ltr : (trs rs).length = rs.length := List.length_map ..
    have hm5 : ∀ r ∈ rs, r.m < 5 := fun r hr => (hro r hr).1
    have hok := mks_ok (rs := rs) fun r hr => ⟨(hnm r hr).1, (hnm r hr).2, hm5 r hr⟩
    walk_at "rd"
    refine ⟨by show 5 ≤ sizeLine; decide, fun M hM => ?_⟩
    have s1 := same_new (o := .lst marksV) hM
    have hM1 : upd H M (.lst marksV) M = some (.lst marksV) := upd_same
    have ha1 := s1 _ _ ha
    have hT1 := hT.mono s1
    generalize hH1 : upd H M (.lst marksV) = H1 at s1 hM1 ha1 hT1
    have e0 : upd H M (.lst [V.str (S [114]), .str (S [109]), .str (S [102]), .str (S [114, 109]), .str (S [114, 102])]) = H1 := hH1
    rw [e0]
    walk_at "rd"
    refine lcX Rd.wList (by walk_at "sz") (fun i acc H' => Same H1 H' ∧ TlAt H' acc (mks (rs.take i))) ⟨Same.refl _, .nil⟩
      (fun D hD i acc ys H' hne j => ⟨same_upd j.1 hD, j.2.upd fun o z => hne _ _ z rfl⟩) (fun i acc H' hi j => SqL.of (j.1 _ _ ha1)) ?_ ?_
    · intro D hD i x acc H' hi hx hacc hlen ⟨j1, j2⟩ Kt Kf hT' hF
      dsimp only [List.set]
      obtain ⟨ta, r', rfl, hr'', hat⟩ := tri_at (hT1.mono j1) hx
      obtain ⟨r, hr', rfl⟩ : ∃ r, rs[i]? = some r ∧ (r.n, r.g, r.m) = r' := by
        unfold trs at hr''
        rw [List.getElem?_map] at hr''
        exact Option.map_eq_some_iff.mp hr''
      have hMj := j1 _ _ hM1
      have hmat := marks_at (hm5 r (List.mem_of_getElem? hr'))
      walk_at "rd"
      refine ⟨by show 3 ≤ sizeLine; decide, fun tp htp => ?_⟩
      have s3 := same_new (o := .tup (mrk r.n r.g r.m)) htp
      refine hT' _ _ (s3 _ _ hacc) ⟨j1.trans s3, ?_⟩
      unfold mks
      rw [List.take_add_one, hr', List.map_append]
      exact (j2.mono s3).one upd_same
    · intro D due H2 hD hdue hlen ⟨s2, hTd⟩
      rw [hle, ltr, List.take_length] at hTd
      have s02 := s1.trans s2
      have hk2 := hk.mono s02
      obtain ⟨⟨dx, hp2⟩, ht2⟩ := hk2
      walk_at "rd"
      refine ⟨p, kc.C, dx, _, _, rfl, hp2, kc.cl, kc.nN, kflds_name _ _, ?_⟩
      walk_at "rd"
      refine Rd.iteNDT rfl ?_
      walk_at "rd"
      refine ⟨p, kc.C, dx, _, _, rfl, hp2, kc.cl, kc.nR, kflds_roles _ _, ?_⟩
      walk_at "rd"
      refine Rd.isi (.ty _) (.base (.tup ht2)) (kit_ty (r := true) (by decide +kernel)) ?_
      walk_at "rd"
      refine ⟨p, kc.C, dx, _, _, rfl, hp2, kc.cl, kc.nR, kflds_roles _ _, ?_⟩
      refine Rd.extup (SqT.of ht2) ?_
      have hro2 := hro.mono s02
      refine lcX Rd.wTup (by rw [List.length_map]; walk_at "sz") (fun i acc H' => Same H2 H' ∧ TlAt H' acc (mks (rs.take i))) ⟨Same.refl _, .nil⟩
        (fun D hD i acc ys H' hne j => ⟨same_upd j.1 hD, j.2.upd fun o z => hne _ _ z rfl⟩) (fun i acc H' hi j => SqT.of (j.1 _ _ ht2)) ?_ ?_
      · intro D2 hD2 i x acc H' hi hx hacc hlen2 ⟨j1, j2⟩ Kt Kf hT' hF
        dsimp only [List.set]
        obtain ⟨r, hr', rfl⟩ := ref_at hx
        obtain ⟨rm, hat⟩ := hro2.mono j1 r (List.mem_of_getElem? hr')
        walk_at "rd"
        refine ⟨r.a, r.n, r.g, r.m, rfl, hat, fun tp htp => ?_⟩
        have s3 := same_new (o := .tup (mrk r.n r.g r.m)) htp
        refine hT' _ _ (s3 _ _ hacc) ⟨j1.trans s3, ?_⟩
        unfold mks
        rw [List.take_add_one, hr', List.map_append]
        exact (j2.mono s3).one upd_same
      · intro D2 got H3 hD2 hgot hlen2 ⟨s3, hTg⟩
        have e3 : rs.take (refs rs).length = rs := by rw [List.length_map, List.take_length]
        rw [e3] at hTg
        have hdue3 := s3 _ _ hdue
        have hTd3 := hTd.mono s3
        have s03 := s02.trans s3
        walk_at "rd"
        refine neTl hgot hdue3 hTg hTd3 hok ?_
        walk_at "rd"
        have hdl : due.length = rs.length := by rw [hTd.len]; unfold mks; rw [List.length_map]
        refine Rd.foW Rd.wList (fun i σ H' => ∃ o6, σ = [some (.ref p), some (.str (S n)), some (.ref a), some (.str (S o)), some (.ref M), some (.ref D), o6, none, none] ∧ Same H3 H') ⟨none, rfl, Same.refl _⟩ (fun i σ H' hi ⟨_, _, j⟩ => SqL.of (j _ _ hdue3)) ?_ ?_
        · rintro i x σ H4 hi hx ⟨o6, rfl, s4⟩
          obtain ⟨tb, r, rfl, hr', hat⟩ := mks_at (hTd3.mono s4) hx
          have hmem := List.mem_of_getElem? hr'
          have s04 := s03.trans s4
          have hk4 := hk.mono s04
          obtain ⟨⟨dx4, hp4⟩, ht4⟩ := id hk4
          have hro4 := hro.mono s04
          dsimp only [List.set]
          walk_at "rd"
          refine ⟨p, dx4, _, rfl, hp4, kflds_no _ _ (by decide +kernel) (by decide +kernel), ?_⟩
          walk_at "rd"
          refine ⟨p, t, n, r.n, rs, rfl, hk4, hro4, hl, fun r2 hr2 e => ?_, fun z => absurd rfl (z r hmem)⟩
          have er := same_of_name hnd hmem hr2 e
          subst er
          walk_at "rd"
          refine ⟨r2.a, r2.n, r2.g, r2.m, rfl, (hro4 r2 hr2).2, fun tp htp => ?_⟩
          have s5 := same_new (o := .tup (mrk r2.n r2.g r2.m)) htp
          have hat5 := s5 _ _ hat
          walk_at "rd"
          refine Rd.neTs (SqT.of upd_same) (SqT.of hat5) (mrk_ok (hnm r2 hr2).1 (hnm r2 hr2).2 (hm5 r2 hr2)) ?_
          walk_at "rd"
          exact ⟨_, rfl, s4.trans s5⟩
        · rintro σ H4 ⟨o6, rfl, s4⟩
          have s04 := s03.trans s4
          have hro4 := hro.mono s04
          walk_at "rd"
          refine ⟨p, t, n, o, rs, rfl, hk.mono s04, hro4, hl, hox, fun t5 H5 s5 h5 => ?_⟩
          have s05 := s04.trans s5
          walk_at "rd"
          refine ⟨by show 2 ≤ sizeLine; decide, fun t6 h6 => ?_⟩
          have s6 := same_new (o := .tup [.str (S o), .bl true]) h6
          have s06 := s05.trans s6
          have h5' := s6 _ _ h5
          refine Rd.neTs (SqT.of h5') (SqT.of upd_same) (by rw [List.all_cons, ok_S ho]; rfl) ?_
          walk_at "rd"
          refine ⟨p, t, n, [], rs, rfl, hk.mono s06, hro.mono s06, hl, fun r hr e => by have := (hnm r hr).1.1; rw [e] at this; exact absurd this (by decide), fun t7 H7 s7 h7 => ?_⟩
          have s07 := s06.trans s7
          walk_at "rd"
          refine ⟨by show 2 ≤ sizeLine; decide, fun t8 h8 => ?_⟩
          have s8 := same_new (o := .tup [.str (S []), .bl true]) h8
          have s08 := s07.trans s8
          have h7' := s8 _ _ h7
          refine Rd.neTs (SqT.of h7') (SqT.of upd_same) (by decide +kernel) ?_
          have hk8 := hk.mono s08
          obtain ⟨⟨dx8, hp8⟩, ht8⟩ := id hk8
          walk_at "rd"
          refine ⟨p, dx8, _, rfl, hp8, kflds_no _ _ (by decide +kernel) (by decide +kernel), ?_⟩
          walk_at "rd"
          refine ⟨p, t, n, rs, rfl, hk8, hro.mono s08, hl, fun l9 vs9 H9 hl9 s9 h9 P9 => ?_⟩
          have s09 := s08.trans s9
          walk_at "rd"
          refine Rd.isi (.ty _) (.base (.lst h9)) (kit_ty (r := true) (by decide +kernel)) ?_
          walk_at "rd"
          refine ⟨a, us, trs rs, rfl, s09 _ _ ha, hT.mono s09, by rw [ltr]; exact hl, fun r hr => ?_, fun l10 vs10 H10 s10 h10 P10 => ?_⟩
          · obtain ⟨r', hr', rfl⟩ := List.mem_map.mp hr
            exact hm5 r' hr'
          · have en : tn (trs rs) = nm2 rs := by unfold tn trs nm2; rw [List.map_map]; rfl
            rw [en] at P10
            refine eqTl (s10 _ _ h9) h10 (P9.mono s10).tl P10.tl (pairs_ok fun r hr => ?_) (k _ (s09.trans s10))
            obtain ⟨r', hr', rfl⟩ := List.mem_map.mp hr
            exact (hnm r' hr').1

end
section
variable {P : Program} {w : World} {K : PySem.W.Frag} {mg : Str → Option Value} {base : Heap} {tk : Tok}
/-! ### the law -/
theorem lcY {J : It} {n : Nat} {G : Hp → Prop} {Itm : Nat → V → Prop} {σ : L2.St} {H : Hp} {Q : VK} {te : TE} {tt : TT} {s : Nat} (w : Walk J n G (Flat Itm)) (hn : n < sizeLine) (Jv : Nat → List V → Hp → Prop) (h0 : Jv 0 [] H)
    (hst : ∀ D, H D = none → ∀ i acc ys H', (∀ o, H' D = some o → ∃ zs, o = .lst zs) → Jv i acc H' → Jv i acc (upd H' D (.lst ys))) (hG : ∀ i acc H', i ≤ n → Jv i acc H' → G H')
    (step : ∀ D, H D = none → ∀ i x acc H', i < n → Itm i x → H' D = some (.lst acc) → acc.length ≤ i → Jv i acc H' → ∀ (Kt : V → Hp → Prop) (Kf : Hp → Prop), (∀ y H4, H4 D = some (.lst acc) → Jv (i + 1) (acc ++ [y]) H4 → Kt y H4) → (∀ H3, H3 D = some (.lst acc) → Jv (i + 1) acc H3 → Kf H3) →
      tt ((σ.set s none).set s (some x)) H' fun b H3 => if b = true then te ((σ.set s none).set s (some x)) H3 Kt else Kf H3)
    (fin : ∀ D acc H', H D = none → H' D = some (.lst acc) → acc.length ≤ n → Jv n acc H' → Q (.ref D) H') : LcGo J (gName s) tt te [s] σ H Q := by
  intro D hD
  refine lc_it w (fun i H' => ∃ acc, H' D = some (.lst acc) ∧ acc.length ≤ i ∧ Jv i acc H') ⟨[], upd_same, Nat.le_refl _, hst D hD _ _ _ _ (fun o e => by rw [hD] at e; cases e) h0⟩ (fun i H' hi ⟨acc, _, _, j⟩ => hG i acc H' hi j) ?_ (fun H' ⟨acc, a1, a2, a3⟩ => fin D acc H' hD a1 a2 a3)
  rintro i x H' H2 hi ⟨acc, a1, a2, a3⟩ ⟨rfl, hx⟩
  refine ⟨?_, ?_⟩
  · show ((σ.set s none).set s (some x)).set s none = σ.set s none
    rw [List.set_set, List.set_set]
  · exact step D hD i x acc _ hi hx a1 a2 a3 _ _
      (fun y H4 b1 b2 => ⟨acc, b1, Nat.lt_of_le_of_lt a2 (Nat.lt_trans hi hn), acc ++ [y], upd_same, by rw [List.length_append, List.length_singleton]; omega, hst D hD _ _ _ _ (fun o e => by rw [b1] at e; cases e; exact ⟨_, rfl⟩) b2⟩)
      (fun H3 b1 b2 => ⟨acc, b1, Nat.le_succ_of_le a2, b2⟩)
theorem mid {t : TS} {Mid N : L2.St → Hp → Prop} {r : VK} {bk ct : L2.St → Hp → Prop} {σ : L2.St} {H : Hp} (hN : ∀ σ H, Mid σ H → N σ H) (h : ∀ N', (∀ σ H, Mid σ H → N' σ H) → t (Ends.mk N' r bk ct) σ H) : t (Ends.mk N r bk ct) σ H := h N hN
theorem iteMid {c : Prop} [Decidable c] {t u : TS} {Mid N : L2.St → Hp → Prop} {r : VK} {bk ct : L2.St → Hp → Prop} {σ : L2.St} {H : Hp} (hN : ∀ σ H, Mid σ H → N σ H) (h1 : ∀ N', (∀ σ H, Mid σ H → N' σ H) → c → t (Ends.mk N' r bk ct) σ H) (h2 : ∀ N', (∀ σ H, Mid σ H → N' σ H) → ¬ c → u (Ends.mk N' r bk ct) σ H) :
    if decide c = true then t (Ends.mk N r bk ct) σ H else u (Ends.mk N r bk ct) σ H := Rd.iteD (h1 N hN) (h2 N hN)
theorem kpop {X : Cx} (K : PySem.W.Frag) {o : Expr} {to : TE} {apos cpos : Pos} (ho : PE X o to) (h : X.K = K := by rfl) (hbase : attributeBase o "pop" X.env (eval o X.env) = eval o X.env := by rfl) (hline : (apos.endLine == cpos.line) = true := by rfl) :
    PE X (.Call (.Attribute o "pop" apos) [] [] cpos) (tBM0 K "list" rPop to) := by
  subst h
  exact pe_bm0 PySem.F.plainAttrs_list PySem.F.slot_list_pop PySem.F.type_list_pop mt_pop ho hbase hline
theorem bm0 {T : String} {r : V → List V → Hp → VK → Prop} {to : TE} {σ : L2.St} {H : Hp} {Q : VK} (h : to σ H fun x H1 => tyV K T x H1 ∧ r x [] H1 Q) : tBM0 K T r to σ H Q := h
theorem SameB.ofNone {p : Addr} {H H1 H2 : Hp} (s : Same H H1) (hp : H p = none) (t : SameB p H1 H2) : Same H H2 := fun b o e => t b o (ne_of_none e hp) (s b o e)
theorem TlAt.sameB {p : Addr} {H H' : Hp} {vs : List V} {xss : List (List V)} (h : TlAt H vs xss) (e : SameB p H H') (hp : ∀ o, H p = some (.tup o) → False) : TlAt H' vs xss := by
  induction h with
  | nil => exact .nil
  | @cons a xs vs xss h _ ih => exact .cons (e _ _ (fun z => hp _ (by rw [← z]; exact h)) h) ih
theorem TlAt.set {H : Hp} {vs : List V} {ps : List (List V)} (h : TlAt H vs ps) {a : Addr} {xs : List V} (k : H a = some (.tup xs)) : ∀ i, TlAt H (vs.set i (.ref a)) (ps.set i xs) := by
  induction h with
  | nil => intro i; exact .nil
  | @cons b ys vs xss h t ih =>
    intro i
    cases i with
    | zero => exact .cons k t
    | succ i => exact .cons h (ih i)
theorem pool_tup {H : Hp} {p : Addr} (h : PoolAt H p) : ∀ o, H p = some (.tup o) → False := fun o e => by
  obtain ⟨_, _, _, h⟩ := h
  rw [h] at e; cases e
theorem at_names {ns : List (List Nat)} {r : Int} (h0 : 0 ≤ r) (h1 : r < ns.length) : ∃ l ∈ ns, atI (ns.map fun l => V.str (S l)) r = some (.str (S l)) := by
  have hlt : r.toNat < ns.length := by omega
  have e : r = ((r.toNat : Nat) : Int) := by omega
  exact ⟨ns[r.toNat], List.getElem_mem hlt, (congrArg (atI _) e).trans (atI_nat (by simp [hlt]))⟩
def TsOk (xs : List (List Nat)) (ts : List Tri) : Prop := ∀ r ∈ ts, r.1 ∈ xs.take 7 ∧ Nm r.1 ∧ Nm r.2.1 ∧ r.2.2 < 5
theorem RosOk.updL {C : Nat → Addr} {H : Hp} {rs : List Ro} {D : Addr} {ys : List V} (h : RosOk C H rs) (hD : ∀ o, H D = some o → ∃ zs, o = .lst zs) : RosOk C (upd H D (.lst ys)) rs := by
  intro r hr
  obtain ⟨rm, dx, ha⟩ := h r hr
  refine ⟨rm, dx, ?_⟩
  rw [upd_ne (fun z => ?_)]
  · exact ha
  · rw [z] at ha
    obtain ⟨zs, e⟩ := hD _ ha
    cases e
theorem KindAt.updL {D0 : Addr} {H : Hp} {p t : Addr} {n : List Nat} {rs : List Ro} {D : Addr} {ys : List V} (h : KindAt D0 H p t n rs) (hD : ∀ o, H D = some o → ∃ zs, o = .lst zs) : KindAt D0 (upd H D (.lst ys)) p t n rs := by
  obtain ⟨⟨dx, h1⟩, h2⟩ := h
  refine ⟨⟨dx, ?_⟩, ?_⟩
  · rw [upd_ne (fun z => ?_)]
    · exact h1
    · rw [z] at h1
      obtain ⟨zs, e⟩ := hD _ h1
      cases e
  · rw [upd_ne (fun z => ?_)]
    · exact h2
    · rw [z] at h2
      obtain ⟨zs, e⟩ := hD _ h2
      cases e
theorem eqv_tnil (ds : List PyData) : PyData.eqv (.tuple ds) (.tuple []) = ds.isEmpty := by
  cases ds with
  | nil => rfl
  | cons d ds => rfl
theorem neTnil {H : Hp} {Q : VK} {a b : Addr} {ys : List V} (h1 : H a = some (.tup ys)) (h2 : H b = some (.tup [])) (k : ys.all okV = true) (q : Q (.bl (!ys.isEmpty)) H) : rNeA K (.ref a) (.ref b) H Q :=
  Rd.neD (.tup (SqT.of h1) (dp_all k)) (.tup (SqT.of h2) .nil) (shT k) rfl (by
    rw [eqv_tnil]
    cases ys <;> exact q)
theorem inj_ix {α : Type} {l : List α} (h : l.Nodup) {i j : Nat} (hi : i < l.length) (e : l[i]? = l[j]?) : i = j := by
  have hj : j < l.length := by
    rw [List.getElem?_eq_getElem hi] at e
    exact (List.getElem?_eq_some_iff.mp e.symm).1
  rw [List.getElem?_eq_getElem hi, List.getElem?_eq_getElem hj] at e
  rcases Nat.lt_trichotomy i j with lt | eq | gt
  · exact absurd (Option.some.inj e) (List.pairwise_iff_getElem.mp h i j hi hj lt)
  · exact eq
  · exact absurd (Option.some.inj e).symm (List.pairwise_iff_getElem.mp h j i hj hi gt)
theorem due_kind {C : Nat → Addr} {H : Hp} {rs : List Ro} {ts : List Tri} (e : trs rs = ts) (h : RosOk C H rs) : DueOk ts ↔ KindOk rs := by
  subst e
  have e1 : (trs rs).length = rs.length := List.length_map ..
  have e2 : (trs rs).map (·.1) = rs.map (·.n) := by unfold trs; rw [List.map_map]; rfl
  unfold DueOk KindOk
  rw [e1, e2]
  have e3 : (∃ r ∈ trs rs, 0 < r.2.2) ↔ ∃ r ∈ rs, mkB r.m = true := by
    constructor
    · rintro ⟨r, hr, h0⟩
      obtain ⟨r', hr', rfl⟩ := List.mem_map.mp hr
      exact ⟨r', hr', decide_eq_true ⟨h0, by have := (h r' hr').1; omega⟩⟩
    · rintro ⟨r, hr, h0⟩
      exact ⟨_, List.mem_map.mpr ⟨r, hr, rfl⟩, (of_decide_eq_true h0).1⟩
  rw [e3]
def spLaw (K : PySem.W.Frag) : Sp := fun vs H Q _ => ∃ (a : Addr) (ns : List Int), vs = [.ref a] ∧ SqL K H a (ns.map V.int) ∧ ns.length ≤ 63 ∧ ∀ H', Q (.bl true) H'
abbrev s_law : Stmt := top 33
theorem sc_law : FnScope ["_law_script", "_law_pool_here", "_law_names_here", "_law_groups", "_law_count", "_law_readers", "_law_roles", "_law_k", "_law_mode", "_law_one", "_law_two", "_law_name", "_law_bad", "_law_given", "_law_due_here", "_law_kind", "_law_role_here"] ["_law_script"] (defScope s_law) := ⟨rfl, rfl, rfl, by decide +kernel, rfl, by decide +kernel, by decide +kernel⟩
abbrev DPool (K : PySem.W.Frag) (mg : Str → Option Value) := Df K mg "_law_pool" "_law_pool" s_law_pool ["_law_script", "_law_k"]
abbrev DDraw (K : PySem.W.Frag) (mg : Str → Option Value) := Df K mg "_law_draw" "_law_draw" s_law_draw ["_law_pool_here", "_law_many"]
abbrev DWord (K : PySem.W.Frag) (mg : Str → Option Value) := Df K mg "_law_word" "_law_word" s_law_word ["_law_numbers"]
abbrev DNames (K : PySem.W.Frag) (mg : Str → Option Value) := Df K mg "_law_names" "_law_names" s_law_names ["_law_pool_here"]
abbrev DBad (K : PySem.W.Frag) (mg : Str → Option Value) := Df K mg "_law_bad_name" "_law_bad_name" s_law_bad_name ["_law_pool_here", "_law_name"]
theorem ok_law {f : Addr} {fd : FuncData} {mI : Addr} {eN eK : Addr} (F : Fun K "law" "law" s_law f fd) (T : Bt mg) (dP : DPool K mg) (dD : DDraw K mg) (dN : DNames K mg) (dRo : DRo K mg) (dI : DIs K mg) (dB : DBad K mg) (dDu : DDu K mg) (dRef : DRef K mg) (mK : MKi K) (kc : Kc K mg mK.f) (mP : MKp K) (hP : Meth K kc.C "pairs" mP.f) (c : Six K mg mI)
    (GP : FnOk P w K mg base CX0 1 dP.f dP.fd ["_law_script", "_law_k"] (spPool K)) (GD : FnOk P w K mg base CX0 1 dD.f dD.fd ["_law_pool_here", "_law_many"] spDraw) (GN : FnOk P w K mg base CX0 2 dN.f dN.fd ["_law_pool_here"] spNames)
    (GRo : FnOk P w K mg base (L2.CX P w) 6 dRo.f dRo.fd ["_law_name", "_law_group", "_law_mode"] (spRole eN c.C 5)) (GI : FnOk P w K mg base CX0 6 dI.f dI.fd ["_law_kind", "_law_name", "_law_roles", "_law_other"] (spIs kc.C c.C)) (GB : FnOk P w K mg base CX0 2 dB.f dB.fd ["_law_pool_here", "_law_name"] spBad)
    (GDu : FnOk P w K mg base CX0 1 dDu.f dDu.fd ["_law_name", "_law_bad", "_law_roles"] spDue) (GRef : FnOk P w K mg base CX0 6 dRef.f dRef.fd ["_law_name", "_law_roles"] (spRefusal c.C)) (GK : FnOk P w K mg base (L2.CX P w) 4 mK.f mK.fd ["self", "name", "roles"] (spKInit K c.C eN eK)) (GPa : FnOk P w K mg base CX0 2 mP.f mP.fd ["self"] (spPairs kc.C c.C)) :
    FnOk P w K mg base CX0 9 f fd ["_law_script"] (spLaw K) := by
  refine F.ok sc_law (fun vs H Q E h => ?_) (fun cdv A outer s H vs Q E hr h => ?_)
  · obtain ⟨a, ns, rfl, _⟩ := h
    rfl
  · obtain ⟨a, ns, rfl, hS, hl, k⟩ := h
    have hu := hr.units
    have hr6 : Room 6 _ := hr.mono (by decide)
    have hr5 : Room 5 _ := hr.mono (by decide)
    have hr2 : Room 2 _ := hr.mono (by decide)
    have hr1 : Room 1 _ := hr.mono (by decide)
    refine ⟨_, (pss_cons (ps_set (i := 1) sc_law.nd rfl (Or.inl rfl) (pe_cf dP GP hr1 pass0 (pa_cons (pv 0) (pa_cons pe_int pa_nil))))
  (pss_cons (ps_set (i := 2) sc_law.nd rfl (Or.inl rfl) (pe_cf dN GN hr2 pass0 (pa_cons (pv 1) pa_nil)))
  (pss_cons (ps_set (i := 3) sc_law.nd rfl (Or.inl rfl) (pe_cf dN GN hr2 pass0 (pa_cons (pe_cf dP GP hr1 pass0 (pa_cons (pv 0) (pa_cons pe_int pa_nil))) pa_nil)))
  (pss_cons (ps_set (i := 4) sc_law.nd rfl (Or.inl rfl) (pe_cf dD GD hr1 pass0 (pa_cons (pv 1) (pa_cons pe_int pa_nil))))
  (pss_cons (ps_set (i := 5) sc_law.nd rfl (Or.inl rfl) (pe_cmpR (keq K hu) (pe_cf dD GD hr1 pass0 (pa_cons (pv 1) (pa_cons pe_int pa_nil))) pe_int (nomark _)))
  (pss_cons (ps_set (i := 6) sc_law.nd rfl (Or.inl rfl) (pe_lst pa_nil))
  (pss_cons (ps_for PassesOwn.never rfl (pi_range1 rfl T.range (pa_cons (pv 4) pa_nil)) (pg_name (i := 7) sc_law.nd rfl (Or.inl rfl))
  (pss_cons (ps_set (i := 8) sc_law.nd rfl (Or.inl rfl) (pe_cf dD GD hr1 pass0 (pa_cons (pv 1) (pa_cons pe_int pa_nil))))
  (pss_cons (ps_if (pt_val (pv 5)) (pss_one (ps_set (i := 8) sc_law.nd rfl (Or.inl rfl) pe_int))
  pss_nil)
  (pss_one (ps_expr (kapp K (pv 6) (pa_cons (pe_tup (pa_cons (pe_ix (kix K) (pv 2) (pv 7) (fun _ _ => rfl)) (pa_cons (pe_ix (kix K) (pv 3) (pe_cf dD GD hr1 pass0 (pa_cons (pv 1) (pa_cons pe_int pa_nil))) (fun _ _ => rfl)) (pa_cons (pv 8) pa_nil)))) pa_nil)))))))
  (pss_cons (ps_if (PW.pt (pw_and (pt_cmpR (keq K hu) (pe_cf dD GD hr1 pass0 (pa_cons (pv 1) (pa_cons pe_int pa_nil))) pe_int (nomark _)) (pw_and1 (pt_cmpR op_gtI (pv 4) pe_int (nomark _))))) (pss_cons (ps_set (i := 9) sc_law.nd rfl (Or.inl rfl) (pe_cf dD GD hr1 pass0 (pa_cons (pv 1) (pa_cons (pv 4) pa_nil))))
  (pss_cons (ps_set (i := 10) sc_law.nd rfl (Or.inl rfl) (pe_op op_modI (pe_callTy call_intA (by rfl) T.int (by decide +kernel) (pa_cons (pe_op op_addA (pe_op op_addA (pv 9) pe_int) (pe_cf dD GD hr1 pass0 (pa_cons (pv 1) (pa_cons (pe_op op_subI (pv 4) pe_int) pa_nil)))) pa_nil)) (pv 4)))
  (pss_one (ps_asg (pe_tup (pa_cons (pe_ix (kix K) (pe_ix (kix K) (pv 6) (pv 9) (fun _ _ => rfl)) pe_int (fun _ _ => rfl)) (pa_cons (pe_ix (kix K) (pe_ix (kix K) (pv 6) (pv 10) (fun _ _ => rfl)) pe_int (fun _ _ => rfl)) (pa_cons (pe_ix (kix K) (pe_ix (kix K) (pv 6) (pv 10) (fun _ _ => rfl)) pe_int (fun _ _ => rfl)) pa_nil)))) (pg_sub (pv 6) (pv 10) set_list)))))
  pss_nil)
  (pss_cons (ps_set (i := 11) sc_law.nd rfl (Or.inl rfl) (pe_ix (kix K) (pv 3) (pe_cf dD GD hr1 pass0 (pa_cons (pv 1) (pa_cons pe_int pa_nil))) (fun _ _ => rfl)))
  (pss_cons (ps_set (i := 12) sc_law.nd rfl (Or.inl rfl) (pe_cmpR (keq K hu) (pe_cf dD GD hr1 pass0 (pa_cons (pv 1) (pa_cons pe_int pa_nil))) pe_int (nomark _)))
  (pss_cons (ps_if (pt_val (pv 12)) (pss_one (ps_set (i := 11) sc_law.nd rfl (Or.inl rfl) (pe_cf dB GB hr2 pass0 (pa_cons (pv 1) (pa_cons (pv 11) pa_nil)))))
  pss_nil)
  (pss_cons (ps_setLc (i := 13) (own := [("_law_role_here", 16)]) (g := gName 16) (tt := tYes) rfl sc_law.nd rfl rfl (sw_true rfl rfl rfl (by decide +kernel)) (kpl K (pv 6)) (blkOk_by (N := ["_law_script", "_law_pool_here", "_law_names_here", "_law_groups", "_law_count", "_law_readers", "_law_roles", "_law_k", "_law_mode", "_law_one", "_law_two", "_law_name", "_law_bad", "_law_given", "_law_due_here", "_law_kind", "_law_role_here"]) (sc := defScope s_law) (by decide +kernel)) (fun _ _ _ _ _ => (pg_name (i := 16) sc_law.nd rfl (Or.inl rfl))) (fun _ _ _ _ _ => pts_nil) (fun _ _ _ _ _ => (pe_cf dRo GRo hr6 passL (pa_cons (pe_ix (kix K) (pv 16) pe_int (fun _ _ => rfl)) (pa_cons (pe_ix (kix K) (pv 16) pe_int (fun _ _ => rfl)) (pa_cons (pe_ix (kix K) (pv 16) pe_int (fun _ _ => rfl)) pa_nil))))))
  (pss_cons (ps_set (i := 14) sc_law.nd rfl (Or.inl rfl) (pe_cf dDu GDu hr1 pass0 (pa_cons (pv 11) (pa_cons (pv 12) (pa_cons (pv 6) pa_nil)))))
  (pss_cons (ps_if (pt_cmpR (kne K hu) (pv 14) (pe_tup pa_nil) (nomark _)) (pss_one (ps_ret (pe_and (pe_cmpR (keq K hu) (pe_cf dRef GRef hr6 pass0 (pa_cons (pv 11) (pa_cons (pv 13) pa_nil))) (pv 14) (nomark _)) (pe_one (pe_cmpR (keq K hu) (pe_callB (klen K) (by rfl) T.len (by decide +kernel) (pa_cons (pv 13) pa_nil)) (pv 4) (nomark _))))))
  pss_nil)
  (pss_cons (ps_set (i := 15) sc_law.nd rfl (Or.inl rfl) (pe_mk mK kc.M kc.g GK hr5 passL (pa_cons (pv 11) (pa_cons (pv 13) pa_nil))))
  (pss_cons (ps_if (PW.pt (pw_or (pt_not (pt_val (pe_cf dI GI hr6 pass0 (pa_cons (pv 15) (pa_cons (pv 11) (pa_cons (pv 6) (pa_cons (pe_ix (kix K) (pv 2) pe_int (fun _ _ => rfl)) pa_nil))))))) (pw_or1 (pt_cmpR (kne K hu) (pe_callB (klen K) (by rfl) T.len (by decide +kernel) (pa_cons (pv 13) pa_nil)) (pv 4) (nomark _))))) (pss_one (ps_ret pe_bl))
  pss_nil)
  (pss_cons (ps_expr (kapp K (pe_m0g (pv 15) kc.cl hP GPa hr2 pass0 mP.b) (pa_cons (pe_tup (pa_cons (pe_lit [109, 111, 114, 101] (by decide +kernel)) (pa_cons (pe_lit [109, 111, 114, 101] (by decide +kernel)) pa_nil))) pa_nil)))
  (pss_cons (ps_expr (kpop K (pv 13)))
  (pss_one (ps_ret (pe_cf dI GI hr6 pass0 (pa_cons (pv 15) (pa_cons (pv 11) (pa_cons (pv 6) (pa_cons (pe_ix (kix K) (pv 2) pe_int (fun _ _ => rfl)) pa_nil))))))))))))))))))))))))), ?_⟩
    refine Rd.start_ (σ' := [some (.ref a), none, none, none, none, none, none, none, none, none, none, none, none, none, none, none, none]) rfl ?_
    walk_at "rd"
    refine ⟨a, ns, 0, rfl, hS, hl, by decide, by decide, fun p H1 hp0 s1 p1 => ?_⟩
    walk_at "rd"
    refine ⟨p, rfl, p1, fun xs q H2 hx8 hxN hxD hq0 s2 p2 hq => ?_⟩
    have npq : p ≠ q := pool_ne p1 hq0
    have s02 : Same H H2 := SameB.ofNone s1 hp0 s2
    walk_at "rd"
    refine ⟨a, ns, 2, rfl, s02.seq hS, hl, by decide, by decide, fun p' H3 hp'0 s3 pp3 => ?_⟩
    walk_at "rd"
    refine ⟨p', rfl, pp3, fun gs gq H4 hg8 hgN _ hgq0 s4 _ hgq => ?_⟩
    have s24 : Same H2 H4 := SameB.ofNone s3 hp'0 s4
    have p3 := pool_of p2 s3
    have npg : p ≠ gq := pool_ne p3 hgq0
    have p4 := pool_of p2 s24
    have hq4 : NamesAt H4 q xs := s24 _ _ hq
    walk_at "rd"
    refine ⟨_, _, rfl, by decide, by decide, p4, fun cn H5 c0 c8 e5 p5 => ?_⟩
    walk_at "rd"
    refine ⟨_, _, rfl, by decide, by decide, p5, fun rd H6 rd0 rd5 e6 p6 => ?_⟩
    have hq6 : NamesAt H6 q xs := by unfold NamesAt; rw [e6 q (Ne.symm npq), e5 q (Ne.symm npq)]; exact hq4
    have hg6 : NamesAt H6 gq gs := by unfold NamesAt; rw [e6 gq (Ne.symm npg), e5 gq (Ne.symm npg)]; exact hgq
    walk_at "rd"
    refine ⟨by show 0 ≤ sizeLine; decide, fun R hR => ?_⟩
    have npR : p ≠ R := pool_ne p6 hR
    have nqR : q ≠ R := ne_of_none hq6 hR
    have ngR : gq ≠ R := ne_of_none hg6 hR
    walk_at "rd"
    have st0 : SameB p H6 (upd H6 R (.lst [])) := SameB.of (same_new hR)
    refine Rd.foW Rd.wRange (fun i σ H' => ∃ (o7 o8 : Option V) (us : List V) (ts : List Tri), σ = [some (.ref a), some (.ref p), some (.ref q), some (.ref gq), some (.int cn), some (.bl (decide (rd = 0))), some (.ref R), o7, o8, none, none, none, none, none, none, none, none] ∧
      SameB p H6 H' ∧ PoolAt H' p ∧ H' R = some (.lst us) ∧ TlAt H' us (tri ts) ∧ ts.length = i ∧ TsOk xs ts) ⟨none, none, [], [], rfl, st0, p6.upd npR, upd_same, .nil, rfl, fun r hr => absurd hr List.not_mem_nil⟩ (fun _ _ _ _ _ => trivial) ?_ ?_
    · rintro i x σ H7 hi hx ⟨o7, o8, us, ts, rfl, st, p7, hR7, hT7, hlen, htok⟩
      rw [Int.zero_add] at hx
      subst hx
      have hq7 : NamesAt H7 q xs := st _ _ (Ne.symm npq) hq6
      have hg7 : NamesAt H7 gq gs := st _ _ (Ne.symm npg) hg6
      dsimp only [List.set]
      walk_at "rd"
      refine ⟨_, _, rfl, by decide, by decide, p7, fun md H8 m0 m5 e8 p8 => ?_⟩
      have st8 : SameB p H7 H8 := SameB.drawn e8
      walk_at "rd"
      have hi7 : i < 7 := by omega
      refine iteMid (Mid := fun σ H => ∃ m : Nat, m < 5 ∧ σ = [some (.ref a), some (.ref p), some (.ref q), some (.ref gq), some (.int cn), some (.bl (decide (rd = 0))), some (.ref R), some (.int (i : Nat)), some (.int (m : Nat)), none, none, none, none, none, none, none, none] ∧ H = H8)
        (fun σ H8' ⟨m, hm5, hσ, hH⟩ => ?_) (fun N' hN' _ => ?_) (fun N' hN' _ => ?_)
      · subst hσ hH
        have hR8 := st8 _ _ (Ne.symm npR) hR7
        have hq8 : NamesAt H8' q xs := st8 _ _ (Ne.symm npq) hq7
        have hg8' : NamesAt H8' gq gs := st8 _ _ (Ne.symm npg) hg7
        have lt8 : i < xs.length := by omega
        have an : atI (xs.map fun l => V.str (S l)) (i : Nat) = some (.str (S xs[i])) := atI_nat (by simp [lt8])
        have nmem : xs[i] ∈ xs.take 7 := by
          refine List.mem_iff_getElem?.mpr ⟨i, ?_⟩
          rw [List.getElem?_take, if_pos hi7]
          exact List.getElem?_eq_getElem lt8
        have nmN := hxN xs[i] (List.getElem_mem lt8)
        walk_at "rd"
        refine ⟨_, _, rfl, by decide, by decide, p8, fun gi H9 g0 g8 e9 p9 => ?_⟩
        have st9 : SameB p H8' H9 := SameB.drawn e9
        obtain ⟨g, hgm, ag⟩ := at_names (ns := gs) g0 (by rw [hg8]; exact g8)
        have hg9 : NamesAt H9 gq gs := st9 _ _ (Ne.symm npg) hg8'
        refine Rd.ixL (SqL.of hg9) ag ?_
        walk_at "rd"
        refine ⟨by show 3 ≤ sizeLine; decide, fun tp htp => ?_⟩
        have s10 := same_new (o := .tup [.str (S xs[i]), .str (S g), .int (m : Nat)]) htp
        have hR9 := st9 _ _ (Ne.symm npR) hR8
        have hR10 := s10 _ _ hR9
        have hT9 := ((hT7.sameB st8 (pool_tup p7)).sameB st9 (pool_tup p8))
        have lus : us.length ≤ 7 := by rw [tri_len hT7]; omega
        walk_at "rd"
        refine ⟨_, _, _, ts ++ [(xs[i], g, m)], rfl, ?_, ?_, upd_same, ?_, by rw [List.length_append, hlen]; rfl, ?_⟩
        · exact ((((st.trans st8).trans st9).trans (SameB.of s10))).upd hR
        · exact (pool_of p9 s10).upd npR
        · unfold tri
          rw [List.map_append]
          exact ((hT9.mono s10).one upd_same).upd (fun o z => by rw [hR10] at z; cases z)
        · intro r hr
          rcases List.mem_append.mp hr with hr | hr
          · exact htok r hr
          · rw [List.mem_singleton.mp hr]
            exact ⟨nmem, nmN, hgN g hgm, hm5⟩
      · walk_at "rd"
        exact hN' _ _ ⟨0, by decide, rfl, rfl⟩
      · walk_at "rd"
        refine hN' _ _ ⟨md.toNat, by omega, ?_, rfl⟩
        rw [Int.toNat_of_nonneg m0]
    · rintro σ H7 ⟨o7, o8, us, ts, rfl, st, p7, hR7, hT7, hlen, htok⟩
      refine Rd.seq ?_
      refine mid (Mid := fun σ H' => ∃ (o7 o8 o9 o10 : Option V) (us : List V) (ts : List Tri), σ = [some (.ref a), some (.ref p), some (.ref q), some (.ref gq), some (.int cn), some (.bl (decide (rd = 0))), some (.ref R), o7, o8, o9, o10, none, none, none, none, none, none] ∧
        SameB p H6 H' ∧ PoolAt H' p ∧ H' R = some (.lst us) ∧ TlAt H' us (tri ts) ∧ ts.length = cn.toNat ∧ TsOk xs ts) (fun σ H8 hm => ?_) (fun N' hN' => ?_)
      · obtain ⟨o7, o8, o9, o10, us, ts, rfl, st, p8, hR8, hT8, hlen, htok⟩ := hm
        walk_at "rd"
        refine ⟨_, _, rfl, by decide, by decide, p8, fun gi H9 g0 g8 e9 p9 => ?_⟩
        have st9 : SameB p H8 H9 := SameB.drawn e9
        obtain ⟨g, hgm, ag⟩ := at_names (ns := gs) g0 (by rw [hg8]; exact g8)
        have hg9 : NamesAt H9 gq gs := st9 _ _ (Ne.symm npg) (st _ _ (Ne.symm npg) hg6)
        have hR9 := st9 _ _ (Ne.symm npR) hR8
        have hT9 := hT8.sameB st9 (pool_tup p8)
        have nmG := hgN g hgm
        refine Rd.ixL (SqL.of hg9) ag ?_
        walk_at "rd"
        refine ⟨_, _, rfl, by decide, by decide, p9, fun bd H10 _ _ e10 p10 => ?_⟩
        have st10 : SameB p H9 H10 := SameB.drawn e10
        have hR10 := st10 _ _ (Ne.symm npR) hR9
        have hT10 := hT9.sameB st10 (pool_tup p9)
        walk_at "rd"
        refine iteMid (Mid := fun σ H' => ∃ z : List Nat, σ = [some (.ref a), some (.ref p), some (.ref q), some (.ref gq), some (.int cn), some (.bl (decide (rd = 0))), some (.ref R), o7, o8, o9, o10, some (.str (S z)), some (.bl (decide (bd = 0))), none, none, none, none] ∧
          SameB p H10 H' ∧ PoolAt H' p ∧ z.length ≤ 100 ∧ (∀ c ∈ z, c < 128) ∧ (bd = 0 → ¬ Nm z) ∧ (¬ bd = 0 → Nm z)) (fun σ H11 hm => ?_) (fun N' hN' c => ?_) (fun N' hN' c => ?_)
        · obtain ⟨z, rfl, st11, p11, zl, z128, zb, zn⟩ := hm
          have hR11 := st11 _ _ (Ne.symm npR) hR10
          have hT11 := hT10.sameB st11 (pool_tup p10)
          have hq11 : NamesAt H11 q xs := st11 _ _ (Ne.symm npq) (st10 _ _ (Ne.symm npq) (st9 _ _ (Ne.symm npq) (st _ _ (Ne.symm npq) hq6)))
          walk_at "rd"
          have lts : ts.length ≤ 7 := by omega
          refine lcY Rd.wList (by rw [tri_len hT11]; walk_at "sz") (fun i acc H' => Same H11 H' ∧ ∃ rs, acc = refs rs ∧ trs rs = ts.take i ∧ RosOk c.C H' rs) ⟨Same.refl _, [], rfl, rfl, fun r hr => absurd hr List.not_mem_nil⟩
            (fun D hD i acc ys H' hne ⟨j1, rs, j2, j3, j4⟩ => ⟨same_upd j1 hD, rs, j2, j3, j4.updL hne⟩) (fun i acc H' hi j => SqL.of (j.1 _ _ hR11)) ?_ ?_
          · rintro D hD i x acc H' hi hx hacc hlen2 ⟨j1, rs, rfl, j3, j4⟩ Kt Kf hT' hF
            dsimp only [List.set]
            obtain ⟨ta, r, rfl, hr', hat⟩ := tri_at (hT11.mono j1) hx
            have k1 := htok r (List.mem_of_getElem? hr')
            walk_at "rd"
            refine ⟨r.1, r.2.1, r.2.2, rfl, k1.2.2.2, by have := k1.2.1.2.1; omega, by have := k1.2.2.1.2.1; omega, fun _ _ x H' hx0 sx ra => ?_, fun q => absurd k1.2.1 q, fun _ q => absurd k1.2.2.1 q⟩
            refine hT' _ _ (sx _ _ hacc) ⟨j1.trans sx, rs ++ [⟨x, r.1, r.2.1, r.2.2⟩], ?_, ?_, ?_⟩
            · unfold refs; rw [List.map_append]; rfl
            · rw [List.take_add_one, hr', ← j3]
              unfold trs
              rw [List.map_append]
              rfl
            · intro r2 hr2
              rcases List.mem_append.mp hr2 with hr2 | hr2
              · exact (j4.mono sx) r2 hr2
              · rw [List.mem_singleton.mp hr2]
                exact ⟨k1.2.2.2, ra⟩
          · rintro G acc H12 hG hacc hlen2 ⟨s12, rs, rfl, j3, hro12⟩
            rw [tri_len hT11, List.take_length] at j3
            have lrs : rs.length = ts.length := by rw [← j3]; exact (List.length_map ..).symm
            have hR12 := s12 _ _ hR11
            have hT12 := hT11.mono s12
            have hnm : ∀ r ∈ ts, Nm r.1 ∧ Nm r.2.1 := fun r hr => ⟨(htok r hr).2.1, (htok r hr).2.2.1⟩
            walk_at "rd"
            refine ⟨z, decide (bd = 0), R, us, ts, rfl, hR12, hT12, by omega, hnm, fun t H13 ys s13 ht13 y1 y2 y3 => ?_⟩
            walk_at "rd"
            refine ⟨by show 0 ≤ sizeLine; decide, fun e0 he0 => ?_⟩
            have s14 := same_new (o := .tup []) he0
            have s1214 := s13.trans s14
            have ht14 := s14 _ _ ht13
            have hG14 := s1214 _ _ hacc
            have hro14 := hro12.mono s1214
            have dk := due_kind j3 hro14
            have okz : okV (.str (S z)) = true := by
              show z.toArray.all (· < 0x110000) = true
              rw [List.all_toArray]
              exact List.all_eq_true.mpr fun c hc => decide_eq_true (by have := z128 c hc; omega)
            have lG : (refs rs).length = cn.toNat := by rw [List.length_map]; omega
            have cncast : ((cn.toNat : Nat) : Int) = cn := Int.toNat_of_nonneg c0
            by_cases good : ¬ bd = 0 ∧ DueOk ts
            · obtain ⟨g1, g2⟩ := good
              have ey := y3 (decide_eq_false g1) g2
              subst ey
              refine neTnil ht14 upd_same rfl ?_
              walk_at "rd"
              have kok := dk.mp g2
              have nz := zn g1
              have npq' : NamesAt (upd H13 e0 (.tup [])) q xs := s1214 _ _ (s12 _ _ hq11)
              have hR14 := s1214 _ _ hR12
              have hT14 := hT12.mono s1214
              rw [← j3] at hT14
              have lt7 : 7 < xs.length := by omega
              have at7 : atI (xs.map fun l => V.str (S l)) 7 = some (.str (S xs[7])) := atI_nat (j := 7) (by simp [lt7])
              have no7 : ∀ r ∈ rs, r.n ≠ xs[7] := fun r hr e => by
                have hm : (r.n, r.g, r.m) ∈ ts := by rw [← j3]; exact List.mem_map.mpr ⟨r, hr, rfl⟩
                have h1 := (htok _ hm).1
                obtain ⟨j, hj⟩ := List.mem_iff_getElem?.mp h1
                rw [List.getElem?_take] at hj
                have h2 : xs[7]? = some xs[7] := List.getElem?_eq_getElem lt7
                rcases Nat.lt_or_ge j 7 with hlt | hge
                · rw [if_pos hlt] at hj
                  have hj' : xs[j]? = xs[7]? := by rw [hj, h2]; exact congrArg some e
                  have := inj_ix hxD (by omega) hj'
                  omega
                · rw [if_neg (by omega)] at hj
                  cases hj
              have nms : ∀ r ∈ rs, Nm r.n ∧ Nm r.g := fun r hr => by
                have hm : (r.n, r.g, r.m) ∈ ts := by rw [← j3]; exact List.mem_map.mpr ⟨r, hr, rfl⟩
                exact hnm _ hm
              have nm7 := hxN xs[7] (List.getElem_mem lt7)
              generalize upd H13 e0 (.tup []) = H14 at ht14 hG14 hro14 npq' hR14 hT14 s1214 s14 dk
              refine kmk_go kc zl hG14 hro14 (by omega) (fun _ _ pk tk2 H15 _ s15 kat => ?_) (fun q => absurd nz q) (fun _ q => absurd kok q)
              have hq15 : NamesAt H15 q xs := s15 _ _ npq'
              have hG15 := s15 _ _ hG14
              have hR15 := s15 _ _ hR14
              walk_at "rd"
              refine ⟨pk, tk2, R, z, xs[7], rs, us, rfl, kat, hro14.mono s15, by omega, hR15, hT14.mono s15, nms, kok.2.2.1, nm7, no7, fun H16 s16 => ?_⟩
              have hG16 := s16 _ _ hG15
              have s1416 := s15.trans s16
              have kat16 := kat.mono s16
              walk_at "rd"
              rw [lG, cncast]
              walk_at "rd"
              refine Rd.iteNDT rfl ?_
              obtain ⟨⟨dxk, hpk⟩, _⟩ := id kat16
              walk_at "rd"
              refine ⟨pk, dxk, _, rfl, hpk, kflds_no _ _ (by decide +kernel) (by decide +kernel), ?_⟩
              walk_at "rd"
              refine ⟨pk, tk2, z, rs, rfl, kat16, hro14.mono s1416, by omega, fun l vs H17 hl16 s17 hvs PR => ?_⟩
              have lvs : vs.length ≤ 64 := by
                rw [PR.len]
                have h1 := flat_len (nm2 rs) (nm2 rs)
                have h2 : (nm2 rs).length ≤ 8 := by unfold nm2; rw [List.length_map]; omega
                have h3 : (nm2 rs).length * (nm2 rs).length ≤ 8 * 8 := Nat.mul_le_mul h2 h2
                have h4 : (pairsOf (nm2 rs)).length ≤ (nm2 rs).length * (nm2 rs).length := h1
                omega
              walk_at "rd"
              refine ⟨by show 2 ≤ sizeLine; decide, fun tp htp => ?_⟩
              have s18 := same_new (o := .tup [V.str (S [109, 111, 114, 101]), V.str (S [109, 111, 114, 101])]) htp
              have hvs18 := s18 _ _ hvs
              walk_at "rd"
              have s19 := same_upd (o := .lst (vs ++ [V.ref tp])) (s17.trans s18) hl16
              generalize upd (upd H17 tp (.tup [V.str (S [109, 111, 114, 101]), V.str (S [109, 111, 114, 101])])) l (.lst (vs ++ [V.ref tp])) = H19 at s19
              have hG19 := s19 _ _ hG16
              refine bm0 ?_
              walk_at "rd"
              have rs0 : 0 < (refs rs).length := by have := kok.1; rw [List.length_map]; omega
              refine ⟨G, refs rs, (refs rs)[(refs rs).length - 1], rfl, rfl, hG19, List.getElem?_eq_getElem (by omega), ?_⟩
              walk_at "rd"
              have s1419 := s1416.trans s19
              have gl : ∀ o, H19 G = some o → ∃ zs, o = .lst zs := fun o e => by rw [hG19] at e; cases e; exact ⟨_, rfl⟩
              have nRG : R ≠ G := ne_of_none hR11 hG
              have nqG : q ≠ G := ne_of_none hq11 hG
              have hq20 : NamesAt (upd H19 G (.lst (refs rs).dropLast)) q xs := by unfold NamesAt; rw [upd_ne nqG]; exact s1419 _ _ npq'
              walk_at "rd"
              refine ⟨pk, tk2, R, z, xs[7], rs, us, rfl, (kat16.mono s19).updL gl, (hro14.mono s1419).updL gl, by omega, by rw [upd_ne nRG]; exact s1419 _ _ hR14, (hT14.mono s1419).upd (fun o e => by rw [hG19] at e; cases e), nms, kok.2.2.1, nm7, no7, fun H20 _ => ?_⟩
              exact k _
            · have hy : (¬ Nm z ∧ ys = [.str (S nameS), .str (S z), .bl true]) ∨ (Nm z ∧ ¬ KindOk rs ∧ ys = [.str (S kindS), .str (S z), .bl true]) := by
                by_cases hb : bd = 0
                · exact .inl ⟨zb hb, y1 (decide_eq_true hb)⟩
                · have nd : ¬ DueOk ts := fun q => good ⟨hb, q⟩
                  exact .inr ⟨zn hb, fun q => nd (dk.mpr q), y2 (decide_eq_false hb) nd⟩
              have oky : ys.all okV = true := by
                rcases hy with ⟨_, e⟩ | ⟨_, _, e⟩ <;> rw [e, List.all_cons, List.all_cons, okz] <;> decide +kernel
              have ney : (!ys.isEmpty) = true := by
                rcases hy with ⟨_, e⟩ | ⟨_, _, e⟩ <;> rw [e] <;> rfl
              refine neTnil ht14 upd_same oky ?_
              rw [ney]
              walk_at "rd"
              refine ⟨z, G, rs, rfl, zl, hG14, hro14, by omega, fun t2 H15 y s15 ht15 u1 u2 => ?_⟩
              have ey : y = ys := by
                rcases hy with ⟨q, e⟩ | ⟨q1, q2, e⟩
                · rw [e]; exact u1 q
                · rw [e]; exact u2 q1 q2
              subst ey
              have hG15 := s15 _ _ hG14
              walk_at "rd"
              refine Rd.eqTs (SqT.of ht15) (SqT.of (s15 _ _ ht14)) oky ?_
              walk_at "rd"
              rw [lG, cncast, decide_eq_true rfl]
              exact k _
        · walk_at "rd"
          refine ⟨p, g, rfl, nmG, p10, fun z H11 bz z128 st11 p11 => ?_⟩
          walk_at "rd"
          exact hN' _ _ ⟨z, rfl, st11, p11, by have := bz.2; omega, z128, fun _ => bz.1, fun q => absurd c q⟩
        · walk_at "rd"
          exact hN' _ _ ⟨g, rfl, SameB.refl _ _, p10, by have := nmG.2.1; omega, fun c hc => by have := nmG.2.2 c hc; omega, fun q => absurd q c, fun _ => nmG⟩
      · walk_at "rd"
        refine ⟨_, _, rfl, by decide, by decide, p7, fun dd H8 _ _ e8 p8 => ?_⟩
        have st8 : SameB p H7 H8 := SameB.drawn e8
        have hR8 := st8 _ _ (Ne.symm npR) hR7
        have hT8 := hT7.sameB st8 (pool_tup p7)
        walk_at "rd"
        refine Rd.iteD (fun _ => ?_) (fun _ => ?_)
        · walk_at "rd"
          refine Rd.iteD (fun c1 => ?_) (fun c1 => ?_)
          · walk_at "rd"
            refine ⟨_, _, rfl, by omega, by omega, p8, fun one H9 o0 o1 e9 p9 => ?_⟩
            have st9 : SameB p H8 H9 := SameB.drawn e9
            have hR9 := st9 _ _ (Ne.symm npR) hR8
            have hT9 := hT8.sameB st9 (pool_tup p8)
            walk_at "rd"
            refine ⟨_, _, rfl, by omega, by omega, p9, fun off H10 f0 f1 e10 p10 => ?_⟩
            have st10 : SameB p H9 H10 := SameB.drawn e10
            have hR10 := st10 _ _ (Ne.symm npR) hR9
            have hT10 := hT9.sameB st10 (pool_tup p9)
            have w0 : 0 ≤ (one + 1 + off) % cn := Int.emod_nonneg _ (by omega)
            have w1 : (one + 1 + off) % cn < cn := Int.emod_lt_of_pos _ (by omega)
            generalize hw : (one + 1 + off) % cn = two at w0 w1
            have lus : us.length = cn.toNat := by rw [tri_len hT7]; omega
            have at_us : ∀ z : Int, 0 ≤ z → z < cn → ∃ t r, atI us z = some (.ref t) ∧ ts[z.toNat]? = some r ∧ H10 t = some (.tup [V.str (S r.1), V.str (S r.2.1), V.int (r.2.2 : Nat)]) := fun z z0 z1 => by
              have lt : z.toNat < us.length := by omega
              have ez : z = ((z.toNat : Nat) : Int) := by omega
              obtain ⟨t, r, h1, h2, h3⟩ := tri_at hT10 (List.getElem?_eq_getElem lt)
              refine ⟨t, r, ?_, h2, h3⟩
              rw [ez, ← h1]
              exact atI_nat (by simp [lt])
            obtain ⟨t1, r1, a1, g1, b1⟩ := at_us one o0 o1
            obtain ⟨t2, r2, a2, g2, b2⟩ := at_us two w0 w1
            have hix : ixN us.length two = some two.toNat := by
              unfold ixN
              rw [if_pos w0, if_pos (by omega)]
            walk_at "rd"
            rw [hw]
            walk_at "rd"
            refine ⟨by show 3 ≤ sizeLine; decide, fun tp htp => ?_⟩
            have s11 := same_new (o := .tup [V.str (S r1.1), V.str (S r2.2.1), V.int (r2.2.2 : Nat)]) htp
            have hR11 := s11 _ _ hR10
            walk_at "rd"
            refine hN' _ _ ⟨_, _, _, _, _, ts.set two.toNat (r1.1, r2.2.1, r2.2.2), rfl, ?_, ?_, upd_same, ?_, by rw [List.length_set]; exact hlen, ?_⟩
            · exact ((((st.trans st8).trans st9).trans st10).trans (SameB.of s11)).upd hR
            · exact (pool_of p10 s11).upd npR
            · unfold tri
              rw [List.map_set]
              exact ((hT10.mono s11).set upd_same _).upd (fun o z => by rw [hR11] at z; cases z)
            · intro r hr
              rcases List.mem_or_eq_of_mem_set hr with hr | hr
              · exact htok r hr
              · rw [hr]
                have k1 := htok r1 (List.mem_of_getElem? g1)
                have k2 := htok r2 (List.mem_of_getElem? g2)
                exact ⟨k1.1, k1.2.1, k2.2.2.1, k2.2.2.2⟩
          · walk_at "rd"
            exact hN' _ _ ⟨_, _, _, _, us, ts, rfl, st.trans st8, p8, hR8, hT8, hlen, htok⟩
        · walk_at "rd"
          exact hN' _ _ ⟨_, _, _, _, us, ts, rfl, st.trans st8, p8, hR8, hT8, hlen, htok⟩

end
section
variable {P : Program} {w : World} {K : PySem.W.Frag} {mg : Str → Option Value} {base : Heap} {tk : Tok}
/-! ### what the top has left -/
theorem all_mk {P : Program} {w : World} {K : PySem.W.Frag} {h : Heap} {mg : Str → Option Value} {fP fD fW fN fB fR fFr fRo fLr fLd fRef fUn fMa fDu fPa fI fInit fRr fRm fRd fEr fFm fMm fMd fKi fKn fKp Cr Ce Cm Cf Cb Cw Ckd cRE CExN fIxN CExK fIxK CExR fIxR fa fLaw : Addr} (X : K.In h) (G : h.Ns mainGlobals mg) (hfa : mg "law" = some (.ref fa))
    {odP anP : Option Addr} {slP : Array (Option Value)} {ocP kVP dcP pmP cdP ctP : Value}
    {odD anD : Option Addr} {slD : Array (Option Value)} {ocD kVD dcD pmD cdD ctD : Value}
    {odW anW : Option Addr} {slW : Array (Option Value)} {ocW kVW dcW pmW cdW ctW : Value}
    {odN anN : Option Addr} {slN : Array (Option Value)} {ocN kVN dcN pmN cdN ctN : Value}
    {odB anB : Option Addr} {slB : Array (Option Value)} {ocB kVB dcB pmB cdB ctB : Value}
    {odR anR : Option Addr} {slR : Array (Option Value)} {ocR kVR dcR pmR cdR ctR : Value}
    {odFr anFr : Option Addr} {slFr : Array (Option Value)} {ocFr kVFr dcFr pmFr cdFr ctFr : Value}
    {odRo anRo : Option Addr} {slRo : Array (Option Value)} {ocRo kVRo dcRo pmRo cdRo ctRo : Value}
    {odLr anLr : Option Addr} {slLr : Array (Option Value)} {ocLr kVLr dcLr pmLr cdLr ctLr : Value}
    {odLd anLd : Option Addr} {slLd : Array (Option Value)} {ocLd kVLd dcLd pmLd cdLd ctLd : Value}
    {odRef anRef : Option Addr} {slRef : Array (Option Value)} {ocRef kVRef dcRef pmRef cdRef ctRef : Value}
    {odUn anUn : Option Addr} {slUn : Array (Option Value)} {ocUn kVUn dcUn pmUn cdUn ctUn : Value}
    {odMa anMa : Option Addr} {slMa : Array (Option Value)} {ocMa kVMa dcMa pmMa cdMa ctMa : Value}
    {odDu anDu : Option Addr} {slDu : Array (Option Value)} {ocDu kVDu dcDu pmDu cdDu ctDu : Value}
    {odPa anPa : Option Addr} {slPa : Array (Option Value)} {ocPa kVPa dcPa pmPa cdPa ctPa : Value}
    {odI anI : Option Addr} {slI : Array (Option Value)} {ocI kVI dcI pmI cdI ctI : Value}
    {odInit anInit : Option Addr} {slInit : Array (Option Value)} {ocInit kVInit dcInit pmInit cdInit ctInit : Value}
    {odRr anRr : Option Addr} {slRr : Array (Option Value)} {ocRr kVRr dcRr pmRr cdRr ctRr : Value}
    {odRm anRm : Option Addr} {slRm : Array (Option Value)} {ocRm kVRm dcRm pmRm cdRm ctRm : Value}
    {odRd anRd : Option Addr} {slRd : Array (Option Value)} {ocRd kVRd dcRd pmRd cdRd ctRd : Value}
    {odEr anEr : Option Addr} {slEr : Array (Option Value)} {ocEr kVEr dcEr pmEr cdEr ctEr : Value}
    {odFm anFm : Option Addr} {slFm : Array (Option Value)} {ocFm kVFm dcFm pmFm cdFm ctFm : Value}
    {odMm anMm : Option Addr} {slMm : Array (Option Value)} {ocMm kVMm dcMm pmMm cdMm ctMm : Value}
    {odMd anMd : Option Addr} {slMd : Array (Option Value)} {ocMd kVMd dcMd pmMd cdMd ctMd : Value}
    {odKi anKi : Option Addr} {slKi : Array (Option Value)} {ocKi kVKi dcKi pmKi cdKi ctKi : Value}
    {odKn anKn : Option Addr} {slKn : Array (Option Value)} {ocKn kVKn dcKn pmKn cdKn ctKn : Value}
    {odKp anKp : Option Addr} {slKp : Array (Option Value)} {ocKp kVKp dcKp pmKp cdKp ctKp : Value}
    {xr : Str} {tr : Tok}
    {xe : Str} {te : Tok}
    {xm : Str} {tm : Tok}
    {xf : Str} {tf : Tok}
    {xb : Str} {tb : Tok}
    {xw : Str} {tw : Tok}
    {enmxN eqxN : Str} {eAxN : Addr} {ebsxN ebmxN : List Value} {esnxN : List Str} {esubxN : List Value} {eabxN : Bool} {ecolxN : Option Bool} {eddxN : Option Addr} {eaxN ebxN ecxN edxN eexN : Option Value}
    {odIxN anIxN : Option Addr} {slIxN : Array (Option Value)} {ocIxN kVIxN dcIxN pmIxN cdIxN ctIxN : Value}
    {enmxK eqxK : Str} {eAxK : Addr} {ebsxK ebmxK : List Value} {esnxK : List Str} {esubxK : List Value} {eabxK : Bool} {ecolxK : Option Bool} {eddxK : Option Addr} {eaxK ebxK ecxK edxK eexK : Option Value}
    {odIxK anIxK : Option Addr} {slIxK : Array (Option Value)} {ocIxK kVIxK dcIxK pmIxK cdIxK ctIxK : Value}
    {enmxR eqxR : Str} {eAxR : Addr} {ebsxR ebmxR : List Value} {esnxR : List Str} {esubxR : List Value} {eabxR : Bool} {ecolxR : Option Bool} {eddxR : Option Addr} {eaxR ebxR ecxR edxR eexR : Option Value}
    {odIxR anIxR : Option Addr} {slIxR : Array (Option Value)} {ocIxR kVIxR dcIxR pmIxR cdIxR ctIxR : Value}
    {tk tk2 : Tok}
    {odLaw anLaw : Option Addr} {slLaw : Array (Option Value)} {ocLaw kVLaw dcLaw pmLaw cdLaw ctLaw : Value}
    (aP : PySem.W.nsIn K mainGlobals "_law_pool" = some (some (.ref fP)))
    (lP : K.lookup fP = some ⟨ocP, odP, .func (PySem.W.fnOf "_law_pool" "_law_pool" (defArgs s_law_pool) (defBody s_law_pool) (defScope s_law_pool) .none kVP dcP pmP anP cdP ctP), slP⟩)
    (cP : PySem.W.codeIn K cdP "_law_pool" = true)
    (kP : PySem.W.keepIn K (.ref fP) = true)
    (aD : PySem.W.nsIn K mainGlobals "_law_draw" = some (some (.ref fD)))
    (lD : K.lookup fD = some ⟨ocD, odD, .func (PySem.W.fnOf "_law_draw" "_law_draw" (defArgs s_law_draw) (defBody s_law_draw) (defScope s_law_draw) .none kVD dcD pmD anD cdD ctD), slD⟩)
    (cD : PySem.W.codeIn K cdD "_law_draw" = true)
    (kD : PySem.W.keepIn K (.ref fD) = true)
    (aW : PySem.W.nsIn K mainGlobals "_law_word" = some (some (.ref fW)))
    (lW : K.lookup fW = some ⟨ocW, odW, .func (PySem.W.fnOf "_law_word" "_law_word" (defArgs s_law_word) (defBody s_law_word) (defScope s_law_word) .none kVW dcW pmW anW cdW ctW), slW⟩)
    (cW : PySem.W.codeIn K cdW "_law_word" = true)
    (kW : PySem.W.keepIn K (.ref fW) = true)
    (aN : PySem.W.nsIn K mainGlobals "_law_names" = some (some (.ref fN)))
    (lN : K.lookup fN = some ⟨ocN, odN, .func (PySem.W.fnOf "_law_names" "_law_names" (defArgs s_law_names) (defBody s_law_names) (defScope s_law_names) .none kVN dcN pmN anN cdN ctN), slN⟩)
    (cN : PySem.W.codeIn K cdN "_law_names" = true)
    (kN : PySem.W.keepIn K (.ref fN) = true)
    (aB : PySem.W.nsIn K mainGlobals "_law_bad_name" = some (some (.ref fB)))
    (lB : K.lookup fB = some ⟨ocB, odB, .func (PySem.W.fnOf "_law_bad_name" "_law_bad_name" (defArgs s_law_bad_name) (defBody s_law_bad_name) (defScope s_law_bad_name) .none kVB dcB pmB anB cdB ctB), slB⟩)
    (cB : PySem.W.codeIn K cdB "_law_bad_name" = true)
    (kB : PySem.W.keepIn K (.ref fB) = true)
    (aR : PySem.W.nsIn K mainGlobals "require_name" = some (some (.ref fR)))
    (lR : K.lookup fR = some ⟨ocR, odR, .func (PySem.W.fnOf "require_name" "require_name" (defArgs s_require_name) (defBody s_require_name) (defScope s_require_name) .none kVR dcR pmR anR cdR ctR), slR⟩)
    (cR : PySem.W.codeIn K cdR "require_name" = true)
    (kR : PySem.W.keepIn K (.ref fR) = true)
    (aFr : PySem.W.nsIn K mainGlobals "first_repeated" = some (some (.ref fFr)))
    (lFr : K.lookup fFr = some ⟨ocFr, odFr, .func (PySem.W.fnOf "first_repeated" "first_repeated" (defArgs s_first_repeated) (defBody s_first_repeated) (defScope s_first_repeated) .none kVFr dcFr pmFr anFr cdFr ctFr), slFr⟩)
    (cFr : PySem.W.codeIn K cdFr "first_repeated" = true)
    (kFr : PySem.W.keepIn K (.ref fFr) = true)
    (aRo : PySem.W.nsIn K mainGlobals "_law_role" = some (some (.ref fRo)))
    (lRo : K.lookup fRo = some ⟨ocRo, odRo, .func (PySem.W.fnOf "_law_role" "_law_role" (defArgs s_law_role) (defBody s_law_role) (defScope s_law_role) .none kVRo dcRo pmRo anRo cdRo ctRo), slRo⟩)
    (cRo : PySem.W.codeIn K cdRo "_law_role" = true)
    (kRo : PySem.W.keepIn K (.ref fRo) = true)
    (aLr : PySem.W.nsIn K mainGlobals "_law_reads" = some (some (.ref fLr)))
    (lLr : K.lookup fLr = some ⟨ocLr, odLr, .func (PySem.W.fnOf "_law_reads" "_law_reads" (defArgs s_law_reads) (defBody s_law_reads) (defScope s_law_reads) .none kVLr dcLr pmLr anLr cdLr ctLr), slLr⟩)
    (cLr : PySem.W.codeIn K cdLr "_law_reads" = true)
    (kLr : PySem.W.keepIn K (.ref fLr) = true)
    (aLd : PySem.W.nsIn K mainGlobals "_law_derived" = some (some (.ref fLd)))
    (lLd : K.lookup fLd = some ⟨ocLd, odLd, .func (PySem.W.fnOf "_law_derived" "_law_derived" (defArgs s_law_derived) (defBody s_law_derived) (defScope s_law_derived) .none kVLd dcLd pmLd anLd cdLd ctLd), slLd⟩)
    (cLd : PySem.W.codeIn K cdLd "_law_derived" = true)
    (kLd : PySem.W.keepIn K (.ref fLd) = true)
    (aRef : PySem.W.nsIn K mainGlobals "_law_refusal" = some (some (.ref fRef)))
    (lRef : K.lookup fRef = some ⟨ocRef, odRef, .func (PySem.W.fnOf "_law_refusal" "_law_refusal" (defArgs s_law_refusal) (defBody s_law_refusal) (defScope s_law_refusal) .none kVRef dcRef pmRef anRef cdRef ctRef), slRef⟩)
    (cRef : PySem.W.codeIn K cdRef "_law_refusal" = true)
    (kRef : PySem.W.keepIn K (.ref fRef) = true)
    (aUn : PySem.W.nsIn K mainGlobals "_law_unknown" = some (some (.ref fUn)))
    (lUn : K.lookup fUn = some ⟨ocUn, odUn, .func (PySem.W.fnOf "_law_unknown" "_law_unknown" (defArgs s_law_unknown) (defBody s_law_unknown) (defScope s_law_unknown) .none kVUn dcUn pmUn anUn cdUn ctUn), slUn⟩)
    (cUn : PySem.W.codeIn K cdUn "_law_unknown" = true)
    (kUn : PySem.W.keepIn K (.ref fUn) = true)
    (aMa : PySem.W.nsIn K mainGlobals "_law_mark" = some (some (.ref fMa)))
    (lMa : K.lookup fMa = some ⟨ocMa, odMa, .func (PySem.W.fnOf "_law_mark" "_law_mark" (defArgs s_law_mark) (defBody s_law_mark) (defScope s_law_mark) .none kVMa dcMa pmMa anMa cdMa ctMa), slMa⟩)
    (cMa : PySem.W.codeIn K cdMa "_law_mark" = true)
    (kMa : PySem.W.keepIn K (.ref fMa) = true)
    (aDu : PySem.W.nsIn K mainGlobals "_law_due" = some (some (.ref fDu)))
    (lDu : K.lookup fDu = some ⟨ocDu, odDu, .func (PySem.W.fnOf "_law_due" "_law_due" (defArgs s_law_due) (defBody s_law_due) (defScope s_law_due) .none kVDu dcDu pmDu anDu cdDu ctDu), slDu⟩)
    (cDu : PySem.W.codeIn K cdDu "_law_due" = true)
    (kDu : PySem.W.keepIn K (.ref fDu) = true)
    (aPa : PySem.W.nsIn K mainGlobals "_law_pairs" = some (some (.ref fPa)))
    (lPa : K.lookup fPa = some ⟨ocPa, odPa, .func (PySem.W.fnOf "_law_pairs" "_law_pairs" (defArgs s_law_pairs) (defBody s_law_pairs) (defScope s_law_pairs) .none kVPa dcPa pmPa anPa cdPa ctPa), slPa⟩)
    (cPa : PySem.W.codeIn K cdPa "_law_pairs" = true)
    (kPa : PySem.W.keepIn K (.ref fPa) = true)
    (aI : PySem.W.nsIn K mainGlobals "_law_is" = some (some (.ref fI)))
    (lI : K.lookup fI = some ⟨ocI, odI, .func (PySem.W.fnOf "_law_is" "_law_is" (defArgs s_law_is) (defBody s_law_is) (defScope s_law_is) .none kVI dcI pmI anI cdI ctI), slI⟩)
    (cI : PySem.W.codeIn K cdI "_law_is" = true)
    (kI : PySem.W.keepIn K (.ref fI) = true)
    (gr : PySem.W.nsIn K mainGlobals "Role" = some (some (.ref Cr)))
    (ge : PySem.W.nsIn K mainGlobals "Read" = some (some (.ref Ce)))
    (gm : PySem.W.nsIn K mainGlobals "Made" = some (some (.ref Cm)))
    (gf : PySem.W.nsIn K mainGlobals "Fresh" = some (some (.ref Cf)))
    (gb : PySem.W.nsIn K mainGlobals "Both" = some (some (.ref Cb)))
    (gw : PySem.W.nsIn K mainGlobals "Renewed" = some (some (.ref Cw)))
    (gkd : PySem.W.nsIn K mainGlobals "Kind" = some (some (.ref Ckd)))
    (at_reads_r : PySem.W.findIn K (.ref Cr) "reads" = some (some (.ref fRr)))
    (at_makes_r : PySem.W.findIn K (.ref Cr) "makes" = some (some (.ref fRm)))
    (at_derived_r : PySem.W.findIn K (.ref Cr) "derived" = some (some (.ref fRd)))
    (in_r : PySem.W.findIn K (.ref Cr) "__init__" = some (some (.ref fInit)))
    (at_reads_e : PySem.W.findIn K (.ref Ce) "reads" = some (some (.ref fEr)))
    (at_makes_e : PySem.W.findIn K (.ref Ce) "makes" = some (some (.ref fRm)))
    (at_derived_e : PySem.W.findIn K (.ref Ce) "derived" = some (some (.ref fRd)))
    (in_e : PySem.W.findIn K (.ref Ce) "__init__" = some (some (.ref fInit)))
    (at_reads_m : PySem.W.findIn K (.ref Cm) "reads" = some (some (.ref fRr)))
    (at_makes_m : PySem.W.findIn K (.ref Cm) "makes" = some (some (.ref fMm)))
    (at_derived_m : PySem.W.findIn K (.ref Cm) "derived" = some (some (.ref fMd)))
    (in_m : PySem.W.findIn K (.ref Cm) "__init__" = some (some (.ref fInit)))
    (at_reads_f : PySem.W.findIn K (.ref Cf) "reads" = some (some (.ref fRr)))
    (at_makes_f : PySem.W.findIn K (.ref Cf) "makes" = some (some (.ref fFm)))
    (at_derived_f : PySem.W.findIn K (.ref Cf) "derived" = some (some (.ref fRd)))
    (in_f : PySem.W.findIn K (.ref Cf) "__init__" = some (some (.ref fInit)))
    (at_reads_b : PySem.W.findIn K (.ref Cb) "reads" = some (some (.ref fEr)))
    (at_makes_b : PySem.W.findIn K (.ref Cb) "makes" = some (some (.ref fMm)))
    (at_derived_b : PySem.W.findIn K (.ref Cb) "derived" = some (some (.ref fMd)))
    (in_b : PySem.W.findIn K (.ref Cb) "__init__" = some (some (.ref fInit)))
    (at_reads_w : PySem.W.findIn K (.ref Cw) "reads" = some (some (.ref fEr)))
    (at_makes_w : PySem.W.findIn K (.ref Cw) "makes" = some (some (.ref fFm)))
    (at_derived_w : PySem.W.findIn K (.ref Cw) "derived" = some (some (.ref fRd)))
    (in_w : PySem.W.findIn K (.ref Cw) "__init__" = some (some (.ref fInit)))
    (in_kd : PySem.W.findIn K (.ref Ckd) "__init__" = some (some (.ref fKi)))
    (at_named : PySem.W.findIn K (.ref Ckd) "role_named" = some (some (.ref fKn)))
    (at_pairs : PySem.W.findIn K (.ref Ckd) "pairs" = some (some (.ref fKp)))
    (lInit : K.lookup fInit = some ⟨ocInit, odInit, .func (PySem.W.fnOf "__init__" "Role.__init__" (defArgs s_Role___init) (defBody s_Role___init) (defScope s_Role___init) .none kVInit dcInit pmInit anInit cdInit ctInit), slInit⟩)
    (cInit : PySem.W.codeIn K cdInit "Role.__init__" = true)
    (kInit : PySem.W.keepIn K (.ref fInit) = true)
    (fnInit : PySem.W.isFn K (.ref fInit) = true)
    (lRr : K.lookup fRr = some ⟨ocRr, odRr, .func (PySem.W.fnOf "reads" "Role.reads" (defArgs s_Role_reads) (defBody s_Role_reads) (defScope s_Role_reads) .none kVRr dcRr pmRr anRr cdRr ctRr), slRr⟩)
    (cRr : PySem.W.codeIn K cdRr "Role.reads" = true)
    (kRr : PySem.W.keepIn K (.ref fRr) = true)
    (fnRr : PySem.W.isFn K (.ref fRr) = true)
    (lRm : K.lookup fRm = some ⟨ocRm, odRm, .func (PySem.W.fnOf "makes" "Role.makes" (defArgs s_Role_makes) (defBody s_Role_makes) (defScope s_Role_makes) .none kVRm dcRm pmRm anRm cdRm ctRm), slRm⟩)
    (cRm : PySem.W.codeIn K cdRm "Role.makes" = true)
    (kRm : PySem.W.keepIn K (.ref fRm) = true)
    (fnRm : PySem.W.isFn K (.ref fRm) = true)
    (lRd : K.lookup fRd = some ⟨ocRd, odRd, .func (PySem.W.fnOf "derived" "Role.derived" (defArgs s_Role_derived) (defBody s_Role_derived) (defScope s_Role_derived) .none kVRd dcRd pmRd anRd cdRd ctRd), slRd⟩)
    (cRd : PySem.W.codeIn K cdRd "Role.derived" = true)
    (kRd : PySem.W.keepIn K (.ref fRd) = true)
    (fnRd : PySem.W.isFn K (.ref fRd) = true)
    (lEr : K.lookup fEr = some ⟨ocEr, odEr, .func (PySem.W.fnOf "reads" "Read.reads" (defArgs s_Read_reads) (defBody s_Read_reads) (defScope s_Read_reads) .none kVEr dcEr pmEr anEr cdEr ctEr), slEr⟩)
    (cEr : PySem.W.codeIn K cdEr "Read.reads" = true)
    (kEr : PySem.W.keepIn K (.ref fEr) = true)
    (fnEr : PySem.W.isFn K (.ref fEr) = true)
    (lFm : K.lookup fFm = some ⟨ocFm, odFm, .func (PySem.W.fnOf "makes" "Fresh.makes" (defArgs s_Fresh_makes) (defBody s_Fresh_makes) (defScope s_Fresh_makes) .none kVFm dcFm pmFm anFm cdFm ctFm), slFm⟩)
    (cFm : PySem.W.codeIn K cdFm "Fresh.makes" = true)
    (kFm : PySem.W.keepIn K (.ref fFm) = true)
    (fnFm : PySem.W.isFn K (.ref fFm) = true)
    (lMm : K.lookup fMm = some ⟨ocMm, odMm, .func (PySem.W.fnOf "makes" "Made.makes" (defArgs s_Made_makes) (defBody s_Made_makes) (defScope s_Made_makes) .none kVMm dcMm pmMm anMm cdMm ctMm), slMm⟩)
    (cMm : PySem.W.codeIn K cdMm "Made.makes" = true)
    (kMm : PySem.W.keepIn K (.ref fMm) = true)
    (fnMm : PySem.W.isFn K (.ref fMm) = true)
    (lMd : K.lookup fMd = some ⟨ocMd, odMd, .func (PySem.W.fnOf "derived" "Made.derived" (defArgs s_Made_derived) (defBody s_Made_derived) (defScope s_Made_derived) .none kVMd dcMd pmMd anMd cdMd ctMd), slMd⟩)
    (cMd : PySem.W.codeIn K cdMd "Made.derived" = true)
    (kMd : PySem.W.keepIn K (.ref fMd) = true)
    (fnMd : PySem.W.isFn K (.ref fMd) = true)
    (lKi : K.lookup fKi = some ⟨ocKi, odKi, .func (PySem.W.fnOf "__init__" "Kind.__init__" (defArgs s_Kind___init) (defBody s_Kind___init) (defScope s_Kind___init) .none kVKi dcKi pmKi anKi cdKi ctKi), slKi⟩)
    (cKi : PySem.W.codeIn K cdKi "Kind.__init__" = true)
    (kKi : PySem.W.keepIn K (.ref fKi) = true)
    (fnKi : PySem.W.isFn K (.ref fKi) = true)
    (lKn : K.lookup fKn = some ⟨ocKn, odKn, .func (PySem.W.fnOf "role_named" "Kind.role_named" (defArgs s_Kind_role_named) (defBody s_Kind_role_named) (defScope s_Kind_role_named) .none kVKn dcKn pmKn anKn cdKn ctKn), slKn⟩)
    (cKn : PySem.W.codeIn K cdKn "Kind.role_named" = true)
    (kKn : PySem.W.keepIn K (.ref fKn) = true)
    (fnKn : PySem.W.isFn K (.ref fKn) = true)
    (lKp : K.lookup fKp = some ⟨ocKp, odKp, .func (PySem.W.fnOf "pairs" "Kind.pairs" (defArgs s_Kind_pairs) (defBody s_Kind_pairs) (defScope s_Kind_pairs) .none kVKp dcKp pmKp anKp cdKp ctKp), slKp⟩)
    (cKp : PySem.W.codeIn K cdKp "Kind.pairs" = true)
    (kKp : PySem.W.keepIn K (.ref fKp) = true)
    (fnKp : PySem.W.isFn K (.ref fKp) = true)
    (spc : PySem.W.specialIn K (.builtin "object.__class__") "__get__" = some (some (.builtin "getset_descriptor.__get__")))
    (tkc : PySem.W.takesIn K (.builtin "object.__class__") = some true)
    (pgr : PySem.W.plainGet K Cr Str.empty = true)
    (hdr : PySem.W.hasDictIn K Cr = true)
    (por : PySem.W.plainOver K Cr = true)
    (sar : PySem.W.findIn K (.ref Cr) "__setattr__" = some (some (.builtin "object.__setattr__")))
    (mkr : PySem.W.makesIn K Cr = true)
    (kcr : PySem.W.keepIn K (.ref Cr) = true)
    (nnr : PySem.W.findIn K (.ref Cr) "name" = some none)
    (ngr : PySem.W.findIn K (.ref Cr) "group" = some none)
    (mar : PySem.W.findIn K (.ref Cr) "MARK" = some (some (.str xr tr)))
    (mxr : xr = S [])
    (msr : PySem.W.specialIn K (.str xr tr) "__get__" = some none)
    (car : PySem.W.findIn K (.ref Cr) "__class__" = some (some (.builtin "object.__class__")))
    (mor : PySem.W.mroIn K Cr (.type "object") = some true)
    (pge : PySem.W.plainGet K Ce Str.empty = true)
    (hde : PySem.W.hasDictIn K Ce = true)
    (poe : PySem.W.plainOver K Ce = true)
    (sae : PySem.W.findIn K (.ref Ce) "__setattr__" = some (some (.builtin "object.__setattr__")))
    (mke : PySem.W.makesIn K Ce = true)
    (kce : PySem.W.keepIn K (.ref Ce) = true)
    (nne : PySem.W.findIn K (.ref Ce) "name" = some none)
    (nge : PySem.W.findIn K (.ref Ce) "group" = some none)
    (mae : PySem.W.findIn K (.ref Ce) "MARK" = some (some (.str xe te)))
    (mxe : xe = S [114])
    (mse : PySem.W.specialIn K (.str xe te) "__get__" = some none)
    (cae : PySem.W.findIn K (.ref Ce) "__class__" = some (some (.builtin "object.__class__")))
    (moe : PySem.W.mroIn K Ce (.type "object") = some true)
    (pgm : PySem.W.plainGet K Cm Str.empty = true)
    (hdm : PySem.W.hasDictIn K Cm = true)
    (pom : PySem.W.plainOver K Cm = true)
    (sam : PySem.W.findIn K (.ref Cm) "__setattr__" = some (some (.builtin "object.__setattr__")))
    (mkm : PySem.W.makesIn K Cm = true)
    (kcm : PySem.W.keepIn K (.ref Cm) = true)
    (nnm : PySem.W.findIn K (.ref Cm) "name" = some none)
    (ngm : PySem.W.findIn K (.ref Cm) "group" = some none)
    (mam : PySem.W.findIn K (.ref Cm) "MARK" = some (some (.str xm tm)))
    (mxm : xm = S [109])
    (msm : PySem.W.specialIn K (.str xm tm) "__get__" = some none)
    (cam : PySem.W.findIn K (.ref Cm) "__class__" = some (some (.builtin "object.__class__")))
    (mom : PySem.W.mroIn K Cm (.type "object") = some true)
    (pgf : PySem.W.plainGet K Cf Str.empty = true)
    (hdf : PySem.W.hasDictIn K Cf = true)
    (pof : PySem.W.plainOver K Cf = true)
    (saf : PySem.W.findIn K (.ref Cf) "__setattr__" = some (some (.builtin "object.__setattr__")))
    (mkf : PySem.W.makesIn K Cf = true)
    (kcf : PySem.W.keepIn K (.ref Cf) = true)
    (nnf : PySem.W.findIn K (.ref Cf) "name" = some none)
    (ngf : PySem.W.findIn K (.ref Cf) "group" = some none)
    (maf : PySem.W.findIn K (.ref Cf) "MARK" = some (some (.str xf tf)))
    (mxf : xf = S [102])
    (msf : PySem.W.specialIn K (.str xf tf) "__get__" = some none)
    (caf : PySem.W.findIn K (.ref Cf) "__class__" = some (some (.builtin "object.__class__")))
    (mof : PySem.W.mroIn K Cf (.type "object") = some true)
    (pgb : PySem.W.plainGet K Cb Str.empty = true)
    (hdb : PySem.W.hasDictIn K Cb = true)
    (pob : PySem.W.plainOver K Cb = true)
    (sab : PySem.W.findIn K (.ref Cb) "__setattr__" = some (some (.builtin "object.__setattr__")))
    (mkb : PySem.W.makesIn K Cb = true)
    (kcb : PySem.W.keepIn K (.ref Cb) = true)
    (nnb : PySem.W.findIn K (.ref Cb) "name" = some none)
    (ngb : PySem.W.findIn K (.ref Cb) "group" = some none)
    (mab : PySem.W.findIn K (.ref Cb) "MARK" = some (some (.str xb tb)))
    (mxb : xb = S [114, 109])
    (msb : PySem.W.specialIn K (.str xb tb) "__get__" = some none)
    (cab : PySem.W.findIn K (.ref Cb) "__class__" = some (some (.builtin "object.__class__")))
    (mob : PySem.W.mroIn K Cb (.type "object") = some true)
    (pgw : PySem.W.plainGet K Cw Str.empty = true)
    (hdw : PySem.W.hasDictIn K Cw = true)
    (pow : PySem.W.plainOver K Cw = true)
    (saw : PySem.W.findIn K (.ref Cw) "__setattr__" = some (some (.builtin "object.__setattr__")))
    (mkw : PySem.W.makesIn K Cw = true)
    (kcw : PySem.W.keepIn K (.ref Cw) = true)
    (nnw : PySem.W.findIn K (.ref Cw) "name" = some none)
    (ngw : PySem.W.findIn K (.ref Cw) "group" = some none)
    (maw : PySem.W.findIn K (.ref Cw) "MARK" = some (some (.str xw tw)))
    (mxw : xw = S [114, 102])
    (msw : PySem.W.specialIn K (.str xw tw) "__get__" = some none)
    (caw : PySem.W.findIn K (.ref Cw) "__class__" = some (some (.builtin "object.__class__")))
    (mow : PySem.W.mroIn K Cw (.type "object") = some true)
    (pgkd : PySem.W.plainGet K Ckd Str.empty = true)
    (hdkd : PySem.W.hasDictIn K Ckd = true)
    (pokd : PySem.W.plainOver K Ckd = true)
    (sakd : PySem.W.findIn K (.ref Ckd) "__setattr__" = some (some (.builtin "object.__setattr__")))
    (mkkd : PySem.W.makesIn K Ckd = true)
    (kckd : PySem.W.keepIn K (.ref Ckd) = true)
    (nnkd : PySem.W.findIn K (.ref Ckd) "name" = some none)
    (nrkd : PySem.W.findIn K (.ref Ckd) "roles" = some none)
    (gRE : PySem.W.nsIn K mainGlobals "RedoError" = some (some (.ref cRE)))
    (gExN : PySem.W.nsIn K mainGlobals "BadName" = some (some (.ref CExN)))
    (xExN : K.lookup CExN = some (excClassObj enmxN eqxN CExN eAxN ebsxN ebmxN true esnxN esubxN eabxN ecolxN eddxN eaxN ebxN ecxN edxN eexN "ValueError.__new__"))
    (bExN : PySem.HandSPX.refsVE ebmxN = true)
    (saExN : PySem.W.findIn K (.ref CExN) "__setattr__" = some (some (.builtin "object.__setattr__")))
    (gaExN : PySem.W.findIn K (.ref CExN) "__getattribute__" = some (some (.builtin "BaseException.__getattribute__")))
    (ggExN : PySem.W.findIn K (.ref CExN) "__getattr__" = some none)
    (nnExN : PySem.W.findIn K (.ref CExN) "name" = some none)
    (inExN : PySem.W.findIn K (.ref CExN) "__init__" = some (some (.ref fIxN)))
    (tyIxN : PySem.W.typeIn K (.ref fIxN) = some (.type "function"))
    (lIxN : K.lookup fIxN = some ⟨ocIxN, odIxN, .func (PySem.W.fnOf "__init__" "BadName.__init__" (defArgs s_BadName___init) (defBody s_BadName___init) (defScope s_BadName___init) .none kVIxN dcIxN pmIxN anIxN cdIxN ctIxN), slIxN⟩)
    (cIxN : PySem.W.codeIn K cdIxN "BadName.__init__" = true)
    (kIxN : PySem.W.keepIn K (.ref fIxN) = true)
    (kExN : PySem.W.keepIn K (.ref CExN) = true)
    (exExN : PySem.W.subIn K (.ref CExN) (.type "BaseException") = some true)
    (tyExN : PySem.W.typeIn K (.ref CExN) = some (.type "type"))
    (hdExN : PySem.W.hasDictIn K CExN = true)
    (sExN : PySem.W.subIn K (.ref CExN) (.ref CExN) = some true)
    (clExN : PySem.W.findIn K (.ref CExN) "__class__" = some (some (.builtin "object.__class__")))
    (moExN : PySem.W.mroIn K CExN (.type "object") = some true)
    (qExN : PySem.W.kitOne K (.ref CExN) (.ref cRE) = some true)
    (gExK : PySem.W.nsIn K mainGlobals "BadKind" = some (some (.ref CExK)))
    (xExK : K.lookup CExK = some (excClassObj enmxK eqxK CExK eAxK ebsxK ebmxK true esnxK esubxK eabxK ecolxK eddxK eaxK ebxK ecxK edxK eexK "ValueError.__new__"))
    (bExK : PySem.HandSPX.refsVE ebmxK = true)
    (saExK : PySem.W.findIn K (.ref CExK) "__setattr__" = some (some (.builtin "object.__setattr__")))
    (gaExK : PySem.W.findIn K (.ref CExK) "__getattribute__" = some (some (.builtin "BaseException.__getattribute__")))
    (ggExK : PySem.W.findIn K (.ref CExK) "__getattr__" = some none)
    (nnExK : PySem.W.findIn K (.ref CExK) "name" = some none)
    (inExK : PySem.W.findIn K (.ref CExK) "__init__" = some (some (.ref fIxK)))
    (tyIxK : PySem.W.typeIn K (.ref fIxK) = some (.type "function"))
    (lIxK : K.lookup fIxK = some ⟨ocIxK, odIxK, .func (PySem.W.fnOf "__init__" "BadKind.__init__" (defArgs s_BadKind___init) (defBody s_BadKind___init) (defScope s_BadKind___init) .none kVIxK dcIxK pmIxK anIxK cdIxK ctIxK), slIxK⟩)
    (cIxK : PySem.W.codeIn K cdIxK "BadKind.__init__" = true)
    (kIxK : PySem.W.keepIn K (.ref fIxK) = true)
    (kExK : PySem.W.keepIn K (.ref CExK) = true)
    (exExK : PySem.W.subIn K (.ref CExK) (.type "BaseException") = some true)
    (tyExK : PySem.W.typeIn K (.ref CExK) = some (.type "type"))
    (hdExK : PySem.W.hasDictIn K CExK = true)
    (sExK : PySem.W.subIn K (.ref CExK) (.ref CExK) = some true)
    (clExK : PySem.W.findIn K (.ref CExK) "__class__" = some (some (.builtin "object.__class__")))
    (moExK : PySem.W.mroIn K CExK (.type "object") = some true)
    (qExK : PySem.W.kitOne K (.ref CExK) (.ref cRE) = some true)
    (gExR : PySem.W.nsIn K mainGlobals "NoRole" = some (some (.ref CExR)))
    (xExR : K.lookup CExR = some (excClassObj enmxR eqxR CExR eAxR ebsxR ebmxR true esnxR esubxR eabxR ecolxR eddxR eaxR ebxR ecxR edxR eexR "ValueError.__new__"))
    (bExR : PySem.HandSPX.refsVE ebmxR = true)
    (saExR : PySem.W.findIn K (.ref CExR) "__setattr__" = some (some (.builtin "object.__setattr__")))
    (gaExR : PySem.W.findIn K (.ref CExR) "__getattribute__" = some (some (.builtin "BaseException.__getattribute__")))
    (ggExR : PySem.W.findIn K (.ref CExR) "__getattr__" = some none)
    (nnExR : PySem.W.findIn K (.ref CExR) "name" = some none)
    (inExR : PySem.W.findIn K (.ref CExR) "__init__" = some (some (.ref fIxR)))
    (tyIxR : PySem.W.typeIn K (.ref fIxR) = some (.type "function"))
    (lIxR : K.lookup fIxR = some ⟨ocIxR, odIxR, .func (PySem.W.fnOf "__init__" "NoRole.__init__" (defArgs s_NoRole___init) (defBody s_NoRole___init) (defScope s_NoRole___init) .none kVIxR dcIxR pmIxR anIxR cdIxR ctIxR), slIxR⟩)
    (cIxR : PySem.W.codeIn K cdIxR "NoRole.__init__" = true)
    (kIxR : PySem.W.keepIn K (.ref fIxR) = true)
    (kExR : PySem.W.keepIn K (.ref CExR) = true)
    (exExR : PySem.W.subIn K (.ref CExR) (.type "BaseException") = some true)
    (tyExR : PySem.W.typeIn K (.ref CExR) = some (.type "type"))
    (hdExR : PySem.W.hasDictIn K CExR = true)
    (sExR : PySem.W.subIn K (.ref CExR) (.ref CExR) = some true)
    (clExR : PySem.W.findIn K (.ref CExR) "__class__" = some (some (.builtin "object.__class__")))
    (moExR : PySem.W.mroIn K CExR (.type "object") = some true)
    (qExR : PySem.W.kitOne K (.ref CExR) (.ref cRE) = some true)
    (subNK : PySem.W.subIn K (.ref CExK) (.ref CExN) = some false)
    (gL : PySem.W.nsIn K mainGlobals "LONGEST_NAME" = some (some (.int 8 tk)))
    (gM : PySem.W.nsIn K mainGlobals "MOST_ROLES" = some (some (.int 6 tk2)))
    (z_len : PySem.W.nsIn K mainGlobals "len" = some none)
    (z_sum : PySem.W.nsIn K mainGlobals "sum" = some none)
    (z_int : PySem.W.nsIn K mainGlobals "int" = some none)
    (z_range : PySem.W.nsIn K mainGlobals "range" = some none)
    (z_isinstance : PySem.W.nsIn K mainGlobals "isinstance" = some none)
    (z_any : PySem.W.nsIn K mainGlobals "any" = some none)
    (z_all : PySem.W.nsIn K mainGlobals "all" = some none)
    (z_list : PySem.W.nsIn K mainGlobals "list" = some none)
    (z_tuple : PySem.W.nsIn K mainGlobals "tuple" = some none)
    (z_sorted : PySem.W.nsIn K mainGlobals "sorted" = some none)
    (z_set : PySem.W.nsIn K mainGlobals "set" = some none)
    (z_bool : PySem.W.nsIn K mainGlobals "bool" = some none)
    (z_ValueError : PySem.W.nsIn K mainGlobals "ValueError" = some none)
    (z_enumerate : PySem.W.nsIn K mainGlobals "enumerate" = some none)
    (aLaw : PySem.W.nsIn K mainGlobals "law" = some (some (.ref fLaw)))
    (lLaw : K.lookup fLaw = some ⟨ocLaw, odLaw, .func (PySem.W.fnOf "law" "law" (defArgs s_law) (defBody s_law) (defScope s_law) .none kVLaw dcLaw pmLaw anLaw cdLaw ctLaw), slLaw⟩)
    (cLaw : PySem.W.codeIn K cdLaw "law" = true)
    (kLaw : PySem.W.keepIn K (.ref fLaw) = true) :
    ∃ fd : FuncData, (∀ (s : Shared) (v : Value), BindsTo s fd ⟨[v], []⟩ [("_law_script", v)]) ∧ ∀ base : Heap, K.In base → base.Ns mainGlobals mg → FnOk P w K mg base CX0 9 fa fd ["_law_script"] (spLaw K) := by
  have e := hfa.symm.trans (PySem.W.mg_of X G aLaw)
  cases e
  refine ⟨PySem.W.fnOf "law" "law" (defArgs s_law) (defBody s_law) (defScope s_law) .none kVLaw dcLaw pmLaw anLaw cdLaw ctLaw, fun s v => .of_eq rfl, fun base _ _ => ?_⟩
  have FP := fun_mk (st := s_law_pool) lP cP kP
  let dP : Df K mg "_law_pool" "_law_pool" s_law_pool ["_law_script", "_law_k"] := ⟨fP, _, FP, PySem.W.mg_of X G aP, FP.binds (ps := ["_law_script", "_law_k"]) fun _ _ _ _ _ _ us hl => match us, hl with | [_, _], _ => rfl⟩
  have FD := fun_mk (st := s_law_draw) lD cD kD
  let dD : Df K mg "_law_draw" "_law_draw" s_law_draw ["_law_pool_here", "_law_many"] := ⟨fD, _, FD, PySem.W.mg_of X G aD, FD.binds (ps := ["_law_pool_here", "_law_many"]) fun _ _ _ _ _ _ us hl => match us, hl with | [_, _], _ => rfl⟩
  have FW := fun_mk (st := s_law_word) lW cW kW
  let dW : Df K mg "_law_word" "_law_word" s_law_word ["_law_numbers"] := ⟨fW, _, FW, PySem.W.mg_of X G aW, FW.binds (ps := ["_law_numbers"]) fun _ _ _ _ _ _ us hl => match us, hl with | [_], _ => rfl⟩
  have FN := fun_mk (st := s_law_names) lN cN kN
  let dN : Df K mg "_law_names" "_law_names" s_law_names ["_law_pool_here"] := ⟨fN, _, FN, PySem.W.mg_of X G aN, FN.binds (ps := ["_law_pool_here"]) fun _ _ _ _ _ _ us hl => match us, hl with | [_], _ => rfl⟩
  have FB := fun_mk (st := s_law_bad_name) lB cB kB
  let dB : Df K mg "_law_bad_name" "_law_bad_name" s_law_bad_name ["_law_pool_here", "_law_name"] := ⟨fB, _, FB, PySem.W.mg_of X G aB, FB.binds (ps := ["_law_pool_here", "_law_name"]) fun _ _ _ _ _ _ us hl => match us, hl with | [_, _], _ => rfl⟩
  have FR := fun_mk (st := s_require_name) lR cR kR
  let dR : Df K mg "require_name" "require_name" s_require_name ["text"] := ⟨fR, _, FR, PySem.W.mg_of X G aR, FR.binds (ps := ["text"]) fun _ _ _ _ _ _ us hl => match us, hl with | [_], _ => rfl⟩
  have FFr := fun_mk (st := s_first_repeated) lFr cFr kFr
  let dFr : Df K mg "first_repeated" "first_repeated" s_first_repeated ["names"] := ⟨fFr, _, FFr, PySem.W.mg_of X G aFr, FFr.binds (ps := ["names"]) fun _ _ _ _ _ _ us hl => match us, hl with | [_], _ => rfl⟩
  have FRo := fun_mk (st := s_law_role) lRo cRo kRo
  let dRo : Df K mg "_law_role" "_law_role" s_law_role ["_law_name", "_law_group", "_law_mode"] := ⟨fRo, _, FRo, PySem.W.mg_of X G aRo, FRo.binds (ps := ["_law_name", "_law_group", "_law_mode"]) fun _ _ _ _ _ _ us hl => match us, hl with | [_, _, _], _ => rfl⟩
  have FLr := fun_mk (st := s_law_reads) lLr cLr kLr
  let dLr : Df K mg "_law_reads" "_law_reads" s_law_reads ["_law_mode"] := ⟨fLr, _, FLr, PySem.W.mg_of X G aLr, FLr.binds (ps := ["_law_mode"]) fun _ _ _ _ _ _ us hl => match us, hl with | [_], _ => rfl⟩
  have FLd := fun_mk (st := s_law_derived) lLd cLd kLd
  let dLd : Df K mg "_law_derived" "_law_derived" s_law_derived ["_law_mode"] := ⟨fLd, _, FLd, PySem.W.mg_of X G aLd, FLd.binds (ps := ["_law_mode"]) fun _ _ _ _ _ _ us hl => match us, hl with | [_], _ => rfl⟩
  have FRef := fun_mk (st := s_law_refusal) lRef cRef kRef
  let dRef : Df K mg "_law_refusal" "_law_refusal" s_law_refusal ["_law_name", "_law_roles"] := ⟨fRef, _, FRef, PySem.W.mg_of X G aRef, FRef.binds (ps := ["_law_name", "_law_roles"]) fun _ _ _ _ _ _ us hl => match us, hl with | [_, _], _ => rfl⟩
  have FUn := fun_mk (st := s_law_unknown) lUn cUn kUn
  let dUn : Df K mg "_law_unknown" "_law_unknown" s_law_unknown ["_law_kind", "_law_name"] := ⟨fUn, _, FUn, PySem.W.mg_of X G aUn, FUn.binds (ps := ["_law_kind", "_law_name"]) fun _ _ _ _ _ _ us hl => match us, hl with | [_, _], _ => rfl⟩
  have FMa := fun_mk (st := s_law_mark) lMa cMa kMa
  let dMa : Df K mg "_law_mark" "_law_mark" s_law_mark ["_law_role_here"] := ⟨fMa, _, FMa, PySem.W.mg_of X G aMa, FMa.binds (ps := ["_law_role_here"]) fun _ _ _ _ _ _ us hl => match us, hl with | [_], _ => rfl⟩
  have FDu := fun_mk (st := s_law_due) lDu cDu kDu
  let dDu : Df K mg "_law_due" "_law_due" s_law_due ["_law_name", "_law_bad", "_law_roles"] := ⟨fDu, _, FDu, PySem.W.mg_of X G aDu, FDu.binds (ps := ["_law_name", "_law_bad", "_law_roles"]) fun _ _ _ _ _ _ us hl => match us, hl with | [_, _, _], _ => rfl⟩
  have FPa := fun_mk (st := s_law_pairs) lPa cPa kPa
  let dPa : Df K mg "_law_pairs" "_law_pairs" s_law_pairs ["_law_roles"] := ⟨fPa, _, FPa, PySem.W.mg_of X G aPa, FPa.binds (ps := ["_law_roles"]) fun _ _ _ _ _ _ us hl => match us, hl with | [_], _ => rfl⟩
  have FI := fun_mk (st := s_law_is) lI cI kI
  let dI : Df K mg "_law_is" "_law_is" s_law_is ["_law_kind", "_law_name", "_law_roles", "_law_other"] := ⟨fI, _, FI, PySem.W.mg_of X G aI, FI.binds (ps := ["_law_kind", "_law_name", "_law_roles", "_law_other"]) fun _ _ _ _ _ _ us hl => match us, hl with | [_, _, _, _], _ => rfl⟩
  have FInit := fun_mk (st := s_Role___init) lInit cInit kInit
  let mInit : Mf K "__init__" "Role.__init__" s_Role___init ["self", "name", "group"] := ⟨fInit, _, FInit, FInit.binds (ps := ["self", "name", "group"]) fun _ _ _ _ _ _ us hl => match us, hl with | [_, _, _], _ => rfl⟩
  have FRr := fun_mk (st := s_Role_reads) lRr cRr kRr
  let mRr : Mf K "reads" "Role.reads" s_Role_reads ["self"] := ⟨fRr, _, FRr, FRr.binds (ps := ["self"]) fun _ _ _ _ _ _ us hl => match us, hl with | [_], _ => rfl⟩
  have FRm := fun_mk (st := s_Role_makes) lRm cRm kRm
  let mRm : Mf K "makes" "Role.makes" s_Role_makes ["self"] := ⟨fRm, _, FRm, FRm.binds (ps := ["self"]) fun _ _ _ _ _ _ us hl => match us, hl with | [_], _ => rfl⟩
  have FRd := fun_mk (st := s_Role_derived) lRd cRd kRd
  let mRd : Mf K "derived" "Role.derived" s_Role_derived ["self"] := ⟨fRd, _, FRd, FRd.binds (ps := ["self"]) fun _ _ _ _ _ _ us hl => match us, hl with | [_], _ => rfl⟩
  have FEr := fun_mk (st := s_Read_reads) lEr cEr kEr
  let mEr : Mf K "reads" "Read.reads" s_Read_reads ["self"] := ⟨fEr, _, FEr, FEr.binds (ps := ["self"]) fun _ _ _ _ _ _ us hl => match us, hl with | [_], _ => rfl⟩
  have FFm := fun_mk (st := s_Fresh_makes) lFm cFm kFm
  let mFm : Mf K "makes" "Fresh.makes" s_Fresh_makes ["self"] := ⟨fFm, _, FFm, FFm.binds (ps := ["self"]) fun _ _ _ _ _ _ us hl => match us, hl with | [_], _ => rfl⟩
  have FMm := fun_mk (st := s_Made_makes) lMm cMm kMm
  let mMm : Mf K "makes" "Made.makes" s_Made_makes ["self"] := ⟨fMm, _, FMm, FMm.binds (ps := ["self"]) fun _ _ _ _ _ _ us hl => match us, hl with | [_], _ => rfl⟩
  have FMd := fun_mk (st := s_Made_derived) lMd cMd kMd
  let mMd : Mf K "derived" "Made.derived" s_Made_derived ["self"] := ⟨fMd, _, FMd, FMd.binds (ps := ["self"]) fun _ _ _ _ _ _ us hl => match us, hl with | [_], _ => rfl⟩
  have FKi := fun_mk (st := s_Kind___init) lKi cKi kKi
  let mKi : Mf K "__init__" "Kind.__init__" s_Kind___init ["self", "name", "roles"] := ⟨fKi, _, FKi, FKi.binds (ps := ["self", "name", "roles"]) fun _ _ _ _ _ _ us hl => match us, hl with | [_, _, _], _ => rfl⟩
  have FKn := fun_mk (st := s_Kind_role_named) lKn cKn kKn
  let mKn : Mf K "role_named" "Kind.role_named" s_Kind_role_named ["self", "name"] := ⟨fKn, _, FKn, FKn.binds (ps := ["self", "name"]) fun _ _ _ _ _ _ us hl => match us, hl with | [_, _], _ => rfl⟩
  have FKp := fun_mk (st := s_Kind_pairs) lKp cKp kKp
  let mKp : Mf K "pairs" "Kind.pairs" s_Kind_pairs ["self"] := ⟨fKp, _, FKp, FKp.binds (ps := ["self"]) fun _ _ _ _ _ _ us hl => match us, hl with | [_], _ => rfl⟩
  let rr : Rc K mg fInit "Role" [] := ⟨Cr, PySem.W.mg_of X G gr, ⟨pgr, hdr, por, sar⟩, ⟨mkr, in_r, fnInit, kcr⟩, nnr, ngr, .str xr tr, ⟨mar, by rw [mxr]; exact ⟨_, rfl⟩, msr, by decide +kernel⟩, car, spc, tkc, mor⟩
  let re : Rc K mg fInit "Read" [114] := ⟨Ce, PySem.W.mg_of X G ge, ⟨pge, hde, poe, sae⟩, ⟨mke, in_e, fnInit, kce⟩, nne, nge, .str xe te, ⟨mae, by rw [mxe]; exact ⟨_, rfl⟩, mse, by decide +kernel⟩, cae, spc, tkc, moe⟩
  let rm : Rc K mg fInit "Made" [109] := ⟨Cm, PySem.W.mg_of X G gm, ⟨pgm, hdm, pom, sam⟩, ⟨mkm, in_m, fnInit, kcm⟩, nnm, ngm, .str xm tm, ⟨mam, by rw [mxm]; exact ⟨_, rfl⟩, msm, by decide +kernel⟩, cam, spc, tkc, mom⟩
  let rf : Rc K mg fInit "Fresh" [102] := ⟨Cf, PySem.W.mg_of X G gf, ⟨pgf, hdf, pof, saf⟩, ⟨mkf, in_f, fnInit, kcf⟩, nnf, ngf, .str xf tf, ⟨maf, by rw [mxf]; exact ⟨_, rfl⟩, msf, by decide +kernel⟩, caf, spc, tkc, mof⟩
  let rb : Rc K mg fInit "Both" [114, 109] := ⟨Cb, PySem.W.mg_of X G gb, ⟨pgb, hdb, pob, sab⟩, ⟨mkb, in_b, fnInit, kcb⟩, nnb, ngb, .str xb tb, ⟨mab, by rw [mxb]; exact ⟨_, rfl⟩, msb, by decide +kernel⟩, cab, spc, tkc, mob⟩
  let rw_ : Rc K mg fInit "Renewed" [114, 102] := ⟨Cw, PySem.W.mg_of X G gw, ⟨pgw, hdw, pow, saw⟩, ⟨mkw, in_w, fnInit, kcw⟩, nnw, ngw, .str xw tw, ⟨maw, by rw [mxw]; exact ⟨_, rfl⟩, msw, by decide +kernel⟩, caw, spc, tkc, mow⟩
  let kc : Kc K mg fKi := ⟨Ckd, PySem.W.mg_of X G gkd, ⟨pgkd, hdkd, pokd, sakd⟩, ⟨mkkd, in_kd, fnKi, kckd⟩, nnkd, nrkd⟩
  let c : Six K mg fInit := ⟨rr, re, rm, rf, rb, rw_⟩
  have FExN := fun_mk (st := s_BadName___init) lIxN cIxN kIxN
  let exN : ErN K mg := ⟨CExN, fIxN, _, ⟨⟨enmxN, eqxN, eAxN, ebsxN, ebmxN, esnxN, esubxN, eabxN, ecolxN, eddxN, eaxN, ebxN, ecxN, edxN, eexN, xExN, bExN⟩, saExN, exExN, tyExN, kExN⟩, inExN, tyIxN, PySem.W.mg_of X G gExN, nnExN, FExN, FExN.binds (ps := ["self", "name"]) fun _ _ _ _ _ _ us hl => match us, hl with | [_, _], _ => rfl, ⟨gaExN, ggExN, exExN, hdExN⟩, ⟨gaExN, ggExN, exExN, hdExN, clExN, spc, tkc, moExN⟩, PySem.W.exm_ref exExN hdExN tyExN sExN⟩
  have FExK := fun_mk (st := s_BadKind___init) lIxK cIxK kIxK
  let exK : ErK K mg := ⟨CExK, fIxK, _, ⟨⟨enmxK, eqxK, eAxK, ebsxK, ebmxK, esnxK, esubxK, eabxK, ecolxK, eddxK, eaxK, ebxK, ecxK, edxK, eexK, xExK, bExK⟩, saExK, exExK, tyExK, kExK⟩, inExK, tyIxK, PySem.W.mg_of X G gExK, nnExK, FExK, FExK.binds (ps := ["self", "name"]) fun _ _ _ _ _ _ us hl => match us, hl with | [_, _], _ => rfl, ⟨gaExK, ggExK, exExK, hdExK⟩, ⟨gaExK, ggExK, exExK, hdExK, clExK, spc, tkc, moExK⟩, PySem.W.exm_ref exExK hdExK tyExK sExK⟩
  have FExR := fun_mk (st := s_NoRole___init) lIxR cIxR kIxR
  let exR : ErR K mg := ⟨CExR, fIxR, _, ⟨⟨enmxR, eqxR, eAxR, ebsxR, ebmxR, esnxR, esubxR, eabxR, ecolxR, eddxR, eaxR, ebxR, ecxR, edxR, eexR, xExR, bExR⟩, saExR, exExR, tyExR, kExR⟩, inExR, tyIxR, PySem.W.mg_of X G gExR, nnExR, FExR, FExR.binds (ps := ["self", "name"]) fun _ _ _ _ _ _ us hl => match us, hl with | [_, _], _ => rfl, ⟨gaExR, ggExR, exExR, hdExR⟩, ⟨gaExR, ggExR, exExR, hdExR, clExR, spc, tkc, moExR⟩, PySem.W.exm_ref exExR hdExR tyExR sExR⟩
  have T : Bt mg := ⟨PySem.W.mg_none_of X G z_len, PySem.W.mg_none_of X G z_sum, PySem.W.mg_none_of X G z_int, PySem.W.mg_none_of X G z_range, PySem.W.mg_none_of X G z_isinstance, PySem.W.mg_none_of X G z_any, PySem.W.mg_none_of X G z_all, PySem.W.mg_none_of X G z_list, PySem.W.mg_none_of X G z_tuple, PySem.W.mg_none_of X G z_sorted, PySem.W.mg_none_of X G z_set, PySem.W.mg_none_of X G z_bool, PySem.W.mg_none_of X G z_ValueError⟩
  have hEn := PySem.W.mg_none_of X G z_enumerate
  have t1 : ∀ m, m < 5 → Tells P w K mg base (c.C m) "reads" (.bl (rdB m)) := by
    intro m hm
    have hm' : m = 0 ∨ m = 1 ∨ m = 2 ∨ m = 3 ∨ m = 4 := by omega
    rcases hm' with rfl | rfl | rfl | rfl | rfl
    · exact ⟨_, _, _, mEr, ⟨at_reads_e, fnEr, kEr⟩, ok_Er mEr⟩
    · exact ⟨_, _, _, mRr, ⟨at_reads_m, fnRr, kRr⟩, ok_Rr mRr⟩
    · exact ⟨_, _, _, mRr, ⟨at_reads_f, fnRr, kRr⟩, ok_Rr mRr⟩
    · exact ⟨_, _, _, mEr, ⟨at_reads_b, fnEr, kEr⟩, ok_Er mEr⟩
    · exact ⟨_, _, _, mEr, ⟨at_reads_w, fnEr, kEr⟩, ok_Er mEr⟩
  have t2 : ∀ m, m < 5 → Tells P w K mg base (c.C m) "makes" (.bl (mkB m)) := by
    intro m hm
    have hm' : m = 0 ∨ m = 1 ∨ m = 2 ∨ m = 3 ∨ m = 4 := by omega
    rcases hm' with rfl | rfl | rfl | rfl | rfl
    · exact ⟨_, _, _, mRm, ⟨at_makes_e, fnRm, kRm⟩, ok_Rm mRm⟩
    · exact ⟨_, _, _, mMm, ⟨at_makes_m, fnMm, kMm⟩, ok_Mm mMm⟩
    · exact ⟨_, _, _, mFm, ⟨at_makes_f, fnFm, kFm⟩, ok_Fm mFm⟩
    · exact ⟨_, _, _, mMm, ⟨at_makes_b, fnMm, kMm⟩, ok_Mm mMm⟩
    · exact ⟨_, _, _, mFm, ⟨at_makes_w, fnFm, kFm⟩, ok_Fm mFm⟩
  have t3 : ∀ m, m < 5 → Tells P w K mg base (c.C m) "derived" (.bl (dvB m)) := by
    intro m hm
    have hm' : m = 0 ∨ m = 1 ∨ m = 2 ∨ m = 3 ∨ m = 4 := by omega
    rcases hm' with rfl | rfl | rfl | rfl | rfl
    · exact ⟨_, _, _, mRd, ⟨at_derived_e, fnRd, kRd⟩, ok_Rd mRd⟩
    · exact ⟨_, _, _, mMd, ⟨at_derived_m, fnMd, kMd⟩, ok_Md mMd⟩
    · exact ⟨_, _, _, mRd, ⟨at_derived_f, fnRd, kRd⟩, ok_Rd mRd⟩
    · exact ⟨_, _, _, mMd, ⟨at_derived_b, fnMd, kMd⟩, ok_Md mMd⟩
    · exact ⟨_, _, _, mRd, ⟨at_derived_w, fnRd, kRd⟩, ok_Rd mRd⟩
  have gL' : mg "LONGEST_NAME" = some (.int 8 tk) := PySem.W.mg_of X G gL
  have gM' : mg "MOST_ROLES" = some (.int 6 tk2) := PySem.W.mg_of X G gM
  have gRE' : mg "RedoError" = some (.ref cRE) := PySem.W.mg_of X G gRE
  have hN : Meth K kc.C "role_named" mKn.f := ⟨at_named, fnKn, kKn⟩
  have hP : Meth K kc.C "pairs" mKp.f := ⟨at_pairs, fnKp, kKp⟩
  have GP : FnOk P w K mg base CX0 1 dP.f dP.fd _ (spPool K) := ok_pool dP.F T
  have GD : FnOk P w K mg base CX0 1 dD.f dD.fd _ spDraw := ok_draw dD.F T
  have GN : FnOk P w K mg base CX0 2 dN.f dN.fd _ spNames := ok_names dN.F T dD dW
  have GB : FnOk P w K mg base CX0 2 dB.f dB.fd _ spBad := ok_bad dB.F T dD
  have GRo : FnOk P w K mg base (L2.CX P w) 6 dRo.f dRo.fd _ (spRole exN.C c.C 5) := ok_role dRo mInit c T dR exN gL'
  have GI : FnOk P w K mg base CX0 6 dI.f dI.fd _ (spIs kc.C c.C) := ok_is dI T c kc mKn hN mKp hP dMa dUn dPa dLr dLd exR t1 t3 gRE' qExR
  have GDu : FnOk P w K mg base CX0 1 dDu.f dDu.fd _ spDue := ok_due dDu T
  have GRef : FnOk P w K mg base CX0 6 dRef.f dRef.fd _ (spRefusal c.C) := ok_refusal dRef mKi kc T hEn dR dFr c exN exK gL' gM' t2 gRE' qExN qExK (PySem.W.exm_ref exExN hdExN tyExN subNK)
  have GK : FnOk P w K mg base (L2.CX P w) 4 mKi.f mKi.fd _ (spKInit K c.C exN.C exK.C) := ok_kinit mKi T hEn dR dFr c exN exK gL' gM' t2
  have GPa : FnOk P w K mg base CX0 2 mKp.f mKp.fd _ (spPairs kc.C c.C) := ok_pairs mKp T c kc t1 t3
  exact ok_law (fun_mk (st := s_law) lLaw cLaw kLaw) T dP dD dN dRo dI dB dDu dRef mKi kc mKp hP c GP GD GN GRo GI GB GDu GRef GK GPa
theorem walk {l : PySem.W.OpenLaw} {q : Program} {loose : List Str} {XP : (Str → Option Value) → Heap → Prop} {YP : World → Heap → Prop} {d : DefRec} {K : Params → PySem.W.Frag} (hn : l.most = some 63) (hdf : d.params.defaults = []) (hY : ∀ (w : World) (h : Heap), YP w h → (K w.params).In h)
    (F : ∀ (w : World) (mg : Str → Option Value) (fa : Addr) (h : Heap), (K w.params).In h → h.Ns mainGlobals mg → mg d.name = some (.ref fa) → ∃ fd : FuncData, (∀ (s : Shared) (u : Value), BindsTo s fd ⟨[u], []⟩ [("_law_script", u)]) ∧ ∀ base : Heap, (K w.params).In base → base.Ns mainGlobals mg → FnOk l.prog w (K w.params) mg base CX0 9 fa fd ["_law_script"] (spLaw (K w.params))) :
    PySem.W.WalkO q loose XP YP l.row.toRowW d [] (fun f vs => PySem.call f vs) :=
  L2.walk_of (n := 63) (k := 9) (x := "_law_script") (CX := fun _ => CX0) (sp := fun w => spLaw (K w.params)) hn (by decide) hdf ⟨rfl, by decide, by decide⟩ hY F (fun _ _ a ns hl _ hS => ⟨a, ns, rfl, hS, hl, fun _ => rfl⟩) fun _ _ _ _ _ z => z

end
end Toy
open PySem PySem.W PyProof.Rows in
set_option maxRecDepth 100000 in
set_option maxHeartbeats 0 in
theorem PySem.Challenge.cw_redopages_k02_kinds_and_their_pairs_holds : PySem.Challenge.rw_redopages_k02_kinds_and_their_pairs.Holds := by
  w_on; o_law; k_head; (case hw => w_witness2)
  k_fill
  refine Toy.walk (l := PySem.Challenge.rw_redopages_k02_kinds_and_their_pairs) rfl rfl (fun w h Y => PySem.W.kIn_of Y) ?F
  case F =>
    intro w mg fa h KX G hmg
    refine' Toy.all_mk KX G hmg ?aP ?lP ?cP ?kP ?aD ?lD ?cD ?kD ?aW ?lW ?cW ?kW ?aN ?lN ?cN ?kN ?aB ?lB ?cB ?kB ?aR ?lR ?cR ?kR ?aFr ?lFr ?cFr ?kFr ?aRo ?lRo ?cRo ?kRo ?aLr ?lLr ?cLr ?kLr ?aLd ?lLd ?cLd ?kLd ?aRef ?lRef ?cRef ?kRef ?aUn ?lUn ?cUn ?kUn ?aMa ?lMa ?cMa ?kMa ?aDu ?lDu ?cDu ?kDu ?aPa ?lPa ?cPa ?kPa ?aI ?lI ?cI ?kI ?gr ?ge ?gm ?gf ?gb ?gw ?gkd ?at_reads_r ?at_makes_r ?at_derived_r ?in_r ?at_reads_e ?at_makes_e ?at_derived_e ?in_e ?at_reads_m ?at_makes_m ?at_derived_m ?in_m ?at_reads_f ?at_makes_f ?at_derived_f ?in_f ?at_reads_b ?at_makes_b ?at_derived_b ?in_b ?at_reads_w ?at_makes_w ?at_derived_w ?in_w ?in_kd ?at_named ?at_pairs ?lInit ?cInit ?kInit ?fnInit ?lRr ?cRr ?kRr ?fnRr ?lRm ?cRm ?kRm ?fnRm ?lRd ?cRd ?kRd ?fnRd ?lEr ?cEr ?kEr ?fnEr ?lFm ?cFm ?kFm ?fnFm ?lMm ?cMm ?kMm ?fnMm ?lMd ?cMd ?kMd ?fnMd ?lKi ?cKi ?kKi ?fnKi ?lKn ?cKn ?kKn ?fnKn ?lKp ?cKp ?kKp ?fnKp ?spc ?tkc ?pgr ?hdr ?por ?sar ?mkr ?kcr ?nnr ?ngr ?mar ?mxr ?msr ?car ?mor ?pge ?hde ?poe ?sae ?mke ?kce ?nne ?nge ?mae ?mxe ?mse ?cae ?moe ?pgm ?hdm ?pom ?sam ?mkm ?kcm ?nnm ?ngm ?mam ?mxm ?msm ?cam ?mom ?pgf ?hdf ?pof ?saf ?mkf ?kcf ?nnf ?ngf ?maf ?mxf ?msf ?caf ?mof ?pgb ?hdb ?pob ?sab ?mkb ?kcb ?nnb ?ngb ?mab ?mxb ?msb ?cab ?mob ?pgw ?hdw ?pow ?saw ?mkw ?kcw ?nnw ?ngw ?maw ?mxw ?msw ?caw ?mow ?pgkd ?hdkd ?pokd ?sakd ?mkkd ?kckd ?nnkd ?nrkd ?gRE ?gExN ?xExN ?bExN ?saExN ?gaExN ?ggExN ?nnExN ?inExN ?tyIxN ?lIxN ?cIxN ?kIxN ?kExN ?exExN ?tyExN ?hdExN ?sExN ?clExN ?moExN ?qExN ?gExK ?xExK ?bExK ?saExK ?gaExK ?ggExK ?nnExK ?inExK ?tyIxK ?lIxK ?cIxK ?kIxK ?kExK ?exExK ?tyExK ?hdExK ?sExK ?clExK ?moExK ?qExK ?gExR ?xExR ?bExR ?saExR ?gaExR ?ggExR ?nnExR ?inExR ?tyIxR ?lIxR ?cIxR ?kIxR ?kExR ?exExR ?tyExR ?hdExR ?sExR ?clExR ?moExR ?qExR ?subNK ?gL ?gM ?z_len ?z_sum ?z_int ?z_range ?z_isinstance ?z_any ?z_all ?z_list ?z_tuple ?z_sorted ?z_set ?z_bool ?z_ValueError ?z_enumerate ?aLaw ?lLaw ?cLaw ?kLaw
    (case aP => k_is)
    (case lP => k_is)
    (case cP => k_is)
    (case kP => k_is)
    (case aD => k_is)
    (case lD => k_is)
    (case cD => k_is)
    (case kD => k_is)
    (case aW => k_is)
    (case lW => k_is)
    (case cW => k_is)
    (case kW => k_is)
    (case aN => k_is)
    (case lN => k_is)
    (case cN => k_is)
    (case kN => k_is)
    (case aB => k_is)
    (case lB => k_is)
    (case cB => k_is)
    (case kB => k_is)
    (case aR => k_is)
    (case lR => k_is)
    (case cR => k_is)
    (case kR => k_is)
    (case aFr => k_is)
    (case lFr => k_is)
    (case cFr => k_is)
    (case kFr => k_is)
    (case aRo => k_is)
    (case lRo => k_is)
    (case cRo => k_is)
    (case kRo => k_is)
    (case aLr => k_is)
    (case lLr => k_is)
    (case cLr => k_is)
    (case kLr => k_is)
    (case aLd => k_is)
    (case lLd => k_is)
    (case cLd => k_is)
    (case kLd => k_is)
    (case aRef => k_is)
    (case lRef => k_is)
    (case cRef => k_is)
    (case kRef => k_is)
    (case aUn => k_is)
    (case lUn => k_is)
    (case cUn => k_is)
    (case kUn => k_is)
    (case aMa => k_is)
    (case lMa => k_is)
    (case cMa => k_is)
    (case kMa => k_is)
    (case aDu => k_is)
    (case lDu => k_is)
    (case cDu => k_is)
    (case kDu => k_is)
    (case aPa => k_is)
    (case lPa => k_is)
    (case cPa => k_is)
    (case kPa => k_is)
    (case aI => k_is)
    (case lI => k_is)
    (case cI => k_is)
    (case kI => k_is)
    (case gr => k_is)
    (case ge => k_is)
    (case gm => k_is)
    (case gf => k_is)
    (case gb => k_is)
    (case gw => k_is)
    (case gkd => k_is)
    (case at_reads_r => k_is)
    (case at_makes_r => k_is)
    (case at_derived_r => k_is)
    (case in_r => k_is)
    (case at_reads_e => k_is)
    (case at_makes_e => k_is)
    (case at_derived_e => k_is)
    (case in_e => k_is)
    (case at_reads_m => k_is)
    (case at_makes_m => k_is)
    (case at_derived_m => k_is)
    (case in_m => k_is)
    (case at_reads_f => k_is)
    (case at_makes_f => k_is)
    (case at_derived_f => k_is)
    (case in_f => k_is)
    (case at_reads_b => k_is)
    (case at_makes_b => k_is)
    (case at_derived_b => k_is)
    (case in_b => k_is)
    (case at_reads_w => k_is)
    (case at_makes_w => k_is)
    (case at_derived_w => k_is)
    (case in_w => k_is)
    (case in_kd => k_is)
    (case at_named => k_is)
    (case at_pairs => k_is)
    (case lInit => k_is)
    (case cInit => k_is)
    (case kInit => k_is)
    (case fnInit => k_is)
    (case lRr => k_is)
    (case cRr => k_is)
    (case kRr => k_is)
    (case fnRr => k_is)
    (case lRm => k_is)
    (case cRm => k_is)
    (case kRm => k_is)
    (case fnRm => k_is)
    (case lRd => k_is)
    (case cRd => k_is)
    (case kRd => k_is)
    (case fnRd => k_is)
    (case lEr => k_is)
    (case cEr => k_is)
    (case kEr => k_is)
    (case fnEr => k_is)
    (case lFm => k_is)
    (case cFm => k_is)
    (case kFm => k_is)
    (case fnFm => k_is)
    (case lMm => k_is)
    (case cMm => k_is)
    (case kMm => k_is)
    (case fnMm => k_is)
    (case lMd => k_is)
    (case cMd => k_is)
    (case kMd => k_is)
    (case fnMd => k_is)
    (case lKi => k_is)
    (case cKi => k_is)
    (case kKi => k_is)
    (case fnKi => k_is)
    (case lKn => k_is)
    (case cKn => k_is)
    (case kKn => k_is)
    (case fnKn => k_is)
    (case lKp => k_is)
    (case cKp => k_is)
    (case kKp => k_is)
    (case fnKp => k_is)
    (case spc => k_is)
    (case tkc => k_is)
    (case pgr => k_is)
    (case hdr => k_is)
    (case por => k_is)
    (case sar => k_is)
    (case mkr => k_is)
    (case kcr => k_is)
    (case nnr => k_is)
    (case ngr => k_is)
    (case mar => k_is)
    (case mxr => decide +kernel)
    (case msr => k_is)
    (case car => k_is)
    (case mor => k_is)
    (case pge => k_is)
    (case hde => k_is)
    (case poe => k_is)
    (case sae => k_is)
    (case mke => k_is)
    (case kce => k_is)
    (case nne => k_is)
    (case nge => k_is)
    (case mae => k_is)
    (case mxe => decide +kernel)
    (case mse => k_is)
    (case cae => k_is)
    (case moe => k_is)
    (case pgm => k_is)
    (case hdm => k_is)
    (case pom => k_is)
    (case sam => k_is)
    (case mkm => k_is)
    (case kcm => k_is)
    (case nnm => k_is)
    (case ngm => k_is)
    (case mam => k_is)
    (case mxm => decide +kernel)
    (case msm => k_is)
    (case cam => k_is)
    (case mom => k_is)
    (case pgf => k_is)
    (case hdf => k_is)
    (case pof => k_is)
    (case saf => k_is)
    (case mkf => k_is)
    (case kcf => k_is)
    (case nnf => k_is)
    (case ngf => k_is)
    (case maf => k_is)
    (case mxf => decide +kernel)
    (case msf => k_is)
    (case caf => k_is)
    (case mof => k_is)
    (case pgb => k_is)
    (case hdb => k_is)
    (case pob => k_is)
    (case sab => k_is)
    (case mkb => k_is)
    (case kcb => k_is)
    (case nnb => k_is)
    (case ngb => k_is)
    (case mab => k_is)
    (case mxb => decide +kernel)
    (case msb => k_is)
    (case cab => k_is)
    (case mob => k_is)
    (case pgw => k_is)
    (case hdw => k_is)
    (case pow => k_is)
    (case saw => k_is)
    (case mkw => k_is)
    (case kcw => k_is)
    (case nnw => k_is)
    (case ngw => k_is)
    (case maw => k_is)
    (case mxw => decide +kernel)
    (case msw => k_is)
    (case caw => k_is)
    (case mow => k_is)
    (case pgkd => k_is)
    (case hdkd => k_is)
    (case pokd => k_is)
    (case sakd => k_is)
    (case mkkd => k_is)
    (case kckd => k_is)
    (case nnkd => k_is)
    (case nrkd => k_is)
    (case gRE => k_is)
    (case gExN => k_is)
    (case xExN => k_is)
    (case bExN => decide +kernel)
    (case saExN => k_is)
    (case gaExN => k_is)
    (case ggExN => k_is)
    (case nnExN => k_is)
    (case inExN => k_is)
    (case tyIxN => k_is)
    (case lIxN => k_is)
    (case cIxN => k_is)
    (case kIxN => k_is)
    (case kExN => k_is)
    (case exExN => k_is)
    (case tyExN => k_is)
    (case hdExN => k_is)
    (case sExN => first | rfl | k_is)
    (case clExN => k_is)
    (case moExN => k_is)
    (case qExN => kit_is)
    (case gExK => k_is)
    (case xExK => k_is)
    (case bExK => decide +kernel)
    (case saExK => k_is)
    (case gaExK => k_is)
    (case ggExK => k_is)
    (case nnExK => k_is)
    (case inExK => k_is)
    (case tyIxK => k_is)
    (case lIxK => k_is)
    (case cIxK => k_is)
    (case kIxK => k_is)
    (case kExK => k_is)
    (case exExK => k_is)
    (case tyExK => k_is)
    (case hdExK => k_is)
    (case sExK => first | rfl | k_is)
    (case clExK => k_is)
    (case moExK => k_is)
    (case qExK => kit_is)
    (case gExR => k_is)
    (case xExR => k_is)
    (case bExR => decide +kernel)
    (case saExR => k_is)
    (case gaExR => k_is)
    (case ggExR => k_is)
    (case nnExR => k_is)
    (case inExR => k_is)
    (case tyIxR => k_is)
    (case lIxR => k_is)
    (case cIxR => k_is)
    (case kIxR => k_is)
    (case kExR => k_is)
    (case exExR => k_is)
    (case tyExR => k_is)
    (case hdExR => k_is)
    (case sExR => first | rfl | k_is)
    (case clExR => k_is)
    (case moExR => k_is)
    (case qExR => kit_is)
    (case subNK => k_is)
    (case gL => k_is)
    (case gM => k_is)
    (case z_len => k_is)
    (case z_sum => k_is)
    (case z_int => k_is)
    (case z_range => k_is)
    (case z_isinstance => k_is)
    (case z_any => k_is)
    (case z_all => k_is)
    (case z_list => k_is)
    (case z_tuple => k_is)
    (case z_sorted => k_is)
    (case z_set => k_is)
    (case z_bool => k_is)
    (case z_ValueError => k_is)
    (case z_enumerate => k_is)
    (case aLaw => k_is)
    (case lLaw => k_is)
    (case cLaw => k_is)
    (case kLaw => k_is)
